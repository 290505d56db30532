/-
  The one form of an amplitude.
-/
import Derived.Test.YtjmgcgjmaemgdaaB4
namespace Go.Proofs.Ytjmgcgjmaemgdaa
open Go.RowKit Go.Sort

def oneF : Nat → Q4 → Q4 × Nat
  | 0, x => (x, 0)
  | k + 1, x => if x.can then oneF k x.half else (x, k + 1)
def okF : Nat → Q4 → Bool
  | 0, x => x.smB
  | k + 1, x => x.smB && (if x.can then x.half.smB && okF k x.half else true)
/-- oneForm's memory. -/
structure OF (w W : World) (k : Nat) (x : Q4) (j : Nat) (y : Q4) : Prop where
  le : j ≤ k
  ok : okF j y = true
  eq : oneF j y = oneF k x
  below : Below w.heap.size w W
  t2 : Bx W w.heap.size [cx y.a y.b, cx y.c y.d]
  t4 : Bx W (w.heap.size + 1) [.complex .f64 0 0, .complex .f64 0 0, .int .i64 0]
theorem Bx.set2 {W : World} {B : Nat} {u v : Value} (h : Bx W B [u, v]) (u' v' : Value) : Bx ((W.setCell ⟨B, 0, none⟩ u').setCell ⟨B, 1, none⟩ v') B [u', v'] where
  c := fun j x hj => by
    have h0 : (W.cell? ⟨B, 0, none⟩).isSome := by rw [h.c 0 _ rfl]; rfl
    have h1 : ((W.setCell ⟨B, 0, none⟩ u').cell? ⟨B, 1, none⟩).isSome := by rw [World.cell?_setCell_other _ _ _ _ (fun e => by injection e with _ e2; cases e2), h.c 1 _ rfl]; rfl
    match j, hj with
    | 0, hj =>
      simp at hj; subst hj
      rw [World.cell?_setCell_other _ _ _ _ (fun e => by injection e with _ e2; cases e2)]
      exact World.cell?_setCell_same' _ _ _ h0
    | 1, hj => simp at hj; subst hj; exact World.cell?_setCell_same' _ _ _ h1
    | j + 2, hj => simp at hj
  f := fun j x hj => by
    match j, hj with
    | 0, _ => simp; exact h.f 0 _ rfl
    | 1, _ => simp; exact h.f 1 _ rfl
    | j + 2, hj => simp at hj
  lt := by simpa using h.lt
theorem Bx.off {W : World} {B : Nat} {vs : List Value} (h : Bx W B vs) {R o : Nat} {v : Value} (hR : R ≠ B) : Bx (W.setCell ⟨R, o, none⟩ v) B vs :=
  ⟨fun j u hj => (World.cell?_setCell_far _ _ _ _ hR).trans (h.c j u hj), fun j u hj => by simpa using h.f j u hj, by simpa using h.lt⟩
set_option maxRecDepth 100000 in
set_option maxHeartbeats 2000000 in
theorem oneform_any (k : Nat) (hk : k ≤ 60) (x : Q4) (h : okF k x = true) (w : World) :
    Calls Try.prog 64 #[x.v, .int .i64 (k : Int)] w fun e w' => e = .returned (.tuple #[av (oneF k x).1.a (oneF k x).1.b (oneF k x).1.c (oneF k x).1.d ((oneF k x).2 : Nat), .int .i64 0]) ∧ Below w.heap.size w w' := by
  have hI : Hid (OF w ((w.alloc (.cells #[cx x.a x.b, cx x.c x.d] 44)).alloc (.cells #[.complex .f64 0 0, .complex .f64 0 0, .int .i64 0] 46)) k x k x) := by
    refine ⟨Nat.le_refl _, h, rfl, bal (bal (Below.refl _ _) _) _, (Bx.new w [cx x.a x.b, cx x.c x.d] 44).alloc _, ?_⟩
    have := Bx.new (w.alloc (.cells #[cx x.a x.b, cx x.c x.d] 44)) [.complex .f64 0 0, .complex .f64 0 0, .int .i64 0] 46
    simpa [go_sem] using this
  clear h
  obtain ⟨R, hR⟩ : ∃ R, Hid (R = oneF k x) := ⟨_, rfl⟩
  rw [← hR.out]
  go_enter Try.func64, Try.ntmps64
  go_upto_region 1 with (fail)
  go_loopw [1] (fun v wr => ∃ (j : Nat) (y : Q4), v = .int .i64 j ∧ Hid (OF w wr k x j y)) (fun v _ => (intOf v).toNat)
  case atStart => exact ⟨k, x, rfl, hI⟩
  case round =>
    clear hI
    obtain ⟨j, y, rfl, hH⟩ := hrel
    have hle := hH.out.le
    have t0 := hH.out.t2.c 0 _ rfl
    have t1 := hH.out.t2.c 1 _ rfl
    have g0 := hH.out.t2.f 0 _ rfl
    have g1 := hH.out.t2.f 1 _ rfl
    have u0 := hH.out.t4.c 0 _ rfl
    have u1 := hH.out.t4.c 1 _ rfl
    have u2 := hH.out.t4.c 2 _ rfl
    have v0 := hH.out.t4.f 0 _ rfl
    have v1 := hH.out.t4.f 1 _ rfl
    have v2 := hH.out.t4.f 2 _ rfl
    match j, hH, hle with
    | 0, hH, _ =>
      have hr : Hid (R = (y, 0)) := by show _ = _; rw [hR.out, ← hH.out.eq]; rfl
      rw [show ((0 : Nat) : Int) = 0 from rfl]
      go_wp2
      refine bodyPost_ret (v := .tuple #[av y.a y.b y.c y.d 0, .int .i64 0]) (by simp [results, Try.results64, go_sem, u0, u1, u2]) rfl ⟨by rw [hr.out]; rfl, ?_⟩
      repeat (first | exact hH.out.below | refine bset ?_ _ _ _ (by omega))
    | j + 1, hH, hle =>
      have ok := hH.out.ok
      unfold okF at ok
      simp only [Bool.and_eq_true] at ok
      have hs := Q4.sm_of ok.1
      by_cases hc : y.can = true
      · have ok2 := ok.2
        rw [if_pos hc, Bool.and_eq_true] at ok2
        have HV := fun w => halve_yes y w hs (Q4.sm_of ok2.1) hc
        have hn : Hid (oneF j y.half = oneF k x ∧ okF j y.half = true) := ⟨by rw [← hH.out.eq, oneF, if_pos hc], ok2.2⟩
        clear ok ok2 hs hc
        generalize y.half = z at *
        have hj : ¬ ((j + 1 : Nat) : Int) ≤ 0 := by omega
        go_wp2_with (go_at_call 68; (with_reducible refine (HV _).mono ?_); rintro e w2 ⟨rfl, hN2⟩; have q0 := fun o => ((hH.out.t2.below hN2).alloc o).c 0 _ rfl; have q1 := fun o => ((hH.out.t2.below hN2).alloc o).c 1 _ rfl; have q2 := fun o => ((hH.out.t2.below hN2).alloc o).f 0 _ rfl; have q3 := fun o => ((hH.out.t2.below hN2).alloc o).f 1 _ rfl)
        go_roundw
        case rel => exact ⟨j, z, by go_num, by omega, hn.out.2, hn.out.1, bset (bset (bal (btr hH.out.below hN2) _) _ _ _ (Nat.le_refl _)) _ _ _ (Nat.le_refl _), ((hH.out.t2.below hN2).alloc _).set2 _ _, (((hH.out.t4.below hN2).alloc _).off (by omega)).off (by omega)⟩
        case measure => simp [intOf]
      · have hc' : y.can = false := by simpa using hc
        have HV := fun w => halve_no y.a y.b y.c y.d w hs.a hs.b hs.c hs.d (can_no hc')
        have hr : Hid (R = (y, j + 1)) := by show _ = _; rw [hR.out, ← hH.out.eq, oneF, if_neg hc]
        have hj : ¬ ((j + 1 : Nat) : Int) ≤ 0 := by omega
        have hj2 : ¬ (60 : Int) < ((j + 1 : Nat) : Int) := by omega
        clear ok hs hc hc'
        go_wp2_with (go_at_call 68; (with_reducible refine (HV _).mono ?_); rintro e w2 ⟨rfl, hN2⟩; have q0 := fun o => ((hH.out.t2.below hN2).alloc o).c 0 _ rfl; have q1 := fun o => ((hH.out.t2.below hN2).alloc o).c 1 _ rfl; have x0 := fun o => ((hH.out.t4.below hN2).alloc o).c 0 _ rfl; have x1 := fun o => ((hH.out.t4.below hN2).alloc o).c 1 _ rfl; have x2 := fun o => ((hH.out.t4.below hN2).alloc o).c 2 _ rfl; have y0 := fun o => ((hH.out.t4.below hN2).alloc o).f 0 _ rfl; have y1 := fun o => ((hH.out.t4.below hN2).alloc o).f 1 _ rfl; have y2 := fun o => ((hH.out.t4.below hN2).alloc o).f 2 _ rfl)
        refine bodyPost_ret (v := .tuple #[av y.a y.b y.c y.d ((j + 1 : Nat) : Int), .int .i64 0]) (by simp [results, Try.results64, go_sem, x0, x1, x2]) rfl ⟨by rw [hr.out], ?_⟩
        repeat (first | exact bal (btr hH.out.below hN2) _ | refine bset ?_ _ _ _ (by omega))
set_option maxHeartbeats 400000 in
theorem gsub_zero (w : World) : Calls Try.prog 90 #[cx 0 0, cx 0 0] w fun e w' => e = .returned (.tuple #[cx 0 0, .int .i64 0]) ∧ Below w.heap.size w w' := by
  have C := fun w => gboth 0 0 0 0 w sm0 sm0 sm0 sm0
  have S : ∀ w, (binOp .sub 42 (cx 0 0) (cx 0 0)).run Try.prog w = .ok (cx 0 0) w := fun w => run_complex_sum w .sub (.inr rfl) 42 .f64 _ _ _ _ _ _ (by decide +kernel)
  have WI := fun w0 : World => within_zb w0.heap.size 2 2 (fun _ => fb 0) (fun _ => 0) (w0.alloc (.cells #[.float .f64 (fb 0), .float .f64 (fb 0)] 114)) (by omega) (fun j hj => by
    have : j = 0 ∨ j = 1 := by omega
    rcases this with rfl | rfl
    · exact ⟨(Bx.new w0 [.float .f64 (fb 0), .float .f64 (fb 0)] 114).c 0 _ rfl, .inl ⟨sm0, rfl⟩⟩
    · exact ⟨(Bx.new w0 [.float .f64 (fb 0), .float .f64 (fb 0)] 114).c 1 _ rfl, .inl ⟨sm0, rfl⟩⟩)
  go_enter Try.func90, Try.ntmps90
  go_wp2_with (first
    | (go_at_call 88; (with_reducible refine (C _).mono ?_); rintro e w1 ⟨rfl, hN1⟩)
    | (go_at_call 89; (with_reducible refine (WI _).mono ?_); rintro e w2 ⟨rfl, rfl⟩))
  go_ret2
  exact ⟨rfl, bal hN1 _⟩
set_option maxRecDepth 100000 in
set_option maxHeartbeats 1000000 in
theorem double_zero (w : World) : Calls Try.prog 79 #[rg 0 0 0 0] w fun e w' => e = .returned (.tuple #[rg 0 0 0 0, .int .i64 0]) ∧ Below w.heap.size w w' := by
  have C := fun w => rcheck 0 0 0 0 w sm0 sm0 sm0 sm0
  have T := fun w => gturn 0 0 1 1 w sm0 sm0 (by decide) (by decide)
  simp only [re4, im4, Int.neg_zero] at T
  have A := fun w => gadd 0 0 0 0 w sm0 sm0 sm0 sm0 sm0 sm0
  simp only [Int.add_zero] at A
  have S := fun w => gsub_zero w
  have EL := fun w0 : World => element_any (fb 0) (fb 0) (fb 0) (fb 0) w0.heap.size 4 4 (w0.alloc (.cells #[.int .i64 0, .int .i64 0, .int .i64 0, .int .i64 0] 25)) (by decide) (by simp [go_sem]) (fun j hj => (Bx.new w0 [.int .i64 0, .int .i64 0, .int .i64 0, .int .i64 0] 25).c j (.int .i64 0) (by
    have : j = 0 ∨ j = 1 ∨ j = 2 ∨ j = 3 := by omega
    rcases this with rfl | rfl | rfl | rfl <;> rfl))
  have hW : Below w.heap.size w ((w.alloc (.cells #[cx 0 0, cx 0 0] 44)).alloc (.cells #[.complex .f64 0 0, .complex .f64 0 0] 44)) := bal (bal (Below.refl _ _) _) _
  have hR : Bx ((w.alloc (.cells #[cx 0 0, cx 0 0] 44)).alloc (.cells #[.complex .f64 0 0, .complex .f64 0 0] 44)) w.heap.size [cx 0 0, cx 0 0] := (Bx.new w [cx 0 0, cx 0 0] 44).alloc _
  have hX : Bx ((w.alloc (.cells #[cx 0 0, cx 0 0] 44)).alloc (.cells #[.complex .f64 0 0, .complex .f64 0 0] 44)) (w.heap.size + 1) [.complex .f64 0 0, .complex .f64 0 0] := by
    have := Bx.new (w.alloc (.cells #[cx 0 0, cx 0 0] 44)) [.complex .f64 0 0, .complex .f64 0 0] 44
    simpa [go_sem] using this
  go_enter Try.func79, Try.ntmps79
  go_wp2_with (first
    | (go_at_call 67; (with_reducible refine (C _).mono ?_); rintro e w1 ⟨rfl, hN⟩; replace hW := btr hW hN; replace hR := hR.below hN; replace hX := hX.below hN; have r0 := hR.c 0 _ rfl; have r1 := hR.c 1 _ rfl)
    | (go_at_call 70; (with_reducible refine (T _).mono ?_); rintro e w1 ⟨rfl, hN⟩; replace hW := btr hW hN; replace hR := hR.below hN; replace hX := hX.below hN; have r0 := hR.c 0 _ rfl; have r1 := hR.c 1 _ rfl)
    | (go_at_call 78; (with_reducible refine (A _).mono ?_); rintro e w1 ⟨rfl, hN⟩; replace hW := btr hW hN; replace hR := hR.below hN; replace hX := hX.below hN; have r0 := hR.c 0 _ rfl; have r1 := hR.c 1 _ rfl)
    | (go_at_call 90; (with_reducible refine (S _).mono ?_); rintro e w1 ⟨rfl, hN⟩; replace hW := btr hW hN; replace hR := hR.below hN; replace hX := hX.below hN; have r0 := hR.c 0 _ rfl; have r1 := hR.c 1 _ rfl)
    | (go_at_call 71; (with_reducible refine (EL _).mono ?_); rintro e w9 ⟨rfl, hN⟩; replace hW := btr (bal hW _) hN; replace hX := (hX.alloc _).below hN; have c0 := hX.c 0 _ rfl; have c1 := hX.c 1 _ rfl; have f0 := hX.f 0 _ rfl; have f1 := hX.f 1 _ rfl))
  refine bodyPost_ret (v := .tuple #[rg 0 0 0 0, .int .i64 0]) (by simp [results, Try.results79, go_sem, c0, c1]) rfl ⟨rfl, ?_⟩
  repeat (first | exact hW | refine bset ?_ _ _ _ (by omega))
end Go.Proofs.Ytjmgcgjmaemgdaa
