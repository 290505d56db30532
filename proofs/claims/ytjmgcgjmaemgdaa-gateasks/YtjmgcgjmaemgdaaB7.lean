/-
  Amplitudes added and conjugated.
-/
import Derived.Test.YtjmgcgjmaemgdaaB6
namespace Go.Proofs.Ytjmgcgjmaemgdaa
open Go.RowKit Go.Sort

def Q4.zero : Q4 := ⟨0, 0, 0, 0⟩
def Q4.isZ (x : Q4) : Bool := decide (x.a = 0) && decide (x.b = 0) && decide (x.c = 0) && decide (x.d = 0)
theorem Q4.isZ_eq {x : Q4} (h : x.isZ = true) : x = ⟨0, 0, 0, 0⟩ := by
  unfold Q4.isZ at h
  simp only [Bool.and_eq_true, decide_eq_true_eq] at h
  obtain ⟨a, b, c, d⟩ := x
  simp only at h
  obtain ⟨⟨⟨rfl, rfl⟩, rfl⟩, rfl⟩ := h
  rfl
set_option maxHeartbeats 1000000 in
theorem doubled_same (x : Q4) (w : World) : Calls Try.prog 65 #[x.v, .int .i64 0] w fun e w' => e = .returned (.tuple #[x.v, .int .i64 0]) ∧ Below w.heap.size w w' := by
  go_enter Try.func65, Try.ntmps65
  go_wp2
  refine wp_loop_rounds 1 ?_
  rw [rounds_succ]
  go_wp2
  refine bodyPost_ret (v := .tuple #[x.v, .int .i64 0]) (by simp [results, Try.results65, go_sem]) rfl ⟨rfl, ?_⟩
  exact bal (bal (Below.refl _ _) _) _
set_option maxHeartbeats 1000000 in
theorem doubled_zero (n : Nat) (hn : n ≤ 60) (w : World) : Calls Try.prog 65 #[rg 0 0 0 0, .int .i64 (n : Int)] w fun e w' => e = .returned (.tuple #[rg 0 0 0 0, .int .i64 0]) ∧ Below w.heap.size w w' := by
  have D := fun w => double_zero w
  have hI : Hid (Below w.heap.size w ((w.alloc (.cells #[cx 0 0, cx 0 0] 44)).alloc (.cells #[.complex .f64 0 0, .complex .f64 0 0] 44)) ∧ Bx ((w.alloc (.cells #[cx 0 0, cx 0 0] 44)).alloc (.cells #[.complex .f64 0 0, .complex .f64 0 0] 44)) w.heap.size [cx 0 0, cx 0 0] ∧ Bx ((w.alloc (.cells #[cx 0 0, cx 0 0] 44)).alloc (.cells #[.complex .f64 0 0, .complex .f64 0 0] 44)) (w.heap.size + 1) [.complex .f64 0 0, .complex .f64 0 0]) := by
    refine ⟨bal (bal (Below.refl _ _) _) _, (Bx.new w [cx 0 0, cx 0 0] 44).alloc _, ?_⟩
    have := Bx.new (w.alloc (.cells #[cx 0 0, cx 0 0] 44)) [.complex .f64 0 0, .complex .f64 0 0] 44
    simpa [go_sem] using this
  go_enter Try.func65, Try.ntmps65
  go_upto_region 2 with (fail)
  go_loopw [8] (fun v wr => ∃ k : Nat, k ≤ n ∧ v = .int .i64 k ∧ Hid (Below w.heap.size w wr ∧ Bx wr w.heap.size [cx 0 0, cx 0 0] ∧ Bx wr (w.heap.size + 1) [.complex .f64 0 0, .complex .f64 0 0])) (fun v _ => n - (intOf v).toNat)
  case atStart => exact ⟨0, by omega, rfl, hI⟩
  case round =>
    clear hI
    obtain ⟨k, hk, rfl, hH⟩ := hrel
    obtain ⟨hW, hR, hX⟩ := hH.out
    have r0 := hR.c 0 _ rfl
    have r1 := hR.c 1 _ rfl
    have c0 := hX.c 0 _ rfl
    have c1 := hX.c 1 _ rfl
    have f0 := hX.f 0 _ rfl
    have f1 := hX.f 1 _ rfl
    by_cases hlt : k < n
    · go_wp2_with (go_at_call 79; (with_reducible refine (D _).mono ?_); rintro e w2 ⟨rfl, hN⟩; have q0 := (hR.below hN).c 0 _ rfl; have q1 := (hR.below hN).c 1 _ rfl; have q2 := (hR.below hN).f 0 _ rfl; have q3 := (hR.below hN).f 1 _ rfl)
      go_roundw
      case rel => exact ⟨k + 1, by omega, by go_num, bset (bset (btr hW hN) _ _ _ (Nat.le_refl _)) _ _ _ (Nat.le_refl _), (hR.below hN).set2 _ _, ((hX.below hN).off (by omega)).off (by omega)⟩
      case measure => simp [intOf]; omega
    · go_wp2
      refine bodyPost_ret (v := .tuple #[rg 0 0 0 0, .int .i64 0]) (by simp [results, Try.results65, go_sem, c0, c1]) rfl ⟨rfl, ?_⟩
      repeat (first | exact hW | refine bset ?_ _ _ _ (by omega))
def addS (x y : A5) : A5 := ⟨(oneF (max x.k y.k) (x.q.add y.q)).1, (oneF (max x.k y.k) (x.q.add y.q)).2⟩
def okA (x y : A5) : Bool := x.chk && y.chk && decide (max x.k y.k ≤ 60) && (decide (x.k = max x.k y.k) || x.q.isZ) && (decide (y.k = max x.k y.k) || y.q.isZ) && x.q.smB && y.q.smB && (x.q.add y.q).smB && okF (max x.k y.k) (x.q.add y.q)
theorem doubled_any (x : Q4) (n : Nat) (hn : n ≤ 60) (h : n = 0 ∨ x.isZ = true) (w : World) : Calls Try.prog 65 #[x.v, .int .i64 (n : Int)] w fun e w' => e = .returned (.tuple #[x.v, .int .i64 0]) ∧ Below w.heap.size w w' := by
  rcases h with rfl | h
  · exact doubled_same x w
  · rw [Q4.isZ_eq h]; exact doubled_zero n hn w
set_option maxRecDepth 100000 in
set_option maxHeartbeats 2000000 in
theorem aadd (x y : A5) (h : okA x y = true) (w : World) : Calls Try.prog 53 #[x.v, y.v] w fun e w' => e = .returned (.tuple #[(addS x y).v, .int .i64 0]) ∧ Below w.heap.size w w' := by
  unfold okA at h
  simp only [Bool.and_eq_true, Bool.or_eq_true, decide_eq_true_eq] at h
  obtain ⟨⟨⟨⟨⟨⟨⟨⟨h1, h2⟩, h3⟩, h4⟩, h5⟩, h6⟩, h7⟩, h8⟩, h9⟩ := h
  have C := fun w => aboth x y h1 h2 w
  have D1 : ∀ w, Calls Try.prog 65 #[x.q.v, .int .i64 ((max x.k y.k : Nat) - (x.k : Int))] w fun e w' => e = .returned (.tuple #[x.q.v, .int .i64 0]) ∧ Below w.heap.size w w' := fun w => by
    have := doubled_any x.q (max x.k y.k - x.k) (by omega) (h4.imp (fun e => by omega) id) w
    rw [show ((max x.k y.k - x.k : Nat) : Int) = (max x.k y.k : Nat) - (x.k : Int) by omega] at this
    exact this
  have D2 : ∀ w, Calls Try.prog 65 #[y.q.v, .int .i64 ((max x.k y.k : Nat) - (y.k : Int))] w fun e w' => e = .returned (.tuple #[y.q.v, .int .i64 0]) ∧ Below w.heap.size w w' := fun w => by
    have := doubled_any y.q (max x.k y.k - y.k) (by omega) (h5.imp (fun e => by omega) id) w
    rw [show ((max x.k y.k - y.k : Nat) : Int) = (max x.k y.k : Nat) - (y.k : Int) by omega] at this
    exact this
  have A := fun w => Q4.addc x.q y.q h6 h7 h8 w
  have O := fun w => oneform_any (max x.k y.k) h3 (x.q.add y.q) h9 w
  have hmax : (if x.k < y.k then (y.k : Int) else (x.k : Int)) = ((max x.k y.k : Nat) : Int) := by split <;> omega
  generalize hz : x.q.add y.q = z at *
  obtain ⟨r, hr⟩ : ∃ r, Hid (r = addS x y) := ⟨_, rfl⟩
  have O2 : ∀ w, Calls Try.prog 64 #[z.v, .int .i64 ((max x.k y.k : Nat) : Int)] w fun e w' => e = .returned (.tuple #[r.v, .int .i64 0]) ∧ Below w.heap.size w w' := fun w => by
    rw [hr.out]
    unfold addS
    rw [hz]
    exact O w
  rw [← hr.out]
  clear O hr hz h1 h2 h4 h5 h6 h7 h8 h9
  generalize hm : max x.k y.k = m at *
  have m1 : x.k ≤ m := by omega
  have m2 : y.k ≤ m := by omega
  have hW : Below w.heap.size w (((w.alloc (.cells x.cells.toArray 46)).alloc (.cells y.cells.toArray 46)).alloc (.cells #[.complex .f64 0 0, .complex .f64 0 0, .int .i64 0] 46)) := bal (bal (bal (Below.refl _ _) _) _) _
  have hR : Bx (((w.alloc (.cells x.cells.toArray 46)).alloc (.cells y.cells.toArray 46)).alloc (.cells #[.complex .f64 0 0, .complex .f64 0 0, .int .i64 0] 46)) w.heap.size x.cells := ((Bx.new w x.cells 46).alloc _).alloc _
  have hS : Bx (((w.alloc (.cells x.cells.toArray 46)).alloc (.cells y.cells.toArray 46)).alloc (.cells #[.complex .f64 0 0, .complex .f64 0 0, .int .i64 0] 46)) (w.heap.size + 1) y.cells := Bx.at2 _ 46 _ rfl
  have hX : Bx (((w.alloc (.cells x.cells.toArray 46)).alloc (.cells y.cells.toArray 46)).alloc (.cells #[.complex .f64 0 0, .complex .f64 0 0, .int .i64 0] 46)) (w.heap.size + 1 + 1) [.complex .f64 0 0, .complex .f64 0 0, .int .i64 0] := Bx.at3 _ 46 rfl
  go_enter Try.func53, Try.ntmps53
  go_wp2_with (first
    | (go_at_call 62; (with_reducible refine (C _).mono ?_); rintro e w1 ⟨rfl, hN⟩; replace hW := btr hW hN; replace hR := hR.below hN; replace hS := hS.below hN; replace hX := hX.below hN; have r0 := hR.c 0 _ rfl; have r1 := hR.c 1 _ rfl; have r2 := hR.c 2 _ rfl; have s2 := hS.c 2 _ rfl)
    | (go_at_call 65; (with_reducible refine (D1 _).mono ?_); rintro e w2 ⟨rfl, hN⟩; have hne : w2.heap.size ≠ w.heap.size + 1 + 1 := Nat.ne_of_gt (hX.below hN).lt; have hge : w.heap.size ≤ w2.heap.size := (btr hW hN).size; replace hW := bal (btr hW hN) (.cells #[cx x.q.a x.q.b, cx x.q.c x.q.d] 44); replace hS := (hS.below hN).alloc (.cells #[cx x.q.a x.q.b, cx x.q.c x.q.d] 44); replace hX := (hX.below hN).alloc (.cells #[cx x.q.a x.q.b, cx x.q.c x.q.d] 44); have hV := Bx.new w2 [cx x.q.a x.q.b, cx x.q.c x.q.d] 44; have s0 := hS.c 0 _ rfl; have s1' := hS.c 1 _ rfl; have s2 := hS.c 2 _ rfl)
    | (go_at_call 65; (with_reducible refine (D2 _).mono ?_); rintro e w3 ⟨rfl, hN⟩; replace hW := bal (btr hW hN) (.cells #[cx y.q.a y.q.b, cx y.q.c y.q.d] 44); replace hX := (hX.below hN).alloc (.cells #[cx y.q.a y.q.b, cx y.q.c y.q.d] 44); replace hV := (hV.below hN).alloc (.cells #[cx y.q.a y.q.b, cx y.q.c y.q.d] 44); have v0 := hV.c 0 _ rfl; have v1 := hV.c 1 _ rfl)
    | (go_at_call 66; (with_reducible refine (A _).mono ?_); rintro e w4 ⟨rfl, hN⟩; replace hW := btr hW hN; replace hX := hX.below hN; replace hV := hV.below hN; have v0 := hV.c 0 _ rfl; have v1 := hV.c 1 _ rfl; have g0 := hV.f 0 _ rfl; have g1 := hV.f 1 _ rfl)
    | (go_at_call 64; (with_reducible refine (O2 _).mono ?_); rintro e w5 ⟨rfl, hN⟩; replace hW := btr (bset (bset hW _ _ _ hge) _ _ _ hge) hN; replace hX := ((hX.off hne).off hne).below hN; have c0 := hX.c 0 _ rfl; have c1 := hX.c 1 _ rfl; have c2 := hX.c 2 _ rfl; have f0 := hX.f 0 _ rfl; have f1 := hX.f 1 _ rfl; have f2 := hX.f 2 _ rfl))
  refine bodyPost_ret (v := .tuple #[r.v, .int .i64 0]) (by simp [results, Try.results53, go_sem, c0, c1, c2]) rfl ⟨rfl, ?_⟩
  repeat (first | exact hW | refine bset ?_ _ _ _ (by omega))
def Q4.conj (x : Q4) : Q4 := ⟨x.a, -x.b, -x.d, -x.c⟩
theorem sm_neg {n : Int} (h : sm n) : sm (-n) := by unfold sm at *; omega
set_option maxRecDepth 100000 in
set_option maxHeartbeats 1000000 in
theorem rconj (x : Q4) (hx : x.sm) (w : World) : Calls Try.prog 55 #[x.v] w fun e w' => e = .returned (.tuple #[x.conj.v, .int .i64 0]) ∧ Below w.heap.size w w' := by
  obtain ⟨a, b, c, d⟩ := x
  obtain ⟨ha, hb, hc, hd⟩ := hx
  simp only [Q4.v, Q4.conj] at *
  have C := fun w => rcheck a b c d w ha hb hc hd
  have G1 := fun w => gconj a b w ha hb
  have G2 := fun w => gconj c d w hc hd
  have T := fun w => gturn c (-d) 3 3 w hc (sm_neg hd) (by decide) (by decide)
  simp only [re4, im4] at T
  have EL := fun w0 : World => element_any (fb a) (fb (-b)) (fb (-d)) (fb (-c)) w0.heap.size 3 3 (w0.alloc (.cells #[.int .i64 0, .int .i64 0, .int .i64 0] 25)) (by decide) (by simp [go_sem]) (fun j hj => (Bx.new w0 [.int .i64 0, .int .i64 0, .int .i64 0] 25).c j (.int .i64 0) (by
    have : j = 0 ∨ j = 1 ∨ j = 2 := by omega
    rcases this with rfl | rfl | rfl <;> rfl))
  generalize -b = b' at *
  generalize -d = d' at *
  generalize -c = c' at *
  clear ha hb hc hd
  have hW : Below w.heap.size w ((w.alloc (.cells #[cx a b, cx c d] 44)).alloc (.cells #[.complex .f64 0 0, .complex .f64 0 0] 44)) := bal (bal (Below.refl _ _) _) _
  have hR : Bx ((w.alloc (.cells #[cx a b, cx c d] 44)).alloc (.cells #[.complex .f64 0 0, .complex .f64 0 0] 44)) w.heap.size [cx a b, cx c d] := (Bx.new w [cx a b, cx c d] 44).alloc _
  have hX : Bx ((w.alloc (.cells #[cx a b, cx c d] 44)).alloc (.cells #[.complex .f64 0 0, .complex .f64 0 0] 44)) (w.heap.size + 1) [.complex .f64 0 0, .complex .f64 0 0] := by
    have := Bx.new (w.alloc (.cells #[cx a b, cx c d] 44)) [.complex .f64 0 0, .complex .f64 0 0] 44
    simpa [go_sem] using this
  go_enter Try.func55, Try.ntmps55
  go_wp2_with (first
    | (go_at_call 67; (with_reducible refine (C _).mono ?_); rintro e w1 ⟨rfl, hN⟩; replace hW := btr hW hN; replace hR := hR.below hN; replace hX := hX.below hN; have r0 := hR.c 0 _ rfl)
    | (go_at_call 69; (with_reducible refine (G1 _).mono ?_); rintro e w1 ⟨rfl, hN⟩; replace hW := btr hW hN; replace hR := hR.below hN; replace hX := hX.below hN; have r1 := hR.c 1 _ rfl)
    | (go_at_call 69; (with_reducible refine (G2 _).mono ?_); rintro e w1 ⟨rfl, hN⟩; replace hW := btr hW hN; replace hX := hX.below hN)
    | (go_at_call 70; (with_reducible refine (T _).mono ?_); rintro e w1 ⟨rfl, hN⟩; replace hW := btr hW hN; replace hX := hX.below hN)
    | (go_at_call 71; (with_reducible refine (EL _).mono ?_); rintro e w9 ⟨rfl, hN⟩; replace hW := btr (bal hW _) hN; replace hX := (hX.alloc _).below hN; have c0 := hX.c 0 _ rfl; have c1 := hX.c 1 _ rfl; have f0 := hX.f 0 _ rfl; have f1 := hX.f 1 _ rfl))
  refine bodyPost_ret (v := .tuple #[rg a b' d' c', .int .i64 0]) (by simp [results, Try.results55, go_sem, c0, c1]) rfl ⟨rfl, ?_⟩
  repeat (first | exact hW | refine bset ?_ _ _ _ (by omega))
def A5.conj (x : A5) : A5 := ⟨x.q.conj, x.k⟩
set_option maxRecDepth 100000 in
set_option maxHeartbeats 1000000 in
theorem aconj (x : A5) (h : x.chk = true) (w : World) : Calls Try.prog 39 #[x.v] w fun e w' => e = .returned (.tuple #[x.conj.v, .int .i64 0]) ∧ Below w.heap.size w w' := by
  have C := fun w => acheck x h w
  have hs : x.q.sm := by
    unfold A5.chk at h
    simp only [Bool.and_eq_true] at h
    exact Q4.sm_of h.1.1
  have R := fun w => rconj x.q hs w
  have O := fun w => over_any x.q.conj.a x.q.conj.b x.q.conj.c x.q.conj.d (x.k : Int) w
  unfold A5.conj
  clear h hs
  generalize x.q.conj = z at *
  have hW : Below w.heap.size w ((w.alloc (.cells x.cells.toArray 46)).alloc (.cells #[.complex .f64 0 0, .complex .f64 0 0, .int .i64 0] 46)) := bal (bal (Below.refl _ _) _) _
  have hR : Bx ((w.alloc (.cells x.cells.toArray 46)).alloc (.cells #[.complex .f64 0 0, .complex .f64 0 0, .int .i64 0] 46)) w.heap.size x.cells := (Bx.new w x.cells 46).alloc _
  have hX : Bx ((w.alloc (.cells x.cells.toArray 46)).alloc (.cells #[.complex .f64 0 0, .complex .f64 0 0, .int .i64 0] 46)) (w.heap.size + 1) [.complex .f64 0 0, .complex .f64 0 0, .int .i64 0] := by
    have := Bx.new (w.alloc (.cells x.cells.toArray 46)) [.complex .f64 0 0, .complex .f64 0 0, .int .i64 0] 46
    simpa [go_sem] using this
  go_enter Try.func39, Try.ntmps39
  go_wp2_with (first
    | (go_at_call 54; (with_reducible refine (C _).mono ?_); rintro e w1 ⟨rfl, hN⟩; replace hW := btr hW hN; replace hX := hX.below hN; replace hR := hR.below hN; have y0 := hR.c 0 _ rfl; have y1 := hR.c 1 _ rfl)
    | (go_at_call 55; (with_reducible refine (R _).mono ?_); rintro e w2 ⟨rfl, hN⟩; replace hW := bal (btr hW hN) (.cells #[cx z.a z.b, cx z.c z.d] 44); replace hX := (hX.below hN).alloc (.cells #[cx z.a z.b, cx z.c z.d] 44); have y2 := fun o => ((hR.below hN).alloc o).c 2 _ rfl)
    | (go_at_call 56; (with_reducible refine (O _).mono ?_); rintro e w3 ⟨rfl, hN⟩; replace hW := btr hW hN; replace hX := hX.below hN; have c0 := hX.c 0 _ rfl; have c1 := hX.c 1 _ rfl; have c2 := hX.c 2 _ rfl; have f0 := hX.f 0 _ rfl; have f1 := hX.f 1 _ rfl; have f2 := hX.f 2 _ rfl))
  refine bodyPost_ret (v := .tuple #[av z.a z.b z.c z.d (x.k : Nat), .int .i64 0]) (by simp [results, Try.results39, go_sem, c0, c1, c2]) rfl ⟨rfl, ?_⟩
  repeat (first | exact hW | refine bset ?_ _ _ _ (by omega))
end Go.Proofs.Ytjmgcgjmaemgdaa
