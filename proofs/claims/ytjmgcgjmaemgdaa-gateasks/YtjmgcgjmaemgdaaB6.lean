/-
  Amplitudes multiplied, added, conjugated.
-/
import Derived.Test.YtjmgcgjmaemgdaaB5
namespace Go.Proofs.Ytjmgcgjmaemgdaa
open Go.RowKit Go.Sort

structure A5 where
  q : Q4
  k : Nat
abbrev A5.v (x : A5) : Value := av x.q.a x.q.b x.q.c x.q.d (x.k : Nat)
abbrev A5.cells (x : A5) : List Value := [cx x.q.a x.q.b, cx x.q.c x.q.d, .int .i64 (x.k : Nat)]
/-- Does amp.Check take it? -/
def A5.chk (x : A5) : Bool := x.q.smB && decide (x.k ≤ 60) && (if x.q.can then x.q.half.smB && decide (x.k = 0) else true)
set_option maxHeartbeats 1000000 in
theorem acheck (x : A5) (h : x.chk = true) (w : World) : Calls Try.prog 54 #[x.v] w fun e w' => e = .returned (.int .i64 0) ∧ Below w.heap.size w w' := by
  unfold A5.chk at h
  simp only [Bool.and_eq_true, decide_eq_true_eq] at h
  obtain ⟨⟨h1, h2⟩, h3⟩ := h
  have hs := Q4.sm_of h1
  obtain ⟨q, k⟩ := x
  by_cases hc : q.can = true
  · simp only at *
    rw [if_pos hc] at h3
    simp only [Bool.and_eq_true, decide_eq_true_eq] at h3
    obtain ⟨h3, rfl⟩ := h3
    have C := fun w => rcheck q.a q.b q.c q.d w hs.a hs.b hs.c hs.d
    have H := fun w => halve_yes q w hs (Q4.sm_of h3) hc
    clear h1 h2 h3 hs hc
    generalize q.half = z at *
    obtain ⟨a, b, c, d⟩ := q
    simp only [Q4.v] at *
    have hW : Below w.heap.size w (w.alloc (.cells #[cx a b, cx c d, .int .i64 0] 46)) := bal (Below.refl _ _) _
    have hY : Bx (w.alloc (.cells #[cx a b, cx c d, .int .i64 0] 46)) w.heap.size [cx a b, cx c d, .int .i64 0] := Bx.new w [cx a b, cx c d, .int .i64 0] 46
    show Calls Try.prog 54 #[av a b c d 0] w _
    go_enter Try.func54, Try.ntmps54
    go_wp2_with (first
      | (go_at_call 67; (with_reducible refine (C _).mono ?_); rintro e w1 ⟨rfl, hN1⟩; replace hW := btr hW hN1; replace hY := hY.below hN1; have y0 := hY.c 0 _ rfl; have y1 := hY.c 1 _ rfl; have y2 := hY.c 2 _ rfl)
      | (go_at_call 68; (with_reducible refine (H _).mono ?_); rintro e w2 ⟨rfl, hN2⟩; replace hW := bal (btr hW hN2) (.cells #[cx z.a z.b, cx z.c z.d] 44); have y3 := fun o => ((hY.below hN2).alloc o).c 2 _ rfl))
    all_goals (go_ret; exact ⟨by simp, hW⟩)
  · exact acheck_odd q.a q.b q.c q.d (k : Int) w hs.a hs.b hs.c hs.d (can_no (by simpa using hc)) (by omega) (by simp only at h2; omega)
set_option maxHeartbeats 400000 in
theorem aboth (x y : A5) (hx : x.chk = true) (hy : y.chk = true) (w : World) : Calls Try.prog 62 #[x.v, y.v] w fun e w' => e = .returned (.int .i64 0) ∧ Below w.heap.size w w' := by
  have A := fun w => acheck x hx w
  have B := fun w => acheck y hy w
  have hW : Below w.heap.size w ((w.alloc (.cells x.cells.toArray 46)).alloc (.cells y.cells.toArray 46)) := bal (bal (Below.refl _ _) _) _
  have hY : Bx ((w.alloc (.cells x.cells.toArray 46)).alloc (.cells y.cells.toArray 46)) (w.heap.size + 1) y.cells := by
    have := Bx.new (w.alloc (.cells x.cells.toArray 46)) y.cells 46
    simpa [go_sem] using this
  clear hx hy
  go_enter Try.func62, Try.ntmps62
  go_wp2_with (first
    | (go_at_call 54; (with_reducible refine (A _).mono ?_); rintro e w1 ⟨rfl, hN1⟩; replace hW := btr hW hN1; replace hY := hY.below hN1; have y0 := hY.c 0 _ rfl; have y1 := hY.c 1 _ rfl; have y2 := hY.c 2 _ rfl)
    | (go_at_call 54; (with_reducible refine (B _).mono ?_); rintro e w2 ⟨rfl, hN2⟩; replace hW := btr hW hN2))
  all_goals (go_ret; exact ⟨by simp, hW⟩)
def s1B (n : Int) : Bool := decide (-1 ≤ n) && decide (n ≤ 1)
theorem s1B_s1 {n : Int} (h : s1B n = true) : s1 n := by unfold s1B at h; simpa [s1] using h
def Q4.s1B (x : Q4) : Bool := Go.Proofs.Ytjmgcgjmaemgdaa.s1B x.a && Go.Proofs.Ytjmgcgjmaemgdaa.s1B x.b && Go.Proofs.Ytjmgcgjmaemgdaa.s1B x.c && Go.Proofs.Ytjmgcgjmaemgdaa.s1B x.d
def Q4.mul (x y : Q4) : Q4 := ⟨mA x.a x.b x.c x.d y.a y.b y.c y.d, mB x.a x.b x.c x.d y.a y.b y.c y.d, mC x.a x.b x.c x.d y.a y.b y.c y.d, mD x.a x.b x.c x.d y.a y.b y.c y.d⟩
def Q4.add (x y : Q4) : Q4 := ⟨x.a + y.a, x.b + y.b, x.c + y.c, x.d + y.d⟩
theorem Q4.mulc (x y : Q4) (hx : x.s1B = true) (hy : y.s1B = true) (w : World) : Calls Try.prog 63 #[x.v, y.v] w fun e w' => e = .returned (.tuple #[(x.mul y).v, .int .i64 0]) ∧ Below w.heap.size w w' := by
  unfold Q4.s1B at hx hy
  simp only [Bool.and_eq_true] at hx hy
  exact rmul _ _ _ _ _ _ _ _ w (s1B_s1 hx.1.1.1) (s1B_s1 hx.1.1.2) (s1B_s1 hx.1.2) (s1B_s1 hx.2) (s1B_s1 hy.1.1.1) (s1B_s1 hy.1.1.2) (s1B_s1 hy.1.2) (s1B_s1 hy.2)
theorem Q4.addc (x y : Q4) (hx : x.smB = true) (hy : y.smB = true) (hz : (x.add y).smB = true) (w : World) : Calls Try.prog 66 #[x.v, y.v] w fun e w' => e = .returned (.tuple #[(x.add y).v, .int .i64 0]) ∧ Below w.heap.size w w' := by
  have a := Q4.sm_of hx
  have b := Q4.sm_of hy
  have c := Q4.sm_of hz
  exact radd _ _ _ _ _ _ _ _ w a.a a.b a.c a.d b.a b.b b.c b.d c.a c.b c.c c.d
def mulS (x y : A5) : A5 := ⟨(oneF (x.k + y.k) (x.q.mul y.q)).1, (oneF (x.k + y.k) (x.q.mul y.q)).2⟩
def okM (x y : A5) : Bool := x.chk && y.chk && x.q.s1B && y.q.s1B && decide (x.k + y.k ≤ 60) && okF (x.k + y.k) (x.q.mul y.q)
set_option maxRecDepth 100000 in
set_option maxHeartbeats 1000000 in
theorem amul (x y : A5) (h : okM x y = true) (w : World) : Calls Try.prog 52 #[x.v, y.v] w fun e w' => e = .returned (.tuple #[(mulS x y).v, .int .i64 0]) ∧ Below w.heap.size w w' := by
  unfold okM at h
  simp only [Bool.and_eq_true, decide_eq_true_eq] at h
  obtain ⟨⟨⟨⟨⟨h1, h2⟩, h3⟩, h4⟩, h5⟩, h6⟩ := h
  have C := fun w => aboth x y h1 h2 w
  have M := fun w => Q4.mulc x.q y.q h3 h4 w
  have O : ∀ w, Calls Try.prog 64 #[(x.q.mul y.q).v, .int .i64 ((x.k : Int) + (y.k : Int))] w fun e w' => e = .returned (.tuple #[(mulS x y).v, .int .i64 0]) ∧ Below w.heap.size w w' := fun w => by
    have := oneform_any (x.k + y.k) h5 (x.q.mul y.q) h6 w
    rw [show ((x.k + y.k : Nat) : Int) = (x.k : Int) + (y.k : Int) by omega] at this
    exact this
  generalize x.q.mul y.q = z at *
  generalize mulS x y = r at *
  clear h1 h2 h3 h4 h6
  have hW : Below w.heap.size w (((w.alloc (.cells x.cells.toArray 46)).alloc (.cells y.cells.toArray 46)).alloc (.cells #[.complex .f64 0 0, .complex .f64 0 0, .int .i64 0] 46)) := bal (bal (bal (Below.refl _ _) _) _) _
  have hR : Bx (((w.alloc (.cells x.cells.toArray 46)).alloc (.cells y.cells.toArray 46)).alloc (.cells #[.complex .f64 0 0, .complex .f64 0 0, .int .i64 0] 46)) w.heap.size x.cells := ((Bx.new w x.cells 46).alloc _).alloc _
  have hS : Bx (((w.alloc (.cells x.cells.toArray 46)).alloc (.cells y.cells.toArray 46)).alloc (.cells #[.complex .f64 0 0, .complex .f64 0 0, .int .i64 0] 46)) (w.heap.size + 1) y.cells := Bx.at2 _ 46 _ rfl
  have hX : Bx (((w.alloc (.cells x.cells.toArray 46)).alloc (.cells y.cells.toArray 46)).alloc (.cells #[.complex .f64 0 0, .complex .f64 0 0, .int .i64 0] 46)) (w.heap.size + 1 + 1) [.complex .f64 0 0, .complex .f64 0 0, .int .i64 0] := Bx.at3 _ 46 rfl
  go_enter Try.func52, Try.ntmps52
  go_wp2_with (first
    | (go_at_call 62; (with_reducible refine (C _).mono ?_); rintro e w1 ⟨rfl, hN⟩; replace hW := btr hW hN; replace hR := hR.below hN; replace hS := hS.below hN; replace hX := hX.below hN; have r0 := hR.c 0 _ rfl; have r1 := hR.c 1 _ rfl; have s0 := hS.c 0 _ rfl; have s1' := hS.c 1 _ rfl)
    | (go_at_call 63; (with_reducible refine (M _).mono ?_); rintro e w2 ⟨rfl, hN⟩; replace hW := bal (btr hW hN) (.cells #[cx z.a z.b, cx z.c z.d] 44); replace hR := (hR.below hN).alloc (.cells #[cx z.a z.b, cx z.c z.d] 44); replace hS := (hS.below hN).alloc (.cells #[cx z.a z.b, cx z.c z.d] 44); replace hX := (hX.below hN).alloc (.cells #[cx z.a z.b, cx z.c z.d] 44); have r2 := hR.c 2 _ rfl; have s2 := hS.c 2 _ rfl)
    | (go_at_call 64; (with_reducible refine (O _).mono ?_); rintro e w3 ⟨rfl, hN⟩; replace hW := btr hW hN; replace hX := hX.below hN; have c0 := hX.c 0 _ rfl; have c1 := hX.c 1 _ rfl; have c2 := hX.c 2 _ rfl; have f0 := hX.f 0 _ rfl; have f1 := hX.f 1 _ rfl; have f2 := hX.f 2 _ rfl))
  refine bodyPost_ret (v := .tuple #[r.v, .int .i64 0]) (by simp [results, Try.results52, go_sem, c0, c1, c2]) rfl ⟨rfl, ?_⟩
  repeat (first | exact hW | refine bset ?_ _ _ _ (by omega))
end Go.Proofs.Ytjmgcgjmaemgdaa
