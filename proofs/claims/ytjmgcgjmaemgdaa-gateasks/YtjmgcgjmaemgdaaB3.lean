/-
  Sums, products and conjugates of small elements of the ring.
-/
import Derived.Test.YtjmgcgjmaemgdaaB2
namespace Go.Proofs.Ytjmgcgjmaemgdaa
open Go.RowKit Go.Sort

theorem Bx.at2 {w : World} {o1 o2 : Obj} (vs : List Value) (t : TypeId) (o3 : Obj) (h1 : o2 = .cells vs.toArray t) : Bx (((w.alloc o1).alloc o2).alloc o3) (w.heap.size + 1) vs := by
  subst h1
  have := (Bx.new (w.alloc o1) vs t).alloc o3
  simpa [go_sem] using this
theorem Bx.at3 {w : World} {o1 o2 o3 : Obj} (vs : List Value) (t : TypeId) (h1 : o3 = .cells vs.toArray t) : Bx (((w.alloc o1).alloc o2).alloc o3) (w.heap.size + 1 + 1) vs := by
  subst h1
  have := Bx.new ((w.alloc o1).alloc o2) vs t
  simpa [go_sem] using this
set_option maxHeartbeats 400000 in
theorem rboth (a b c d e f g h : Int) (w : World) (ha : sm a) (hb : sm b) (hc : sm c) (hd : sm d) (he : sm e) (hf : sm f) (hg : sm g) (hh : sm h) : Calls Try.prog 76 #[rg a b c d, rg e f g h] w fun r w' => r = .returned (.int .i64 0) ∧ Below w.heap.size w w' := by
  have A := fun w => rcheck a b c d w ha hb hc hd
  have B := fun w => rcheck e f g h w he hf hg hh
  have hW : Below w.heap.size w ((w.alloc (.cells #[cx a b, cx c d] 44)).alloc (.cells #[cx e f, cx g h] 44)) := bal (bal (Below.refl _ _) _) _
  have hY : Bx ((w.alloc (.cells #[cx a b, cx c d] 44)).alloc (.cells #[cx e f, cx g h] 44)) (w.heap.size + 1) [cx e f, cx g h] := by
    have := Bx.new (w.alloc (.cells #[cx a b, cx c d] 44)) [cx e f, cx g h] 44
    simpa [go_sem] using this
  clear ha hb hc hd he hf hg hh
  go_enter Try.func76, Try.ntmps76
  go_wp2_with (first
    | (go_at_call 67; (with_reducible refine (A _).mono ?_); rintro e w1 ⟨rfl, hN1⟩; replace hW := btr hW hN1; replace hY := hY.below hN1; have y0 := hY.c 0 _ rfl; have y1 := hY.c 1 _ rfl)
    | (go_at_call 67; (with_reducible refine (B _).mono ?_); rintro e w2 ⟨rfl, hN2⟩; replace hW := btr hW hN2))
  all_goals (go_ret; exact ⟨by simp, hW⟩)

set_option maxRecDepth 100000 in
set_option maxHeartbeats 1000000 in
theorem radd (a b c d e f g h : Int) (w : World) (ha : sm a) (hb : sm b) (hc : sm c) (hd : sm d) (he : sm e) (hf : sm f) (hg : sm g) (hh : sm h) (h1 : sm (a + e)) (h2 : sm (b + f)) (h3 : sm (c + g)) (h4 : sm (d + h)) :
    Calls Try.prog 66 #[rg a b c d, rg e f g h] w fun r w' => r = .returned (.tuple #[rg (a + e) (b + f) (c + g) (d + h), .int .i64 0]) ∧ Below w.heap.size w w' := by
  have C := fun w => rboth a b c d e f g h w ha hb hc hd he hf hg hh
  have A := fun w => gadd a b e f w ha hb he hf h1 h2
  have B := fun w => gadd c d g h w hc hd hg hh h3 h4
  have EL := fun w0 : World => element_any (fb (a + e)) (fb (b + f)) (fb (c + g)) (fb (d + h)) w0.heap.size 2 2 (w0.alloc (.cells #[.int .i64 0, .int .i64 0] 25)) (by decide) (by simp [go_sem]) (fun j hj => (Bx.new w0 [.int .i64 0, .int .i64 0] 25).c j (.int .i64 0) (by
    have : j = 0 ∨ j = 1 := by omega
    rcases this with rfl | rfl <;> rfl))
  generalize a + e = p1 at *
  generalize b + f = p2 at *
  generalize c + g = p3 at *
  generalize d + h = p4 at *
  clear ha hb hc hd he hf hg hh h1 h2 h3 h4
  have hW : Below w.heap.size w (((w.alloc (.cells #[cx a b, cx c d] 44)).alloc (.cells #[cx e f, cx g h] 44)).alloc (.cells #[.complex .f64 0 0, .complex .f64 0 0] 44)) := bal (bal (bal (Below.refl _ _) _) _) _
  have hR : Bx (((w.alloc (.cells #[cx a b, cx c d] 44)).alloc (.cells #[cx e f, cx g h] 44)).alloc (.cells #[.complex .f64 0 0, .complex .f64 0 0] 44)) w.heap.size [cx a b, cx c d] := ((Bx.new w [cx a b, cx c d] 44).alloc _).alloc _
  have hS : Bx (((w.alloc (.cells #[cx a b, cx c d] 44)).alloc (.cells #[cx e f, cx g h] 44)).alloc (.cells #[.complex .f64 0 0, .complex .f64 0 0] 44)) (w.heap.size + 1) [cx e f, cx g h] := Bx.at2 _ 44 _ rfl
  have hX : Bx (((w.alloc (.cells #[cx a b, cx c d] 44)).alloc (.cells #[cx e f, cx g h] 44)).alloc (.cells #[.complex .f64 0 0, .complex .f64 0 0] 44)) (w.heap.size + 1 + 1) [.complex .f64 0 0, .complex .f64 0 0] := Bx.at3 _ 44 rfl
  go_enter Try.func66, Try.ntmps66
  go_wp2_with (first
    | (go_at_call 76; (with_reducible refine (C _).mono ?_); rintro e w1 ⟨rfl, hN1⟩; replace hW := btr hW hN1; replace hR := hR.below hN1; replace hS := hS.below hN1; replace hX := hX.below hN1; have r0 := hR.c 0 _ rfl; have r1 := hR.c 1 _ rfl; have s0 := hS.c 0 _ rfl; have s1' := hS.c 1 _ rfl)
    | (go_at_call 78; (with_reducible refine (A _).mono ?_); rintro e w2 ⟨rfl, hN2⟩; replace hW := btr hW hN2; replace hR := hR.below hN2; replace hS := hS.below hN2; replace hX := hX.below hN2; have r0 := hR.c 0 _ rfl; have r1 := hR.c 1 _ rfl; have s0 := hS.c 0 _ rfl; have s1' := hS.c 1 _ rfl)
    | (go_at_call 78; (with_reducible refine (B _).mono ?_); rintro e w3 ⟨rfl, hN3⟩; replace hW := btr hW hN3; replace hR := hR.below hN3; replace hS := hS.below hN3; replace hX := hX.below hN3; have r0 := hR.c 0 _ rfl; have r1 := hR.c 1 _ rfl; have s0 := hS.c 0 _ rfl; have s1' := hS.c 1 _ rfl)
    | (go_at_call 71; (with_reducible refine (EL _).mono ?_); rintro e w4 ⟨rfl, hN4⟩; replace hW := btr (bal hW _) hN4; replace hX := (hX.alloc _).below hN4; have c0 := hX.c 0 _ rfl; have c1 := hX.c 1 _ rfl; have f0 := hX.f 0 _ rfl; have f1 := hX.f 1 _ rfl))
  refine bodyPost_ret (v := .tuple #[rg p1 p2 p3 p4, .int .i64 0]) (by simp [results, Try.results66, go_sem, c0, c1]) rfl ⟨rfl, ?_⟩
  repeat (first | exact hW | refine bset ?_ _ _ _ (by omega))
/-- The product's parts. -/
def mA (a b c d e f g h : Int) : Int := a * e - b * f + -(c * h + d * g)
def mB (a b c d e f g h : Int) : Int := a * f + b * e + (c * g - d * h)
def mC (a b c d e f g h : Int) : Int := a * g - b * h + (c * e - d * f)
def mD (a b c d e f g h : Int) : Int := a * h + b * g + (c * f + d * e)
theorem s1_two {a b c d : Int} (ha : s1 a) (hb : s1 b) (hc : s1 c) (hd : s1 d) : (-2 ≤ a * b - c * d ∧ a * b - c * d ≤ 2) ∧ (-2 ≤ a * b + c * d ∧ a * b + c * d ≤ 2) := by
  have h1 := s1_mul ha hb
  have h2 := s1_mul hc hd
  unfold s1 at h1 h2
  omega
set_option maxRecDepth 100000 in
set_option maxHeartbeats 2000000 in
theorem rmul (a b c d e f g h : Int) (w : World) (ha : s1 a) (hb : s1 b) (hc : s1 c) (hd : s1 d) (he : s1 e) (hf : s1 f) (hg : s1 g) (hh : s1 h) :
    Calls Try.prog 63 #[rg a b c d, rg e f g h] w fun r w' => r = .returned (.tuple #[rg (mA a b c d e f g h) (mB a b c d e f g h) (mC a b c d e f g h) (mD a b c d e f g h), .int .i64 0]) ∧ Below w.heap.size w w' := by
  have C := fun w => rboth a b c d e f g h w ha.sm hb.sm hc.sm hd.sm he.sm hf.sm hg.sm hh.sm
  have M1 := fun w => gmul a b e f w ha hb he hf
  have M2 := fun w => gmul c d g h w hc hd hg hh
  have M3 := fun w => gmul a b g h w ha hb hg hh
  have M4 := fun w => gmul c d e f w hc hd he hf
  have b1 := (s1_two ha he hb hf).1
  have b2 := (s1_two ha hf hb he).2
  have b3 := (s1_two hc hg hd hh).1
  have b4 := (s1_two hc hh hd hg).2
  have b5 := (s1_two ha hg hb hh).1
  have b6 := (s1_two ha hh hb hg).2
  have b7 := (s1_two hc he hd hf).1
  have b8 := (s1_two hc hf hd he).2
  unfold mA mB mC mD
  generalize a * e - b * f = q1 at *
  generalize a * f + b * e = q2 at *
  generalize c * g - d * h = q3 at *
  generalize c * h + d * g = q4 at *
  generalize a * g - b * h = q5 at *
  generalize a * h + b * g = q6 at *
  generalize c * e - d * f = q7 at *
  generalize c * f + d * e = q8 at *
  have T := fun w => gturn q3 q4 1 1 w (by unfold sm; omega) (by unfold sm; omega) (by decide) (by decide)
  simp only [re4, im4] at T
  have A1 := fun w => gadd q1 q2 (-q4) q3 w (by unfold sm; omega) (by unfold sm; omega) (by unfold sm; omega) (by unfold sm; omega) (by unfold sm; omega) (by unfold sm; omega)
  have A2 := fun w => gadd q5 q6 q7 q8 w (by unfold sm; omega) (by unfold sm; omega) (by unfold sm; omega) (by unfold sm; omega) (by unfold sm; omega) (by unfold sm; omega)
  have EL := fun w0 : World => element_any (fb (q1 + -q4)) (fb (q2 + q3)) (fb (q5 + q7)) (fb (q6 + q8)) w0.heap.size 7 7 (w0.alloc (.cells #[.int .i64 0, .int .i64 0, .int .i64 0, .int .i64 0, .int .i64 0, .int .i64 0, .int .i64 0] 25)) (by decide) (by simp [go_sem]) (fun j hj => (Bx.new w0 [.int .i64 0, .int .i64 0, .int .i64 0, .int .i64 0, .int .i64 0, .int .i64 0, .int .i64 0] 25).c j (.int .i64 0) (by
    have : j = 0 ∨ j = 1 ∨ j = 2 ∨ j = 3 ∨ j = 4 ∨ j = 5 ∨ j = 6 := by omega
    rcases this with rfl | rfl | rfl | rfl | rfl | rfl | rfl <;> rfl))
  generalize q1 + -q4 = p1 at *
  generalize q2 + q3 = p2 at *
  generalize q5 + q7 = p3 at *
  generalize q6 + q8 = p4 at *
  generalize -q4 = n4 at *
  clear ha hb hc hd he hf hg hh b1 b2 b3 b4 b5 b6 b7 b8
  have hW : Below w.heap.size w (((w.alloc (.cells #[cx a b, cx c d] 44)).alloc (.cells #[cx e f, cx g h] 44)).alloc (.cells #[.complex .f64 0 0, .complex .f64 0 0] 44)) := bal (bal (bal (Below.refl _ _) _) _) _
  have hR : Bx (((w.alloc (.cells #[cx a b, cx c d] 44)).alloc (.cells #[cx e f, cx g h] 44)).alloc (.cells #[.complex .f64 0 0, .complex .f64 0 0] 44)) w.heap.size [cx a b, cx c d] := ((Bx.new w [cx a b, cx c d] 44).alloc _).alloc _
  have hS : Bx (((w.alloc (.cells #[cx a b, cx c d] 44)).alloc (.cells #[cx e f, cx g h] 44)).alloc (.cells #[.complex .f64 0 0, .complex .f64 0 0] 44)) (w.heap.size + 1) [cx e f, cx g h] := Bx.at2 _ 44 _ rfl
  have hX : Bx (((w.alloc (.cells #[cx a b, cx c d] 44)).alloc (.cells #[cx e f, cx g h] 44)).alloc (.cells #[.complex .f64 0 0, .complex .f64 0 0] 44)) (w.heap.size + 1 + 1) [.complex .f64 0 0, .complex .f64 0 0] := Bx.at3 _ 44 rfl
  go_enter Try.func63, Try.ntmps63
  go_wp2_with (first
    | (go_at_call 76; (with_reducible refine (C _).mono ?_); rintro e w1 ⟨rfl, hN1⟩; replace hW := btr hW hN1; replace hR := hR.below hN1; replace hS := hS.below hN1; replace hX := hX.below hN1; have r0 := hR.c 0 _ rfl; have r1 := hR.c 1 _ rfl; have s0 := hS.c 0 _ rfl; have s1' := hS.c 1 _ rfl)
    | (go_at_call 77; (with_reducible refine (M1 _).mono ?_); rintro e w2 ⟨rfl, hN2⟩; replace hW := btr hW hN2; replace hR := hR.below hN2; replace hS := hS.below hN2; replace hX := hX.below hN2; have r0 := hR.c 0 _ rfl; have r1 := hR.c 1 _ rfl; have s0 := hS.c 0 _ rfl; have s1' := hS.c 1 _ rfl)
    | (go_at_call 77; (with_reducible refine (M2 _).mono ?_); rintro e w3 ⟨rfl, hN3⟩; replace hW := btr hW hN3; replace hR := hR.below hN3; replace hS := hS.below hN3; replace hX := hX.below hN3; have r0 := hR.c 0 _ rfl; have r1 := hR.c 1 _ rfl; have s0 := hS.c 0 _ rfl; have s1' := hS.c 1 _ rfl)
    | (go_at_call 77; (with_reducible refine (M3 _).mono ?_); rintro e w4 ⟨rfl, hN4⟩; replace hW := btr hW hN4; replace hR := hR.below hN4; replace hS := hS.below hN4; replace hX := hX.below hN4; have r0 := hR.c 0 _ rfl; have r1 := hR.c 1 _ rfl; have s0 := hS.c 0 _ rfl; have s1' := hS.c 1 _ rfl)
    | (go_at_call 77; (with_reducible refine (M4 _).mono ?_); rintro e w5 ⟨rfl, hN5⟩; replace hW := btr hW hN5; replace hR := hR.below hN5; replace hS := hS.below hN5; replace hX := hX.below hN5; have r0 := hR.c 0 _ rfl; have r1 := hR.c 1 _ rfl; have s0 := hS.c 0 _ rfl; have s1' := hS.c 1 _ rfl)
    | (go_at_call 70; (with_reducible refine (T _).mono ?_); rintro e w6 ⟨rfl, hN6⟩; replace hW := btr hW hN6; replace hR := hR.below hN6; replace hS := hS.below hN6; replace hX := hX.below hN6; have r0 := hR.c 0 _ rfl; have r1 := hR.c 1 _ rfl; have s0 := hS.c 0 _ rfl; have s1' := hS.c 1 _ rfl)
    | (go_at_call 78; (with_reducible refine (A1 _).mono ?_); rintro e w7 ⟨rfl, hN7⟩; replace hW := btr hW hN7; replace hR := hR.below hN7; replace hS := hS.below hN7; replace hX := hX.below hN7; have r0 := hR.c 0 _ rfl; have r1 := hR.c 1 _ rfl; have s0 := hS.c 0 _ rfl; have s1' := hS.c 1 _ rfl)
    | (go_at_call 78; (with_reducible refine (A2 _).mono ?_); rintro e w8 ⟨rfl, hN8⟩; replace hW := btr hW hN8; replace hR := hR.below hN8; replace hS := hS.below hN8; replace hX := hX.below hN8; have r0 := hR.c 0 _ rfl; have r1 := hR.c 1 _ rfl; have s0 := hS.c 0 _ rfl; have s1' := hS.c 1 _ rfl)
    | (go_at_call 71; (with_reducible refine (EL _).mono ?_); rintro e w9 ⟨rfl, hN9⟩; replace hW := btr (bal hW _) hN9; replace hX := (hX.alloc _).below hN9; have c0 := hX.c 0 _ rfl; have c1 := hX.c 1 _ rfl; have f0 := hX.f 0 _ rfl; have f1 := hX.f 1 _ rfl))
  refine bodyPost_ret (v := .tuple #[rg p1 p2 p3 p4, .int .i64 0]) (by simp [results, Try.results63, go_sem, c0, c1]) rfl ⟨rfl, ?_⟩
  repeat (first | exact hW | refine bset ?_ _ _ _ (by omega))
end Go.Proofs.Ytjmgcgjmaemgdaa
