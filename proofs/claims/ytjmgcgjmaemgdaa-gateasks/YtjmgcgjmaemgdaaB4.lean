/-
  Halving; amplitudes in their one form.
-/
import Derived.Test.YtjmgcgjmaemgdaaB3
import Derived.Test.YtjmgcgjmaemgdaaE5
namespace Go.Proofs.Ytjmgcgjmaemgdaa
open Go.RowKit Go.Sort

/-- An element of the ring, as numbers. -/
structure Q4 where
  a : Int
  b : Int
  c : Int
  d : Int
abbrev Q4.v (x : Q4) : Value := rg x.a x.b x.c x.d
def smB (n : Int) : Bool := decide (-4 ≤ n) && decide (n ≤ 4)
theorem smB_sm {n : Int} (h : smB n = true) : sm n := by unfold smB at h; simpa [sm] using h
def Q4.smB (x : Q4) : Bool := Go.Proofs.Ytjmgcgjmaemgdaa.smB x.a && Go.Proofs.Ytjmgcgjmaemgdaa.smB x.b && Go.Proofs.Ytjmgcgjmaemgdaa.smB x.c && Go.Proofs.Ytjmgcgjmaemgdaa.smB x.d
structure Q4.sm (x : Q4) : Prop where
  a : Go.Proofs.Ytjmgcgjmaemgdaa.sm x.a
  b : Go.Proofs.Ytjmgcgjmaemgdaa.sm x.b
  c : Go.Proofs.Ytjmgcgjmaemgdaa.sm x.c
  d : Go.Proofs.Ytjmgcgjmaemgdaa.sm x.d
theorem Q4.sm_of {x : Q4} (h : x.smB = true) : x.sm := by
  unfold Q4.smB at h
  simp only [Bool.and_eq_true] at h
  exact ⟨smB_sm h.1.1.1, smB_sm h.1.1.2, smB_sm h.1.2, smB_sm h.2⟩
def odB (a b : Int) : Bool := bits .and .i64 (bits .xor .i64 a b) 1 != 0
/-- Can it be halved? -/
def Q4.can (x : Q4) : Bool := !odB x.a x.b && !odB x.c x.d
def Q4.half (x : Q4) : Q4 := ⟨(x.c - x.d).tdiv 2, (x.c + x.d).tdiv 2, (x.a + x.b).tdiv 2, (x.b - x.a).tdiv 2⟩
theorem can_no {x : Q4} (h : x.can = false) : od x.a x.b ∨ od x.c x.d := by
  unfold Q4.can odB at h
  unfold od
  simp only [Bool.and_eq_false_iff, Bool.not_eq_false', bne_iff_ne] at h
  exact h
set_option maxHeartbeats 400000 in
theorem number_any (a b : Int) (w : World) (ha : sm a) (hb : sm b) : Calls Try.prog 82 #[.int .i64 a, .int .i64 b] w fun e w' => e = .returned (cx a b) ∧ w' = w := by
  have c1 := int_fb ha
  have c2 := int_fb hb
  go_enter Try.func82, Try.ntmps82
  go_wp2
  all_goals (go_ret; exact ⟨by simp, rfl⟩)
set_option maxHeartbeats 1000000 in
theorem halve_yes (x : Q4) (w : World) (hx : x.sm) (hy : x.half.sm) (hc : x.can = true) :
    Calls Try.prog 68 #[x.v] w fun e w' => e = .returned (.tuple #[x.half.v, .bool true, .int .i64 0]) ∧ Below w.heap.size w w' := by
  obtain ⟨a, b, c, d⟩ := x
  obtain ⟨ha, hb, hcc, hd⟩ := hx
  obtain ⟨g1, g2, g3, g4⟩ := hy
  unfold Q4.can odB at hc
  simp only [Bool.and_eq_true, Bool.not_eq_true'] at hc
  obtain ⟨k1, k2⟩ := hc
  simp only [Q4.v, Q4.half] at *
  have C := fun w => rcheck a b c d w ha hb hcc hd
  have P1 := fun w => parts_any a b w ha hb
  have P2 := fun w => parts_any c d w hcc hd
  have N1 := fun w => number_any _ _ w g1 g2
  have N2 := fun w => number_any _ _ w g3 g4
  have hW : Below w.heap.size w ((w.alloc (.cells #[cx a b, cx c d] 44)).alloc (.cells #[.complex .f64 0 0, .complex .f64 0 0] 44)) := bal (bal (Below.refl _ _) _) _
  have hY : Bx ((w.alloc (.cells #[cx a b, cx c d] 44)).alloc (.cells #[.complex .f64 0 0, .complex .f64 0 0] 44)) w.heap.size [cx a b, cx c d] := (Bx.new w [cx a b, cx c d] 44).alloc _
  have hX : Bx ((w.alloc (.cells #[cx a b, cx c d] 44)).alloc (.cells #[.complex .f64 0 0, .complex .f64 0 0] 44)) (w.heap.size + 1) [.complex .f64 0 0, .complex .f64 0 0] := by
    have := Bx.new (w.alloc (.cells #[cx a b, cx c d] 44)) [.complex .f64 0 0, .complex .f64 0 0] 44
    simpa [go_sem] using this
  unfold sm at ha hb hcc hd
  clear g1 g2 g3 g4
  go_enter Try.func68, Try.ntmps68
  go_wp2_with (first
    | (go_at_call 67; (with_reducible refine (C _).mono ?_); rintro e w1 ⟨rfl, hN1⟩; replace hW := btr hW hN1; replace hX := hX.below hN1; replace hY := hY.below hN1; have y0 := hY.c 0 _ rfl; have y1 := hY.c 1 _ rfl; have c0 := hX.c 0 _ rfl; have c1 := hX.c 1 _ rfl; have f0 := hX.f 0 _ rfl; have f1 := hX.f 1 _ rfl)
    | (go_at_call 81; (with_reducible refine (P1 _).mono ?_); rintro e w2 ⟨rfl, rfl⟩)
    | (go_at_call 81; (with_reducible refine (P2 _).mono ?_); rintro e w2 ⟨rfl, rfl⟩)
    | (go_at_call 82; (with_reducible refine (N1 _).mono ?_); rintro e w2 ⟨rfl, rfl⟩)
    | (go_at_call 82; (with_reducible refine (N2 _).mono ?_); rintro e w2 ⟨rfl, rfl⟩))
  refine bodyPost_ret (v := .tuple #[rg ((c - d).tdiv 2) ((c + d).tdiv 2) ((a + b).tdiv 2) ((b - a).tdiv 2), .bool true, .int .i64 0]) (by simp [results, Try.results68, go_sem, c0, c1]) rfl ⟨rfl, ?_⟩
  repeat (first | exact hW | refine bset ?_ _ _ _ (by omega))
end Go.Proofs.Ytjmgcgjmaemgdaa
