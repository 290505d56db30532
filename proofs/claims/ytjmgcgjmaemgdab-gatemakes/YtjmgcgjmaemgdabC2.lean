/-
  gate.checkBoth, isOne.
-/
import Derived.Test.YtjmgcgjmaemgdabC1
import Derived.Test.YtjmgcgjmaemgdabQ1
namespace Go.Proofs.Ytjmgcgjmaemgdab
open Go.RowKit Go.Sort

set_option maxHeartbeats 1000000 in
theorem both_any {w : World} {M M' N : Nat} {A B : Nat → Nat → A5} (h : MR w M N A) (h' : MR w M' N B) (h0 : 0 < N) (h8 : N ≤ 8) (hc : ∀ x y, x < N → y < N → (A x y).chk = true) (hc' : ∀ x y, x < N → y < N → (B x y).chk = true) : Calls Try.prog 24 #[mv M N, mv M' N] w fun e w' => e = .returned (.int .i64 0) ∧ Below w.heap.size w w' := by
  have S1 := shaped_any h h0 h8
  have S2 := shaped_any h' h0 h8
  have C1 := checks_any h h8 hc
  have C2 := fun V (hV : Below w.heap.size w V) => checks_any (h'.on hV) h8 hc'
  have c0 := h.m 0 h0
  go_enter Try.func24, Try.ntmps24
  go_wp2_with (first
    | (go_at_call 29; (with_reducible refine S1.mono ?_); rintro e w1 ⟨rfl, hE⟩; subst hE)
    | (go_at_call 29; (with_reducible refine S2.mono ?_); rintro e w1 ⟨rfl, hE⟩; subst hE)
    | (go_at_call 30; (with_reducible refine C1.mono ?_); rintro e w1 ⟨rfl, hB⟩)
    | (go_at_call 30; (with_reducible refine (C2 _ hB).mono ?_); rintro e w2 ⟨rfl, hN⟩))
  go_ret
  exact ⟨by simp, btr hB hN⟩
theorem run_one (w : World) : (binOp .neq 42 (.agg #[.complex .f64 4607182418800017408 0, .complex .f64 0 0, .int .i64 0]) (.agg #[.complex .f64 4607182418800017408 0, .complex .f64 0 0, .int .i64 0])).run Try.prog w = .ok (.bool false) w := by
  have := run_ane (a := 1) (b := 0) (c := 0) (d := 0) (k := 0) (a' := 1) (b' := 0) (c' := 0) (d' := 0) (k' := 0) ⟨by unfold sm; omega, by unfold sm; omega, by unfold sm; omega, by unfold sm; omega⟩ ⟨by unfold sm; omega, by unfold sm; omega, by unfold sm; omega, by unfold sm; omega⟩ w
  exact this
theorem run_nought (w : World) : (binOp .neq 42 (.agg #[.complex .f64 0 0, .complex .f64 0 0, .int .i64 0]) (.agg #[.complex .f64 0 0, .complex .f64 0 0, .int .i64 0])).run Try.prog w = .ok (.bool false) w := by
  have := run_ane (a := 0) (b := 0) (c := 0) (d := 0) (k := 0) (a' := 0) (b' := 0) (c' := 0) (d' := 0) (k' := 0) ⟨by unfold sm; omega, by unfold sm; omega, by unfold sm; omega, by unfold sm; omega⟩ ⟨by unfold sm; omega, by unfold sm; omega, by unfold sm; omega, by unfold sm; omega⟩ w
  exact this
def a0 : A5 := ⟨⟨0, 0, 0, 0⟩, 0⟩
def a1 : A5 := ⟨⟨1, 0, 0, 0⟩, 0⟩
/-- The matrix 1. -/
def oneA : Nat → Nat → A5 := fun x y => if x = y then a1 else a0
end Go.Proofs.Ytjmgcgjmaemgdab
