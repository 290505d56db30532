/-
  The reference's At, product, Adjoint and Weight.
-/
import Derived.Test.YtoddbaljnlhhaaaPM4
import Derived.Test.YtoddbaljnlhhaaaPP6
namespace Go.Proofs.Ytoddbaljnlhhaaa.PL
open Go.RowKit Go.Sort

theorem at_any (n : Int) (x z : Nat) (f : Int) (j : Nat) (w : World) (hx : x < 18446744073709551616) (hz : z < 18446744073709551616) (hj : j < 64) :
    Calls Try.prog 85 #[pv n x z f, .int .i64 j] w fun e w' => e = .returned (.int .i64 (atK (bt x j) (bt z j) : Nat)) ∧ Below w.heap.size w w' := by
  have e1 := i_bit x j hx
  have e2 := i_bit z j hz
  rcases bt01 x j with h | h <;> rcases bt01 z j with g | g <;> rw [h] at e1 <;> rw [g] at e2 <;> rw [h, g]
  · show Calls Try.prog 85 #[pv n x z f, .int .i64 j] w fun e w' => e = .returned (.int .i64 0) ∧ Below w.heap.size w w'
    clear h g
    go_enter Try.func85, Try.ntmps85
    go_wp2
    go_ret
    exact ⟨rfl, bal (Below.refl _ _) _⟩
  · show Calls Try.prog 85 #[pv n x z f, .int .i64 j] w fun e w' => e = .returned (.int .i64 3) ∧ Below w.heap.size w w'
    clear h g
    go_enter Try.func85, Try.ntmps85
    go_wp2
    go_ret
    exact ⟨rfl, bal (Below.refl _ _) _⟩
  · show Calls Try.prog 85 #[pv n x z f, .int .i64 j] w fun e w' => e = .returned (.int .i64 1) ∧ Below w.heap.size w w'
    clear h g
    go_enter Try.func85, Try.ntmps85
    go_wp2
    go_ret
    exact ⟨rfl, bal (Below.refl _ _) _⟩
  · show Calls Try.prog 85 #[pv n x z f, .int .i64 j] w fun e w' => e = .returned (.int .i64 2) ∧ Below w.heap.size w w'
    clear h g
    go_enter Try.func85, Try.ntmps85
    go_wp2
    go_ret
    exact ⟨rfl, bal (Below.refl _ _) _⟩

theorem product_any (a b : Nat) (w : World) (ha : a ≤ 3) (hb : b ≤ 3) :
    Calls Try.prog 84 #[.int .i64 a, .int .i64 b] w fun e w' => e = .returned (.tuple #[.int .i64 (prodK a b : Nat), .int .i64 (prodF a b : Nat)]) ∧ w' = w := by
  have h1 : a = 0 ∨ a = 1 ∨ a = 2 ∨ a = 3 := by omega
  have h2 : b = 0 ∨ b = 1 ∨ b = 2 ∨ b = 3 := by omega
  rcases h1 with rfl | rfl | rfl | rfl <;> rcases h2 with rfl | rfl | rfl | rfl
  all_goals
    go_enter Try.func84, Try.ntmps84
    go_wp2
    go_ret2
    exact ⟨rfl, rfl⟩

end Go.Proofs.Ytoddbaljnlhhaaa.PL
