/-
  What the six functions of a column tell.
-/
import Derived.Test.YtjmgcgjmaemgdaaK3
namespace Go.Proofs.Ytjmgcgjmaemgdaa
open Go.RowKit Go.Sort

/-- A column's function that tells one entry. -/
abbrev Col1 (f : Nat) (p y r0 p0 h0 : Int) : Prop := ∀ w, Calls Try.prog f #[.int .i64 p, .int .i64 y] w fun e w' => e = .returned (.slice (some ⟨w.heap.size, 0, none⟩) 1 1) ∧ w' = w.alloc (.cells #[.int .i64 r0, .int .i64 p0, .int .i64 h0] 67)
set_option maxHeartbeats 400000 in
theorem phase_any (p y z : Int) (hz : IntKind.i64.wrap (p * y) = z) : Col1 42 p y y z 0 := fun w => by
  go_enter Try.func42, Try.ntmps42
  go_wp2
  all_goals (go_ret; exact ⟨by simp, by simp⟩)
set_option maxHeartbeats 400000 in
theorem turn_any (p y : Int) : Col1 46 p y y p 0 := fun w => by
  go_enter Try.func46, Try.ntmps46
  go_wp2
  all_goals (go_ret; exact ⟨by simp, by simp⟩)
set_option maxHeartbeats 400000 in
theorem flip_any (p y z : Int) (h0 : 0 ≤ y) (h1 : y ≤ 1) (hz : IntKind.i64.wrap (p * (1 - 2 * y)) = z) : Col1 43 p y (1 - y) z 0 := fun w => by
  go_enter Try.func43, Try.ntmps43
  go_wp2
  all_goals (go_ret; exact ⟨by simp, by simp⟩)
set_option maxHeartbeats 400000 in
theorem half_any (p y z : Int) (h0 : 0 ≤ y) (h1 : y ≤ 1) (hz : IntKind.i64.wrap (p * (1 - 2 * y)) = z) (hz1 : -8 ≤ z) (hz2 : z ≤ 8) : Col2 45 p y 0 z 1 1 (-z) 1 := fun w => by
  go_enter Try.func45, Try.ntmps45
  go_wp2
  all_goals (go_ret; exact ⟨by simp, by simp⟩)
set_option maxHeartbeats 400000 in
theorem exchange_same (p y : Int) (h : y = 0 ∨ y = 3) : Col1 47 p y y 0 0 := fun w => by
  rcases h with rfl | rfl
  all_goals
    go_enter Try.func47, Try.ntmps47
    go_wp2
    go_ret
    exact ⟨rfl, rfl⟩
set_option maxHeartbeats 400000 in
theorem exchange_other (p y : Int) (h : y = 1 ∨ y = 2) : Col1 47 p y (3 - y) p 0 := fun w => by
  rcases h with rfl | rfl
  all_goals
    go_enter Try.func47, Try.ntmps47
    go_wp2
    go_ret
    exact ⟨rfl, rfl⟩
end Go.Proofs.Ytjmgcgjmaemgdaa
