/-
  Code and reference tell the same: pairs of contracts.
-/
import Derived.Test.YtinkdonaedoojaaL0
namespace Go.Proofs.Ytinkdonaedoojaa
open Go.RowKit

theorem eye_pair (N : Int) : ∃ (M : Int) (m : Nat) (F : Nat → Nat) (E : Int), (∀ w, Calls Try.prog 11 #[.int .i64 N] w fun e w' => LR w w' e M m F E) ∧ (∀ w, Calls Try.prog 12 #[.int .i64 N] w fun e w' => LR w w' e M m F E) := by
  by_cases h : 0 ≤ N ∧ N ≤ 64
  · obtain ⟨n, rfl⟩ : ∃ n : Nat, N = n := ⟨N.toNat, by omega⟩
    exact ⟨n, n, _, 0, fun w => eye_good n w (by omega), fun w => reye_good n w (by omega)⟩
  · exact ⟨0, 0, fun _ => 0, 2, fun w => eye_bad N _ w (by omega), fun w => reye_bad N _ w (by omega)⟩
section
variable {W : World} {N N' : Int} {n n' : Nat} {a a' : Option Addr} {c c' : Nat} {f g : Nat → Nat}
theorem check_pair (H : RR W a n f) : ∃ E : Int, (∀ w, Below W.heap.size W w → Calls Try.prog 9 #[lv N a n c] w fun e w' => e = .returned (.int .i64 E) ∧ Below w.heap.size w w') ∧ (∀ w, Below W.heap.size W w → Calls Try.prog 10 #[lv N a n c] w fun e w' => e = .returned (.int .i64 E) ∧ Below w.heap.size w w') := by
  obtain ⟨E, hE⟩ := gd_or N n f
  exact ⟨E, fun w h => check_any N n a c f E w (H.below h) hE, fun w h => rcheck_any N n a c f E w (H.below h) hE⟩
theorem mul_pair (H : RR W a n f) (H' : RR W a' n' g) : ∃ (M : Int) (m : Nat) (F : Nat → Nat) (E : Int), (∀ w, Below W.heap.size W w → Calls Try.prog 14 #[lv N a n c, lv N' a' n' c'] w fun e w' => LR w w' e M m F E) ∧ (∀ w, Below W.heap.size W w → Calls Try.prog 15 #[lv N a n c, lv N' a' n' c'] w fun e w' => LR w w' e M m F E) := by
  by_cases h : Gd N n f ∧ Gd N' n' g ∧ N = N'
  · obtain ⟨h1, h2, rfl⟩ := h
    have e1 := h1.2.2.1
    have e2 := h2.2.2.1
    subst e1
    obtain rfl : n' = n := by omega
    exact ⟨n', n', _, 0, fun w hb => mul_good n' a a' c c' f g w (H.below hb) (H'.below hb) h1 h2, fun w hb => rmul_good' n' a a' c c' f g w (H.below hb) (H'.below hb) h1 h2⟩
  · exact ⟨0, 0, fun _ => 0, 2, fun w hb => mul_bad N N' n n' a a' c c' f g _ w (H.below hb) (H'.below hb) h, fun w hb => rmul_bad N N' n n' a a' c c' f g _ w (H.below hb) (H'.below hb) h⟩
theorem apply_pair (H : RR W a n f) (x : Nat) (hx : x < 18446744073709551616) : ∃ (y : Nat) (E : Int), (∀ w, Below W.heap.size W w → Calls Try.prog 16 #[lv N a n c, .int .u64 x] w fun e w' => e = .returned (.tuple #[.int .u64 y, .int .i64 E]) ∧ Below w.heap.size w w') ∧ (∀ w, Below W.heap.size W w → Calls Try.prog 17 #[lv N a n c, .int .u64 x] w fun e w' => e = .returned (.tuple #[.int .u64 y, .int .i64 E]) ∧ Below w.heap.size w w') := by
  by_cases h : Gd N n f ∧ x < 2 ^ n
  · obtain ⟨h1, h2⟩ := h
    have e1 := h1.2.2.1
    subst e1
    exact ⟨_, 0, fun w hb => apply_good n a c f x w (H.below hb) h1 h2, fun w hb => rapply_good n a c f x w (H.below hb) h1 h2⟩
  · exact ⟨0, 2, fun w hb => apply_bad N n a c f x w (H.below hb) hx h, fun w hb => rapply_bad N n a c f x w (H.below hb) hx h⟩
theorem rank_pair (H : RR W a n f) : ∃ (k : Nat) (E : Int), (∀ w, Below W.heap.size W w → Calls Try.prog 18 #[lv N a n c] w fun e w' => e = .returned (.tuple #[.int .i64 k, .int .i64 E]) ∧ Below w.heap.size w w') ∧ (∀ w, Below W.heap.size W w → Calls Try.prog 19 #[lv N a n c] w fun e w' => e = .returned (.tuple #[.int .i64 k, .int .i64 E]) ∧ Below w.heap.size w w') := by
  by_cases h1 : Gd N n f
  · have e1 := h1.2.2.1
    subst e1
    exact ⟨_, 0, fun w hb => rank_good n a c f w (H.below hb) h1, fun w hb => rrank_good n a c f w (H.below hb) h1⟩
  · exact ⟨0, 2, fun w hb => rank_bad N n a c f w (H.below hb) h1, fun w hb => rrank_bad N n a c f w (H.below hb) h1⟩
theorem inverse_pair (H : RR W a n f) : ∃ (M : Int) (m : Nat) (F : Nat → Nat) (E : Int), (∀ w, Below W.heap.size W w → Calls Try.prog 20 #[lv N a n c] w fun e w' => LR w w' e M m F E) ∧ (∀ w, Below W.heap.size W w → Calls Try.prog 21 #[lv N a n c] w fun e w' => LR w w' e M m F E) := by
  by_cases h1 : Gd N n f
  · have e1 := h1.2.2.1
    subst e1
    by_cases hr : rk n f = n
    · refine ⟨n, n, iv n f, 0, fun w hb => (inverse_good n a c f w (H.below hb) h1).mono ?_, fun w hb => (rinverse_good n a c f w (H.below hb) h1).mono ?_⟩
      all_goals
        rintro e w' (⟨_, h⟩ | ⟨h, _⟩)
        · exact h
        · omega
    · refine ⟨0, 0, iv n f, 200, fun w hb => (inverse_good n a c f w (H.below hb) h1).mono ?_, fun w hb => (rinverse_good n a c f w (H.below hb) h1).mono ?_⟩
      all_goals
        rintro e w' (⟨h, _⟩ | ⟨_, h⟩)
        · exact absurd h hr
        · exact h
  · exact ⟨0, 0, fun _ => 0, 2, fun w hb => inverse_bad N n a c f _ w (H.below hb) h1, fun w hb => rinverse_bad N n a c f _ w (H.below hb) h1⟩
end
/-- Two slices of one's own that hold the same: Same tells so. -/
theorem same_os {W : World} {B B' : Nat} {v v' : Value} {M : Int} {m : Nat} {F : Nat → Nat} (h : OS W B v m F) (h' : OS W B' v' m F) :
    Calls Try.prog 13 #[.agg #[.int .i64 M, v], .agg #[.int .i64 M, v']] W fun e w' => e = .returned (.bool true) ∧ Below W.heap.size W w' := by
  obtain ⟨a, c, rfl, hr⟩ := h.rr
  obtain ⟨a', c', rfl, hr'⟩ := h'.rr
  exact same_any M M m m a a' c c' F F W hr hr' true (fun _ _ _ => rfl) (fun h => absurd ⟨rfl, rfl, fun _ _ => rfl⟩ h)
end Go.Proofs.Ytinkdonaedoojaa
