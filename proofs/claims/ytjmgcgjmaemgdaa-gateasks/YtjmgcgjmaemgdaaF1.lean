/-
  The reference's Arity, Halves, Clifford, Diagonal, Inverse: at each gate, and where there is none.
-/
import Derived.Test.YtjmgcgjmaemgdaaD0
namespace Go.Proofs.Ytjmgcgjmaemgdaa
open Go.RowKit Go.Sort

set_option maxRecDepth 100000 in
theorem rarity_0 (w : World) : Calls Try.prog 9 #[.string ⟨#[105]⟩] w fun e w' => e = .returned (.int .i64 1) ∧ w' = w := by
  go_enter Try.func9, Try.ntmps9
  go_wp2
  go_ret
  exact ⟨rfl, rfl⟩
set_option maxRecDepth 100000 in
theorem rarity_1 (w : World) : Calls Try.prog 9 #[.string ⟨#[120]⟩] w fun e w' => e = .returned (.int .i64 1) ∧ w' = w := by
  go_enter Try.func9, Try.ntmps9
  go_wp2
  go_ret
  exact ⟨rfl, rfl⟩
set_option maxRecDepth 100000 in
theorem rarity_2 (w : World) : Calls Try.prog 9 #[.string ⟨#[121]⟩] w fun e w' => e = .returned (.int .i64 1) ∧ w' = w := by
  go_enter Try.func9, Try.ntmps9
  go_wp2
  go_ret
  exact ⟨rfl, rfl⟩
set_option maxRecDepth 100000 in
theorem rarity_3 (w : World) : Calls Try.prog 9 #[.string ⟨#[122]⟩] w fun e w' => e = .returned (.int .i64 1) ∧ w' = w := by
  go_enter Try.func9, Try.ntmps9
  go_wp2
  go_ret
  exact ⟨rfl, rfl⟩
set_option maxRecDepth 100000 in
theorem rarity_4 (w : World) : Calls Try.prog 9 #[.string ⟨#[104]⟩] w fun e w' => e = .returned (.int .i64 1) ∧ w' = w := by
  go_enter Try.func9, Try.ntmps9
  go_wp2
  go_ret
  exact ⟨rfl, rfl⟩
set_option maxRecDepth 100000 in
theorem rarity_5 (w : World) : Calls Try.prog 9 #[.string ⟨#[115]⟩] w fun e w' => e = .returned (.int .i64 1) ∧ w' = w := by
  go_enter Try.func9, Try.ntmps9
  go_wp2
  go_ret
  exact ⟨rfl, rfl⟩
set_option maxRecDepth 100000 in
theorem rarity_6 (w : World) : Calls Try.prog 9 #[.string ⟨#[115, 100, 103]⟩] w fun e w' => e = .returned (.int .i64 1) ∧ w' = w := by
  go_enter Try.func9, Try.ntmps9
  go_wp2
  go_ret
  exact ⟨rfl, rfl⟩
set_option maxRecDepth 100000 in
theorem rarity_7 (w : World) : Calls Try.prog 9 #[.string ⟨#[116]⟩] w fun e w' => e = .returned (.int .i64 1) ∧ w' = w := by
  go_enter Try.func9, Try.ntmps9
  go_wp2
  go_ret
  exact ⟨rfl, rfl⟩
set_option maxRecDepth 100000 in
theorem rarity_8 (w : World) : Calls Try.prog 9 #[.string ⟨#[116, 100, 103]⟩] w fun e w' => e = .returned (.int .i64 1) ∧ w' = w := by
  go_enter Try.func9, Try.ntmps9
  go_wp2
  go_ret
  exact ⟨rfl, rfl⟩
set_option maxRecDepth 100000 in
theorem rarity_9 (w : World) : Calls Try.prog 9 #[.string ⟨#[118]⟩] w fun e w' => e = .returned (.int .i64 1) ∧ w' = w := by
  go_enter Try.func9, Try.ntmps9
  go_wp2
  go_ret
  exact ⟨rfl, rfl⟩
set_option maxRecDepth 100000 in
theorem rarity_10 (w : World) : Calls Try.prog 9 #[.string ⟨#[118, 100, 103]⟩] w fun e w' => e = .returned (.int .i64 1) ∧ w' = w := by
  go_enter Try.func9, Try.ntmps9
  go_wp2
  go_ret
  exact ⟨rfl, rfl⟩
set_option maxRecDepth 100000 in
theorem rarity_11 (w : World) : Calls Try.prog 9 #[.string ⟨#[119]⟩] w fun e w' => e = .returned (.int .i64 1) ∧ w' = w := by
  go_enter Try.func9, Try.ntmps9
  go_wp2
  go_ret
  exact ⟨rfl, rfl⟩
set_option maxRecDepth 100000 in
theorem rarity_12 (w : World) : Calls Try.prog 9 #[.string ⟨#[119, 100, 103]⟩] w fun e w' => e = .returned (.int .i64 1) ∧ w' = w := by
  go_enter Try.func9, Try.ntmps9
  go_wp2
  go_ret
  exact ⟨rfl, rfl⟩
set_option maxRecDepth 100000 in
theorem rarity_13 (w : World) : Calls Try.prog 9 #[.string ⟨#[99, 120]⟩] w fun e w' => e = .returned (.int .i64 2) ∧ w' = w := by
  go_enter Try.func9, Try.ntmps9
  go_wp2
  go_ret
  exact ⟨rfl, rfl⟩
set_option maxRecDepth 100000 in
theorem rarity_14 (w : World) : Calls Try.prog 9 #[.string ⟨#[99, 121]⟩] w fun e w' => e = .returned (.int .i64 2) ∧ w' = w := by
  go_enter Try.func9, Try.ntmps9
  go_wp2
  go_ret
  exact ⟨rfl, rfl⟩
set_option maxRecDepth 100000 in
theorem rarity_15 (w : World) : Calls Try.prog 9 #[.string ⟨#[99, 122]⟩] w fun e w' => e = .returned (.int .i64 2) ∧ w' = w := by
  go_enter Try.func9, Try.ntmps9
  go_wp2
  go_ret
  exact ⟨rfl, rfl⟩
set_option maxRecDepth 100000 in
theorem rarity_16 (w : World) : Calls Try.prog 9 #[.string ⟨#[99, 104]⟩] w fun e w' => e = .returned (.int .i64 2) ∧ w' = w := by
  go_enter Try.func9, Try.ntmps9
  go_wp2
  go_ret
  exact ⟨rfl, rfl⟩
set_option maxRecDepth 100000 in
theorem rarity_17 (w : World) : Calls Try.prog 9 #[.string ⟨#[99, 115]⟩] w fun e w' => e = .returned (.int .i64 2) ∧ w' = w := by
  go_enter Try.func9, Try.ntmps9
  go_wp2
  go_ret
  exact ⟨rfl, rfl⟩
set_option maxRecDepth 100000 in
theorem rarity_18 (w : World) : Calls Try.prog 9 #[.string ⟨#[99, 115, 100, 103]⟩] w fun e w' => e = .returned (.int .i64 2) ∧ w' = w := by
  go_enter Try.func9, Try.ntmps9
  go_wp2
  go_ret
  exact ⟨rfl, rfl⟩
set_option maxRecDepth 100000 in
theorem rarity_19 (w : World) : Calls Try.prog 9 #[.string ⟨#[115, 119, 97, 112]⟩] w fun e w' => e = .returned (.int .i64 2) ∧ w' = w := by
  go_enter Try.func9, Try.ntmps9
  go_wp2
  go_ret
  exact ⟨rfl, rfl⟩
set_option maxRecDepth 100000 in
theorem rarity_20 (w : World) : Calls Try.prog 9 #[.string ⟨#[105, 115, 119, 97, 112]⟩] w fun e w' => e = .returned (.int .i64 2) ∧ w' = w := by
  go_enter Try.func9, Try.ntmps9
  go_wp2
  go_ret
  exact ⟨rfl, rfl⟩
set_option maxRecDepth 100000 in
theorem rarity_21 (w : World) : Calls Try.prog 9 #[.string ⟨#[105, 115, 119, 97, 112, 100, 103]⟩] w fun e w' => e = .returned (.int .i64 2) ∧ w' = w := by
  go_enter Try.func9, Try.ntmps9
  go_wp2
  go_ret
  exact ⟨rfl, rfl⟩
set_option maxRecDepth 100000 in
theorem rarity_22 (w : World) : Calls Try.prog 9 #[.string ⟨#[99, 99, 120]⟩] w fun e w' => e = .returned (.int .i64 3) ∧ w' = w := by
  go_enter Try.func9, Try.ntmps9
  go_wp2
  go_ret
  exact ⟨rfl, rfl⟩
set_option maxRecDepth 100000 in
theorem rarity_23 (w : World) : Calls Try.prog 9 #[.string ⟨#[99, 99, 122]⟩] w fun e w' => e = .returned (.int .i64 3) ∧ w' = w := by
  go_enter Try.func9, Try.ntmps9
  go_wp2
  go_ret
  exact ⟨rfl, rfl⟩
set_option maxRecDepth 100000 in
theorem rarity_24 (w : World) : Calls Try.prog 9 #[.string ⟨#[99, 115, 119, 97, 112]⟩] w fun e w' => e = .returned (.int .i64 3) ∧ w' = w := by
  go_enter Try.func9, Try.ntmps9
  go_wp2
  go_ret
  exact ⟨rfl, rfl⟩
set_option maxRecDepth 100000 in
theorem rhalves_0 (w : World) : Calls Try.prog 11 #[.string ⟨#[105]⟩] w fun e w' => e = .returned (.int .i64 0) ∧ w' = w := by
  go_enter Try.func11, Try.ntmps11
  go_wp2
  go_ret
  exact ⟨rfl, rfl⟩
set_option maxRecDepth 100000 in
theorem rhalves_1 (w : World) : Calls Try.prog 11 #[.string ⟨#[120]⟩] w fun e w' => e = .returned (.int .i64 0) ∧ w' = w := by
  go_enter Try.func11, Try.ntmps11
  go_wp2
  go_ret
  exact ⟨rfl, rfl⟩
set_option maxRecDepth 100000 in
theorem rhalves_2 (w : World) : Calls Try.prog 11 #[.string ⟨#[121]⟩] w fun e w' => e = .returned (.int .i64 0) ∧ w' = w := by
  go_enter Try.func11, Try.ntmps11
  go_wp2
  go_ret
  exact ⟨rfl, rfl⟩
set_option maxRecDepth 100000 in
theorem rhalves_3 (w : World) : Calls Try.prog 11 #[.string ⟨#[122]⟩] w fun e w' => e = .returned (.int .i64 0) ∧ w' = w := by
  go_enter Try.func11, Try.ntmps11
  go_wp2
  go_ret
  exact ⟨rfl, rfl⟩
set_option maxRecDepth 100000 in
theorem rhalves_4 (w : World) : Calls Try.prog 11 #[.string ⟨#[104]⟩] w fun e w' => e = .returned (.int .i64 1) ∧ w' = w := by
  go_enter Try.func11, Try.ntmps11
  go_wp2
  go_ret
  exact ⟨rfl, rfl⟩
set_option maxRecDepth 100000 in
theorem rhalves_5 (w : World) : Calls Try.prog 11 #[.string ⟨#[115]⟩] w fun e w' => e = .returned (.int .i64 0) ∧ w' = w := by
  go_enter Try.func11, Try.ntmps11
  go_wp2
  go_ret
  exact ⟨rfl, rfl⟩
set_option maxRecDepth 100000 in
theorem rhalves_6 (w : World) : Calls Try.prog 11 #[.string ⟨#[115, 100, 103]⟩] w fun e w' => e = .returned (.int .i64 0) ∧ w' = w := by
  go_enter Try.func11, Try.ntmps11
  go_wp2
  go_ret
  exact ⟨rfl, rfl⟩
set_option maxRecDepth 100000 in
theorem rhalves_7 (w : World) : Calls Try.prog 11 #[.string ⟨#[116]⟩] w fun e w' => e = .returned (.int .i64 0) ∧ w' = w := by
  go_enter Try.func11, Try.ntmps11
  go_wp2
  go_ret
  exact ⟨rfl, rfl⟩
set_option maxRecDepth 100000 in
theorem rhalves_8 (w : World) : Calls Try.prog 11 #[.string ⟨#[116, 100, 103]⟩] w fun e w' => e = .returned (.int .i64 0) ∧ w' = w := by
  go_enter Try.func11, Try.ntmps11
  go_wp2
  go_ret
  exact ⟨rfl, rfl⟩
set_option maxRecDepth 100000 in
theorem rhalves_9 (w : World) : Calls Try.prog 11 #[.string ⟨#[118]⟩] w fun e w' => e = .returned (.int .i64 1) ∧ w' = w := by
  go_enter Try.func11, Try.ntmps11
  go_wp2
  go_ret
  exact ⟨rfl, rfl⟩
set_option maxRecDepth 100000 in
theorem rhalves_10 (w : World) : Calls Try.prog 11 #[.string ⟨#[118, 100, 103]⟩] w fun e w' => e = .returned (.int .i64 1) ∧ w' = w := by
  go_enter Try.func11, Try.ntmps11
  go_wp2
  go_ret
  exact ⟨rfl, rfl⟩
set_option maxRecDepth 100000 in
theorem rhalves_11 (w : World) : Calls Try.prog 11 #[.string ⟨#[119]⟩] w fun e w' => e = .returned (.int .i64 0) ∧ w' = w := by
  go_enter Try.func11, Try.ntmps11
  go_wp2
  go_ret
  exact ⟨rfl, rfl⟩
set_option maxRecDepth 100000 in
theorem rhalves_12 (w : World) : Calls Try.prog 11 #[.string ⟨#[119, 100, 103]⟩] w fun e w' => e = .returned (.int .i64 0) ∧ w' = w := by
  go_enter Try.func11, Try.ntmps11
  go_wp2
  go_ret
  exact ⟨rfl, rfl⟩
set_option maxRecDepth 100000 in
theorem rhalves_13 (w : World) : Calls Try.prog 11 #[.string ⟨#[99, 120]⟩] w fun e w' => e = .returned (.int .i64 0) ∧ w' = w := by
  go_enter Try.func11, Try.ntmps11
  go_wp2
  go_ret
  exact ⟨rfl, rfl⟩
set_option maxRecDepth 100000 in
theorem rhalves_14 (w : World) : Calls Try.prog 11 #[.string ⟨#[99, 121]⟩] w fun e w' => e = .returned (.int .i64 0) ∧ w' = w := by
  go_enter Try.func11, Try.ntmps11
  go_wp2
  go_ret
  exact ⟨rfl, rfl⟩
set_option maxRecDepth 100000 in
theorem rhalves_15 (w : World) : Calls Try.prog 11 #[.string ⟨#[99, 122]⟩] w fun e w' => e = .returned (.int .i64 0) ∧ w' = w := by
  go_enter Try.func11, Try.ntmps11
  go_wp2
  go_ret
  exact ⟨rfl, rfl⟩
set_option maxRecDepth 100000 in
theorem rhalves_16 (w : World) : Calls Try.prog 11 #[.string ⟨#[99, 104]⟩] w fun e w' => e = .returned (.int .i64 1) ∧ w' = w := by
  go_enter Try.func11, Try.ntmps11
  go_wp2
  go_ret
  exact ⟨rfl, rfl⟩
set_option maxRecDepth 100000 in
theorem rhalves_17 (w : World) : Calls Try.prog 11 #[.string ⟨#[99, 115]⟩] w fun e w' => e = .returned (.int .i64 0) ∧ w' = w := by
  go_enter Try.func11, Try.ntmps11
  go_wp2
  go_ret
  exact ⟨rfl, rfl⟩
set_option maxRecDepth 100000 in
theorem rhalves_18 (w : World) : Calls Try.prog 11 #[.string ⟨#[99, 115, 100, 103]⟩] w fun e w' => e = .returned (.int .i64 0) ∧ w' = w := by
  go_enter Try.func11, Try.ntmps11
  go_wp2
  go_ret
  exact ⟨rfl, rfl⟩
set_option maxRecDepth 100000 in
theorem rhalves_19 (w : World) : Calls Try.prog 11 #[.string ⟨#[115, 119, 97, 112]⟩] w fun e w' => e = .returned (.int .i64 0) ∧ w' = w := by
  go_enter Try.func11, Try.ntmps11
  go_wp2
  go_ret
  exact ⟨rfl, rfl⟩
set_option maxRecDepth 100000 in
theorem rhalves_20 (w : World) : Calls Try.prog 11 #[.string ⟨#[105, 115, 119, 97, 112]⟩] w fun e w' => e = .returned (.int .i64 0) ∧ w' = w := by
  go_enter Try.func11, Try.ntmps11
  go_wp2
  go_ret
  exact ⟨rfl, rfl⟩
set_option maxRecDepth 100000 in
theorem rhalves_21 (w : World) : Calls Try.prog 11 #[.string ⟨#[105, 115, 119, 97, 112, 100, 103]⟩] w fun e w' => e = .returned (.int .i64 0) ∧ w' = w := by
  go_enter Try.func11, Try.ntmps11
  go_wp2
  go_ret
  exact ⟨rfl, rfl⟩
set_option maxRecDepth 100000 in
theorem rhalves_22 (w : World) : Calls Try.prog 11 #[.string ⟨#[99, 99, 120]⟩] w fun e w' => e = .returned (.int .i64 0) ∧ w' = w := by
  go_enter Try.func11, Try.ntmps11
  go_wp2
  go_ret
  exact ⟨rfl, rfl⟩
set_option maxRecDepth 100000 in
theorem rhalves_23 (w : World) : Calls Try.prog 11 #[.string ⟨#[99, 99, 122]⟩] w fun e w' => e = .returned (.int .i64 0) ∧ w' = w := by
  go_enter Try.func11, Try.ntmps11
  go_wp2
  go_ret
  exact ⟨rfl, rfl⟩
set_option maxRecDepth 100000 in
theorem rhalves_24 (w : World) : Calls Try.prog 11 #[.string ⟨#[99, 115, 119, 97, 112]⟩] w fun e w' => e = .returned (.int .i64 0) ∧ w' = w := by
  go_enter Try.func11, Try.ntmps11
  go_wp2
  go_ret
  exact ⟨rfl, rfl⟩
set_option maxRecDepth 100000 in
theorem rclifford_0 (w : World) : Calls Try.prog 13 #[.string ⟨#[105]⟩] w fun e w' => e = .returned (.bool true) ∧ w' = w := by
  have A := fun w => rarity_0 w
  go_enter Try.func13, Try.ntmps13
  go_wp2_with (go_at_call 9; (with_reducible refine (A _).mono ?_); rintro e w1 ⟨rfl, rfl⟩)
  go_ret
  exact ⟨rfl, rfl⟩
set_option maxRecDepth 100000 in
theorem rclifford_1 (w : World) : Calls Try.prog 13 #[.string ⟨#[120]⟩] w fun e w' => e = .returned (.bool true) ∧ w' = w := by
  have A := fun w => rarity_1 w
  go_enter Try.func13, Try.ntmps13
  go_wp2_with (go_at_call 9; (with_reducible refine (A _).mono ?_); rintro e w1 ⟨rfl, rfl⟩)
  go_ret
  exact ⟨rfl, rfl⟩
set_option maxRecDepth 100000 in
theorem rclifford_2 (w : World) : Calls Try.prog 13 #[.string ⟨#[121]⟩] w fun e w' => e = .returned (.bool true) ∧ w' = w := by
  have A := fun w => rarity_2 w
  go_enter Try.func13, Try.ntmps13
  go_wp2_with (go_at_call 9; (with_reducible refine (A _).mono ?_); rintro e w1 ⟨rfl, rfl⟩)
  go_ret
  exact ⟨rfl, rfl⟩
set_option maxRecDepth 100000 in
theorem rclifford_3 (w : World) : Calls Try.prog 13 #[.string ⟨#[122]⟩] w fun e w' => e = .returned (.bool true) ∧ w' = w := by
  have A := fun w => rarity_3 w
  go_enter Try.func13, Try.ntmps13
  go_wp2_with (go_at_call 9; (with_reducible refine (A _).mono ?_); rintro e w1 ⟨rfl, rfl⟩)
  go_ret
  exact ⟨rfl, rfl⟩
set_option maxRecDepth 100000 in
theorem rclifford_4 (w : World) : Calls Try.prog 13 #[.string ⟨#[104]⟩] w fun e w' => e = .returned (.bool true) ∧ w' = w := by
  have A := fun w => rarity_4 w
  go_enter Try.func13, Try.ntmps13
  go_wp2_with (go_at_call 9; (with_reducible refine (A _).mono ?_); rintro e w1 ⟨rfl, rfl⟩)
  go_ret
  exact ⟨rfl, rfl⟩
set_option maxRecDepth 100000 in
theorem rclifford_5 (w : World) : Calls Try.prog 13 #[.string ⟨#[115]⟩] w fun e w' => e = .returned (.bool true) ∧ w' = w := by
  have A := fun w => rarity_5 w
  go_enter Try.func13, Try.ntmps13
  go_wp2_with (go_at_call 9; (with_reducible refine (A _).mono ?_); rintro e w1 ⟨rfl, rfl⟩)
  go_ret
  exact ⟨rfl, rfl⟩
set_option maxRecDepth 100000 in
theorem rclifford_6 (w : World) : Calls Try.prog 13 #[.string ⟨#[115, 100, 103]⟩] w fun e w' => e = .returned (.bool true) ∧ w' = w := by
  have A := fun w => rarity_6 w
  go_enter Try.func13, Try.ntmps13
  go_wp2_with (go_at_call 9; (with_reducible refine (A _).mono ?_); rintro e w1 ⟨rfl, rfl⟩)
  go_ret
  exact ⟨rfl, rfl⟩
set_option maxRecDepth 100000 in
theorem rclifford_7 (w : World) : Calls Try.prog 13 #[.string ⟨#[116]⟩] w fun e w' => e = .returned (.bool false) ∧ w' = w := by
  have A := fun w => rarity_7 w
  go_enter Try.func13, Try.ntmps13
  go_wp2_with (go_at_call 9; (with_reducible refine (A _).mono ?_); rintro e w1 ⟨rfl, rfl⟩)
  go_ret
  exact ⟨rfl, rfl⟩
set_option maxRecDepth 100000 in
theorem rclifford_8 (w : World) : Calls Try.prog 13 #[.string ⟨#[116, 100, 103]⟩] w fun e w' => e = .returned (.bool false) ∧ w' = w := by
  have A := fun w => rarity_8 w
  go_enter Try.func13, Try.ntmps13
  go_wp2_with (go_at_call 9; (with_reducible refine (A _).mono ?_); rintro e w1 ⟨rfl, rfl⟩)
  go_ret
  exact ⟨rfl, rfl⟩
set_option maxRecDepth 100000 in
theorem rclifford_9 (w : World) : Calls Try.prog 13 #[.string ⟨#[118]⟩] w fun e w' => e = .returned (.bool true) ∧ w' = w := by
  have A := fun w => rarity_9 w
  go_enter Try.func13, Try.ntmps13
  go_wp2_with (go_at_call 9; (with_reducible refine (A _).mono ?_); rintro e w1 ⟨rfl, rfl⟩)
  go_ret
  exact ⟨rfl, rfl⟩
set_option maxRecDepth 100000 in
theorem rclifford_10 (w : World) : Calls Try.prog 13 #[.string ⟨#[118, 100, 103]⟩] w fun e w' => e = .returned (.bool true) ∧ w' = w := by
  have A := fun w => rarity_10 w
  go_enter Try.func13, Try.ntmps13
  go_wp2_with (go_at_call 9; (with_reducible refine (A _).mono ?_); rintro e w1 ⟨rfl, rfl⟩)
  go_ret
  exact ⟨rfl, rfl⟩
set_option maxRecDepth 100000 in
theorem rclifford_11 (w : World) : Calls Try.prog 13 #[.string ⟨#[119]⟩] w fun e w' => e = .returned (.bool true) ∧ w' = w := by
  have A := fun w => rarity_11 w
  go_enter Try.func13, Try.ntmps13
  go_wp2_with (go_at_call 9; (with_reducible refine (A _).mono ?_); rintro e w1 ⟨rfl, rfl⟩)
  go_ret
  exact ⟨rfl, rfl⟩
set_option maxRecDepth 100000 in
theorem rclifford_12 (w : World) : Calls Try.prog 13 #[.string ⟨#[119, 100, 103]⟩] w fun e w' => e = .returned (.bool true) ∧ w' = w := by
  have A := fun w => rarity_12 w
  go_enter Try.func13, Try.ntmps13
  go_wp2_with (go_at_call 9; (with_reducible refine (A _).mono ?_); rintro e w1 ⟨rfl, rfl⟩)
  go_ret
  exact ⟨rfl, rfl⟩
set_option maxRecDepth 100000 in
theorem rclifford_13 (w : World) : Calls Try.prog 13 #[.string ⟨#[99, 120]⟩] w fun e w' => e = .returned (.bool true) ∧ w' = w := by
  have A := fun w => rarity_13 w
  go_enter Try.func13, Try.ntmps13
  go_wp2_with (go_at_call 9; (with_reducible refine (A _).mono ?_); rintro e w1 ⟨rfl, rfl⟩)
  go_ret
  exact ⟨rfl, rfl⟩
set_option maxRecDepth 100000 in
theorem rclifford_14 (w : World) : Calls Try.prog 13 #[.string ⟨#[99, 121]⟩] w fun e w' => e = .returned (.bool true) ∧ w' = w := by
  have A := fun w => rarity_14 w
  go_enter Try.func13, Try.ntmps13
  go_wp2_with (go_at_call 9; (with_reducible refine (A _).mono ?_); rintro e w1 ⟨rfl, rfl⟩)
  go_ret
  exact ⟨rfl, rfl⟩
set_option maxRecDepth 100000 in
theorem rclifford_15 (w : World) : Calls Try.prog 13 #[.string ⟨#[99, 122]⟩] w fun e w' => e = .returned (.bool true) ∧ w' = w := by
  have A := fun w => rarity_15 w
  go_enter Try.func13, Try.ntmps13
  go_wp2_with (go_at_call 9; (with_reducible refine (A _).mono ?_); rintro e w1 ⟨rfl, rfl⟩)
  go_ret
  exact ⟨rfl, rfl⟩
set_option maxRecDepth 100000 in
theorem rclifford_16 (w : World) : Calls Try.prog 13 #[.string ⟨#[99, 104]⟩] w fun e w' => e = .returned (.bool false) ∧ w' = w := by
  have A := fun w => rarity_16 w
  go_enter Try.func13, Try.ntmps13
  go_wp2_with (go_at_call 9; (with_reducible refine (A _).mono ?_); rintro e w1 ⟨rfl, rfl⟩)
  go_ret
  exact ⟨rfl, rfl⟩
set_option maxRecDepth 100000 in
theorem rclifford_17 (w : World) : Calls Try.prog 13 #[.string ⟨#[99, 115]⟩] w fun e w' => e = .returned (.bool false) ∧ w' = w := by
  have A := fun w => rarity_17 w
  go_enter Try.func13, Try.ntmps13
  go_wp2_with (go_at_call 9; (with_reducible refine (A _).mono ?_); rintro e w1 ⟨rfl, rfl⟩)
  go_ret
  exact ⟨rfl, rfl⟩
set_option maxRecDepth 100000 in
theorem rclifford_18 (w : World) : Calls Try.prog 13 #[.string ⟨#[99, 115, 100, 103]⟩] w fun e w' => e = .returned (.bool false) ∧ w' = w := by
  have A := fun w => rarity_18 w
  go_enter Try.func13, Try.ntmps13
  go_wp2_with (go_at_call 9; (with_reducible refine (A _).mono ?_); rintro e w1 ⟨rfl, rfl⟩)
  go_ret
  exact ⟨rfl, rfl⟩
set_option maxRecDepth 100000 in
theorem rclifford_19 (w : World) : Calls Try.prog 13 #[.string ⟨#[115, 119, 97, 112]⟩] w fun e w' => e = .returned (.bool true) ∧ w' = w := by
  have A := fun w => rarity_19 w
  go_enter Try.func13, Try.ntmps13
  go_wp2_with (go_at_call 9; (with_reducible refine (A _).mono ?_); rintro e w1 ⟨rfl, rfl⟩)
  go_ret
  exact ⟨rfl, rfl⟩
set_option maxRecDepth 100000 in
theorem rclifford_20 (w : World) : Calls Try.prog 13 #[.string ⟨#[105, 115, 119, 97, 112]⟩] w fun e w' => e = .returned (.bool true) ∧ w' = w := by
  have A := fun w => rarity_20 w
  go_enter Try.func13, Try.ntmps13
  go_wp2_with (go_at_call 9; (with_reducible refine (A _).mono ?_); rintro e w1 ⟨rfl, rfl⟩)
  go_ret
  exact ⟨rfl, rfl⟩
set_option maxRecDepth 100000 in
theorem rclifford_21 (w : World) : Calls Try.prog 13 #[.string ⟨#[105, 115, 119, 97, 112, 100, 103]⟩] w fun e w' => e = .returned (.bool true) ∧ w' = w := by
  have A := fun w => rarity_21 w
  go_enter Try.func13, Try.ntmps13
  go_wp2_with (go_at_call 9; (with_reducible refine (A _).mono ?_); rintro e w1 ⟨rfl, rfl⟩)
  go_ret
  exact ⟨rfl, rfl⟩
set_option maxRecDepth 100000 in
theorem rclifford_22 (w : World) : Calls Try.prog 13 #[.string ⟨#[99, 99, 120]⟩] w fun e w' => e = .returned (.bool false) ∧ w' = w := by
  have A := fun w => rarity_22 w
  go_enter Try.func13, Try.ntmps13
  go_wp2_with (go_at_call 9; (with_reducible refine (A _).mono ?_); rintro e w1 ⟨rfl, rfl⟩)
  go_ret
  exact ⟨rfl, rfl⟩
set_option maxRecDepth 100000 in
theorem rclifford_23 (w : World) : Calls Try.prog 13 #[.string ⟨#[99, 99, 122]⟩] w fun e w' => e = .returned (.bool false) ∧ w' = w := by
  have A := fun w => rarity_23 w
  go_enter Try.func13, Try.ntmps13
  go_wp2_with (go_at_call 9; (with_reducible refine (A _).mono ?_); rintro e w1 ⟨rfl, rfl⟩)
  go_ret
  exact ⟨rfl, rfl⟩
set_option maxRecDepth 100000 in
theorem rclifford_24 (w : World) : Calls Try.prog 13 #[.string ⟨#[99, 115, 119, 97, 112]⟩] w fun e w' => e = .returned (.bool false) ∧ w' = w := by
  have A := fun w => rarity_24 w
  go_enter Try.func13, Try.ntmps13
  go_wp2_with (go_at_call 9; (with_reducible refine (A _).mono ?_); rintro e w1 ⟨rfl, rfl⟩)
  go_ret
  exact ⟨rfl, rfl⟩
set_option maxRecDepth 100000 in
theorem rdiagonal_0 (w : World) : Calls Try.prog 15 #[.string ⟨#[105]⟩] w fun e w' => e = .returned (.bool true) ∧ w' = w := by
  go_enter Try.func15, Try.ntmps15
  go_wp2
  go_ret
  exact ⟨rfl, rfl⟩
set_option maxRecDepth 100000 in
theorem rdiagonal_1 (w : World) : Calls Try.prog 15 #[.string ⟨#[120]⟩] w fun e w' => e = .returned (.bool false) ∧ w' = w := by
  go_enter Try.func15, Try.ntmps15
  go_wp2
  go_ret
  exact ⟨rfl, rfl⟩
set_option maxRecDepth 100000 in
theorem rdiagonal_2 (w : World) : Calls Try.prog 15 #[.string ⟨#[121]⟩] w fun e w' => e = .returned (.bool false) ∧ w' = w := by
  go_enter Try.func15, Try.ntmps15
  go_wp2
  go_ret
  exact ⟨rfl, rfl⟩
set_option maxRecDepth 100000 in
theorem rdiagonal_3 (w : World) : Calls Try.prog 15 #[.string ⟨#[122]⟩] w fun e w' => e = .returned (.bool true) ∧ w' = w := by
  go_enter Try.func15, Try.ntmps15
  go_wp2
  go_ret
  exact ⟨rfl, rfl⟩
set_option maxRecDepth 100000 in
theorem rdiagonal_4 (w : World) : Calls Try.prog 15 #[.string ⟨#[104]⟩] w fun e w' => e = .returned (.bool false) ∧ w' = w := by
  go_enter Try.func15, Try.ntmps15
  go_wp2
  go_ret
  exact ⟨rfl, rfl⟩
set_option maxRecDepth 100000 in
theorem rdiagonal_5 (w : World) : Calls Try.prog 15 #[.string ⟨#[115]⟩] w fun e w' => e = .returned (.bool true) ∧ w' = w := by
  go_enter Try.func15, Try.ntmps15
  go_wp2
  go_ret
  exact ⟨rfl, rfl⟩
set_option maxRecDepth 100000 in
theorem rdiagonal_6 (w : World) : Calls Try.prog 15 #[.string ⟨#[115, 100, 103]⟩] w fun e w' => e = .returned (.bool true) ∧ w' = w := by
  go_enter Try.func15, Try.ntmps15
  go_wp2
  go_ret
  exact ⟨rfl, rfl⟩
set_option maxRecDepth 100000 in
theorem rdiagonal_7 (w : World) : Calls Try.prog 15 #[.string ⟨#[116]⟩] w fun e w' => e = .returned (.bool true) ∧ w' = w := by
  go_enter Try.func15, Try.ntmps15
  go_wp2
  go_ret
  exact ⟨rfl, rfl⟩
set_option maxRecDepth 100000 in
theorem rdiagonal_8 (w : World) : Calls Try.prog 15 #[.string ⟨#[116, 100, 103]⟩] w fun e w' => e = .returned (.bool true) ∧ w' = w := by
  go_enter Try.func15, Try.ntmps15
  go_wp2
  go_ret
  exact ⟨rfl, rfl⟩
set_option maxRecDepth 100000 in
theorem rdiagonal_9 (w : World) : Calls Try.prog 15 #[.string ⟨#[118]⟩] w fun e w' => e = .returned (.bool false) ∧ w' = w := by
  go_enter Try.func15, Try.ntmps15
  go_wp2
  go_ret
  exact ⟨rfl, rfl⟩
set_option maxRecDepth 100000 in
theorem rdiagonal_10 (w : World) : Calls Try.prog 15 #[.string ⟨#[118, 100, 103]⟩] w fun e w' => e = .returned (.bool false) ∧ w' = w := by
  go_enter Try.func15, Try.ntmps15
  go_wp2
  go_ret
  exact ⟨rfl, rfl⟩
set_option maxRecDepth 100000 in
theorem rdiagonal_11 (w : World) : Calls Try.prog 15 #[.string ⟨#[119]⟩] w fun e w' => e = .returned (.bool true) ∧ w' = w := by
  go_enter Try.func15, Try.ntmps15
  go_wp2
  go_ret
  exact ⟨rfl, rfl⟩
set_option maxRecDepth 100000 in
theorem rdiagonal_12 (w : World) : Calls Try.prog 15 #[.string ⟨#[119, 100, 103]⟩] w fun e w' => e = .returned (.bool true) ∧ w' = w := by
  go_enter Try.func15, Try.ntmps15
  go_wp2
  go_ret
  exact ⟨rfl, rfl⟩
set_option maxRecDepth 100000 in
theorem rdiagonal_13 (w : World) : Calls Try.prog 15 #[.string ⟨#[99, 120]⟩] w fun e w' => e = .returned (.bool false) ∧ w' = w := by
  go_enter Try.func15, Try.ntmps15
  go_wp2
  go_ret
  exact ⟨rfl, rfl⟩
set_option maxRecDepth 100000 in
theorem rdiagonal_14 (w : World) : Calls Try.prog 15 #[.string ⟨#[99, 121]⟩] w fun e w' => e = .returned (.bool false) ∧ w' = w := by
  go_enter Try.func15, Try.ntmps15
  go_wp2
  go_ret
  exact ⟨rfl, rfl⟩
set_option maxRecDepth 100000 in
theorem rdiagonal_15 (w : World) : Calls Try.prog 15 #[.string ⟨#[99, 122]⟩] w fun e w' => e = .returned (.bool true) ∧ w' = w := by
  go_enter Try.func15, Try.ntmps15
  go_wp2
  go_ret
  exact ⟨rfl, rfl⟩
set_option maxRecDepth 100000 in
theorem rdiagonal_16 (w : World) : Calls Try.prog 15 #[.string ⟨#[99, 104]⟩] w fun e w' => e = .returned (.bool false) ∧ w' = w := by
  go_enter Try.func15, Try.ntmps15
  go_wp2
  go_ret
  exact ⟨rfl, rfl⟩
set_option maxRecDepth 100000 in
theorem rdiagonal_17 (w : World) : Calls Try.prog 15 #[.string ⟨#[99, 115]⟩] w fun e w' => e = .returned (.bool true) ∧ w' = w := by
  go_enter Try.func15, Try.ntmps15
  go_wp2
  go_ret
  exact ⟨rfl, rfl⟩
set_option maxRecDepth 100000 in
theorem rdiagonal_18 (w : World) : Calls Try.prog 15 #[.string ⟨#[99, 115, 100, 103]⟩] w fun e w' => e = .returned (.bool true) ∧ w' = w := by
  go_enter Try.func15, Try.ntmps15
  go_wp2
  go_ret
  exact ⟨rfl, rfl⟩
set_option maxRecDepth 100000 in
theorem rdiagonal_19 (w : World) : Calls Try.prog 15 #[.string ⟨#[115, 119, 97, 112]⟩] w fun e w' => e = .returned (.bool false) ∧ w' = w := by
  go_enter Try.func15, Try.ntmps15
  go_wp2
  go_ret
  exact ⟨rfl, rfl⟩
set_option maxRecDepth 100000 in
theorem rdiagonal_20 (w : World) : Calls Try.prog 15 #[.string ⟨#[105, 115, 119, 97, 112]⟩] w fun e w' => e = .returned (.bool false) ∧ w' = w := by
  go_enter Try.func15, Try.ntmps15
  go_wp2
  go_ret
  exact ⟨rfl, rfl⟩
set_option maxRecDepth 100000 in
theorem rdiagonal_21 (w : World) : Calls Try.prog 15 #[.string ⟨#[105, 115, 119, 97, 112, 100, 103]⟩] w fun e w' => e = .returned (.bool false) ∧ w' = w := by
  go_enter Try.func15, Try.ntmps15
  go_wp2
  go_ret
  exact ⟨rfl, rfl⟩
set_option maxRecDepth 100000 in
theorem rdiagonal_22 (w : World) : Calls Try.prog 15 #[.string ⟨#[99, 99, 120]⟩] w fun e w' => e = .returned (.bool false) ∧ w' = w := by
  go_enter Try.func15, Try.ntmps15
  go_wp2
  go_ret
  exact ⟨rfl, rfl⟩
set_option maxRecDepth 100000 in
theorem rdiagonal_23 (w : World) : Calls Try.prog 15 #[.string ⟨#[99, 99, 122]⟩] w fun e w' => e = .returned (.bool true) ∧ w' = w := by
  go_enter Try.func15, Try.ntmps15
  go_wp2
  go_ret
  exact ⟨rfl, rfl⟩
set_option maxRecDepth 100000 in
theorem rdiagonal_24 (w : World) : Calls Try.prog 15 #[.string ⟨#[99, 115, 119, 97, 112]⟩] w fun e w' => e = .returned (.bool false) ∧ w' = w := by
  go_enter Try.func15, Try.ntmps15
  go_wp2
  go_ret
  exact ⟨rfl, rfl⟩
set_option maxRecDepth 100000 in
theorem rinverse_0 (w : World) : Calls Try.prog 17 #[.string ⟨#[105]⟩] w fun e w' => e = .returned (.tuple #[.string ⟨#[105]⟩, .int .i64 0]) ∧ w' = w := by
  have A := fun w => rarity_0 w
  go_enter Try.func17, Try.ntmps17
  go_wp2_with (go_at_call 9; (with_reducible refine (A _).mono ?_); rintro e w1 ⟨rfl, rfl⟩)
  go_ret2
  exact ⟨rfl, rfl⟩
set_option maxRecDepth 100000 in
theorem rinverse_1 (w : World) : Calls Try.prog 17 #[.string ⟨#[120]⟩] w fun e w' => e = .returned (.tuple #[.string ⟨#[120]⟩, .int .i64 0]) ∧ w' = w := by
  have A := fun w => rarity_1 w
  go_enter Try.func17, Try.ntmps17
  go_wp2_with (go_at_call 9; (with_reducible refine (A _).mono ?_); rintro e w1 ⟨rfl, rfl⟩)
  go_ret2
  exact ⟨rfl, rfl⟩
set_option maxRecDepth 100000 in
theorem rinverse_2 (w : World) : Calls Try.prog 17 #[.string ⟨#[121]⟩] w fun e w' => e = .returned (.tuple #[.string ⟨#[121]⟩, .int .i64 0]) ∧ w' = w := by
  have A := fun w => rarity_2 w
  go_enter Try.func17, Try.ntmps17
  go_wp2_with (go_at_call 9; (with_reducible refine (A _).mono ?_); rintro e w1 ⟨rfl, rfl⟩)
  go_ret2
  exact ⟨rfl, rfl⟩
set_option maxRecDepth 100000 in
theorem rinverse_3 (w : World) : Calls Try.prog 17 #[.string ⟨#[122]⟩] w fun e w' => e = .returned (.tuple #[.string ⟨#[122]⟩, .int .i64 0]) ∧ w' = w := by
  have A := fun w => rarity_3 w
  go_enter Try.func17, Try.ntmps17
  go_wp2_with (go_at_call 9; (with_reducible refine (A _).mono ?_); rintro e w1 ⟨rfl, rfl⟩)
  go_ret2
  exact ⟨rfl, rfl⟩
set_option maxRecDepth 100000 in
theorem rinverse_4 (w : World) : Calls Try.prog 17 #[.string ⟨#[104]⟩] w fun e w' => e = .returned (.tuple #[.string ⟨#[104]⟩, .int .i64 0]) ∧ w' = w := by
  have A := fun w => rarity_4 w
  go_enter Try.func17, Try.ntmps17
  go_wp2_with (go_at_call 9; (with_reducible refine (A _).mono ?_); rintro e w1 ⟨rfl, rfl⟩)
  go_ret2
  exact ⟨rfl, rfl⟩
set_option maxRecDepth 100000 in
theorem rinverse_5 (w : World) : Calls Try.prog 17 #[.string ⟨#[115]⟩] w fun e w' => e = .returned (.tuple #[.string ⟨#[115, 100, 103]⟩, .int .i64 0]) ∧ w' = w := by
  have A := fun w => rarity_5 w
  go_enter Try.func17, Try.ntmps17
  go_wp2_with (go_at_call 9; (with_reducible refine (A _).mono ?_); rintro e w1 ⟨rfl, rfl⟩)
  go_ret2
  exact ⟨rfl, rfl⟩
set_option maxRecDepth 100000 in
theorem rinverse_6 (w : World) : Calls Try.prog 17 #[.string ⟨#[115, 100, 103]⟩] w fun e w' => e = .returned (.tuple #[.string ⟨#[115]⟩, .int .i64 0]) ∧ w' = w := by
  have A := fun w => rarity_6 w
  go_enter Try.func17, Try.ntmps17
  go_wp2_with (go_at_call 9; (with_reducible refine (A _).mono ?_); rintro e w1 ⟨rfl, rfl⟩)
  go_ret2
  exact ⟨rfl, rfl⟩
set_option maxRecDepth 100000 in
theorem rinverse_7 (w : World) : Calls Try.prog 17 #[.string ⟨#[116]⟩] w fun e w' => e = .returned (.tuple #[.string ⟨#[116, 100, 103]⟩, .int .i64 0]) ∧ w' = w := by
  have A := fun w => rarity_7 w
  go_enter Try.func17, Try.ntmps17
  go_wp2_with (go_at_call 9; (with_reducible refine (A _).mono ?_); rintro e w1 ⟨rfl, rfl⟩)
  go_ret2
  exact ⟨rfl, rfl⟩
set_option maxRecDepth 100000 in
theorem rinverse_8 (w : World) : Calls Try.prog 17 #[.string ⟨#[116, 100, 103]⟩] w fun e w' => e = .returned (.tuple #[.string ⟨#[116]⟩, .int .i64 0]) ∧ w' = w := by
  have A := fun w => rarity_8 w
  go_enter Try.func17, Try.ntmps17
  go_wp2_with (go_at_call 9; (with_reducible refine (A _).mono ?_); rintro e w1 ⟨rfl, rfl⟩)
  go_ret2
  exact ⟨rfl, rfl⟩
set_option maxRecDepth 100000 in
theorem rinverse_9 (w : World) : Calls Try.prog 17 #[.string ⟨#[118]⟩] w fun e w' => e = .returned (.tuple #[.string ⟨#[118, 100, 103]⟩, .int .i64 0]) ∧ w' = w := by
  have A := fun w => rarity_9 w
  go_enter Try.func17, Try.ntmps17
  go_wp2_with (go_at_call 9; (with_reducible refine (A _).mono ?_); rintro e w1 ⟨rfl, rfl⟩)
  go_ret2
  exact ⟨rfl, rfl⟩
set_option maxRecDepth 100000 in
theorem rinverse_10 (w : World) : Calls Try.prog 17 #[.string ⟨#[118, 100, 103]⟩] w fun e w' => e = .returned (.tuple #[.string ⟨#[118]⟩, .int .i64 0]) ∧ w' = w := by
  have A := fun w => rarity_10 w
  go_enter Try.func17, Try.ntmps17
  go_wp2_with (go_at_call 9; (with_reducible refine (A _).mono ?_); rintro e w1 ⟨rfl, rfl⟩)
  go_ret2
  exact ⟨rfl, rfl⟩
set_option maxRecDepth 100000 in
theorem rinverse_11 (w : World) : Calls Try.prog 17 #[.string ⟨#[119]⟩] w fun e w' => e = .returned (.tuple #[.string ⟨#[119, 100, 103]⟩, .int .i64 0]) ∧ w' = w := by
  have A := fun w => rarity_11 w
  go_enter Try.func17, Try.ntmps17
  go_wp2_with (go_at_call 9; (with_reducible refine (A _).mono ?_); rintro e w1 ⟨rfl, rfl⟩)
  go_ret2
  exact ⟨rfl, rfl⟩
set_option maxRecDepth 100000 in
theorem rinverse_12 (w : World) : Calls Try.prog 17 #[.string ⟨#[119, 100, 103]⟩] w fun e w' => e = .returned (.tuple #[.string ⟨#[119]⟩, .int .i64 0]) ∧ w' = w := by
  have A := fun w => rarity_12 w
  go_enter Try.func17, Try.ntmps17
  go_wp2_with (go_at_call 9; (with_reducible refine (A _).mono ?_); rintro e w1 ⟨rfl, rfl⟩)
  go_ret2
  exact ⟨rfl, rfl⟩
set_option maxRecDepth 100000 in
theorem rinverse_13 (w : World) : Calls Try.prog 17 #[.string ⟨#[99, 120]⟩] w fun e w' => e = .returned (.tuple #[.string ⟨#[99, 120]⟩, .int .i64 0]) ∧ w' = w := by
  have A := fun w => rarity_13 w
  go_enter Try.func17, Try.ntmps17
  go_wp2_with (go_at_call 9; (with_reducible refine (A _).mono ?_); rintro e w1 ⟨rfl, rfl⟩)
  go_ret2
  exact ⟨rfl, rfl⟩
set_option maxRecDepth 100000 in
theorem rinverse_14 (w : World) : Calls Try.prog 17 #[.string ⟨#[99, 121]⟩] w fun e w' => e = .returned (.tuple #[.string ⟨#[99, 121]⟩, .int .i64 0]) ∧ w' = w := by
  have A := fun w => rarity_14 w
  go_enter Try.func17, Try.ntmps17
  go_wp2_with (go_at_call 9; (with_reducible refine (A _).mono ?_); rintro e w1 ⟨rfl, rfl⟩)
  go_ret2
  exact ⟨rfl, rfl⟩
set_option maxRecDepth 100000 in
theorem rinverse_15 (w : World) : Calls Try.prog 17 #[.string ⟨#[99, 122]⟩] w fun e w' => e = .returned (.tuple #[.string ⟨#[99, 122]⟩, .int .i64 0]) ∧ w' = w := by
  have A := fun w => rarity_15 w
  go_enter Try.func17, Try.ntmps17
  go_wp2_with (go_at_call 9; (with_reducible refine (A _).mono ?_); rintro e w1 ⟨rfl, rfl⟩)
  go_ret2
  exact ⟨rfl, rfl⟩
set_option maxRecDepth 100000 in
theorem rinverse_16 (w : World) : Calls Try.prog 17 #[.string ⟨#[99, 104]⟩] w fun e w' => e = .returned (.tuple #[.string ⟨#[99, 104]⟩, .int .i64 0]) ∧ w' = w := by
  have A := fun w => rarity_16 w
  go_enter Try.func17, Try.ntmps17
  go_wp2_with (go_at_call 9; (with_reducible refine (A _).mono ?_); rintro e w1 ⟨rfl, rfl⟩)
  go_ret2
  exact ⟨rfl, rfl⟩
set_option maxRecDepth 100000 in
theorem rinverse_17 (w : World) : Calls Try.prog 17 #[.string ⟨#[99, 115]⟩] w fun e w' => e = .returned (.tuple #[.string ⟨#[99, 115, 100, 103]⟩, .int .i64 0]) ∧ w' = w := by
  have A := fun w => rarity_17 w
  go_enter Try.func17, Try.ntmps17
  go_wp2_with (go_at_call 9; (with_reducible refine (A _).mono ?_); rintro e w1 ⟨rfl, rfl⟩)
  go_ret2
  exact ⟨rfl, rfl⟩
set_option maxRecDepth 100000 in
theorem rinverse_18 (w : World) : Calls Try.prog 17 #[.string ⟨#[99, 115, 100, 103]⟩] w fun e w' => e = .returned (.tuple #[.string ⟨#[99, 115]⟩, .int .i64 0]) ∧ w' = w := by
  have A := fun w => rarity_18 w
  go_enter Try.func17, Try.ntmps17
  go_wp2_with (go_at_call 9; (with_reducible refine (A _).mono ?_); rintro e w1 ⟨rfl, rfl⟩)
  go_ret2
  exact ⟨rfl, rfl⟩
set_option maxRecDepth 100000 in
theorem rinverse_19 (w : World) : Calls Try.prog 17 #[.string ⟨#[115, 119, 97, 112]⟩] w fun e w' => e = .returned (.tuple #[.string ⟨#[115, 119, 97, 112]⟩, .int .i64 0]) ∧ w' = w := by
  have A := fun w => rarity_19 w
  go_enter Try.func17, Try.ntmps17
  go_wp2_with (go_at_call 9; (with_reducible refine (A _).mono ?_); rintro e w1 ⟨rfl, rfl⟩)
  go_ret2
  exact ⟨rfl, rfl⟩
set_option maxRecDepth 100000 in
theorem rinverse_20 (w : World) : Calls Try.prog 17 #[.string ⟨#[105, 115, 119, 97, 112]⟩] w fun e w' => e = .returned (.tuple #[.string ⟨#[105, 115, 119, 97, 112, 100, 103]⟩, .int .i64 0]) ∧ w' = w := by
  have A := fun w => rarity_20 w
  go_enter Try.func17, Try.ntmps17
  go_wp2_with (go_at_call 9; (with_reducible refine (A _).mono ?_); rintro e w1 ⟨rfl, rfl⟩)
  go_ret2
  exact ⟨rfl, rfl⟩
set_option maxRecDepth 100000 in
theorem rinverse_21 (w : World) : Calls Try.prog 17 #[.string ⟨#[105, 115, 119, 97, 112, 100, 103]⟩] w fun e w' => e = .returned (.tuple #[.string ⟨#[105, 115, 119, 97, 112]⟩, .int .i64 0]) ∧ w' = w := by
  have A := fun w => rarity_21 w
  go_enter Try.func17, Try.ntmps17
  go_wp2_with (go_at_call 9; (with_reducible refine (A _).mono ?_); rintro e w1 ⟨rfl, rfl⟩)
  go_ret2
  exact ⟨rfl, rfl⟩
set_option maxRecDepth 100000 in
theorem rinverse_22 (w : World) : Calls Try.prog 17 #[.string ⟨#[99, 99, 120]⟩] w fun e w' => e = .returned (.tuple #[.string ⟨#[99, 99, 120]⟩, .int .i64 0]) ∧ w' = w := by
  have A := fun w => rarity_22 w
  go_enter Try.func17, Try.ntmps17
  go_wp2_with (go_at_call 9; (with_reducible refine (A _).mono ?_); rintro e w1 ⟨rfl, rfl⟩)
  go_ret2
  exact ⟨rfl, rfl⟩
set_option maxRecDepth 100000 in
theorem rinverse_23 (w : World) : Calls Try.prog 17 #[.string ⟨#[99, 99, 122]⟩] w fun e w' => e = .returned (.tuple #[.string ⟨#[99, 99, 122]⟩, .int .i64 0]) ∧ w' = w := by
  have A := fun w => rarity_23 w
  go_enter Try.func17, Try.ntmps17
  go_wp2_with (go_at_call 9; (with_reducible refine (A _).mono ?_); rintro e w1 ⟨rfl, rfl⟩)
  go_ret2
  exact ⟨rfl, rfl⟩
set_option maxRecDepth 100000 in
theorem rinverse_24 (w : World) : Calls Try.prog 17 #[.string ⟨#[99, 115, 119, 97, 112]⟩] w fun e w' => e = .returned (.tuple #[.string ⟨#[99, 115, 119, 97, 112]⟩, .int .i64 0]) ∧ w' = w := by
  have A := fun w => rarity_24 w
  go_enter Try.func17, Try.ntmps17
  go_wp2_with (go_at_call 9; (with_reducible refine (A _).mono ?_); rintro e w1 ⟨rfl, rfl⟩)
  go_ret2
  exact ⟨rfl, rfl⟩
theorem rarity_all (i : Nat) (hi : i < 25) (w : World) : Calls Try.prog 9 #[.string (nm i)] w fun e w' => e = .returned (.int .i64 (qOf i)) ∧ w' = w := by
  have : i = 0 ∨ i = 1 ∨ i = 2 ∨ i = 3 ∨ i = 4 ∨ i = 5 ∨ i = 6 ∨ i = 7 ∨ i = 8 ∨ i = 9 ∨ i = 10 ∨ i = 11 ∨ i = 12 ∨ i = 13 ∨ i = 14 ∨ i = 15 ∨ i = 16 ∨ i = 17 ∨ i = 18 ∨ i = 19 ∨ i = 20 ∨ i = 21 ∨ i = 22 ∨ i = 23 ∨ i = 24 := by omega
  rcases this with rfl | rfl | rfl | rfl | rfl | rfl | rfl | rfl | rfl | rfl | rfl | rfl | rfl | rfl | rfl | rfl | rfl | rfl | rfl | rfl | rfl | rfl | rfl | rfl | rfl
  · exact rarity_0 w
  · exact rarity_1 w
  · exact rarity_2 w
  · exact rarity_3 w
  · exact rarity_4 w
  · exact rarity_5 w
  · exact rarity_6 w
  · exact rarity_7 w
  · exact rarity_8 w
  · exact rarity_9 w
  · exact rarity_10 w
  · exact rarity_11 w
  · exact rarity_12 w
  · exact rarity_13 w
  · exact rarity_14 w
  · exact rarity_15 w
  · exact rarity_16 w
  · exact rarity_17 w
  · exact rarity_18 w
  · exact rarity_19 w
  · exact rarity_20 w
  · exact rarity_21 w
  · exact rarity_22 w
  · exact rarity_23 w
  · exact rarity_24 w
theorem rhalves_all (i : Nat) (hi : i < 25) (w : World) : Calls Try.prog 11 #[.string (nm i)] w fun e w' => e = .returned (.int .i64 (hOf i)) ∧ w' = w := by
  have : i = 0 ∨ i = 1 ∨ i = 2 ∨ i = 3 ∨ i = 4 ∨ i = 5 ∨ i = 6 ∨ i = 7 ∨ i = 8 ∨ i = 9 ∨ i = 10 ∨ i = 11 ∨ i = 12 ∨ i = 13 ∨ i = 14 ∨ i = 15 ∨ i = 16 ∨ i = 17 ∨ i = 18 ∨ i = 19 ∨ i = 20 ∨ i = 21 ∨ i = 22 ∨ i = 23 ∨ i = 24 := by omega
  rcases this with rfl | rfl | rfl | rfl | rfl | rfl | rfl | rfl | rfl | rfl | rfl | rfl | rfl | rfl | rfl | rfl | rfl | rfl | rfl | rfl | rfl | rfl | rfl | rfl | rfl
  · exact rhalves_0 w
  · exact rhalves_1 w
  · exact rhalves_2 w
  · exact rhalves_3 w
  · exact rhalves_4 w
  · exact rhalves_5 w
  · exact rhalves_6 w
  · exact rhalves_7 w
  · exact rhalves_8 w
  · exact rhalves_9 w
  · exact rhalves_10 w
  · exact rhalves_11 w
  · exact rhalves_12 w
  · exact rhalves_13 w
  · exact rhalves_14 w
  · exact rhalves_15 w
  · exact rhalves_16 w
  · exact rhalves_17 w
  · exact rhalves_18 w
  · exact rhalves_19 w
  · exact rhalves_20 w
  · exact rhalves_21 w
  · exact rhalves_22 w
  · exact rhalves_23 w
  · exact rhalves_24 w
theorem rclifford_all (i : Nat) (hi : i < 25) (w : World) : Calls Try.prog 13 #[.string (nm i)] w fun e w' => e = .returned (.bool (cOf i)) ∧ w' = w := by
  have : i = 0 ∨ i = 1 ∨ i = 2 ∨ i = 3 ∨ i = 4 ∨ i = 5 ∨ i = 6 ∨ i = 7 ∨ i = 8 ∨ i = 9 ∨ i = 10 ∨ i = 11 ∨ i = 12 ∨ i = 13 ∨ i = 14 ∨ i = 15 ∨ i = 16 ∨ i = 17 ∨ i = 18 ∨ i = 19 ∨ i = 20 ∨ i = 21 ∨ i = 22 ∨ i = 23 ∨ i = 24 := by omega
  rcases this with rfl | rfl | rfl | rfl | rfl | rfl | rfl | rfl | rfl | rfl | rfl | rfl | rfl | rfl | rfl | rfl | rfl | rfl | rfl | rfl | rfl | rfl | rfl | rfl | rfl
  · exact rclifford_0 w
  · exact rclifford_1 w
  · exact rclifford_2 w
  · exact rclifford_3 w
  · exact rclifford_4 w
  · exact rclifford_5 w
  · exact rclifford_6 w
  · exact rclifford_7 w
  · exact rclifford_8 w
  · exact rclifford_9 w
  · exact rclifford_10 w
  · exact rclifford_11 w
  · exact rclifford_12 w
  · exact rclifford_13 w
  · exact rclifford_14 w
  · exact rclifford_15 w
  · exact rclifford_16 w
  · exact rclifford_17 w
  · exact rclifford_18 w
  · exact rclifford_19 w
  · exact rclifford_20 w
  · exact rclifford_21 w
  · exact rclifford_22 w
  · exact rclifford_23 w
  · exact rclifford_24 w
theorem rdiagonal_all (i : Nat) (hi : i < 25) (w : World) : Calls Try.prog 15 #[.string (nm i)] w fun e w' => e = .returned (.bool (dOf i)) ∧ w' = w := by
  have : i = 0 ∨ i = 1 ∨ i = 2 ∨ i = 3 ∨ i = 4 ∨ i = 5 ∨ i = 6 ∨ i = 7 ∨ i = 8 ∨ i = 9 ∨ i = 10 ∨ i = 11 ∨ i = 12 ∨ i = 13 ∨ i = 14 ∨ i = 15 ∨ i = 16 ∨ i = 17 ∨ i = 18 ∨ i = 19 ∨ i = 20 ∨ i = 21 ∨ i = 22 ∨ i = 23 ∨ i = 24 := by omega
  rcases this with rfl | rfl | rfl | rfl | rfl | rfl | rfl | rfl | rfl | rfl | rfl | rfl | rfl | rfl | rfl | rfl | rfl | rfl | rfl | rfl | rfl | rfl | rfl | rfl | rfl
  · exact rdiagonal_0 w
  · exact rdiagonal_1 w
  · exact rdiagonal_2 w
  · exact rdiagonal_3 w
  · exact rdiagonal_4 w
  · exact rdiagonal_5 w
  · exact rdiagonal_6 w
  · exact rdiagonal_7 w
  · exact rdiagonal_8 w
  · exact rdiagonal_9 w
  · exact rdiagonal_10 w
  · exact rdiagonal_11 w
  · exact rdiagonal_12 w
  · exact rdiagonal_13 w
  · exact rdiagonal_14 w
  · exact rdiagonal_15 w
  · exact rdiagonal_16 w
  · exact rdiagonal_17 w
  · exact rdiagonal_18 w
  · exact rdiagonal_19 w
  · exact rdiagonal_20 w
  · exact rdiagonal_21 w
  · exact rdiagonal_22 w
  · exact rdiagonal_23 w
  · exact rdiagonal_24 w
theorem rinverse_all (i : Nat) (hi : i < 25) (w : World) : Calls Try.prog 17 #[.string (nm i)] w fun e w' => e = .returned (.tuple #[.string (nm (iv i)), .int .i64 0]) ∧ w' = w := by
  have : i = 0 ∨ i = 1 ∨ i = 2 ∨ i = 3 ∨ i = 4 ∨ i = 5 ∨ i = 6 ∨ i = 7 ∨ i = 8 ∨ i = 9 ∨ i = 10 ∨ i = 11 ∨ i = 12 ∨ i = 13 ∨ i = 14 ∨ i = 15 ∨ i = 16 ∨ i = 17 ∨ i = 18 ∨ i = 19 ∨ i = 20 ∨ i = 21 ∨ i = 22 ∨ i = 23 ∨ i = 24 := by omega
  rcases this with rfl | rfl | rfl | rfl | rfl | rfl | rfl | rfl | rfl | rfl | rfl | rfl | rfl | rfl | rfl | rfl | rfl | rfl | rfl | rfl | rfl | rfl | rfl | rfl | rfl
  · exact rinverse_0 w
  · exact rinverse_1 w
  · exact rinverse_2 w
  · exact rinverse_3 w
  · exact rinverse_4 w
  · exact rinverse_5 w
  · exact rinverse_6 w
  · exact rinverse_7 w
  · exact rinverse_8 w
  · exact rinverse_9 w
  · exact rinverse_10 w
  · exact rinverse_11 w
  · exact rinverse_12 w
  · exact rinverse_13 w
  · exact rinverse_14 w
  · exact rinverse_15 w
  · exact rinverse_16 w
  · exact rinverse_17 w
  · exact rinverse_18 w
  · exact rinverse_19 w
  · exact rinverse_20 w
  · exact rinverse_21 w
  · exact rinverse_22 w
  · exact rinverse_23 w
  · exact rinverse_24 w
/-- The name of no gate. -/
structure Miss (s : ByteArray) : Prop where
  m0 : (s.toList == [105]) = false
  m1 : (s.toList == [120]) = false
  m2 : (s.toList == [121]) = false
  m3 : (s.toList == [122]) = false
  m4 : (s.toList == [104]) = false
  m5 : (s.toList == [115]) = false
  m6 : (s.toList == [115, 100, 103]) = false
  m7 : (s.toList == [116]) = false
  m8 : (s.toList == [116, 100, 103]) = false
  m9 : (s.toList == [118]) = false
  m10 : (s.toList == [118, 100, 103]) = false
  m11 : (s.toList == [119]) = false
  m12 : (s.toList == [119, 100, 103]) = false
  m13 : (s.toList == [99, 120]) = false
  m14 : (s.toList == [99, 121]) = false
  m15 : (s.toList == [99, 122]) = false
  m16 : (s.toList == [99, 104]) = false
  m17 : (s.toList == [99, 115]) = false
  m18 : (s.toList == [99, 115, 100, 103]) = false
  m19 : (s.toList == [115, 119, 97, 112]) = false
  m20 : (s.toList == [105, 115, 119, 97, 112]) = false
  m21 : (s.toList == [105, 115, 119, 97, 112, 100, 103]) = false
  m22 : (s.toList == [99, 99, 120]) = false
  m23 : (s.toList == [99, 99, 122]) = false
  m24 : (s.toList == [99, 115, 119, 97, 112]) = false
set_option maxRecDepth 100000 in
theorem rarity_miss {s : ByteArray} (H : Miss s) (w : World) : Calls Try.prog 9 #[.string s] w fun e w' => e = .returned (.int .i64 0) ∧ w' = w := by
  have m0 := H.m0; have m1 := H.m1; have m2 := H.m2; have m3 := H.m3; have m4 := H.m4; have m5 := H.m5; have m6 := H.m6; have m7 := H.m7; have m8 := H.m8; have m9 := H.m9; have m10 := H.m10; have m11 := H.m11; have m12 := H.m12; have m13 := H.m13; have m14 := H.m14; have m15 := H.m15; have m16 := H.m16; have m17 := H.m17; have m18 := H.m18; have m19 := H.m19; have m20 := H.m20; have m21 := H.m21; have m22 := H.m22; have m23 := H.m23; have m24 := H.m24
  clear H
  go_enter Try.func9, Try.ntmps9
  go_wp2
  go_ret
  exact ⟨rfl, rfl⟩
set_option maxRecDepth 100000 in
theorem rhalves_miss {s : ByteArray} (H : Miss s) (w : World) : Calls Try.prog 11 #[.string s] w fun e w' => e = .returned (.int .i64 0) ∧ w' = w := by
  have m0 := H.m0; have m1 := H.m1; have m2 := H.m2; have m3 := H.m3; have m4 := H.m4; have m5 := H.m5; have m6 := H.m6; have m7 := H.m7; have m8 := H.m8; have m9 := H.m9; have m10 := H.m10; have m11 := H.m11; have m12 := H.m12; have m13 := H.m13; have m14 := H.m14; have m15 := H.m15; have m16 := H.m16; have m17 := H.m17; have m18 := H.m18; have m19 := H.m19; have m20 := H.m20; have m21 := H.m21; have m22 := H.m22; have m23 := H.m23; have m24 := H.m24
  clear H
  go_enter Try.func11, Try.ntmps11
  go_wp2
  go_ret
  exact ⟨rfl, rfl⟩
set_option maxRecDepth 100000 in
theorem rclifford_miss {s : ByteArray} (H : Miss s) (w : World) : Calls Try.prog 13 #[.string s] w fun e w' => e = .returned (.bool false) ∧ w' = w := by
  have A := fun w => rarity_miss H w
  have m0 := H.m0; have m1 := H.m1; have m2 := H.m2; have m3 := H.m3; have m4 := H.m4; have m5 := H.m5; have m6 := H.m6; have m7 := H.m7; have m8 := H.m8; have m9 := H.m9; have m10 := H.m10; have m11 := H.m11; have m12 := H.m12; have m13 := H.m13; have m14 := H.m14; have m15 := H.m15; have m16 := H.m16; have m17 := H.m17; have m18 := H.m18; have m19 := H.m19; have m20 := H.m20; have m21 := H.m21; have m22 := H.m22; have m23 := H.m23; have m24 := H.m24
  clear H
  go_enter Try.func13, Try.ntmps13
  go_wp2_with (go_at_call 9; (with_reducible refine (A _).mono ?_); rintro e w1 ⟨rfl, rfl⟩)
  go_ret
  exact ⟨rfl, rfl⟩
set_option maxRecDepth 100000 in
theorem rdiagonal_miss {s : ByteArray} (H : Miss s) (w : World) : Calls Try.prog 15 #[.string s] w fun e w' => e = .returned (.bool false) ∧ w' = w := by
  have m0 := H.m0; have m1 := H.m1; have m2 := H.m2; have m3 := H.m3; have m4 := H.m4; have m5 := H.m5; have m6 := H.m6; have m7 := H.m7; have m8 := H.m8; have m9 := H.m9; have m10 := H.m10; have m11 := H.m11; have m12 := H.m12; have m13 := H.m13; have m14 := H.m14; have m15 := H.m15; have m16 := H.m16; have m17 := H.m17; have m18 := H.m18; have m19 := H.m19; have m20 := H.m20; have m21 := H.m21; have m22 := H.m22; have m23 := H.m23; have m24 := H.m24
  clear H
  go_enter Try.func15, Try.ntmps15
  go_wp2
  go_ret
  exact ⟨rfl, rfl⟩
set_option maxRecDepth 100000 in
theorem rinverse_miss {s : ByteArray} (H : Miss s) (w : World) : Calls Try.prog 17 #[.string s] w fun e w' => e = .returned (.tuple #[.string ⟨#[]⟩, .int .i64 80]) ∧ w' = w := by
  have A := fun w => rarity_miss H w
  have m0 := H.m0; have m1 := H.m1; have m2 := H.m2; have m3 := H.m3; have m4 := H.m4; have m5 := H.m5; have m6 := H.m6; have m7 := H.m7; have m8 := H.m8; have m9 := H.m9; have m10 := H.m10; have m11 := H.m11; have m12 := H.m12; have m13 := H.m13; have m14 := H.m14; have m15 := H.m15; have m16 := H.m16; have m17 := H.m17; have m18 := H.m18; have m19 := H.m19; have m20 := H.m20; have m21 := H.m21; have m22 := H.m22; have m23 := H.m23; have m24 := H.m24
  clear H
  go_enter Try.func17, Try.ntmps17
  go_wp2_with (go_at_call 9; (with_reducible refine (A _).mono ?_); rintro e w1 ⟨rfl, rfl⟩)
  go_ret2
  exact ⟨rfl, rfl⟩
end Go.Proofs.Ytjmgcgjmaemgdaa
