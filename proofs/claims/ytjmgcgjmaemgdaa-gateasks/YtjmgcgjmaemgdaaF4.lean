/-
  The reference's entries of the gates cx, cy, cz, ch, cs, csdg.
-/
import Derived.Test.YtjmgcgjmaemgdaaF2
namespace Go.Proofs.Ytjmgcgjmaemgdaa
open Go.RowKit Go.Sort

set_option maxRecDepth 100000 in
theorem sub_13_0 (w : World) : Calls Try.prog 59 #[.string ⟨#[99, 120]⟩, .int .i64 0] w fun e w' => e = .returned (.tuple #[.int .i64 0, .int .i64 0]) ∧ w' = w := by
  have b0 : bits BinOp.and IntKind.i64 0 1 = 0 := by decide +kernel
  have b1 : wrap64 (0 * 2) = 0 := by decide +kernel
  have b2 : bits BinOp.xor IntKind.i64 0 0 = 0 := by decide +kernel
  go_enter Try.func59, Try.ntmps59
  go_wp2
  go_ret2
  exact ⟨rfl, rfl⟩
set_option maxRecDepth 100000 in
theorem mvd_13_0 (w : World) : Calls Try.prog 49 #[.string ⟨#[99, 120]⟩, .int .i64 0] w fun e w' => e = .returned (.tuple #[.int .i64 0, .int .i64 0]) ∧ w' = w := by
  have A := fun w => sub_13_0 w
  go_enter Try.func49, Try.ntmps49
  go_wp2_with (go_at_call 59; (with_reducible refine (A _).mono ?_); rintro e w1 ⟨rfl, rfl⟩)
  go_ret2
  exact ⟨rfl, rfl⟩
set_option maxRecDepth 100000 in
theorem ent_13_0_0 (w : World) : Calls Try.prog 34 #[.string ⟨#[99, 120]⟩, .int .i64 0, .int .i64 0] w fun e w' => e = .returned (.tuple #[.int .i64 0, .int .i64 0]) ∧ w' = w := by
  have A := fun w => mvd_13_0 w
  go_enter Try.func34, Try.ntmps34
  go_wp2_with (go_at_call 49; (with_reducible refine (A _).mono ?_); rintro e w1 ⟨rfl, rfl⟩)
  go_ret2
  exact ⟨rfl, rfl⟩
set_option maxRecDepth 100000 in
theorem ent_13_1_0 (w : World) : Calls Try.prog 34 #[.string ⟨#[99, 120]⟩, .int .i64 1, .int .i64 0] w fun e w' => e = .returned (.tuple #[.int .i64 (-1), .int .i64 0]) ∧ w' = w := by
  have A := fun w => mvd_13_0 w
  go_enter Try.func34, Try.ntmps34
  go_wp2_with (go_at_call 49; (with_reducible refine (A _).mono ?_); rintro e w1 ⟨rfl, rfl⟩)
  go_ret2
  exact ⟨rfl, rfl⟩
set_option maxRecDepth 100000 in
theorem ent_13_2_0 (w : World) : Calls Try.prog 34 #[.string ⟨#[99, 120]⟩, .int .i64 2, .int .i64 0] w fun e w' => e = .returned (.tuple #[.int .i64 (-1), .int .i64 0]) ∧ w' = w := by
  have A := fun w => mvd_13_0 w
  go_enter Try.func34, Try.ntmps34
  go_wp2_with (go_at_call 49; (with_reducible refine (A _).mono ?_); rintro e w1 ⟨rfl, rfl⟩)
  go_ret2
  exact ⟨rfl, rfl⟩
set_option maxRecDepth 100000 in
theorem ent_13_3_0 (w : World) : Calls Try.prog 34 #[.string ⟨#[99, 120]⟩, .int .i64 3, .int .i64 0] w fun e w' => e = .returned (.tuple #[.int .i64 (-1), .int .i64 0]) ∧ w' = w := by
  have A := fun w => mvd_13_0 w
  go_enter Try.func34, Try.ntmps34
  go_wp2_with (go_at_call 49; (with_reducible refine (A _).mono ?_); rintro e w1 ⟨rfl, rfl⟩)
  go_ret2
  exact ⟨rfl, rfl⟩
set_option maxRecDepth 100000 in
theorem sub_13_1 (w : World) : Calls Try.prog 59 #[.string ⟨#[99, 120]⟩, .int .i64 1] w fun e w' => e = .returned (.tuple #[.int .i64 3, .int .i64 0]) ∧ w' = w := by
  have b0 : bits BinOp.and IntKind.i64 1 1 = 1 := by decide +kernel
  have b1 : wrap64 (1 * 2) = 2 := by decide +kernel
  have b2 : bits BinOp.xor IntKind.i64 1 2 = 3 := by decide +kernel
  go_enter Try.func59, Try.ntmps59
  go_wp2
  go_ret2
  exact ⟨rfl, rfl⟩
set_option maxRecDepth 100000 in
theorem mvd_13_1 (w : World) : Calls Try.prog 49 #[.string ⟨#[99, 120]⟩, .int .i64 1] w fun e w' => e = .returned (.tuple #[.int .i64 3, .int .i64 0]) ∧ w' = w := by
  have A := fun w => sub_13_1 w
  go_enter Try.func49, Try.ntmps49
  go_wp2_with (go_at_call 59; (with_reducible refine (A _).mono ?_); rintro e w1 ⟨rfl, rfl⟩)
  go_ret2
  exact ⟨rfl, rfl⟩
set_option maxRecDepth 100000 in
theorem ent_13_0_1 (w : World) : Calls Try.prog 34 #[.string ⟨#[99, 120]⟩, .int .i64 0, .int .i64 1] w fun e w' => e = .returned (.tuple #[.int .i64 (-1), .int .i64 0]) ∧ w' = w := by
  have A := fun w => mvd_13_1 w
  go_enter Try.func34, Try.ntmps34
  go_wp2_with (go_at_call 49; (with_reducible refine (A _).mono ?_); rintro e w1 ⟨rfl, rfl⟩)
  go_ret2
  exact ⟨rfl, rfl⟩
set_option maxRecDepth 100000 in
theorem ent_13_1_1 (w : World) : Calls Try.prog 34 #[.string ⟨#[99, 120]⟩, .int .i64 1, .int .i64 1] w fun e w' => e = .returned (.tuple #[.int .i64 (-1), .int .i64 0]) ∧ w' = w := by
  have A := fun w => mvd_13_1 w
  go_enter Try.func34, Try.ntmps34
  go_wp2_with (go_at_call 49; (with_reducible refine (A _).mono ?_); rintro e w1 ⟨rfl, rfl⟩)
  go_ret2
  exact ⟨rfl, rfl⟩
set_option maxRecDepth 100000 in
theorem ent_13_2_1 (w : World) : Calls Try.prog 34 #[.string ⟨#[99, 120]⟩, .int .i64 2, .int .i64 1] w fun e w' => e = .returned (.tuple #[.int .i64 (-1), .int .i64 0]) ∧ w' = w := by
  have A := fun w => mvd_13_1 w
  go_enter Try.func34, Try.ntmps34
  go_wp2_with (go_at_call 49; (with_reducible refine (A _).mono ?_); rintro e w1 ⟨rfl, rfl⟩)
  go_ret2
  exact ⟨rfl, rfl⟩
set_option maxRecDepth 100000 in
theorem ent_13_3_1 (w : World) : Calls Try.prog 34 #[.string ⟨#[99, 120]⟩, .int .i64 3, .int .i64 1] w fun e w' => e = .returned (.tuple #[.int .i64 0, .int .i64 0]) ∧ w' = w := by
  have A := fun w => mvd_13_1 w
  go_enter Try.func34, Try.ntmps34
  go_wp2_with (go_at_call 49; (with_reducible refine (A _).mono ?_); rintro e w1 ⟨rfl, rfl⟩)
  go_ret2
  exact ⟨rfl, rfl⟩
set_option maxRecDepth 100000 in
theorem sub_13_2 (w : World) : Calls Try.prog 59 #[.string ⟨#[99, 120]⟩, .int .i64 2] w fun e w' => e = .returned (.tuple #[.int .i64 2, .int .i64 0]) ∧ w' = w := by
  have b0 : bits BinOp.and IntKind.i64 2 1 = 0 := by decide +kernel
  have b1 : wrap64 (0 * 2) = 0 := by decide +kernel
  have b2 : bits BinOp.xor IntKind.i64 2 0 = 2 := by decide +kernel
  go_enter Try.func59, Try.ntmps59
  go_wp2
  go_ret2
  exact ⟨rfl, rfl⟩
set_option maxRecDepth 100000 in
theorem mvd_13_2 (w : World) : Calls Try.prog 49 #[.string ⟨#[99, 120]⟩, .int .i64 2] w fun e w' => e = .returned (.tuple #[.int .i64 2, .int .i64 0]) ∧ w' = w := by
  have A := fun w => sub_13_2 w
  go_enter Try.func49, Try.ntmps49
  go_wp2_with (go_at_call 59; (with_reducible refine (A _).mono ?_); rintro e w1 ⟨rfl, rfl⟩)
  go_ret2
  exact ⟨rfl, rfl⟩
set_option maxRecDepth 100000 in
theorem ent_13_0_2 (w : World) : Calls Try.prog 34 #[.string ⟨#[99, 120]⟩, .int .i64 0, .int .i64 2] w fun e w' => e = .returned (.tuple #[.int .i64 (-1), .int .i64 0]) ∧ w' = w := by
  have A := fun w => mvd_13_2 w
  go_enter Try.func34, Try.ntmps34
  go_wp2_with (go_at_call 49; (with_reducible refine (A _).mono ?_); rintro e w1 ⟨rfl, rfl⟩)
  go_ret2
  exact ⟨rfl, rfl⟩
set_option maxRecDepth 100000 in
theorem ent_13_1_2 (w : World) : Calls Try.prog 34 #[.string ⟨#[99, 120]⟩, .int .i64 1, .int .i64 2] w fun e w' => e = .returned (.tuple #[.int .i64 (-1), .int .i64 0]) ∧ w' = w := by
  have A := fun w => mvd_13_2 w
  go_enter Try.func34, Try.ntmps34
  go_wp2_with (go_at_call 49; (with_reducible refine (A _).mono ?_); rintro e w1 ⟨rfl, rfl⟩)
  go_ret2
  exact ⟨rfl, rfl⟩
set_option maxRecDepth 100000 in
theorem ent_13_2_2 (w : World) : Calls Try.prog 34 #[.string ⟨#[99, 120]⟩, .int .i64 2, .int .i64 2] w fun e w' => e = .returned (.tuple #[.int .i64 0, .int .i64 0]) ∧ w' = w := by
  have A := fun w => mvd_13_2 w
  go_enter Try.func34, Try.ntmps34
  go_wp2_with (go_at_call 49; (with_reducible refine (A _).mono ?_); rintro e w1 ⟨rfl, rfl⟩)
  go_ret2
  exact ⟨rfl, rfl⟩
set_option maxRecDepth 100000 in
theorem ent_13_3_2 (w : World) : Calls Try.prog 34 #[.string ⟨#[99, 120]⟩, .int .i64 3, .int .i64 2] w fun e w' => e = .returned (.tuple #[.int .i64 (-1), .int .i64 0]) ∧ w' = w := by
  have A := fun w => mvd_13_2 w
  go_enter Try.func34, Try.ntmps34
  go_wp2_with (go_at_call 49; (with_reducible refine (A _).mono ?_); rintro e w1 ⟨rfl, rfl⟩)
  go_ret2
  exact ⟨rfl, rfl⟩
set_option maxRecDepth 100000 in
theorem sub_13_3 (w : World) : Calls Try.prog 59 #[.string ⟨#[99, 120]⟩, .int .i64 3] w fun e w' => e = .returned (.tuple #[.int .i64 1, .int .i64 0]) ∧ w' = w := by
  have b0 : bits BinOp.and IntKind.i64 3 1 = 1 := by decide +kernel
  have b1 : wrap64 (1 * 2) = 2 := by decide +kernel
  have b2 : bits BinOp.xor IntKind.i64 3 2 = 1 := by decide +kernel
  go_enter Try.func59, Try.ntmps59
  go_wp2
  go_ret2
  exact ⟨rfl, rfl⟩
set_option maxRecDepth 100000 in
theorem mvd_13_3 (w : World) : Calls Try.prog 49 #[.string ⟨#[99, 120]⟩, .int .i64 3] w fun e w' => e = .returned (.tuple #[.int .i64 1, .int .i64 0]) ∧ w' = w := by
  have A := fun w => sub_13_3 w
  go_enter Try.func49, Try.ntmps49
  go_wp2_with (go_at_call 59; (with_reducible refine (A _).mono ?_); rintro e w1 ⟨rfl, rfl⟩)
  go_ret2
  exact ⟨rfl, rfl⟩
set_option maxRecDepth 100000 in
theorem ent_13_0_3 (w : World) : Calls Try.prog 34 #[.string ⟨#[99, 120]⟩, .int .i64 0, .int .i64 3] w fun e w' => e = .returned (.tuple #[.int .i64 (-1), .int .i64 0]) ∧ w' = w := by
  have A := fun w => mvd_13_3 w
  go_enter Try.func34, Try.ntmps34
  go_wp2_with (go_at_call 49; (with_reducible refine (A _).mono ?_); rintro e w1 ⟨rfl, rfl⟩)
  go_ret2
  exact ⟨rfl, rfl⟩
set_option maxRecDepth 100000 in
theorem ent_13_1_3 (w : World) : Calls Try.prog 34 #[.string ⟨#[99, 120]⟩, .int .i64 1, .int .i64 3] w fun e w' => e = .returned (.tuple #[.int .i64 0, .int .i64 0]) ∧ w' = w := by
  have A := fun w => mvd_13_3 w
  go_enter Try.func34, Try.ntmps34
  go_wp2_with (go_at_call 49; (with_reducible refine (A _).mono ?_); rintro e w1 ⟨rfl, rfl⟩)
  go_ret2
  exact ⟨rfl, rfl⟩
set_option maxRecDepth 100000 in
theorem ent_13_2_3 (w : World) : Calls Try.prog 34 #[.string ⟨#[99, 120]⟩, .int .i64 2, .int .i64 3] w fun e w' => e = .returned (.tuple #[.int .i64 (-1), .int .i64 0]) ∧ w' = w := by
  have A := fun w => mvd_13_3 w
  go_enter Try.func34, Try.ntmps34
  go_wp2_with (go_at_call 49; (with_reducible refine (A _).mono ?_); rintro e w1 ⟨rfl, rfl⟩)
  go_ret2
  exact ⟨rfl, rfl⟩
set_option maxRecDepth 100000 in
theorem ent_13_3_3 (w : World) : Calls Try.prog 34 #[.string ⟨#[99, 120]⟩, .int .i64 3, .int .i64 3] w fun e w' => e = .returned (.tuple #[.int .i64 (-1), .int .i64 0]) ∧ w' = w := by
  have A := fun w => mvd_13_3 w
  go_enter Try.func34, Try.ntmps34
  go_wp2_with (go_at_call 49; (with_reducible refine (A _).mono ?_); rintro e w1 ⟨rfl, rfl⟩)
  go_ret2
  exact ⟨rfl, rfl⟩
theorem rent_13 (x y : Nat) (hx : x < 4) (hy : y < 4) (w : World) : Calls Try.prog 34 #[.string (nm 13), .int .i64 (x : Nat), .int .i64 (y : Nat)] w fun e w' => e = .returned (.tuple #[.int .i64 (reP 13 x y), .int .i64 (reH 13 x y)]) ∧ w' = w := by
  have h1 : y = 0 ∨ y = 1 ∨ y = 2 ∨ y = 3 := by omega
  have h2 : x = 0 ∨ x = 1 ∨ x = 2 ∨ x = 3 := by omega
  rcases h1 with rfl | rfl | rfl | rfl
  · rcases h2 with rfl | rfl | rfl | rfl
    · exact ent_13_0_0 w
    · exact ent_13_1_0 w
    · exact ent_13_2_0 w
    · exact ent_13_3_0 w
  · rcases h2 with rfl | rfl | rfl | rfl
    · exact ent_13_0_1 w
    · exact ent_13_1_1 w
    · exact ent_13_2_1 w
    · exact ent_13_3_1 w
  · rcases h2 with rfl | rfl | rfl | rfl
    · exact ent_13_0_2 w
    · exact ent_13_1_2 w
    · exact ent_13_2_2 w
    · exact ent_13_3_2 w
  · rcases h2 with rfl | rfl | rfl | rfl
    · exact ent_13_0_3 w
    · exact ent_13_1_3 w
    · exact ent_13_2_3 w
    · exact ent_13_3_3 w
set_option maxRecDepth 100000 in
theorem sub_14_0 (w : World) : Calls Try.prog 59 #[.string ⟨#[99, 121]⟩, .int .i64 0] w fun e w' => e = .returned (.tuple #[.int .i64 0, .int .i64 0]) ∧ w' = w := by
  have b0 : bits BinOp.and IntKind.i64 0 1 = 0 := by decide +kernel
  have b1 : wrap64 (0 * 2) = 0 := by decide +kernel
  have b2 : bits BinOp.xor IntKind.i64 0 0 = 0 := by decide +kernel
  go_enter Try.func59, Try.ntmps59
  go_wp2
  go_ret2
  exact ⟨rfl, rfl⟩
set_option maxRecDepth 100000 in
theorem mvd_14_0 (w : World) : Calls Try.prog 49 #[.string ⟨#[99, 121]⟩, .int .i64 0] w fun e w' => e = .returned (.tuple #[.int .i64 0, .int .i64 0]) ∧ w' = w := by
  have A := fun w => sub_14_0 w
  go_enter Try.func49, Try.ntmps49
  go_wp2_with (go_at_call 59; (with_reducible refine (A _).mono ?_); rintro e w1 ⟨rfl, rfl⟩)
  go_ret2
  exact ⟨rfl, rfl⟩
set_option maxRecDepth 100000 in
theorem ent_14_0_0 (w : World) : Calls Try.prog 34 #[.string ⟨#[99, 121]⟩, .int .i64 0, .int .i64 0] w fun e w' => e = .returned (.tuple #[.int .i64 0, .int .i64 0]) ∧ w' = w := by
  have A := fun w => mvd_14_0 w
  go_enter Try.func34, Try.ntmps34
  go_wp2_with (go_at_call 49; (with_reducible refine (A _).mono ?_); rintro e w1 ⟨rfl, rfl⟩)
  go_ret2
  exact ⟨rfl, rfl⟩
set_option maxRecDepth 100000 in
theorem ent_14_1_0 (w : World) : Calls Try.prog 34 #[.string ⟨#[99, 121]⟩, .int .i64 1, .int .i64 0] w fun e w' => e = .returned (.tuple #[.int .i64 (-1), .int .i64 0]) ∧ w' = w := by
  have A := fun w => mvd_14_0 w
  go_enter Try.func34, Try.ntmps34
  go_wp2_with (go_at_call 49; (with_reducible refine (A _).mono ?_); rintro e w1 ⟨rfl, rfl⟩)
  go_ret2
  exact ⟨rfl, rfl⟩
set_option maxRecDepth 100000 in
theorem ent_14_2_0 (w : World) : Calls Try.prog 34 #[.string ⟨#[99, 121]⟩, .int .i64 2, .int .i64 0] w fun e w' => e = .returned (.tuple #[.int .i64 (-1), .int .i64 0]) ∧ w' = w := by
  have A := fun w => mvd_14_0 w
  go_enter Try.func34, Try.ntmps34
  go_wp2_with (go_at_call 49; (with_reducible refine (A _).mono ?_); rintro e w1 ⟨rfl, rfl⟩)
  go_ret2
  exact ⟨rfl, rfl⟩
set_option maxRecDepth 100000 in
theorem ent_14_3_0 (w : World) : Calls Try.prog 34 #[.string ⟨#[99, 121]⟩, .int .i64 3, .int .i64 0] w fun e w' => e = .returned (.tuple #[.int .i64 (-1), .int .i64 0]) ∧ w' = w := by
  have A := fun w => mvd_14_0 w
  go_enter Try.func34, Try.ntmps34
  go_wp2_with (go_at_call 49; (with_reducible refine (A _).mono ?_); rintro e w1 ⟨rfl, rfl⟩)
  go_ret2
  exact ⟨rfl, rfl⟩
set_option maxRecDepth 100000 in
theorem sub_14_1 (w : World) : Calls Try.prog 59 #[.string ⟨#[99, 121]⟩, .int .i64 1] w fun e w' => e = .returned (.tuple #[.int .i64 3, .int .i64 2]) ∧ w' = w := by
  have b0 : bits BinOp.and IntKind.i64 1 1 = 1 := by decide +kernel
  have b1 : wrap64 (1 * 2) = 2 := by decide +kernel
  have b2 : bits BinOp.xor IntKind.i64 1 2 = 3 := by decide +kernel
  go_enter Try.func59, Try.ntmps59
  go_wp2
  go_ret2
  exact ⟨rfl, rfl⟩
set_option maxRecDepth 100000 in
theorem mvd_14_1 (w : World) : Calls Try.prog 49 #[.string ⟨#[99, 121]⟩, .int .i64 1] w fun e w' => e = .returned (.tuple #[.int .i64 3, .int .i64 2]) ∧ w' = w := by
  have A := fun w => sub_14_1 w
  go_enter Try.func49, Try.ntmps49
  go_wp2_with (go_at_call 59; (with_reducible refine (A _).mono ?_); rintro e w1 ⟨rfl, rfl⟩)
  go_ret2
  exact ⟨rfl, rfl⟩
set_option maxRecDepth 100000 in
theorem ent_14_0_1 (w : World) : Calls Try.prog 34 #[.string ⟨#[99, 121]⟩, .int .i64 0, .int .i64 1] w fun e w' => e = .returned (.tuple #[.int .i64 (-1), .int .i64 0]) ∧ w' = w := by
  have A := fun w => mvd_14_1 w
  go_enter Try.func34, Try.ntmps34
  go_wp2_with (go_at_call 49; (with_reducible refine (A _).mono ?_); rintro e w1 ⟨rfl, rfl⟩)
  go_ret2
  exact ⟨rfl, rfl⟩
set_option maxRecDepth 100000 in
theorem ent_14_1_1 (w : World) : Calls Try.prog 34 #[.string ⟨#[99, 121]⟩, .int .i64 1, .int .i64 1] w fun e w' => e = .returned (.tuple #[.int .i64 (-1), .int .i64 0]) ∧ w' = w := by
  have A := fun w => mvd_14_1 w
  go_enter Try.func34, Try.ntmps34
  go_wp2_with (go_at_call 49; (with_reducible refine (A _).mono ?_); rintro e w1 ⟨rfl, rfl⟩)
  go_ret2
  exact ⟨rfl, rfl⟩
set_option maxRecDepth 100000 in
theorem ent_14_2_1 (w : World) : Calls Try.prog 34 #[.string ⟨#[99, 121]⟩, .int .i64 2, .int .i64 1] w fun e w' => e = .returned (.tuple #[.int .i64 (-1), .int .i64 0]) ∧ w' = w := by
  have A := fun w => mvd_14_1 w
  go_enter Try.func34, Try.ntmps34
  go_wp2_with (go_at_call 49; (with_reducible refine (A _).mono ?_); rintro e w1 ⟨rfl, rfl⟩)
  go_ret2
  exact ⟨rfl, rfl⟩
set_option maxRecDepth 100000 in
theorem ent_14_3_1 (w : World) : Calls Try.prog 34 #[.string ⟨#[99, 121]⟩, .int .i64 3, .int .i64 1] w fun e w' => e = .returned (.tuple #[.int .i64 2, .int .i64 0]) ∧ w' = w := by
  have A := fun w => mvd_14_1 w
  go_enter Try.func34, Try.ntmps34
  go_wp2_with (go_at_call 49; (with_reducible refine (A _).mono ?_); rintro e w1 ⟨rfl, rfl⟩)
  go_ret2
  exact ⟨rfl, rfl⟩
set_option maxRecDepth 100000 in
theorem sub_14_2 (w : World) : Calls Try.prog 59 #[.string ⟨#[99, 121]⟩, .int .i64 2] w fun e w' => e = .returned (.tuple #[.int .i64 2, .int .i64 0]) ∧ w' = w := by
  have b0 : bits BinOp.and IntKind.i64 2 1 = 0 := by decide +kernel
  have b1 : wrap64 (0 * 2) = 0 := by decide +kernel
  have b2 : bits BinOp.xor IntKind.i64 2 0 = 2 := by decide +kernel
  go_enter Try.func59, Try.ntmps59
  go_wp2
  go_ret2
  exact ⟨rfl, rfl⟩
set_option maxRecDepth 100000 in
theorem mvd_14_2 (w : World) : Calls Try.prog 49 #[.string ⟨#[99, 121]⟩, .int .i64 2] w fun e w' => e = .returned (.tuple #[.int .i64 2, .int .i64 0]) ∧ w' = w := by
  have A := fun w => sub_14_2 w
  go_enter Try.func49, Try.ntmps49
  go_wp2_with (go_at_call 59; (with_reducible refine (A _).mono ?_); rintro e w1 ⟨rfl, rfl⟩)
  go_ret2
  exact ⟨rfl, rfl⟩
set_option maxRecDepth 100000 in
theorem ent_14_0_2 (w : World) : Calls Try.prog 34 #[.string ⟨#[99, 121]⟩, .int .i64 0, .int .i64 2] w fun e w' => e = .returned (.tuple #[.int .i64 (-1), .int .i64 0]) ∧ w' = w := by
  have A := fun w => mvd_14_2 w
  go_enter Try.func34, Try.ntmps34
  go_wp2_with (go_at_call 49; (with_reducible refine (A _).mono ?_); rintro e w1 ⟨rfl, rfl⟩)
  go_ret2
  exact ⟨rfl, rfl⟩
set_option maxRecDepth 100000 in
theorem ent_14_1_2 (w : World) : Calls Try.prog 34 #[.string ⟨#[99, 121]⟩, .int .i64 1, .int .i64 2] w fun e w' => e = .returned (.tuple #[.int .i64 (-1), .int .i64 0]) ∧ w' = w := by
  have A := fun w => mvd_14_2 w
  go_enter Try.func34, Try.ntmps34
  go_wp2_with (go_at_call 49; (with_reducible refine (A _).mono ?_); rintro e w1 ⟨rfl, rfl⟩)
  go_ret2
  exact ⟨rfl, rfl⟩
set_option maxRecDepth 100000 in
theorem ent_14_2_2 (w : World) : Calls Try.prog 34 #[.string ⟨#[99, 121]⟩, .int .i64 2, .int .i64 2] w fun e w' => e = .returned (.tuple #[.int .i64 0, .int .i64 0]) ∧ w' = w := by
  have A := fun w => mvd_14_2 w
  go_enter Try.func34, Try.ntmps34
  go_wp2_with (go_at_call 49; (with_reducible refine (A _).mono ?_); rintro e w1 ⟨rfl, rfl⟩)
  go_ret2
  exact ⟨rfl, rfl⟩
set_option maxRecDepth 100000 in
theorem ent_14_3_2 (w : World) : Calls Try.prog 34 #[.string ⟨#[99, 121]⟩, .int .i64 3, .int .i64 2] w fun e w' => e = .returned (.tuple #[.int .i64 (-1), .int .i64 0]) ∧ w' = w := by
  have A := fun w => mvd_14_2 w
  go_enter Try.func34, Try.ntmps34
  go_wp2_with (go_at_call 49; (with_reducible refine (A _).mono ?_); rintro e w1 ⟨rfl, rfl⟩)
  go_ret2
  exact ⟨rfl, rfl⟩
set_option maxRecDepth 100000 in
theorem sub_14_3 (w : World) : Calls Try.prog 59 #[.string ⟨#[99, 121]⟩, .int .i64 3] w fun e w' => e = .returned (.tuple #[.int .i64 1, .int .i64 6]) ∧ w' = w := by
  have b0 : bits BinOp.and IntKind.i64 3 1 = 1 := by decide +kernel
  have b1 : wrap64 (1 * 2) = 2 := by decide +kernel
  have b2 : bits BinOp.xor IntKind.i64 3 2 = 1 := by decide +kernel
  go_enter Try.func59, Try.ntmps59
  go_wp2
  go_ret2
  exact ⟨rfl, rfl⟩
set_option maxRecDepth 100000 in
theorem mvd_14_3 (w : World) : Calls Try.prog 49 #[.string ⟨#[99, 121]⟩, .int .i64 3] w fun e w' => e = .returned (.tuple #[.int .i64 1, .int .i64 6]) ∧ w' = w := by
  have A := fun w => sub_14_3 w
  go_enter Try.func49, Try.ntmps49
  go_wp2_with (go_at_call 59; (with_reducible refine (A _).mono ?_); rintro e w1 ⟨rfl, rfl⟩)
  go_ret2
  exact ⟨rfl, rfl⟩
set_option maxRecDepth 100000 in
theorem ent_14_0_3 (w : World) : Calls Try.prog 34 #[.string ⟨#[99, 121]⟩, .int .i64 0, .int .i64 3] w fun e w' => e = .returned (.tuple #[.int .i64 (-1), .int .i64 0]) ∧ w' = w := by
  have A := fun w => mvd_14_3 w
  go_enter Try.func34, Try.ntmps34
  go_wp2_with (go_at_call 49; (with_reducible refine (A _).mono ?_); rintro e w1 ⟨rfl, rfl⟩)
  go_ret2
  exact ⟨rfl, rfl⟩
set_option maxRecDepth 100000 in
theorem ent_14_1_3 (w : World) : Calls Try.prog 34 #[.string ⟨#[99, 121]⟩, .int .i64 1, .int .i64 3] w fun e w' => e = .returned (.tuple #[.int .i64 6, .int .i64 0]) ∧ w' = w := by
  have A := fun w => mvd_14_3 w
  go_enter Try.func34, Try.ntmps34
  go_wp2_with (go_at_call 49; (with_reducible refine (A _).mono ?_); rintro e w1 ⟨rfl, rfl⟩)
  go_ret2
  exact ⟨rfl, rfl⟩
set_option maxRecDepth 100000 in
theorem ent_14_2_3 (w : World) : Calls Try.prog 34 #[.string ⟨#[99, 121]⟩, .int .i64 2, .int .i64 3] w fun e w' => e = .returned (.tuple #[.int .i64 (-1), .int .i64 0]) ∧ w' = w := by
  have A := fun w => mvd_14_3 w
  go_enter Try.func34, Try.ntmps34
  go_wp2_with (go_at_call 49; (with_reducible refine (A _).mono ?_); rintro e w1 ⟨rfl, rfl⟩)
  go_ret2
  exact ⟨rfl, rfl⟩
set_option maxRecDepth 100000 in
theorem ent_14_3_3 (w : World) : Calls Try.prog 34 #[.string ⟨#[99, 121]⟩, .int .i64 3, .int .i64 3] w fun e w' => e = .returned (.tuple #[.int .i64 (-1), .int .i64 0]) ∧ w' = w := by
  have A := fun w => mvd_14_3 w
  go_enter Try.func34, Try.ntmps34
  go_wp2_with (go_at_call 49; (with_reducible refine (A _).mono ?_); rintro e w1 ⟨rfl, rfl⟩)
  go_ret2
  exact ⟨rfl, rfl⟩
theorem rent_14 (x y : Nat) (hx : x < 4) (hy : y < 4) (w : World) : Calls Try.prog 34 #[.string (nm 14), .int .i64 (x : Nat), .int .i64 (y : Nat)] w fun e w' => e = .returned (.tuple #[.int .i64 (reP 14 x y), .int .i64 (reH 14 x y)]) ∧ w' = w := by
  have h1 : y = 0 ∨ y = 1 ∨ y = 2 ∨ y = 3 := by omega
  have h2 : x = 0 ∨ x = 1 ∨ x = 2 ∨ x = 3 := by omega
  rcases h1 with rfl | rfl | rfl | rfl
  · rcases h2 with rfl | rfl | rfl | rfl
    · exact ent_14_0_0 w
    · exact ent_14_1_0 w
    · exact ent_14_2_0 w
    · exact ent_14_3_0 w
  · rcases h2 with rfl | rfl | rfl | rfl
    · exact ent_14_0_1 w
    · exact ent_14_1_1 w
    · exact ent_14_2_1 w
    · exact ent_14_3_1 w
  · rcases h2 with rfl | rfl | rfl | rfl
    · exact ent_14_0_2 w
    · exact ent_14_1_2 w
    · exact ent_14_2_2 w
    · exact ent_14_3_2 w
  · rcases h2 with rfl | rfl | rfl | rfl
    · exact ent_14_0_3 w
    · exact ent_14_1_3 w
    · exact ent_14_2_3 w
    · exact ent_14_3_3 w
set_option maxRecDepth 100000 in
theorem sub_15_0 (w : World) : Calls Try.prog 59 #[.string ⟨#[99, 122]⟩, .int .i64 0] w fun e w' => e = .returned (.tuple #[.int .i64 0, .int .i64 0]) ∧ w' = w := by
  have b0 : bits BinOp.and IntKind.i64 0 1 = 0 := by decide +kernel
  have b1 : wrap64 (0 * 2) = 0 := by decide +kernel
  have b2 : bits BinOp.xor IntKind.i64 0 0 = 0 := by decide +kernel
  go_enter Try.func59, Try.ntmps59
  go_wp2
  go_ret2
  exact ⟨rfl, rfl⟩
set_option maxRecDepth 100000 in
theorem mvd_15_0 (w : World) : Calls Try.prog 49 #[.string ⟨#[99, 122]⟩, .int .i64 0] w fun e w' => e = .returned (.tuple #[.int .i64 0, .int .i64 0]) ∧ w' = w := by
  have A := fun w => sub_15_0 w
  go_enter Try.func49, Try.ntmps49
  go_wp2_with (go_at_call 59; (with_reducible refine (A _).mono ?_); rintro e w1 ⟨rfl, rfl⟩)
  go_ret2
  exact ⟨rfl, rfl⟩
set_option maxRecDepth 100000 in
theorem ent_15_0_0 (w : World) : Calls Try.prog 34 #[.string ⟨#[99, 122]⟩, .int .i64 0, .int .i64 0] w fun e w' => e = .returned (.tuple #[.int .i64 0, .int .i64 0]) ∧ w' = w := by
  have A := fun w => mvd_15_0 w
  go_enter Try.func34, Try.ntmps34
  go_wp2_with (go_at_call 49; (with_reducible refine (A _).mono ?_); rintro e w1 ⟨rfl, rfl⟩)
  go_ret2
  exact ⟨rfl, rfl⟩
set_option maxRecDepth 100000 in
theorem ent_15_1_0 (w : World) : Calls Try.prog 34 #[.string ⟨#[99, 122]⟩, .int .i64 1, .int .i64 0] w fun e w' => e = .returned (.tuple #[.int .i64 (-1), .int .i64 0]) ∧ w' = w := by
  have A := fun w => mvd_15_0 w
  go_enter Try.func34, Try.ntmps34
  go_wp2_with (go_at_call 49; (with_reducible refine (A _).mono ?_); rintro e w1 ⟨rfl, rfl⟩)
  go_ret2
  exact ⟨rfl, rfl⟩
set_option maxRecDepth 100000 in
theorem ent_15_2_0 (w : World) : Calls Try.prog 34 #[.string ⟨#[99, 122]⟩, .int .i64 2, .int .i64 0] w fun e w' => e = .returned (.tuple #[.int .i64 (-1), .int .i64 0]) ∧ w' = w := by
  have A := fun w => mvd_15_0 w
  go_enter Try.func34, Try.ntmps34
  go_wp2_with (go_at_call 49; (with_reducible refine (A _).mono ?_); rintro e w1 ⟨rfl, rfl⟩)
  go_ret2
  exact ⟨rfl, rfl⟩
set_option maxRecDepth 100000 in
theorem ent_15_3_0 (w : World) : Calls Try.prog 34 #[.string ⟨#[99, 122]⟩, .int .i64 3, .int .i64 0] w fun e w' => e = .returned (.tuple #[.int .i64 (-1), .int .i64 0]) ∧ w' = w := by
  have A := fun w => mvd_15_0 w
  go_enter Try.func34, Try.ntmps34
  go_wp2_with (go_at_call 49; (with_reducible refine (A _).mono ?_); rintro e w1 ⟨rfl, rfl⟩)
  go_ret2
  exact ⟨rfl, rfl⟩
set_option maxRecDepth 100000 in
theorem sub_15_1 (w : World) : Calls Try.prog 59 #[.string ⟨#[99, 122]⟩, .int .i64 1] w fun e w' => e = .returned (.tuple #[.int .i64 1, .int .i64 0]) ∧ w' = w := by
  have b0 : bits BinOp.and IntKind.i64 1 1 = 1 := by decide +kernel
  have b1 : wrap64 (1 * 2) = 2 := by decide +kernel
  have b2 : bits BinOp.xor IntKind.i64 1 2 = 3 := by decide +kernel
  go_enter Try.func59, Try.ntmps59
  go_wp2
  go_ret2
  exact ⟨rfl, rfl⟩
set_option maxRecDepth 100000 in
theorem mvd_15_1 (w : World) : Calls Try.prog 49 #[.string ⟨#[99, 122]⟩, .int .i64 1] w fun e w' => e = .returned (.tuple #[.int .i64 1, .int .i64 0]) ∧ w' = w := by
  have A := fun w => sub_15_1 w
  go_enter Try.func49, Try.ntmps49
  go_wp2_with (go_at_call 59; (with_reducible refine (A _).mono ?_); rintro e w1 ⟨rfl, rfl⟩)
  go_ret2
  exact ⟨rfl, rfl⟩
set_option maxRecDepth 100000 in
theorem ent_15_0_1 (w : World) : Calls Try.prog 34 #[.string ⟨#[99, 122]⟩, .int .i64 0, .int .i64 1] w fun e w' => e = .returned (.tuple #[.int .i64 (-1), .int .i64 0]) ∧ w' = w := by
  have A := fun w => mvd_15_1 w
  go_enter Try.func34, Try.ntmps34
  go_wp2_with (go_at_call 49; (with_reducible refine (A _).mono ?_); rintro e w1 ⟨rfl, rfl⟩)
  go_ret2
  exact ⟨rfl, rfl⟩
set_option maxRecDepth 100000 in
theorem ent_15_1_1 (w : World) : Calls Try.prog 34 #[.string ⟨#[99, 122]⟩, .int .i64 1, .int .i64 1] w fun e w' => e = .returned (.tuple #[.int .i64 0, .int .i64 0]) ∧ w' = w := by
  have A := fun w => mvd_15_1 w
  go_enter Try.func34, Try.ntmps34
  go_wp2_with (go_at_call 49; (with_reducible refine (A _).mono ?_); rintro e w1 ⟨rfl, rfl⟩)
  go_ret2
  exact ⟨rfl, rfl⟩
set_option maxRecDepth 100000 in
theorem ent_15_2_1 (w : World) : Calls Try.prog 34 #[.string ⟨#[99, 122]⟩, .int .i64 2, .int .i64 1] w fun e w' => e = .returned (.tuple #[.int .i64 (-1), .int .i64 0]) ∧ w' = w := by
  have A := fun w => mvd_15_1 w
  go_enter Try.func34, Try.ntmps34
  go_wp2_with (go_at_call 49; (with_reducible refine (A _).mono ?_); rintro e w1 ⟨rfl, rfl⟩)
  go_ret2
  exact ⟨rfl, rfl⟩
set_option maxRecDepth 100000 in
theorem ent_15_3_1 (w : World) : Calls Try.prog 34 #[.string ⟨#[99, 122]⟩, .int .i64 3, .int .i64 1] w fun e w' => e = .returned (.tuple #[.int .i64 (-1), .int .i64 0]) ∧ w' = w := by
  have A := fun w => mvd_15_1 w
  go_enter Try.func34, Try.ntmps34
  go_wp2_with (go_at_call 49; (with_reducible refine (A _).mono ?_); rintro e w1 ⟨rfl, rfl⟩)
  go_ret2
  exact ⟨rfl, rfl⟩
set_option maxRecDepth 100000 in
theorem sub_15_2 (w : World) : Calls Try.prog 59 #[.string ⟨#[99, 122]⟩, .int .i64 2] w fun e w' => e = .returned (.tuple #[.int .i64 2, .int .i64 0]) ∧ w' = w := by
  have b0 : bits BinOp.and IntKind.i64 2 1 = 0 := by decide +kernel
  have b1 : wrap64 (0 * 2) = 0 := by decide +kernel
  have b2 : bits BinOp.xor IntKind.i64 2 0 = 2 := by decide +kernel
  go_enter Try.func59, Try.ntmps59
  go_wp2
  go_ret2
  exact ⟨rfl, rfl⟩
set_option maxRecDepth 100000 in
theorem mvd_15_2 (w : World) : Calls Try.prog 49 #[.string ⟨#[99, 122]⟩, .int .i64 2] w fun e w' => e = .returned (.tuple #[.int .i64 2, .int .i64 0]) ∧ w' = w := by
  have A := fun w => sub_15_2 w
  go_enter Try.func49, Try.ntmps49
  go_wp2_with (go_at_call 59; (with_reducible refine (A _).mono ?_); rintro e w1 ⟨rfl, rfl⟩)
  go_ret2
  exact ⟨rfl, rfl⟩
set_option maxRecDepth 100000 in
theorem ent_15_0_2 (w : World) : Calls Try.prog 34 #[.string ⟨#[99, 122]⟩, .int .i64 0, .int .i64 2] w fun e w' => e = .returned (.tuple #[.int .i64 (-1), .int .i64 0]) ∧ w' = w := by
  have A := fun w => mvd_15_2 w
  go_enter Try.func34, Try.ntmps34
  go_wp2_with (go_at_call 49; (with_reducible refine (A _).mono ?_); rintro e w1 ⟨rfl, rfl⟩)
  go_ret2
  exact ⟨rfl, rfl⟩
set_option maxRecDepth 100000 in
theorem ent_15_1_2 (w : World) : Calls Try.prog 34 #[.string ⟨#[99, 122]⟩, .int .i64 1, .int .i64 2] w fun e w' => e = .returned (.tuple #[.int .i64 (-1), .int .i64 0]) ∧ w' = w := by
  have A := fun w => mvd_15_2 w
  go_enter Try.func34, Try.ntmps34
  go_wp2_with (go_at_call 49; (with_reducible refine (A _).mono ?_); rintro e w1 ⟨rfl, rfl⟩)
  go_ret2
  exact ⟨rfl, rfl⟩
set_option maxRecDepth 100000 in
theorem ent_15_2_2 (w : World) : Calls Try.prog 34 #[.string ⟨#[99, 122]⟩, .int .i64 2, .int .i64 2] w fun e w' => e = .returned (.tuple #[.int .i64 0, .int .i64 0]) ∧ w' = w := by
  have A := fun w => mvd_15_2 w
  go_enter Try.func34, Try.ntmps34
  go_wp2_with (go_at_call 49; (with_reducible refine (A _).mono ?_); rintro e w1 ⟨rfl, rfl⟩)
  go_ret2
  exact ⟨rfl, rfl⟩
set_option maxRecDepth 100000 in
theorem ent_15_3_2 (w : World) : Calls Try.prog 34 #[.string ⟨#[99, 122]⟩, .int .i64 3, .int .i64 2] w fun e w' => e = .returned (.tuple #[.int .i64 (-1), .int .i64 0]) ∧ w' = w := by
  have A := fun w => mvd_15_2 w
  go_enter Try.func34, Try.ntmps34
  go_wp2_with (go_at_call 49; (with_reducible refine (A _).mono ?_); rintro e w1 ⟨rfl, rfl⟩)
  go_ret2
  exact ⟨rfl, rfl⟩
set_option maxRecDepth 100000 in
theorem sub_15_3 (w : World) : Calls Try.prog 59 #[.string ⟨#[99, 122]⟩, .int .i64 3] w fun e w' => e = .returned (.tuple #[.int .i64 3, .int .i64 4]) ∧ w' = w := by
  have b0 : bits BinOp.and IntKind.i64 3 1 = 1 := by decide +kernel
  have b1 : wrap64 (1 * 2) = 2 := by decide +kernel
  have b2 : bits BinOp.xor IntKind.i64 3 2 = 1 := by decide +kernel
  go_enter Try.func59, Try.ntmps59
  go_wp2
  go_ret2
  exact ⟨rfl, rfl⟩
set_option maxRecDepth 100000 in
theorem mvd_15_3 (w : World) : Calls Try.prog 49 #[.string ⟨#[99, 122]⟩, .int .i64 3] w fun e w' => e = .returned (.tuple #[.int .i64 3, .int .i64 4]) ∧ w' = w := by
  have A := fun w => sub_15_3 w
  go_enter Try.func49, Try.ntmps49
  go_wp2_with (go_at_call 59; (with_reducible refine (A _).mono ?_); rintro e w1 ⟨rfl, rfl⟩)
  go_ret2
  exact ⟨rfl, rfl⟩
set_option maxRecDepth 100000 in
theorem ent_15_0_3 (w : World) : Calls Try.prog 34 #[.string ⟨#[99, 122]⟩, .int .i64 0, .int .i64 3] w fun e w' => e = .returned (.tuple #[.int .i64 (-1), .int .i64 0]) ∧ w' = w := by
  have A := fun w => mvd_15_3 w
  go_enter Try.func34, Try.ntmps34
  go_wp2_with (go_at_call 49; (with_reducible refine (A _).mono ?_); rintro e w1 ⟨rfl, rfl⟩)
  go_ret2
  exact ⟨rfl, rfl⟩
set_option maxRecDepth 100000 in
theorem ent_15_1_3 (w : World) : Calls Try.prog 34 #[.string ⟨#[99, 122]⟩, .int .i64 1, .int .i64 3] w fun e w' => e = .returned (.tuple #[.int .i64 (-1), .int .i64 0]) ∧ w' = w := by
  have A := fun w => mvd_15_3 w
  go_enter Try.func34, Try.ntmps34
  go_wp2_with (go_at_call 49; (with_reducible refine (A _).mono ?_); rintro e w1 ⟨rfl, rfl⟩)
  go_ret2
  exact ⟨rfl, rfl⟩
set_option maxRecDepth 100000 in
theorem ent_15_2_3 (w : World) : Calls Try.prog 34 #[.string ⟨#[99, 122]⟩, .int .i64 2, .int .i64 3] w fun e w' => e = .returned (.tuple #[.int .i64 (-1), .int .i64 0]) ∧ w' = w := by
  have A := fun w => mvd_15_3 w
  go_enter Try.func34, Try.ntmps34
  go_wp2_with (go_at_call 49; (with_reducible refine (A _).mono ?_); rintro e w1 ⟨rfl, rfl⟩)
  go_ret2
  exact ⟨rfl, rfl⟩
set_option maxRecDepth 100000 in
theorem ent_15_3_3 (w : World) : Calls Try.prog 34 #[.string ⟨#[99, 122]⟩, .int .i64 3, .int .i64 3] w fun e w' => e = .returned (.tuple #[.int .i64 4, .int .i64 0]) ∧ w' = w := by
  have A := fun w => mvd_15_3 w
  go_enter Try.func34, Try.ntmps34
  go_wp2_with (go_at_call 49; (with_reducible refine (A _).mono ?_); rintro e w1 ⟨rfl, rfl⟩)
  go_ret2
  exact ⟨rfl, rfl⟩
theorem rent_15 (x y : Nat) (hx : x < 4) (hy : y < 4) (w : World) : Calls Try.prog 34 #[.string (nm 15), .int .i64 (x : Nat), .int .i64 (y : Nat)] w fun e w' => e = .returned (.tuple #[.int .i64 (reP 15 x y), .int .i64 (reH 15 x y)]) ∧ w' = w := by
  have h1 : y = 0 ∨ y = 1 ∨ y = 2 ∨ y = 3 := by omega
  have h2 : x = 0 ∨ x = 1 ∨ x = 2 ∨ x = 3 := by omega
  rcases h1 with rfl | rfl | rfl | rfl
  · rcases h2 with rfl | rfl | rfl | rfl
    · exact ent_15_0_0 w
    · exact ent_15_1_0 w
    · exact ent_15_2_0 w
    · exact ent_15_3_0 w
  · rcases h2 with rfl | rfl | rfl | rfl
    · exact ent_15_0_1 w
    · exact ent_15_1_1 w
    · exact ent_15_2_1 w
    · exact ent_15_3_1 w
  · rcases h2 with rfl | rfl | rfl | rfl
    · exact ent_15_0_2 w
    · exact ent_15_1_2 w
    · exact ent_15_2_2 w
    · exact ent_15_3_2 w
  · rcases h2 with rfl | rfl | rfl | rfl
    · exact ent_15_0_3 w
    · exact ent_15_1_3 w
    · exact ent_15_2_3 w
    · exact ent_15_3_3 w
set_option maxRecDepth 100000 in
theorem hlv_16_0_0 (w : World) : Calls Try.prog 48 #[.string ⟨#[99, 104]⟩, .int .i64 0, .int .i64 0] w fun e w' => e = .returned (.tuple #[.int .i64 0, .int .i64 0]) ∧ w' = w := by
  have b0 : bits BinOp.and IntKind.i64 0 0 = 0 := by decide +kernel
  have b1 : bits BinOp.and IntKind.i64 0 0 = 0 := by decide +kernel
  have b2 : wrap64 (4 * 0) = 0 := by decide +kernel
  have b3 : wrap64 (4 * 0) = 0 := by decide +kernel
  go_enter Try.func48, Try.ntmps48
  go_wp2
  go_ret2
  exact ⟨rfl, rfl⟩
set_option maxRecDepth 100000 in
theorem ent_16_0_0 (w : World) : Calls Try.prog 34 #[.string ⟨#[99, 104]⟩, .int .i64 0, .int .i64 0] w fun e w' => e = .returned (.tuple #[.int .i64 0, .int .i64 0]) ∧ w' = w := by
  have A := fun w => hlv_16_0_0 w
  go_enter Try.func34, Try.ntmps34
  go_wp2_with (go_at_call 48; (with_reducible refine (A _).mono ?_); rintro e w1 ⟨rfl, rfl⟩)
  go_ret2
  exact ⟨rfl, rfl⟩
set_option maxRecDepth 100000 in
theorem hlv_16_1_0 (w : World) : Calls Try.prog 48 #[.string ⟨#[99, 104]⟩, .int .i64 1, .int .i64 0] w fun e w' => e = .returned (.tuple #[.int .i64 (-1), .int .i64 0]) ∧ w' = w := by
  have b0 : bits BinOp.and IntKind.i64 1 0 = 0 := by decide +kernel
  have b1 : bits BinOp.and IntKind.i64 0 0 = 0 := by decide +kernel
  have b2 : wrap64 (4 * 0) = 0 := by decide +kernel
  have b3 : wrap64 (4 * 0) = 0 := by decide +kernel
  go_enter Try.func48, Try.ntmps48
  go_wp2
  go_ret2
  exact ⟨rfl, rfl⟩
set_option maxRecDepth 100000 in
theorem ent_16_1_0 (w : World) : Calls Try.prog 34 #[.string ⟨#[99, 104]⟩, .int .i64 1, .int .i64 0] w fun e w' => e = .returned (.tuple #[.int .i64 (-1), .int .i64 0]) ∧ w' = w := by
  have A := fun w => hlv_16_1_0 w
  go_enter Try.func34, Try.ntmps34
  go_wp2_with (go_at_call 48; (with_reducible refine (A _).mono ?_); rintro e w1 ⟨rfl, rfl⟩)
  go_ret2
  exact ⟨rfl, rfl⟩
set_option maxRecDepth 100000 in
theorem hlv_16_2_0 (w : World) : Calls Try.prog 48 #[.string ⟨#[99, 104]⟩, .int .i64 2, .int .i64 0] w fun e w' => e = .returned (.tuple #[.int .i64 (-1), .int .i64 0]) ∧ w' = w := by
  have b0 : bits BinOp.and IntKind.i64 2 0 = 0 := by decide +kernel
  have b1 : bits BinOp.and IntKind.i64 1 0 = 0 := by decide +kernel
  have b2 : wrap64 (4 * 0) = 0 := by decide +kernel
  have b3 : wrap64 (4 * 0) = 0 := by decide +kernel
  go_enter Try.func48, Try.ntmps48
  go_wp2
  go_ret2
  exact ⟨rfl, rfl⟩
set_option maxRecDepth 100000 in
theorem ent_16_2_0 (w : World) : Calls Try.prog 34 #[.string ⟨#[99, 104]⟩, .int .i64 2, .int .i64 0] w fun e w' => e = .returned (.tuple #[.int .i64 (-1), .int .i64 0]) ∧ w' = w := by
  have A := fun w => hlv_16_2_0 w
  go_enter Try.func34, Try.ntmps34
  go_wp2_with (go_at_call 48; (with_reducible refine (A _).mono ?_); rintro e w1 ⟨rfl, rfl⟩)
  go_ret2
  exact ⟨rfl, rfl⟩
set_option maxRecDepth 100000 in
theorem hlv_16_3_0 (w : World) : Calls Try.prog 48 #[.string ⟨#[99, 104]⟩, .int .i64 3, .int .i64 0] w fun e w' => e = .returned (.tuple #[.int .i64 (-1), .int .i64 0]) ∧ w' = w := by
  have b0 : bits BinOp.and IntKind.i64 3 0 = 0 := by decide +kernel
  have b1 : bits BinOp.and IntKind.i64 1 0 = 0 := by decide +kernel
  have b2 : wrap64 (4 * 0) = 0 := by decide +kernel
  have b3 : wrap64 (4 * 0) = 0 := by decide +kernel
  go_enter Try.func48, Try.ntmps48
  go_wp2
  go_ret2
  exact ⟨rfl, rfl⟩
set_option maxRecDepth 100000 in
theorem ent_16_3_0 (w : World) : Calls Try.prog 34 #[.string ⟨#[99, 104]⟩, .int .i64 3, .int .i64 0] w fun e w' => e = .returned (.tuple #[.int .i64 (-1), .int .i64 0]) ∧ w' = w := by
  have A := fun w => hlv_16_3_0 w
  go_enter Try.func34, Try.ntmps34
  go_wp2_with (go_at_call 48; (with_reducible refine (A _).mono ?_); rintro e w1 ⟨rfl, rfl⟩)
  go_ret2
  exact ⟨rfl, rfl⟩
set_option maxRecDepth 100000 in
theorem hlv_16_0_1 (w : World) : Calls Try.prog 48 #[.string ⟨#[99, 104]⟩, .int .i64 0, .int .i64 1] w fun e w' => e = .returned (.tuple #[.int .i64 (-1), .int .i64 0]) ∧ w' = w := by
  have b0 : bits BinOp.and IntKind.i64 0 1 = 0 := by decide +kernel
  have b1 : bits BinOp.and IntKind.i64 0 0 = 0 := by decide +kernel
  have b2 : wrap64 (4 * 0) = 0 := by decide +kernel
  have b3 : wrap64 (4 * 0) = 0 := by decide +kernel
  go_enter Try.func48, Try.ntmps48
  go_wp2
  go_ret2
  exact ⟨rfl, rfl⟩
set_option maxRecDepth 100000 in
theorem ent_16_0_1 (w : World) : Calls Try.prog 34 #[.string ⟨#[99, 104]⟩, .int .i64 0, .int .i64 1] w fun e w' => e = .returned (.tuple #[.int .i64 (-1), .int .i64 0]) ∧ w' = w := by
  have A := fun w => hlv_16_0_1 w
  go_enter Try.func34, Try.ntmps34
  go_wp2_with (go_at_call 48; (with_reducible refine (A _).mono ?_); rintro e w1 ⟨rfl, rfl⟩)
  go_ret2
  exact ⟨rfl, rfl⟩
set_option maxRecDepth 100000 in
theorem hlv_16_1_1 (w : World) : Calls Try.prog 48 #[.string ⟨#[99, 104]⟩, .int .i64 1, .int .i64 1] w fun e w' => e = .returned (.tuple #[.int .i64 0, .int .i64 1]) ∧ w' = w := by
  have b0 : bits BinOp.and IntKind.i64 1 1 = 1 := by decide +kernel
  have b1 : bits BinOp.and IntKind.i64 0 0 = 0 := by decide +kernel
  have b2 : wrap64 (4 * 1) = 4 := by decide +kernel
  have b3 : wrap64 (4 * 0) = 0 := by decide +kernel
  go_enter Try.func48, Try.ntmps48
  go_wp2
  go_ret2
  exact ⟨rfl, rfl⟩
set_option maxRecDepth 100000 in
theorem ent_16_1_1 (w : World) : Calls Try.prog 34 #[.string ⟨#[99, 104]⟩, .int .i64 1, .int .i64 1] w fun e w' => e = .returned (.tuple #[.int .i64 0, .int .i64 1]) ∧ w' = w := by
  have A := fun w => hlv_16_1_1 w
  go_enter Try.func34, Try.ntmps34
  go_wp2_with (go_at_call 48; (with_reducible refine (A _).mono ?_); rintro e w1 ⟨rfl, rfl⟩)
  go_ret2
  exact ⟨rfl, rfl⟩
set_option maxRecDepth 100000 in
theorem hlv_16_2_1 (w : World) : Calls Try.prog 48 #[.string ⟨#[99, 104]⟩, .int .i64 2, .int .i64 1] w fun e w' => e = .returned (.tuple #[.int .i64 (-1), .int .i64 0]) ∧ w' = w := by
  have b0 : bits BinOp.and IntKind.i64 2 1 = 0 := by decide +kernel
  have b1 : bits BinOp.and IntKind.i64 1 0 = 0 := by decide +kernel
  have b2 : wrap64 (4 * 0) = 0 := by decide +kernel
  have b3 : wrap64 (4 * 0) = 0 := by decide +kernel
  go_enter Try.func48, Try.ntmps48
  go_wp2
  go_ret2
  exact ⟨rfl, rfl⟩
set_option maxRecDepth 100000 in
theorem ent_16_2_1 (w : World) : Calls Try.prog 34 #[.string ⟨#[99, 104]⟩, .int .i64 2, .int .i64 1] w fun e w' => e = .returned (.tuple #[.int .i64 (-1), .int .i64 0]) ∧ w' = w := by
  have A := fun w => hlv_16_2_1 w
  go_enter Try.func34, Try.ntmps34
  go_wp2_with (go_at_call 48; (with_reducible refine (A _).mono ?_); rintro e w1 ⟨rfl, rfl⟩)
  go_ret2
  exact ⟨rfl, rfl⟩
set_option maxRecDepth 100000 in
theorem hlv_16_3_1 (w : World) : Calls Try.prog 48 #[.string ⟨#[99, 104]⟩, .int .i64 3, .int .i64 1] w fun e w' => e = .returned (.tuple #[.int .i64 0, .int .i64 1]) ∧ w' = w := by
  have b0 : bits BinOp.and IntKind.i64 3 1 = 1 := by decide +kernel
  have b1 : bits BinOp.and IntKind.i64 1 0 = 0 := by decide +kernel
  have b2 : wrap64 (4 * 1) = 4 := by decide +kernel
  have b3 : wrap64 (4 * 0) = 0 := by decide +kernel
  go_enter Try.func48, Try.ntmps48
  go_wp2
  go_ret2
  exact ⟨rfl, rfl⟩
set_option maxRecDepth 100000 in
theorem ent_16_3_1 (w : World) : Calls Try.prog 34 #[.string ⟨#[99, 104]⟩, .int .i64 3, .int .i64 1] w fun e w' => e = .returned (.tuple #[.int .i64 0, .int .i64 1]) ∧ w' = w := by
  have A := fun w => hlv_16_3_1 w
  go_enter Try.func34, Try.ntmps34
  go_wp2_with (go_at_call 48; (with_reducible refine (A _).mono ?_); rintro e w1 ⟨rfl, rfl⟩)
  go_ret2
  exact ⟨rfl, rfl⟩
set_option maxRecDepth 100000 in
theorem hlv_16_0_2 (w : World) : Calls Try.prog 48 #[.string ⟨#[99, 104]⟩, .int .i64 0, .int .i64 2] w fun e w' => e = .returned (.tuple #[.int .i64 (-1), .int .i64 0]) ∧ w' = w := by
  have b0 : bits BinOp.and IntKind.i64 0 2 = 0 := by decide +kernel
  have b1 : bits BinOp.and IntKind.i64 0 1 = 0 := by decide +kernel
  have b2 : wrap64 (4 * 0) = 0 := by decide +kernel
  have b3 : wrap64 (4 * 0) = 0 := by decide +kernel
  go_enter Try.func48, Try.ntmps48
  go_wp2
  go_ret2
  exact ⟨rfl, rfl⟩
set_option maxRecDepth 100000 in
theorem ent_16_0_2 (w : World) : Calls Try.prog 34 #[.string ⟨#[99, 104]⟩, .int .i64 0, .int .i64 2] w fun e w' => e = .returned (.tuple #[.int .i64 (-1), .int .i64 0]) ∧ w' = w := by
  have A := fun w => hlv_16_0_2 w
  go_enter Try.func34, Try.ntmps34
  go_wp2_with (go_at_call 48; (with_reducible refine (A _).mono ?_); rintro e w1 ⟨rfl, rfl⟩)
  go_ret2
  exact ⟨rfl, rfl⟩
set_option maxRecDepth 100000 in
theorem hlv_16_1_2 (w : World) : Calls Try.prog 48 #[.string ⟨#[99, 104]⟩, .int .i64 1, .int .i64 2] w fun e w' => e = .returned (.tuple #[.int .i64 (-1), .int .i64 0]) ∧ w' = w := by
  have b0 : bits BinOp.and IntKind.i64 1 2 = 0 := by decide +kernel
  have b1 : bits BinOp.and IntKind.i64 0 1 = 0 := by decide +kernel
  have b2 : wrap64 (4 * 0) = 0 := by decide +kernel
  have b3 : wrap64 (4 * 0) = 0 := by decide +kernel
  go_enter Try.func48, Try.ntmps48
  go_wp2
  go_ret2
  exact ⟨rfl, rfl⟩
set_option maxRecDepth 100000 in
theorem ent_16_1_2 (w : World) : Calls Try.prog 34 #[.string ⟨#[99, 104]⟩, .int .i64 1, .int .i64 2] w fun e w' => e = .returned (.tuple #[.int .i64 (-1), .int .i64 0]) ∧ w' = w := by
  have A := fun w => hlv_16_1_2 w
  go_enter Try.func34, Try.ntmps34
  go_wp2_with (go_at_call 48; (with_reducible refine (A _).mono ?_); rintro e w1 ⟨rfl, rfl⟩)
  go_ret2
  exact ⟨rfl, rfl⟩
set_option maxRecDepth 100000 in
theorem hlv_16_2_2 (w : World) : Calls Try.prog 48 #[.string ⟨#[99, 104]⟩, .int .i64 2, .int .i64 2] w fun e w' => e = .returned (.tuple #[.int .i64 0, .int .i64 0]) ∧ w' = w := by
  have b0 : bits BinOp.and IntKind.i64 2 2 = 2 := by decide +kernel
  have b1 : bits BinOp.and IntKind.i64 1 1 = 1 := by decide +kernel
  have b2 : wrap64 (4 * 2) = 8 := by decide +kernel
  have b3 : wrap64 (4 * 1) = 4 := by decide +kernel
  go_enter Try.func48, Try.ntmps48
  go_wp2
  go_ret2
  exact ⟨rfl, rfl⟩
set_option maxRecDepth 100000 in
theorem ent_16_2_2 (w : World) : Calls Try.prog 34 #[.string ⟨#[99, 104]⟩, .int .i64 2, .int .i64 2] w fun e w' => e = .returned (.tuple #[.int .i64 0, .int .i64 0]) ∧ w' = w := by
  have A := fun w => hlv_16_2_2 w
  go_enter Try.func34, Try.ntmps34
  go_wp2_with (go_at_call 48; (with_reducible refine (A _).mono ?_); rintro e w1 ⟨rfl, rfl⟩)
  go_ret2
  exact ⟨rfl, rfl⟩
set_option maxRecDepth 100000 in
theorem hlv_16_3_2 (w : World) : Calls Try.prog 48 #[.string ⟨#[99, 104]⟩, .int .i64 3, .int .i64 2] w fun e w' => e = .returned (.tuple #[.int .i64 (-1), .int .i64 0]) ∧ w' = w := by
  have b0 : bits BinOp.and IntKind.i64 3 2 = 2 := by decide +kernel
  have b1 : bits BinOp.and IntKind.i64 1 1 = 1 := by decide +kernel
  have b2 : wrap64 (4 * 2) = 8 := by decide +kernel
  have b3 : wrap64 (4 * 1) = 4 := by decide +kernel
  go_enter Try.func48, Try.ntmps48
  go_wp2
  go_ret2
  exact ⟨rfl, rfl⟩
set_option maxRecDepth 100000 in
theorem ent_16_3_2 (w : World) : Calls Try.prog 34 #[.string ⟨#[99, 104]⟩, .int .i64 3, .int .i64 2] w fun e w' => e = .returned (.tuple #[.int .i64 (-1), .int .i64 0]) ∧ w' = w := by
  have A := fun w => hlv_16_3_2 w
  go_enter Try.func34, Try.ntmps34
  go_wp2_with (go_at_call 48; (with_reducible refine (A _).mono ?_); rintro e w1 ⟨rfl, rfl⟩)
  go_ret2
  exact ⟨rfl, rfl⟩
set_option maxRecDepth 100000 in
theorem hlv_16_0_3 (w : World) : Calls Try.prog 48 #[.string ⟨#[99, 104]⟩, .int .i64 0, .int .i64 3] w fun e w' => e = .returned (.tuple #[.int .i64 (-1), .int .i64 0]) ∧ w' = w := by
  have b0 : bits BinOp.and IntKind.i64 0 3 = 0 := by decide +kernel
  have b1 : bits BinOp.and IntKind.i64 0 1 = 0 := by decide +kernel
  have b2 : wrap64 (4 * 0) = 0 := by decide +kernel
  have b3 : wrap64 (4 * 0) = 0 := by decide +kernel
  go_enter Try.func48, Try.ntmps48
  go_wp2
  go_ret2
  exact ⟨rfl, rfl⟩
set_option maxRecDepth 100000 in
theorem ent_16_0_3 (w : World) : Calls Try.prog 34 #[.string ⟨#[99, 104]⟩, .int .i64 0, .int .i64 3] w fun e w' => e = .returned (.tuple #[.int .i64 (-1), .int .i64 0]) ∧ w' = w := by
  have A := fun w => hlv_16_0_3 w
  go_enter Try.func34, Try.ntmps34
  go_wp2_with (go_at_call 48; (with_reducible refine (A _).mono ?_); rintro e w1 ⟨rfl, rfl⟩)
  go_ret2
  exact ⟨rfl, rfl⟩
set_option maxRecDepth 100000 in
theorem hlv_16_1_3 (w : World) : Calls Try.prog 48 #[.string ⟨#[99, 104]⟩, .int .i64 1, .int .i64 3] w fun e w' => e = .returned (.tuple #[.int .i64 0, .int .i64 1]) ∧ w' = w := by
  have b0 : bits BinOp.and IntKind.i64 1 3 = 1 := by decide +kernel
  have b1 : bits BinOp.and IntKind.i64 0 1 = 0 := by decide +kernel
  have b2 : wrap64 (4 * 1) = 4 := by decide +kernel
  have b3 : wrap64 (4 * 0) = 0 := by decide +kernel
  go_enter Try.func48, Try.ntmps48
  go_wp2
  go_ret2
  exact ⟨rfl, rfl⟩
set_option maxRecDepth 100000 in
theorem ent_16_1_3 (w : World) : Calls Try.prog 34 #[.string ⟨#[99, 104]⟩, .int .i64 1, .int .i64 3] w fun e w' => e = .returned (.tuple #[.int .i64 0, .int .i64 1]) ∧ w' = w := by
  have A := fun w => hlv_16_1_3 w
  go_enter Try.func34, Try.ntmps34
  go_wp2_with (go_at_call 48; (with_reducible refine (A _).mono ?_); rintro e w1 ⟨rfl, rfl⟩)
  go_ret2
  exact ⟨rfl, rfl⟩
set_option maxRecDepth 100000 in
theorem hlv_16_2_3 (w : World) : Calls Try.prog 48 #[.string ⟨#[99, 104]⟩, .int .i64 2, .int .i64 3] w fun e w' => e = .returned (.tuple #[.int .i64 (-1), .int .i64 0]) ∧ w' = w := by
  have b0 : bits BinOp.and IntKind.i64 2 3 = 2 := by decide +kernel
  have b1 : bits BinOp.and IntKind.i64 1 1 = 1 := by decide +kernel
  have b2 : wrap64 (4 * 2) = 8 := by decide +kernel
  have b3 : wrap64 (4 * 1) = 4 := by decide +kernel
  go_enter Try.func48, Try.ntmps48
  go_wp2
  go_ret2
  exact ⟨rfl, rfl⟩
set_option maxRecDepth 100000 in
theorem ent_16_2_3 (w : World) : Calls Try.prog 34 #[.string ⟨#[99, 104]⟩, .int .i64 2, .int .i64 3] w fun e w' => e = .returned (.tuple #[.int .i64 (-1), .int .i64 0]) ∧ w' = w := by
  have A := fun w => hlv_16_2_3 w
  go_enter Try.func34, Try.ntmps34
  go_wp2_with (go_at_call 48; (with_reducible refine (A _).mono ?_); rintro e w1 ⟨rfl, rfl⟩)
  go_ret2
  exact ⟨rfl, rfl⟩
set_option maxRecDepth 100000 in
theorem hlv_16_3_3 (w : World) : Calls Try.prog 48 #[.string ⟨#[99, 104]⟩, .int .i64 3, .int .i64 3] w fun e w' => e = .returned (.tuple #[.int .i64 4, .int .i64 1]) ∧ w' = w := by
  have b0 : bits BinOp.and IntKind.i64 3 3 = 3 := by decide +kernel
  have b1 : bits BinOp.and IntKind.i64 1 1 = 1 := by decide +kernel
  have b2 : wrap64 (4 * 3) = 12 := by decide +kernel
  have b3 : wrap64 (4 * 1) = 4 := by decide +kernel
  go_enter Try.func48, Try.ntmps48
  go_wp2
  go_ret2
  exact ⟨rfl, rfl⟩
set_option maxRecDepth 100000 in
theorem ent_16_3_3 (w : World) : Calls Try.prog 34 #[.string ⟨#[99, 104]⟩, .int .i64 3, .int .i64 3] w fun e w' => e = .returned (.tuple #[.int .i64 4, .int .i64 1]) ∧ w' = w := by
  have A := fun w => hlv_16_3_3 w
  go_enter Try.func34, Try.ntmps34
  go_wp2_with (go_at_call 48; (with_reducible refine (A _).mono ?_); rintro e w1 ⟨rfl, rfl⟩)
  go_ret2
  exact ⟨rfl, rfl⟩
theorem rent_16 (x y : Nat) (hx : x < 4) (hy : y < 4) (w : World) : Calls Try.prog 34 #[.string (nm 16), .int .i64 (x : Nat), .int .i64 (y : Nat)] w fun e w' => e = .returned (.tuple #[.int .i64 (reP 16 x y), .int .i64 (reH 16 x y)]) ∧ w' = w := by
  have h1 : y = 0 ∨ y = 1 ∨ y = 2 ∨ y = 3 := by omega
  have h2 : x = 0 ∨ x = 1 ∨ x = 2 ∨ x = 3 := by omega
  rcases h1 with rfl | rfl | rfl | rfl
  · rcases h2 with rfl | rfl | rfl | rfl
    · exact ent_16_0_0 w
    · exact ent_16_1_0 w
    · exact ent_16_2_0 w
    · exact ent_16_3_0 w
  · rcases h2 with rfl | rfl | rfl | rfl
    · exact ent_16_0_1 w
    · exact ent_16_1_1 w
    · exact ent_16_2_1 w
    · exact ent_16_3_1 w
  · rcases h2 with rfl | rfl | rfl | rfl
    · exact ent_16_0_2 w
    · exact ent_16_1_2 w
    · exact ent_16_2_2 w
    · exact ent_16_3_2 w
  · rcases h2 with rfl | rfl | rfl | rfl
    · exact ent_16_0_3 w
    · exact ent_16_1_3 w
    · exact ent_16_2_3 w
    · exact ent_16_3_3 w
set_option maxRecDepth 100000 in
theorem sub_17_0 (w : World) : Calls Try.prog 59 #[.string ⟨#[99, 115]⟩, .int .i64 0] w fun e w' => e = .returned (.tuple #[.int .i64 0, .int .i64 0]) ∧ w' = w := by
  have b0 : bits BinOp.and IntKind.i64 0 1 = 0 := by decide +kernel
  have b1 : wrap64 (0 * 2) = 0 := by decide +kernel
  have b2 : bits BinOp.xor IntKind.i64 0 0 = 0 := by decide +kernel
  go_enter Try.func59, Try.ntmps59
  go_wp2
  go_ret2
  exact ⟨rfl, rfl⟩
set_option maxRecDepth 100000 in
theorem mvd_17_0 (w : World) : Calls Try.prog 49 #[.string ⟨#[99, 115]⟩, .int .i64 0] w fun e w' => e = .returned (.tuple #[.int .i64 0, .int .i64 0]) ∧ w' = w := by
  have A := fun w => sub_17_0 w
  go_enter Try.func49, Try.ntmps49
  go_wp2_with (go_at_call 59; (with_reducible refine (A _).mono ?_); rintro e w1 ⟨rfl, rfl⟩)
  go_ret2
  exact ⟨rfl, rfl⟩
set_option maxRecDepth 100000 in
theorem ent_17_0_0 (w : World) : Calls Try.prog 34 #[.string ⟨#[99, 115]⟩, .int .i64 0, .int .i64 0] w fun e w' => e = .returned (.tuple #[.int .i64 0, .int .i64 0]) ∧ w' = w := by
  have A := fun w => mvd_17_0 w
  go_enter Try.func34, Try.ntmps34
  go_wp2_with (go_at_call 49; (with_reducible refine (A _).mono ?_); rintro e w1 ⟨rfl, rfl⟩)
  go_ret2
  exact ⟨rfl, rfl⟩
set_option maxRecDepth 100000 in
theorem ent_17_1_0 (w : World) : Calls Try.prog 34 #[.string ⟨#[99, 115]⟩, .int .i64 1, .int .i64 0] w fun e w' => e = .returned (.tuple #[.int .i64 (-1), .int .i64 0]) ∧ w' = w := by
  have A := fun w => mvd_17_0 w
  go_enter Try.func34, Try.ntmps34
  go_wp2_with (go_at_call 49; (with_reducible refine (A _).mono ?_); rintro e w1 ⟨rfl, rfl⟩)
  go_ret2
  exact ⟨rfl, rfl⟩
set_option maxRecDepth 100000 in
theorem ent_17_2_0 (w : World) : Calls Try.prog 34 #[.string ⟨#[99, 115]⟩, .int .i64 2, .int .i64 0] w fun e w' => e = .returned (.tuple #[.int .i64 (-1), .int .i64 0]) ∧ w' = w := by
  have A := fun w => mvd_17_0 w
  go_enter Try.func34, Try.ntmps34
  go_wp2_with (go_at_call 49; (with_reducible refine (A _).mono ?_); rintro e w1 ⟨rfl, rfl⟩)
  go_ret2
  exact ⟨rfl, rfl⟩
set_option maxRecDepth 100000 in
theorem ent_17_3_0 (w : World) : Calls Try.prog 34 #[.string ⟨#[99, 115]⟩, .int .i64 3, .int .i64 0] w fun e w' => e = .returned (.tuple #[.int .i64 (-1), .int .i64 0]) ∧ w' = w := by
  have A := fun w => mvd_17_0 w
  go_enter Try.func34, Try.ntmps34
  go_wp2_with (go_at_call 49; (with_reducible refine (A _).mono ?_); rintro e w1 ⟨rfl, rfl⟩)
  go_ret2
  exact ⟨rfl, rfl⟩
set_option maxRecDepth 100000 in
theorem sub_17_1 (w : World) : Calls Try.prog 59 #[.string ⟨#[99, 115]⟩, .int .i64 1] w fun e w' => e = .returned (.tuple #[.int .i64 1, .int .i64 0]) ∧ w' = w := by
  have b0 : bits BinOp.and IntKind.i64 1 1 = 1 := by decide +kernel
  have b1 : wrap64 (1 * 2) = 2 := by decide +kernel
  have b2 : bits BinOp.xor IntKind.i64 1 2 = 3 := by decide +kernel
  go_enter Try.func59, Try.ntmps59
  go_wp2
  go_ret2
  exact ⟨rfl, rfl⟩
set_option maxRecDepth 100000 in
theorem mvd_17_1 (w : World) : Calls Try.prog 49 #[.string ⟨#[99, 115]⟩, .int .i64 1] w fun e w' => e = .returned (.tuple #[.int .i64 1, .int .i64 0]) ∧ w' = w := by
  have A := fun w => sub_17_1 w
  go_enter Try.func49, Try.ntmps49
  go_wp2_with (go_at_call 59; (with_reducible refine (A _).mono ?_); rintro e w1 ⟨rfl, rfl⟩)
  go_ret2
  exact ⟨rfl, rfl⟩
set_option maxRecDepth 100000 in
theorem ent_17_0_1 (w : World) : Calls Try.prog 34 #[.string ⟨#[99, 115]⟩, .int .i64 0, .int .i64 1] w fun e w' => e = .returned (.tuple #[.int .i64 (-1), .int .i64 0]) ∧ w' = w := by
  have A := fun w => mvd_17_1 w
  go_enter Try.func34, Try.ntmps34
  go_wp2_with (go_at_call 49; (with_reducible refine (A _).mono ?_); rintro e w1 ⟨rfl, rfl⟩)
  go_ret2
  exact ⟨rfl, rfl⟩
set_option maxRecDepth 100000 in
theorem ent_17_1_1 (w : World) : Calls Try.prog 34 #[.string ⟨#[99, 115]⟩, .int .i64 1, .int .i64 1] w fun e w' => e = .returned (.tuple #[.int .i64 0, .int .i64 0]) ∧ w' = w := by
  have A := fun w => mvd_17_1 w
  go_enter Try.func34, Try.ntmps34
  go_wp2_with (go_at_call 49; (with_reducible refine (A _).mono ?_); rintro e w1 ⟨rfl, rfl⟩)
  go_ret2
  exact ⟨rfl, rfl⟩
set_option maxRecDepth 100000 in
theorem ent_17_2_1 (w : World) : Calls Try.prog 34 #[.string ⟨#[99, 115]⟩, .int .i64 2, .int .i64 1] w fun e w' => e = .returned (.tuple #[.int .i64 (-1), .int .i64 0]) ∧ w' = w := by
  have A := fun w => mvd_17_1 w
  go_enter Try.func34, Try.ntmps34
  go_wp2_with (go_at_call 49; (with_reducible refine (A _).mono ?_); rintro e w1 ⟨rfl, rfl⟩)
  go_ret2
  exact ⟨rfl, rfl⟩
set_option maxRecDepth 100000 in
theorem ent_17_3_1 (w : World) : Calls Try.prog 34 #[.string ⟨#[99, 115]⟩, .int .i64 3, .int .i64 1] w fun e w' => e = .returned (.tuple #[.int .i64 (-1), .int .i64 0]) ∧ w' = w := by
  have A := fun w => mvd_17_1 w
  go_enter Try.func34, Try.ntmps34
  go_wp2_with (go_at_call 49; (with_reducible refine (A _).mono ?_); rintro e w1 ⟨rfl, rfl⟩)
  go_ret2
  exact ⟨rfl, rfl⟩
set_option maxRecDepth 100000 in
theorem sub_17_2 (w : World) : Calls Try.prog 59 #[.string ⟨#[99, 115]⟩, .int .i64 2] w fun e w' => e = .returned (.tuple #[.int .i64 2, .int .i64 0]) ∧ w' = w := by
  have b0 : bits BinOp.and IntKind.i64 2 1 = 0 := by decide +kernel
  have b1 : wrap64 (0 * 2) = 0 := by decide +kernel
  have b2 : bits BinOp.xor IntKind.i64 2 0 = 2 := by decide +kernel
  go_enter Try.func59, Try.ntmps59
  go_wp2
  go_ret2
  exact ⟨rfl, rfl⟩
set_option maxRecDepth 100000 in
theorem mvd_17_2 (w : World) : Calls Try.prog 49 #[.string ⟨#[99, 115]⟩, .int .i64 2] w fun e w' => e = .returned (.tuple #[.int .i64 2, .int .i64 0]) ∧ w' = w := by
  have A := fun w => sub_17_2 w
  go_enter Try.func49, Try.ntmps49
  go_wp2_with (go_at_call 59; (with_reducible refine (A _).mono ?_); rintro e w1 ⟨rfl, rfl⟩)
  go_ret2
  exact ⟨rfl, rfl⟩
set_option maxRecDepth 100000 in
theorem ent_17_0_2 (w : World) : Calls Try.prog 34 #[.string ⟨#[99, 115]⟩, .int .i64 0, .int .i64 2] w fun e w' => e = .returned (.tuple #[.int .i64 (-1), .int .i64 0]) ∧ w' = w := by
  have A := fun w => mvd_17_2 w
  go_enter Try.func34, Try.ntmps34
  go_wp2_with (go_at_call 49; (with_reducible refine (A _).mono ?_); rintro e w1 ⟨rfl, rfl⟩)
  go_ret2
  exact ⟨rfl, rfl⟩
set_option maxRecDepth 100000 in
theorem ent_17_1_2 (w : World) : Calls Try.prog 34 #[.string ⟨#[99, 115]⟩, .int .i64 1, .int .i64 2] w fun e w' => e = .returned (.tuple #[.int .i64 (-1), .int .i64 0]) ∧ w' = w := by
  have A := fun w => mvd_17_2 w
  go_enter Try.func34, Try.ntmps34
  go_wp2_with (go_at_call 49; (with_reducible refine (A _).mono ?_); rintro e w1 ⟨rfl, rfl⟩)
  go_ret2
  exact ⟨rfl, rfl⟩
set_option maxRecDepth 100000 in
theorem ent_17_2_2 (w : World) : Calls Try.prog 34 #[.string ⟨#[99, 115]⟩, .int .i64 2, .int .i64 2] w fun e w' => e = .returned (.tuple #[.int .i64 0, .int .i64 0]) ∧ w' = w := by
  have A := fun w => mvd_17_2 w
  go_enter Try.func34, Try.ntmps34
  go_wp2_with (go_at_call 49; (with_reducible refine (A _).mono ?_); rintro e w1 ⟨rfl, rfl⟩)
  go_ret2
  exact ⟨rfl, rfl⟩
set_option maxRecDepth 100000 in
theorem ent_17_3_2 (w : World) : Calls Try.prog 34 #[.string ⟨#[99, 115]⟩, .int .i64 3, .int .i64 2] w fun e w' => e = .returned (.tuple #[.int .i64 (-1), .int .i64 0]) ∧ w' = w := by
  have A := fun w => mvd_17_2 w
  go_enter Try.func34, Try.ntmps34
  go_wp2_with (go_at_call 49; (with_reducible refine (A _).mono ?_); rintro e w1 ⟨rfl, rfl⟩)
  go_ret2
  exact ⟨rfl, rfl⟩
set_option maxRecDepth 100000 in
theorem sub_17_3 (w : World) : Calls Try.prog 59 #[.string ⟨#[99, 115]⟩, .int .i64 3] w fun e w' => e = .returned (.tuple #[.int .i64 3, .int .i64 2]) ∧ w' = w := by
  have b0 : bits BinOp.and IntKind.i64 3 1 = 1 := by decide +kernel
  have b1 : wrap64 (1 * 2) = 2 := by decide +kernel
  have b2 : bits BinOp.xor IntKind.i64 3 2 = 1 := by decide +kernel
  go_enter Try.func59, Try.ntmps59
  go_wp2
  go_ret2
  exact ⟨rfl, rfl⟩
set_option maxRecDepth 100000 in
theorem mvd_17_3 (w : World) : Calls Try.prog 49 #[.string ⟨#[99, 115]⟩, .int .i64 3] w fun e w' => e = .returned (.tuple #[.int .i64 3, .int .i64 2]) ∧ w' = w := by
  have A := fun w => sub_17_3 w
  go_enter Try.func49, Try.ntmps49
  go_wp2_with (go_at_call 59; (with_reducible refine (A _).mono ?_); rintro e w1 ⟨rfl, rfl⟩)
  go_ret2
  exact ⟨rfl, rfl⟩
set_option maxRecDepth 100000 in
theorem ent_17_0_3 (w : World) : Calls Try.prog 34 #[.string ⟨#[99, 115]⟩, .int .i64 0, .int .i64 3] w fun e w' => e = .returned (.tuple #[.int .i64 (-1), .int .i64 0]) ∧ w' = w := by
  have A := fun w => mvd_17_3 w
  go_enter Try.func34, Try.ntmps34
  go_wp2_with (go_at_call 49; (with_reducible refine (A _).mono ?_); rintro e w1 ⟨rfl, rfl⟩)
  go_ret2
  exact ⟨rfl, rfl⟩
set_option maxRecDepth 100000 in
theorem ent_17_1_3 (w : World) : Calls Try.prog 34 #[.string ⟨#[99, 115]⟩, .int .i64 1, .int .i64 3] w fun e w' => e = .returned (.tuple #[.int .i64 (-1), .int .i64 0]) ∧ w' = w := by
  have A := fun w => mvd_17_3 w
  go_enter Try.func34, Try.ntmps34
  go_wp2_with (go_at_call 49; (with_reducible refine (A _).mono ?_); rintro e w1 ⟨rfl, rfl⟩)
  go_ret2
  exact ⟨rfl, rfl⟩
set_option maxRecDepth 100000 in
theorem ent_17_2_3 (w : World) : Calls Try.prog 34 #[.string ⟨#[99, 115]⟩, .int .i64 2, .int .i64 3] w fun e w' => e = .returned (.tuple #[.int .i64 (-1), .int .i64 0]) ∧ w' = w := by
  have A := fun w => mvd_17_3 w
  go_enter Try.func34, Try.ntmps34
  go_wp2_with (go_at_call 49; (with_reducible refine (A _).mono ?_); rintro e w1 ⟨rfl, rfl⟩)
  go_ret2
  exact ⟨rfl, rfl⟩
set_option maxRecDepth 100000 in
theorem ent_17_3_3 (w : World) : Calls Try.prog 34 #[.string ⟨#[99, 115]⟩, .int .i64 3, .int .i64 3] w fun e w' => e = .returned (.tuple #[.int .i64 2, .int .i64 0]) ∧ w' = w := by
  have A := fun w => mvd_17_3 w
  go_enter Try.func34, Try.ntmps34
  go_wp2_with (go_at_call 49; (with_reducible refine (A _).mono ?_); rintro e w1 ⟨rfl, rfl⟩)
  go_ret2
  exact ⟨rfl, rfl⟩
theorem rent_17 (x y : Nat) (hx : x < 4) (hy : y < 4) (w : World) : Calls Try.prog 34 #[.string (nm 17), .int .i64 (x : Nat), .int .i64 (y : Nat)] w fun e w' => e = .returned (.tuple #[.int .i64 (reP 17 x y), .int .i64 (reH 17 x y)]) ∧ w' = w := by
  have h1 : y = 0 ∨ y = 1 ∨ y = 2 ∨ y = 3 := by omega
  have h2 : x = 0 ∨ x = 1 ∨ x = 2 ∨ x = 3 := by omega
  rcases h1 with rfl | rfl | rfl | rfl
  · rcases h2 with rfl | rfl | rfl | rfl
    · exact ent_17_0_0 w
    · exact ent_17_1_0 w
    · exact ent_17_2_0 w
    · exact ent_17_3_0 w
  · rcases h2 with rfl | rfl | rfl | rfl
    · exact ent_17_0_1 w
    · exact ent_17_1_1 w
    · exact ent_17_2_1 w
    · exact ent_17_3_1 w
  · rcases h2 with rfl | rfl | rfl | rfl
    · exact ent_17_0_2 w
    · exact ent_17_1_2 w
    · exact ent_17_2_2 w
    · exact ent_17_3_2 w
  · rcases h2 with rfl | rfl | rfl | rfl
    · exact ent_17_0_3 w
    · exact ent_17_1_3 w
    · exact ent_17_2_3 w
    · exact ent_17_3_3 w
set_option maxRecDepth 100000 in
theorem sub_18_0 (w : World) : Calls Try.prog 59 #[.string ⟨#[99, 115, 100, 103]⟩, .int .i64 0] w fun e w' => e = .returned (.tuple #[.int .i64 0, .int .i64 0]) ∧ w' = w := by
  have b0 : bits BinOp.and IntKind.i64 0 1 = 0 := by decide +kernel
  have b1 : wrap64 (0 * 2) = 0 := by decide +kernel
  have b2 : bits BinOp.xor IntKind.i64 0 0 = 0 := by decide +kernel
  go_enter Try.func59, Try.ntmps59
  go_wp2
  go_ret2
  exact ⟨rfl, rfl⟩
set_option maxRecDepth 100000 in
theorem mvd_18_0 (w : World) : Calls Try.prog 49 #[.string ⟨#[99, 115, 100, 103]⟩, .int .i64 0] w fun e w' => e = .returned (.tuple #[.int .i64 0, .int .i64 0]) ∧ w' = w := by
  have A := fun w => sub_18_0 w
  go_enter Try.func49, Try.ntmps49
  go_wp2_with (go_at_call 59; (with_reducible refine (A _).mono ?_); rintro e w1 ⟨rfl, rfl⟩)
  go_ret2
  exact ⟨rfl, rfl⟩
set_option maxRecDepth 100000 in
theorem ent_18_0_0 (w : World) : Calls Try.prog 34 #[.string ⟨#[99, 115, 100, 103]⟩, .int .i64 0, .int .i64 0] w fun e w' => e = .returned (.tuple #[.int .i64 0, .int .i64 0]) ∧ w' = w := by
  have A := fun w => mvd_18_0 w
  go_enter Try.func34, Try.ntmps34
  go_wp2_with (go_at_call 49; (with_reducible refine (A _).mono ?_); rintro e w1 ⟨rfl, rfl⟩)
  go_ret2
  exact ⟨rfl, rfl⟩
set_option maxRecDepth 100000 in
theorem ent_18_1_0 (w : World) : Calls Try.prog 34 #[.string ⟨#[99, 115, 100, 103]⟩, .int .i64 1, .int .i64 0] w fun e w' => e = .returned (.tuple #[.int .i64 (-1), .int .i64 0]) ∧ w' = w := by
  have A := fun w => mvd_18_0 w
  go_enter Try.func34, Try.ntmps34
  go_wp2_with (go_at_call 49; (with_reducible refine (A _).mono ?_); rintro e w1 ⟨rfl, rfl⟩)
  go_ret2
  exact ⟨rfl, rfl⟩
set_option maxRecDepth 100000 in
theorem ent_18_2_0 (w : World) : Calls Try.prog 34 #[.string ⟨#[99, 115, 100, 103]⟩, .int .i64 2, .int .i64 0] w fun e w' => e = .returned (.tuple #[.int .i64 (-1), .int .i64 0]) ∧ w' = w := by
  have A := fun w => mvd_18_0 w
  go_enter Try.func34, Try.ntmps34
  go_wp2_with (go_at_call 49; (with_reducible refine (A _).mono ?_); rintro e w1 ⟨rfl, rfl⟩)
  go_ret2
  exact ⟨rfl, rfl⟩
set_option maxRecDepth 100000 in
theorem ent_18_3_0 (w : World) : Calls Try.prog 34 #[.string ⟨#[99, 115, 100, 103]⟩, .int .i64 3, .int .i64 0] w fun e w' => e = .returned (.tuple #[.int .i64 (-1), .int .i64 0]) ∧ w' = w := by
  have A := fun w => mvd_18_0 w
  go_enter Try.func34, Try.ntmps34
  go_wp2_with (go_at_call 49; (with_reducible refine (A _).mono ?_); rintro e w1 ⟨rfl, rfl⟩)
  go_ret2
  exact ⟨rfl, rfl⟩
set_option maxRecDepth 100000 in
theorem sub_18_1 (w : World) : Calls Try.prog 59 #[.string ⟨#[99, 115, 100, 103]⟩, .int .i64 1] w fun e w' => e = .returned (.tuple #[.int .i64 1, .int .i64 0]) ∧ w' = w := by
  have b0 : bits BinOp.and IntKind.i64 1 1 = 1 := by decide +kernel
  have b1 : wrap64 (1 * 2) = 2 := by decide +kernel
  have b2 : bits BinOp.xor IntKind.i64 1 2 = 3 := by decide +kernel
  go_enter Try.func59, Try.ntmps59
  go_wp2
  go_ret2
  exact ⟨rfl, rfl⟩
set_option maxRecDepth 100000 in
theorem mvd_18_1 (w : World) : Calls Try.prog 49 #[.string ⟨#[99, 115, 100, 103]⟩, .int .i64 1] w fun e w' => e = .returned (.tuple #[.int .i64 1, .int .i64 0]) ∧ w' = w := by
  have A := fun w => sub_18_1 w
  go_enter Try.func49, Try.ntmps49
  go_wp2_with (go_at_call 59; (with_reducible refine (A _).mono ?_); rintro e w1 ⟨rfl, rfl⟩)
  go_ret2
  exact ⟨rfl, rfl⟩
set_option maxRecDepth 100000 in
theorem ent_18_0_1 (w : World) : Calls Try.prog 34 #[.string ⟨#[99, 115, 100, 103]⟩, .int .i64 0, .int .i64 1] w fun e w' => e = .returned (.tuple #[.int .i64 (-1), .int .i64 0]) ∧ w' = w := by
  have A := fun w => mvd_18_1 w
  go_enter Try.func34, Try.ntmps34
  go_wp2_with (go_at_call 49; (with_reducible refine (A _).mono ?_); rintro e w1 ⟨rfl, rfl⟩)
  go_ret2
  exact ⟨rfl, rfl⟩
set_option maxRecDepth 100000 in
theorem ent_18_1_1 (w : World) : Calls Try.prog 34 #[.string ⟨#[99, 115, 100, 103]⟩, .int .i64 1, .int .i64 1] w fun e w' => e = .returned (.tuple #[.int .i64 0, .int .i64 0]) ∧ w' = w := by
  have A := fun w => mvd_18_1 w
  go_enter Try.func34, Try.ntmps34
  go_wp2_with (go_at_call 49; (with_reducible refine (A _).mono ?_); rintro e w1 ⟨rfl, rfl⟩)
  go_ret2
  exact ⟨rfl, rfl⟩
set_option maxRecDepth 100000 in
theorem ent_18_2_1 (w : World) : Calls Try.prog 34 #[.string ⟨#[99, 115, 100, 103]⟩, .int .i64 2, .int .i64 1] w fun e w' => e = .returned (.tuple #[.int .i64 (-1), .int .i64 0]) ∧ w' = w := by
  have A := fun w => mvd_18_1 w
  go_enter Try.func34, Try.ntmps34
  go_wp2_with (go_at_call 49; (with_reducible refine (A _).mono ?_); rintro e w1 ⟨rfl, rfl⟩)
  go_ret2
  exact ⟨rfl, rfl⟩
set_option maxRecDepth 100000 in
theorem ent_18_3_1 (w : World) : Calls Try.prog 34 #[.string ⟨#[99, 115, 100, 103]⟩, .int .i64 3, .int .i64 1] w fun e w' => e = .returned (.tuple #[.int .i64 (-1), .int .i64 0]) ∧ w' = w := by
  have A := fun w => mvd_18_1 w
  go_enter Try.func34, Try.ntmps34
  go_wp2_with (go_at_call 49; (with_reducible refine (A _).mono ?_); rintro e w1 ⟨rfl, rfl⟩)
  go_ret2
  exact ⟨rfl, rfl⟩
set_option maxRecDepth 100000 in
theorem sub_18_2 (w : World) : Calls Try.prog 59 #[.string ⟨#[99, 115, 100, 103]⟩, .int .i64 2] w fun e w' => e = .returned (.tuple #[.int .i64 2, .int .i64 0]) ∧ w' = w := by
  have b0 : bits BinOp.and IntKind.i64 2 1 = 0 := by decide +kernel
  have b1 : wrap64 (0 * 2) = 0 := by decide +kernel
  have b2 : bits BinOp.xor IntKind.i64 2 0 = 2 := by decide +kernel
  go_enter Try.func59, Try.ntmps59
  go_wp2
  go_ret2
  exact ⟨rfl, rfl⟩
set_option maxRecDepth 100000 in
theorem mvd_18_2 (w : World) : Calls Try.prog 49 #[.string ⟨#[99, 115, 100, 103]⟩, .int .i64 2] w fun e w' => e = .returned (.tuple #[.int .i64 2, .int .i64 0]) ∧ w' = w := by
  have A := fun w => sub_18_2 w
  go_enter Try.func49, Try.ntmps49
  go_wp2_with (go_at_call 59; (with_reducible refine (A _).mono ?_); rintro e w1 ⟨rfl, rfl⟩)
  go_ret2
  exact ⟨rfl, rfl⟩
set_option maxRecDepth 100000 in
theorem ent_18_0_2 (w : World) : Calls Try.prog 34 #[.string ⟨#[99, 115, 100, 103]⟩, .int .i64 0, .int .i64 2] w fun e w' => e = .returned (.tuple #[.int .i64 (-1), .int .i64 0]) ∧ w' = w := by
  have A := fun w => mvd_18_2 w
  go_enter Try.func34, Try.ntmps34
  go_wp2_with (go_at_call 49; (with_reducible refine (A _).mono ?_); rintro e w1 ⟨rfl, rfl⟩)
  go_ret2
  exact ⟨rfl, rfl⟩
set_option maxRecDepth 100000 in
theorem ent_18_1_2 (w : World) : Calls Try.prog 34 #[.string ⟨#[99, 115, 100, 103]⟩, .int .i64 1, .int .i64 2] w fun e w' => e = .returned (.tuple #[.int .i64 (-1), .int .i64 0]) ∧ w' = w := by
  have A := fun w => mvd_18_2 w
  go_enter Try.func34, Try.ntmps34
  go_wp2_with (go_at_call 49; (with_reducible refine (A _).mono ?_); rintro e w1 ⟨rfl, rfl⟩)
  go_ret2
  exact ⟨rfl, rfl⟩
set_option maxRecDepth 100000 in
theorem ent_18_2_2 (w : World) : Calls Try.prog 34 #[.string ⟨#[99, 115, 100, 103]⟩, .int .i64 2, .int .i64 2] w fun e w' => e = .returned (.tuple #[.int .i64 0, .int .i64 0]) ∧ w' = w := by
  have A := fun w => mvd_18_2 w
  go_enter Try.func34, Try.ntmps34
  go_wp2_with (go_at_call 49; (with_reducible refine (A _).mono ?_); rintro e w1 ⟨rfl, rfl⟩)
  go_ret2
  exact ⟨rfl, rfl⟩
set_option maxRecDepth 100000 in
theorem ent_18_3_2 (w : World) : Calls Try.prog 34 #[.string ⟨#[99, 115, 100, 103]⟩, .int .i64 3, .int .i64 2] w fun e w' => e = .returned (.tuple #[.int .i64 (-1), .int .i64 0]) ∧ w' = w := by
  have A := fun w => mvd_18_2 w
  go_enter Try.func34, Try.ntmps34
  go_wp2_with (go_at_call 49; (with_reducible refine (A _).mono ?_); rintro e w1 ⟨rfl, rfl⟩)
  go_ret2
  exact ⟨rfl, rfl⟩
set_option maxRecDepth 100000 in
theorem sub_18_3 (w : World) : Calls Try.prog 59 #[.string ⟨#[99, 115, 100, 103]⟩, .int .i64 3] w fun e w' => e = .returned (.tuple #[.int .i64 3, .int .i64 6]) ∧ w' = w := by
  have b0 : bits BinOp.and IntKind.i64 3 1 = 1 := by decide +kernel
  have b1 : wrap64 (1 * 2) = 2 := by decide +kernel
  have b2 : bits BinOp.xor IntKind.i64 3 2 = 1 := by decide +kernel
  go_enter Try.func59, Try.ntmps59
  go_wp2
  go_ret2
  exact ⟨rfl, rfl⟩
set_option maxRecDepth 100000 in
theorem mvd_18_3 (w : World) : Calls Try.prog 49 #[.string ⟨#[99, 115, 100, 103]⟩, .int .i64 3] w fun e w' => e = .returned (.tuple #[.int .i64 3, .int .i64 6]) ∧ w' = w := by
  have A := fun w => sub_18_3 w
  go_enter Try.func49, Try.ntmps49
  go_wp2_with (go_at_call 59; (with_reducible refine (A _).mono ?_); rintro e w1 ⟨rfl, rfl⟩)
  go_ret2
  exact ⟨rfl, rfl⟩
set_option maxRecDepth 100000 in
theorem ent_18_0_3 (w : World) : Calls Try.prog 34 #[.string ⟨#[99, 115, 100, 103]⟩, .int .i64 0, .int .i64 3] w fun e w' => e = .returned (.tuple #[.int .i64 (-1), .int .i64 0]) ∧ w' = w := by
  have A := fun w => mvd_18_3 w
  go_enter Try.func34, Try.ntmps34
  go_wp2_with (go_at_call 49; (with_reducible refine (A _).mono ?_); rintro e w1 ⟨rfl, rfl⟩)
  go_ret2
  exact ⟨rfl, rfl⟩
set_option maxRecDepth 100000 in
theorem ent_18_1_3 (w : World) : Calls Try.prog 34 #[.string ⟨#[99, 115, 100, 103]⟩, .int .i64 1, .int .i64 3] w fun e w' => e = .returned (.tuple #[.int .i64 (-1), .int .i64 0]) ∧ w' = w := by
  have A := fun w => mvd_18_3 w
  go_enter Try.func34, Try.ntmps34
  go_wp2_with (go_at_call 49; (with_reducible refine (A _).mono ?_); rintro e w1 ⟨rfl, rfl⟩)
  go_ret2
  exact ⟨rfl, rfl⟩
set_option maxRecDepth 100000 in
theorem ent_18_2_3 (w : World) : Calls Try.prog 34 #[.string ⟨#[99, 115, 100, 103]⟩, .int .i64 2, .int .i64 3] w fun e w' => e = .returned (.tuple #[.int .i64 (-1), .int .i64 0]) ∧ w' = w := by
  have A := fun w => mvd_18_3 w
  go_enter Try.func34, Try.ntmps34
  go_wp2_with (go_at_call 49; (with_reducible refine (A _).mono ?_); rintro e w1 ⟨rfl, rfl⟩)
  go_ret2
  exact ⟨rfl, rfl⟩
set_option maxRecDepth 100000 in
theorem ent_18_3_3 (w : World) : Calls Try.prog 34 #[.string ⟨#[99, 115, 100, 103]⟩, .int .i64 3, .int .i64 3] w fun e w' => e = .returned (.tuple #[.int .i64 6, .int .i64 0]) ∧ w' = w := by
  have A := fun w => mvd_18_3 w
  go_enter Try.func34, Try.ntmps34
  go_wp2_with (go_at_call 49; (with_reducible refine (A _).mono ?_); rintro e w1 ⟨rfl, rfl⟩)
  go_ret2
  exact ⟨rfl, rfl⟩
theorem rent_18 (x y : Nat) (hx : x < 4) (hy : y < 4) (w : World) : Calls Try.prog 34 #[.string (nm 18), .int .i64 (x : Nat), .int .i64 (y : Nat)] w fun e w' => e = .returned (.tuple #[.int .i64 (reP 18 x y), .int .i64 (reH 18 x y)]) ∧ w' = w := by
  have h1 : y = 0 ∨ y = 1 ∨ y = 2 ∨ y = 3 := by omega
  have h2 : x = 0 ∨ x = 1 ∨ x = 2 ∨ x = 3 := by omega
  rcases h1 with rfl | rfl | rfl | rfl
  · rcases h2 with rfl | rfl | rfl | rfl
    · exact ent_18_0_0 w
    · exact ent_18_1_0 w
    · exact ent_18_2_0 w
    · exact ent_18_3_0 w
  · rcases h2 with rfl | rfl | rfl | rfl
    · exact ent_18_0_1 w
    · exact ent_18_1_1 w
    · exact ent_18_2_1 w
    · exact ent_18_3_1 w
  · rcases h2 with rfl | rfl | rfl | rfl
    · exact ent_18_0_2 w
    · exact ent_18_1_2 w
    · exact ent_18_2_2 w
    · exact ent_18_3_2 w
  · rcases h2 with rfl | rfl | rfl | rfl
    · exact ent_18_0_3 w
    · exact ent_18_1_3 w
    · exact ent_18_2_3 w
    · exact ent_18_3_3 w
end Go.Proofs.Ytjmgcgjmaemgdaa
