/-
  The reference's entries of the gates ccz.
-/
import Derived.Test.YtjmgcgjmaemgdaaF2
namespace Go.Proofs.Ytjmgcgjmaemgdaa
open Go.RowKit Go.Sort

set_option maxRecDepth 100000 in
theorem sub_23_0 (w : World) : Calls Try.prog 59 #[.string ⟨#[99, 99, 122]⟩, .int .i64 0] w fun e w' => e = .returned (.tuple #[.int .i64 0, .int .i64 0]) ∧ w' = w := by
  have b0 : bits BinOp.and IntKind.i64 0 1 = 0 := by decide +kernel
  have b1 : wrap64 (0 * 2) = 0 := by decide +kernel
  have b2 : bits BinOp.xor IntKind.i64 0 0 = 0 := by decide +kernel
  go_enter Try.func59, Try.ntmps59
  go_wp2
  go_ret2
  exact ⟨rfl, rfl⟩
set_option maxRecDepth 100000 in
theorem mvd_23_0 (w : World) : Calls Try.prog 49 #[.string ⟨#[99, 99, 122]⟩, .int .i64 0] w fun e w' => e = .returned (.tuple #[.int .i64 0, .int .i64 0]) ∧ w' = w := by
  have A := fun w => sub_23_0 w
  go_enter Try.func49, Try.ntmps49
  go_wp2_with (go_at_call 59; (with_reducible refine (A _).mono ?_); rintro e w1 ⟨rfl, rfl⟩)
  go_ret2
  exact ⟨rfl, rfl⟩
set_option maxRecDepth 100000 in
theorem ent_23_0_0 (w : World) : Calls Try.prog 34 #[.string ⟨#[99, 99, 122]⟩, .int .i64 0, .int .i64 0] w fun e w' => e = .returned (.tuple #[.int .i64 0, .int .i64 0]) ∧ w' = w := by
  have A := fun w => mvd_23_0 w
  go_enter Try.func34, Try.ntmps34
  go_wp2_with (go_at_call 49; (with_reducible refine (A _).mono ?_); rintro e w1 ⟨rfl, rfl⟩)
  go_ret2
  exact ⟨rfl, rfl⟩
set_option maxRecDepth 100000 in
theorem ent_23_1_0 (w : World) : Calls Try.prog 34 #[.string ⟨#[99, 99, 122]⟩, .int .i64 1, .int .i64 0] w fun e w' => e = .returned (.tuple #[.int .i64 (-1), .int .i64 0]) ∧ w' = w := by
  have A := fun w => mvd_23_0 w
  go_enter Try.func34, Try.ntmps34
  go_wp2_with (go_at_call 49; (with_reducible refine (A _).mono ?_); rintro e w1 ⟨rfl, rfl⟩)
  go_ret2
  exact ⟨rfl, rfl⟩
set_option maxRecDepth 100000 in
theorem ent_23_2_0 (w : World) : Calls Try.prog 34 #[.string ⟨#[99, 99, 122]⟩, .int .i64 2, .int .i64 0] w fun e w' => e = .returned (.tuple #[.int .i64 (-1), .int .i64 0]) ∧ w' = w := by
  have A := fun w => mvd_23_0 w
  go_enter Try.func34, Try.ntmps34
  go_wp2_with (go_at_call 49; (with_reducible refine (A _).mono ?_); rintro e w1 ⟨rfl, rfl⟩)
  go_ret2
  exact ⟨rfl, rfl⟩
set_option maxRecDepth 100000 in
theorem ent_23_3_0 (w : World) : Calls Try.prog 34 #[.string ⟨#[99, 99, 122]⟩, .int .i64 3, .int .i64 0] w fun e w' => e = .returned (.tuple #[.int .i64 (-1), .int .i64 0]) ∧ w' = w := by
  have A := fun w => mvd_23_0 w
  go_enter Try.func34, Try.ntmps34
  go_wp2_with (go_at_call 49; (with_reducible refine (A _).mono ?_); rintro e w1 ⟨rfl, rfl⟩)
  go_ret2
  exact ⟨rfl, rfl⟩
set_option maxRecDepth 100000 in
theorem ent_23_4_0 (w : World) : Calls Try.prog 34 #[.string ⟨#[99, 99, 122]⟩, .int .i64 4, .int .i64 0] w fun e w' => e = .returned (.tuple #[.int .i64 (-1), .int .i64 0]) ∧ w' = w := by
  have A := fun w => mvd_23_0 w
  go_enter Try.func34, Try.ntmps34
  go_wp2_with (go_at_call 49; (with_reducible refine (A _).mono ?_); rintro e w1 ⟨rfl, rfl⟩)
  go_ret2
  exact ⟨rfl, rfl⟩
set_option maxRecDepth 100000 in
theorem ent_23_5_0 (w : World) : Calls Try.prog 34 #[.string ⟨#[99, 99, 122]⟩, .int .i64 5, .int .i64 0] w fun e w' => e = .returned (.tuple #[.int .i64 (-1), .int .i64 0]) ∧ w' = w := by
  have A := fun w => mvd_23_0 w
  go_enter Try.func34, Try.ntmps34
  go_wp2_with (go_at_call 49; (with_reducible refine (A _).mono ?_); rintro e w1 ⟨rfl, rfl⟩)
  go_ret2
  exact ⟨rfl, rfl⟩
set_option maxRecDepth 100000 in
theorem ent_23_6_0 (w : World) : Calls Try.prog 34 #[.string ⟨#[99, 99, 122]⟩, .int .i64 6, .int .i64 0] w fun e w' => e = .returned (.tuple #[.int .i64 (-1), .int .i64 0]) ∧ w' = w := by
  have A := fun w => mvd_23_0 w
  go_enter Try.func34, Try.ntmps34
  go_wp2_with (go_at_call 49; (with_reducible refine (A _).mono ?_); rintro e w1 ⟨rfl, rfl⟩)
  go_ret2
  exact ⟨rfl, rfl⟩
set_option maxRecDepth 100000 in
theorem ent_23_7_0 (w : World) : Calls Try.prog 34 #[.string ⟨#[99, 99, 122]⟩, .int .i64 7, .int .i64 0] w fun e w' => e = .returned (.tuple #[.int .i64 (-1), .int .i64 0]) ∧ w' = w := by
  have A := fun w => mvd_23_0 w
  go_enter Try.func34, Try.ntmps34
  go_wp2_with (go_at_call 49; (with_reducible refine (A _).mono ?_); rintro e w1 ⟨rfl, rfl⟩)
  go_ret2
  exact ⟨rfl, rfl⟩
set_option maxRecDepth 100000 in
theorem sub_23_1 (w : World) : Calls Try.prog 59 #[.string ⟨#[99, 99, 122]⟩, .int .i64 1] w fun e w' => e = .returned (.tuple #[.int .i64 1, .int .i64 0]) ∧ w' = w := by
  have b0 : bits BinOp.and IntKind.i64 1 1 = 1 := by decide +kernel
  have b1 : wrap64 (1 * 2) = 2 := by decide +kernel
  have b2 : bits BinOp.xor IntKind.i64 1 2 = 3 := by decide +kernel
  go_enter Try.func59, Try.ntmps59
  go_wp2
  go_ret2
  exact ⟨rfl, rfl⟩
set_option maxRecDepth 100000 in
theorem mvd_23_1 (w : World) : Calls Try.prog 49 #[.string ⟨#[99, 99, 122]⟩, .int .i64 1] w fun e w' => e = .returned (.tuple #[.int .i64 1, .int .i64 0]) ∧ w' = w := by
  have A := fun w => sub_23_1 w
  go_enter Try.func49, Try.ntmps49
  go_wp2_with (go_at_call 59; (with_reducible refine (A _).mono ?_); rintro e w1 ⟨rfl, rfl⟩)
  go_ret2
  exact ⟨rfl, rfl⟩
set_option maxRecDepth 100000 in
theorem ent_23_0_1 (w : World) : Calls Try.prog 34 #[.string ⟨#[99, 99, 122]⟩, .int .i64 0, .int .i64 1] w fun e w' => e = .returned (.tuple #[.int .i64 (-1), .int .i64 0]) ∧ w' = w := by
  have A := fun w => mvd_23_1 w
  go_enter Try.func34, Try.ntmps34
  go_wp2_with (go_at_call 49; (with_reducible refine (A _).mono ?_); rintro e w1 ⟨rfl, rfl⟩)
  go_ret2
  exact ⟨rfl, rfl⟩
set_option maxRecDepth 100000 in
theorem ent_23_1_1 (w : World) : Calls Try.prog 34 #[.string ⟨#[99, 99, 122]⟩, .int .i64 1, .int .i64 1] w fun e w' => e = .returned (.tuple #[.int .i64 0, .int .i64 0]) ∧ w' = w := by
  have A := fun w => mvd_23_1 w
  go_enter Try.func34, Try.ntmps34
  go_wp2_with (go_at_call 49; (with_reducible refine (A _).mono ?_); rintro e w1 ⟨rfl, rfl⟩)
  go_ret2
  exact ⟨rfl, rfl⟩
set_option maxRecDepth 100000 in
theorem ent_23_2_1 (w : World) : Calls Try.prog 34 #[.string ⟨#[99, 99, 122]⟩, .int .i64 2, .int .i64 1] w fun e w' => e = .returned (.tuple #[.int .i64 (-1), .int .i64 0]) ∧ w' = w := by
  have A := fun w => mvd_23_1 w
  go_enter Try.func34, Try.ntmps34
  go_wp2_with (go_at_call 49; (with_reducible refine (A _).mono ?_); rintro e w1 ⟨rfl, rfl⟩)
  go_ret2
  exact ⟨rfl, rfl⟩
set_option maxRecDepth 100000 in
theorem ent_23_3_1 (w : World) : Calls Try.prog 34 #[.string ⟨#[99, 99, 122]⟩, .int .i64 3, .int .i64 1] w fun e w' => e = .returned (.tuple #[.int .i64 (-1), .int .i64 0]) ∧ w' = w := by
  have A := fun w => mvd_23_1 w
  go_enter Try.func34, Try.ntmps34
  go_wp2_with (go_at_call 49; (with_reducible refine (A _).mono ?_); rintro e w1 ⟨rfl, rfl⟩)
  go_ret2
  exact ⟨rfl, rfl⟩
set_option maxRecDepth 100000 in
theorem ent_23_4_1 (w : World) : Calls Try.prog 34 #[.string ⟨#[99, 99, 122]⟩, .int .i64 4, .int .i64 1] w fun e w' => e = .returned (.tuple #[.int .i64 (-1), .int .i64 0]) ∧ w' = w := by
  have A := fun w => mvd_23_1 w
  go_enter Try.func34, Try.ntmps34
  go_wp2_with (go_at_call 49; (with_reducible refine (A _).mono ?_); rintro e w1 ⟨rfl, rfl⟩)
  go_ret2
  exact ⟨rfl, rfl⟩
set_option maxRecDepth 100000 in
theorem ent_23_5_1 (w : World) : Calls Try.prog 34 #[.string ⟨#[99, 99, 122]⟩, .int .i64 5, .int .i64 1] w fun e w' => e = .returned (.tuple #[.int .i64 (-1), .int .i64 0]) ∧ w' = w := by
  have A := fun w => mvd_23_1 w
  go_enter Try.func34, Try.ntmps34
  go_wp2_with (go_at_call 49; (with_reducible refine (A _).mono ?_); rintro e w1 ⟨rfl, rfl⟩)
  go_ret2
  exact ⟨rfl, rfl⟩
set_option maxRecDepth 100000 in
theorem ent_23_6_1 (w : World) : Calls Try.prog 34 #[.string ⟨#[99, 99, 122]⟩, .int .i64 6, .int .i64 1] w fun e w' => e = .returned (.tuple #[.int .i64 (-1), .int .i64 0]) ∧ w' = w := by
  have A := fun w => mvd_23_1 w
  go_enter Try.func34, Try.ntmps34
  go_wp2_with (go_at_call 49; (with_reducible refine (A _).mono ?_); rintro e w1 ⟨rfl, rfl⟩)
  go_ret2
  exact ⟨rfl, rfl⟩
set_option maxRecDepth 100000 in
theorem ent_23_7_1 (w : World) : Calls Try.prog 34 #[.string ⟨#[99, 99, 122]⟩, .int .i64 7, .int .i64 1] w fun e w' => e = .returned (.tuple #[.int .i64 (-1), .int .i64 0]) ∧ w' = w := by
  have A := fun w => mvd_23_1 w
  go_enter Try.func34, Try.ntmps34
  go_wp2_with (go_at_call 49; (with_reducible refine (A _).mono ?_); rintro e w1 ⟨rfl, rfl⟩)
  go_ret2
  exact ⟨rfl, rfl⟩
set_option maxRecDepth 100000 in
theorem sub_23_2 (w : World) : Calls Try.prog 59 #[.string ⟨#[99, 99, 122]⟩, .int .i64 2] w fun e w' => e = .returned (.tuple #[.int .i64 2, .int .i64 0]) ∧ w' = w := by
  have b0 : bits BinOp.and IntKind.i64 2 1 = 0 := by decide +kernel
  have b1 : wrap64 (0 * 2) = 0 := by decide +kernel
  have b2 : bits BinOp.xor IntKind.i64 2 0 = 2 := by decide +kernel
  go_enter Try.func59, Try.ntmps59
  go_wp2
  go_ret2
  exact ⟨rfl, rfl⟩
set_option maxRecDepth 100000 in
theorem mvd_23_2 (w : World) : Calls Try.prog 49 #[.string ⟨#[99, 99, 122]⟩, .int .i64 2] w fun e w' => e = .returned (.tuple #[.int .i64 2, .int .i64 0]) ∧ w' = w := by
  have A := fun w => sub_23_2 w
  go_enter Try.func49, Try.ntmps49
  go_wp2_with (go_at_call 59; (with_reducible refine (A _).mono ?_); rintro e w1 ⟨rfl, rfl⟩)
  go_ret2
  exact ⟨rfl, rfl⟩
set_option maxRecDepth 100000 in
theorem ent_23_0_2 (w : World) : Calls Try.prog 34 #[.string ⟨#[99, 99, 122]⟩, .int .i64 0, .int .i64 2] w fun e w' => e = .returned (.tuple #[.int .i64 (-1), .int .i64 0]) ∧ w' = w := by
  have A := fun w => mvd_23_2 w
  go_enter Try.func34, Try.ntmps34
  go_wp2_with (go_at_call 49; (with_reducible refine (A _).mono ?_); rintro e w1 ⟨rfl, rfl⟩)
  go_ret2
  exact ⟨rfl, rfl⟩
set_option maxRecDepth 100000 in
theorem ent_23_1_2 (w : World) : Calls Try.prog 34 #[.string ⟨#[99, 99, 122]⟩, .int .i64 1, .int .i64 2] w fun e w' => e = .returned (.tuple #[.int .i64 (-1), .int .i64 0]) ∧ w' = w := by
  have A := fun w => mvd_23_2 w
  go_enter Try.func34, Try.ntmps34
  go_wp2_with (go_at_call 49; (with_reducible refine (A _).mono ?_); rintro e w1 ⟨rfl, rfl⟩)
  go_ret2
  exact ⟨rfl, rfl⟩
set_option maxRecDepth 100000 in
theorem ent_23_2_2 (w : World) : Calls Try.prog 34 #[.string ⟨#[99, 99, 122]⟩, .int .i64 2, .int .i64 2] w fun e w' => e = .returned (.tuple #[.int .i64 0, .int .i64 0]) ∧ w' = w := by
  have A := fun w => mvd_23_2 w
  go_enter Try.func34, Try.ntmps34
  go_wp2_with (go_at_call 49; (with_reducible refine (A _).mono ?_); rintro e w1 ⟨rfl, rfl⟩)
  go_ret2
  exact ⟨rfl, rfl⟩
set_option maxRecDepth 100000 in
theorem ent_23_3_2 (w : World) : Calls Try.prog 34 #[.string ⟨#[99, 99, 122]⟩, .int .i64 3, .int .i64 2] w fun e w' => e = .returned (.tuple #[.int .i64 (-1), .int .i64 0]) ∧ w' = w := by
  have A := fun w => mvd_23_2 w
  go_enter Try.func34, Try.ntmps34
  go_wp2_with (go_at_call 49; (with_reducible refine (A _).mono ?_); rintro e w1 ⟨rfl, rfl⟩)
  go_ret2
  exact ⟨rfl, rfl⟩
set_option maxRecDepth 100000 in
theorem ent_23_4_2 (w : World) : Calls Try.prog 34 #[.string ⟨#[99, 99, 122]⟩, .int .i64 4, .int .i64 2] w fun e w' => e = .returned (.tuple #[.int .i64 (-1), .int .i64 0]) ∧ w' = w := by
  have A := fun w => mvd_23_2 w
  go_enter Try.func34, Try.ntmps34
  go_wp2_with (go_at_call 49; (with_reducible refine (A _).mono ?_); rintro e w1 ⟨rfl, rfl⟩)
  go_ret2
  exact ⟨rfl, rfl⟩
set_option maxRecDepth 100000 in
theorem ent_23_5_2 (w : World) : Calls Try.prog 34 #[.string ⟨#[99, 99, 122]⟩, .int .i64 5, .int .i64 2] w fun e w' => e = .returned (.tuple #[.int .i64 (-1), .int .i64 0]) ∧ w' = w := by
  have A := fun w => mvd_23_2 w
  go_enter Try.func34, Try.ntmps34
  go_wp2_with (go_at_call 49; (with_reducible refine (A _).mono ?_); rintro e w1 ⟨rfl, rfl⟩)
  go_ret2
  exact ⟨rfl, rfl⟩
set_option maxRecDepth 100000 in
theorem ent_23_6_2 (w : World) : Calls Try.prog 34 #[.string ⟨#[99, 99, 122]⟩, .int .i64 6, .int .i64 2] w fun e w' => e = .returned (.tuple #[.int .i64 (-1), .int .i64 0]) ∧ w' = w := by
  have A := fun w => mvd_23_2 w
  go_enter Try.func34, Try.ntmps34
  go_wp2_with (go_at_call 49; (with_reducible refine (A _).mono ?_); rintro e w1 ⟨rfl, rfl⟩)
  go_ret2
  exact ⟨rfl, rfl⟩
set_option maxRecDepth 100000 in
theorem ent_23_7_2 (w : World) : Calls Try.prog 34 #[.string ⟨#[99, 99, 122]⟩, .int .i64 7, .int .i64 2] w fun e w' => e = .returned (.tuple #[.int .i64 (-1), .int .i64 0]) ∧ w' = w := by
  have A := fun w => mvd_23_2 w
  go_enter Try.func34, Try.ntmps34
  go_wp2_with (go_at_call 49; (with_reducible refine (A _).mono ?_); rintro e w1 ⟨rfl, rfl⟩)
  go_ret2
  exact ⟨rfl, rfl⟩
set_option maxRecDepth 100000 in
theorem sub_23_3 (w : World) : Calls Try.prog 59 #[.string ⟨#[99, 99, 122]⟩, .int .i64 3] w fun e w' => e = .returned (.tuple #[.int .i64 3, .int .i64 0]) ∧ w' = w := by
  have b0 : bits BinOp.and IntKind.i64 3 1 = 1 := by decide +kernel
  have b1 : wrap64 (1 * 2) = 2 := by decide +kernel
  have b2 : bits BinOp.xor IntKind.i64 3 2 = 1 := by decide +kernel
  go_enter Try.func59, Try.ntmps59
  go_wp2
  go_ret2
  exact ⟨rfl, rfl⟩
set_option maxRecDepth 100000 in
theorem mvd_23_3 (w : World) : Calls Try.prog 49 #[.string ⟨#[99, 99, 122]⟩, .int .i64 3] w fun e w' => e = .returned (.tuple #[.int .i64 3, .int .i64 0]) ∧ w' = w := by
  have A := fun w => sub_23_3 w
  go_enter Try.func49, Try.ntmps49
  go_wp2_with (go_at_call 59; (with_reducible refine (A _).mono ?_); rintro e w1 ⟨rfl, rfl⟩)
  go_ret2
  exact ⟨rfl, rfl⟩
set_option maxRecDepth 100000 in
theorem ent_23_0_3 (w : World) : Calls Try.prog 34 #[.string ⟨#[99, 99, 122]⟩, .int .i64 0, .int .i64 3] w fun e w' => e = .returned (.tuple #[.int .i64 (-1), .int .i64 0]) ∧ w' = w := by
  have A := fun w => mvd_23_3 w
  go_enter Try.func34, Try.ntmps34
  go_wp2_with (go_at_call 49; (with_reducible refine (A _).mono ?_); rintro e w1 ⟨rfl, rfl⟩)
  go_ret2
  exact ⟨rfl, rfl⟩
set_option maxRecDepth 100000 in
theorem ent_23_1_3 (w : World) : Calls Try.prog 34 #[.string ⟨#[99, 99, 122]⟩, .int .i64 1, .int .i64 3] w fun e w' => e = .returned (.tuple #[.int .i64 (-1), .int .i64 0]) ∧ w' = w := by
  have A := fun w => mvd_23_3 w
  go_enter Try.func34, Try.ntmps34
  go_wp2_with (go_at_call 49; (with_reducible refine (A _).mono ?_); rintro e w1 ⟨rfl, rfl⟩)
  go_ret2
  exact ⟨rfl, rfl⟩
set_option maxRecDepth 100000 in
theorem ent_23_2_3 (w : World) : Calls Try.prog 34 #[.string ⟨#[99, 99, 122]⟩, .int .i64 2, .int .i64 3] w fun e w' => e = .returned (.tuple #[.int .i64 (-1), .int .i64 0]) ∧ w' = w := by
  have A := fun w => mvd_23_3 w
  go_enter Try.func34, Try.ntmps34
  go_wp2_with (go_at_call 49; (with_reducible refine (A _).mono ?_); rintro e w1 ⟨rfl, rfl⟩)
  go_ret2
  exact ⟨rfl, rfl⟩
set_option maxRecDepth 100000 in
theorem ent_23_3_3 (w : World) : Calls Try.prog 34 #[.string ⟨#[99, 99, 122]⟩, .int .i64 3, .int .i64 3] w fun e w' => e = .returned (.tuple #[.int .i64 0, .int .i64 0]) ∧ w' = w := by
  have A := fun w => mvd_23_3 w
  go_enter Try.func34, Try.ntmps34
  go_wp2_with (go_at_call 49; (with_reducible refine (A _).mono ?_); rintro e w1 ⟨rfl, rfl⟩)
  go_ret2
  exact ⟨rfl, rfl⟩
set_option maxRecDepth 100000 in
theorem ent_23_4_3 (w : World) : Calls Try.prog 34 #[.string ⟨#[99, 99, 122]⟩, .int .i64 4, .int .i64 3] w fun e w' => e = .returned (.tuple #[.int .i64 (-1), .int .i64 0]) ∧ w' = w := by
  have A := fun w => mvd_23_3 w
  go_enter Try.func34, Try.ntmps34
  go_wp2_with (go_at_call 49; (with_reducible refine (A _).mono ?_); rintro e w1 ⟨rfl, rfl⟩)
  go_ret2
  exact ⟨rfl, rfl⟩
set_option maxRecDepth 100000 in
theorem ent_23_5_3 (w : World) : Calls Try.prog 34 #[.string ⟨#[99, 99, 122]⟩, .int .i64 5, .int .i64 3] w fun e w' => e = .returned (.tuple #[.int .i64 (-1), .int .i64 0]) ∧ w' = w := by
  have A := fun w => mvd_23_3 w
  go_enter Try.func34, Try.ntmps34
  go_wp2_with (go_at_call 49; (with_reducible refine (A _).mono ?_); rintro e w1 ⟨rfl, rfl⟩)
  go_ret2
  exact ⟨rfl, rfl⟩
set_option maxRecDepth 100000 in
theorem ent_23_6_3 (w : World) : Calls Try.prog 34 #[.string ⟨#[99, 99, 122]⟩, .int .i64 6, .int .i64 3] w fun e w' => e = .returned (.tuple #[.int .i64 (-1), .int .i64 0]) ∧ w' = w := by
  have A := fun w => mvd_23_3 w
  go_enter Try.func34, Try.ntmps34
  go_wp2_with (go_at_call 49; (with_reducible refine (A _).mono ?_); rintro e w1 ⟨rfl, rfl⟩)
  go_ret2
  exact ⟨rfl, rfl⟩
set_option maxRecDepth 100000 in
theorem ent_23_7_3 (w : World) : Calls Try.prog 34 #[.string ⟨#[99, 99, 122]⟩, .int .i64 7, .int .i64 3] w fun e w' => e = .returned (.tuple #[.int .i64 (-1), .int .i64 0]) ∧ w' = w := by
  have A := fun w => mvd_23_3 w
  go_enter Try.func34, Try.ntmps34
  go_wp2_with (go_at_call 49; (with_reducible refine (A _).mono ?_); rintro e w1 ⟨rfl, rfl⟩)
  go_ret2
  exact ⟨rfl, rfl⟩
set_option maxRecDepth 100000 in
theorem sub_23_4 (w : World) : Calls Try.prog 59 #[.string ⟨#[99, 99, 122]⟩, .int .i64 4] w fun e w' => e = .returned (.tuple #[.int .i64 4, .int .i64 0]) ∧ w' = w := by
  have b0 : bits BinOp.and IntKind.i64 4 1 = 0 := by decide +kernel
  have b1 : wrap64 (0 * 2) = 0 := by decide +kernel
  have b2 : bits BinOp.xor IntKind.i64 4 0 = 4 := by decide +kernel
  go_enter Try.func59, Try.ntmps59
  go_wp2
  go_ret2
  exact ⟨rfl, rfl⟩
set_option maxRecDepth 100000 in
theorem mvd_23_4 (w : World) : Calls Try.prog 49 #[.string ⟨#[99, 99, 122]⟩, .int .i64 4] w fun e w' => e = .returned (.tuple #[.int .i64 4, .int .i64 0]) ∧ w' = w := by
  have A := fun w => sub_23_4 w
  go_enter Try.func49, Try.ntmps49
  go_wp2_with (go_at_call 59; (with_reducible refine (A _).mono ?_); rintro e w1 ⟨rfl, rfl⟩)
  go_ret2
  exact ⟨rfl, rfl⟩
set_option maxRecDepth 100000 in
theorem ent_23_0_4 (w : World) : Calls Try.prog 34 #[.string ⟨#[99, 99, 122]⟩, .int .i64 0, .int .i64 4] w fun e w' => e = .returned (.tuple #[.int .i64 (-1), .int .i64 0]) ∧ w' = w := by
  have A := fun w => mvd_23_4 w
  go_enter Try.func34, Try.ntmps34
  go_wp2_with (go_at_call 49; (with_reducible refine (A _).mono ?_); rintro e w1 ⟨rfl, rfl⟩)
  go_ret2
  exact ⟨rfl, rfl⟩
set_option maxRecDepth 100000 in
theorem ent_23_1_4 (w : World) : Calls Try.prog 34 #[.string ⟨#[99, 99, 122]⟩, .int .i64 1, .int .i64 4] w fun e w' => e = .returned (.tuple #[.int .i64 (-1), .int .i64 0]) ∧ w' = w := by
  have A := fun w => mvd_23_4 w
  go_enter Try.func34, Try.ntmps34
  go_wp2_with (go_at_call 49; (with_reducible refine (A _).mono ?_); rintro e w1 ⟨rfl, rfl⟩)
  go_ret2
  exact ⟨rfl, rfl⟩
set_option maxRecDepth 100000 in
theorem ent_23_2_4 (w : World) : Calls Try.prog 34 #[.string ⟨#[99, 99, 122]⟩, .int .i64 2, .int .i64 4] w fun e w' => e = .returned (.tuple #[.int .i64 (-1), .int .i64 0]) ∧ w' = w := by
  have A := fun w => mvd_23_4 w
  go_enter Try.func34, Try.ntmps34
  go_wp2_with (go_at_call 49; (with_reducible refine (A _).mono ?_); rintro e w1 ⟨rfl, rfl⟩)
  go_ret2
  exact ⟨rfl, rfl⟩
set_option maxRecDepth 100000 in
theorem ent_23_3_4 (w : World) : Calls Try.prog 34 #[.string ⟨#[99, 99, 122]⟩, .int .i64 3, .int .i64 4] w fun e w' => e = .returned (.tuple #[.int .i64 (-1), .int .i64 0]) ∧ w' = w := by
  have A := fun w => mvd_23_4 w
  go_enter Try.func34, Try.ntmps34
  go_wp2_with (go_at_call 49; (with_reducible refine (A _).mono ?_); rintro e w1 ⟨rfl, rfl⟩)
  go_ret2
  exact ⟨rfl, rfl⟩
set_option maxRecDepth 100000 in
theorem ent_23_4_4 (w : World) : Calls Try.prog 34 #[.string ⟨#[99, 99, 122]⟩, .int .i64 4, .int .i64 4] w fun e w' => e = .returned (.tuple #[.int .i64 0, .int .i64 0]) ∧ w' = w := by
  have A := fun w => mvd_23_4 w
  go_enter Try.func34, Try.ntmps34
  go_wp2_with (go_at_call 49; (with_reducible refine (A _).mono ?_); rintro e w1 ⟨rfl, rfl⟩)
  go_ret2
  exact ⟨rfl, rfl⟩
set_option maxRecDepth 100000 in
theorem ent_23_5_4 (w : World) : Calls Try.prog 34 #[.string ⟨#[99, 99, 122]⟩, .int .i64 5, .int .i64 4] w fun e w' => e = .returned (.tuple #[.int .i64 (-1), .int .i64 0]) ∧ w' = w := by
  have A := fun w => mvd_23_4 w
  go_enter Try.func34, Try.ntmps34
  go_wp2_with (go_at_call 49; (with_reducible refine (A _).mono ?_); rintro e w1 ⟨rfl, rfl⟩)
  go_ret2
  exact ⟨rfl, rfl⟩
set_option maxRecDepth 100000 in
theorem ent_23_6_4 (w : World) : Calls Try.prog 34 #[.string ⟨#[99, 99, 122]⟩, .int .i64 6, .int .i64 4] w fun e w' => e = .returned (.tuple #[.int .i64 (-1), .int .i64 0]) ∧ w' = w := by
  have A := fun w => mvd_23_4 w
  go_enter Try.func34, Try.ntmps34
  go_wp2_with (go_at_call 49; (with_reducible refine (A _).mono ?_); rintro e w1 ⟨rfl, rfl⟩)
  go_ret2
  exact ⟨rfl, rfl⟩
set_option maxRecDepth 100000 in
theorem ent_23_7_4 (w : World) : Calls Try.prog 34 #[.string ⟨#[99, 99, 122]⟩, .int .i64 7, .int .i64 4] w fun e w' => e = .returned (.tuple #[.int .i64 (-1), .int .i64 0]) ∧ w' = w := by
  have A := fun w => mvd_23_4 w
  go_enter Try.func34, Try.ntmps34
  go_wp2_with (go_at_call 49; (with_reducible refine (A _).mono ?_); rintro e w1 ⟨rfl, rfl⟩)
  go_ret2
  exact ⟨rfl, rfl⟩
set_option maxRecDepth 100000 in
theorem sub_23_5 (w : World) : Calls Try.prog 59 #[.string ⟨#[99, 99, 122]⟩, .int .i64 5] w fun e w' => e = .returned (.tuple #[.int .i64 5, .int .i64 0]) ∧ w' = w := by
  have b0 : bits BinOp.and IntKind.i64 5 1 = 1 := by decide +kernel
  have b1 : wrap64 (1 * 2) = 2 := by decide +kernel
  have b2 : bits BinOp.xor IntKind.i64 5 2 = 7 := by decide +kernel
  go_enter Try.func59, Try.ntmps59
  go_wp2
  go_ret2
  exact ⟨rfl, rfl⟩
set_option maxRecDepth 100000 in
theorem mvd_23_5 (w : World) : Calls Try.prog 49 #[.string ⟨#[99, 99, 122]⟩, .int .i64 5] w fun e w' => e = .returned (.tuple #[.int .i64 5, .int .i64 0]) ∧ w' = w := by
  have A := fun w => sub_23_5 w
  go_enter Try.func49, Try.ntmps49
  go_wp2_with (go_at_call 59; (with_reducible refine (A _).mono ?_); rintro e w1 ⟨rfl, rfl⟩)
  go_ret2
  exact ⟨rfl, rfl⟩
set_option maxRecDepth 100000 in
theorem ent_23_0_5 (w : World) : Calls Try.prog 34 #[.string ⟨#[99, 99, 122]⟩, .int .i64 0, .int .i64 5] w fun e w' => e = .returned (.tuple #[.int .i64 (-1), .int .i64 0]) ∧ w' = w := by
  have A := fun w => mvd_23_5 w
  go_enter Try.func34, Try.ntmps34
  go_wp2_with (go_at_call 49; (with_reducible refine (A _).mono ?_); rintro e w1 ⟨rfl, rfl⟩)
  go_ret2
  exact ⟨rfl, rfl⟩
set_option maxRecDepth 100000 in
theorem ent_23_1_5 (w : World) : Calls Try.prog 34 #[.string ⟨#[99, 99, 122]⟩, .int .i64 1, .int .i64 5] w fun e w' => e = .returned (.tuple #[.int .i64 (-1), .int .i64 0]) ∧ w' = w := by
  have A := fun w => mvd_23_5 w
  go_enter Try.func34, Try.ntmps34
  go_wp2_with (go_at_call 49; (with_reducible refine (A _).mono ?_); rintro e w1 ⟨rfl, rfl⟩)
  go_ret2
  exact ⟨rfl, rfl⟩
set_option maxRecDepth 100000 in
theorem ent_23_2_5 (w : World) : Calls Try.prog 34 #[.string ⟨#[99, 99, 122]⟩, .int .i64 2, .int .i64 5] w fun e w' => e = .returned (.tuple #[.int .i64 (-1), .int .i64 0]) ∧ w' = w := by
  have A := fun w => mvd_23_5 w
  go_enter Try.func34, Try.ntmps34
  go_wp2_with (go_at_call 49; (with_reducible refine (A _).mono ?_); rintro e w1 ⟨rfl, rfl⟩)
  go_ret2
  exact ⟨rfl, rfl⟩
set_option maxRecDepth 100000 in
theorem ent_23_3_5 (w : World) : Calls Try.prog 34 #[.string ⟨#[99, 99, 122]⟩, .int .i64 3, .int .i64 5] w fun e w' => e = .returned (.tuple #[.int .i64 (-1), .int .i64 0]) ∧ w' = w := by
  have A := fun w => mvd_23_5 w
  go_enter Try.func34, Try.ntmps34
  go_wp2_with (go_at_call 49; (with_reducible refine (A _).mono ?_); rintro e w1 ⟨rfl, rfl⟩)
  go_ret2
  exact ⟨rfl, rfl⟩
set_option maxRecDepth 100000 in
theorem ent_23_4_5 (w : World) : Calls Try.prog 34 #[.string ⟨#[99, 99, 122]⟩, .int .i64 4, .int .i64 5] w fun e w' => e = .returned (.tuple #[.int .i64 (-1), .int .i64 0]) ∧ w' = w := by
  have A := fun w => mvd_23_5 w
  go_enter Try.func34, Try.ntmps34
  go_wp2_with (go_at_call 49; (with_reducible refine (A _).mono ?_); rintro e w1 ⟨rfl, rfl⟩)
  go_ret2
  exact ⟨rfl, rfl⟩
set_option maxRecDepth 100000 in
theorem ent_23_5_5 (w : World) : Calls Try.prog 34 #[.string ⟨#[99, 99, 122]⟩, .int .i64 5, .int .i64 5] w fun e w' => e = .returned (.tuple #[.int .i64 0, .int .i64 0]) ∧ w' = w := by
  have A := fun w => mvd_23_5 w
  go_enter Try.func34, Try.ntmps34
  go_wp2_with (go_at_call 49; (with_reducible refine (A _).mono ?_); rintro e w1 ⟨rfl, rfl⟩)
  go_ret2
  exact ⟨rfl, rfl⟩
set_option maxRecDepth 100000 in
theorem ent_23_6_5 (w : World) : Calls Try.prog 34 #[.string ⟨#[99, 99, 122]⟩, .int .i64 6, .int .i64 5] w fun e w' => e = .returned (.tuple #[.int .i64 (-1), .int .i64 0]) ∧ w' = w := by
  have A := fun w => mvd_23_5 w
  go_enter Try.func34, Try.ntmps34
  go_wp2_with (go_at_call 49; (with_reducible refine (A _).mono ?_); rintro e w1 ⟨rfl, rfl⟩)
  go_ret2
  exact ⟨rfl, rfl⟩
set_option maxRecDepth 100000 in
theorem ent_23_7_5 (w : World) : Calls Try.prog 34 #[.string ⟨#[99, 99, 122]⟩, .int .i64 7, .int .i64 5] w fun e w' => e = .returned (.tuple #[.int .i64 (-1), .int .i64 0]) ∧ w' = w := by
  have A := fun w => mvd_23_5 w
  go_enter Try.func34, Try.ntmps34
  go_wp2_with (go_at_call 49; (with_reducible refine (A _).mono ?_); rintro e w1 ⟨rfl, rfl⟩)
  go_ret2
  exact ⟨rfl, rfl⟩
set_option maxRecDepth 100000 in
theorem sub_23_6 (w : World) : Calls Try.prog 59 #[.string ⟨#[99, 99, 122]⟩, .int .i64 6] w fun e w' => e = .returned (.tuple #[.int .i64 6, .int .i64 0]) ∧ w' = w := by
  have b0 : bits BinOp.and IntKind.i64 6 1 = 0 := by decide +kernel
  have b1 : wrap64 (0 * 2) = 0 := by decide +kernel
  have b2 : bits BinOp.xor IntKind.i64 6 0 = 6 := by decide +kernel
  go_enter Try.func59, Try.ntmps59
  go_wp2
  go_ret2
  exact ⟨rfl, rfl⟩
set_option maxRecDepth 100000 in
theorem mvd_23_6 (w : World) : Calls Try.prog 49 #[.string ⟨#[99, 99, 122]⟩, .int .i64 6] w fun e w' => e = .returned (.tuple #[.int .i64 6, .int .i64 0]) ∧ w' = w := by
  have A := fun w => sub_23_6 w
  go_enter Try.func49, Try.ntmps49
  go_wp2_with (go_at_call 59; (with_reducible refine (A _).mono ?_); rintro e w1 ⟨rfl, rfl⟩)
  go_ret2
  exact ⟨rfl, rfl⟩
set_option maxRecDepth 100000 in
theorem ent_23_0_6 (w : World) : Calls Try.prog 34 #[.string ⟨#[99, 99, 122]⟩, .int .i64 0, .int .i64 6] w fun e w' => e = .returned (.tuple #[.int .i64 (-1), .int .i64 0]) ∧ w' = w := by
  have A := fun w => mvd_23_6 w
  go_enter Try.func34, Try.ntmps34
  go_wp2_with (go_at_call 49; (with_reducible refine (A _).mono ?_); rintro e w1 ⟨rfl, rfl⟩)
  go_ret2
  exact ⟨rfl, rfl⟩
set_option maxRecDepth 100000 in
theorem ent_23_1_6 (w : World) : Calls Try.prog 34 #[.string ⟨#[99, 99, 122]⟩, .int .i64 1, .int .i64 6] w fun e w' => e = .returned (.tuple #[.int .i64 (-1), .int .i64 0]) ∧ w' = w := by
  have A := fun w => mvd_23_6 w
  go_enter Try.func34, Try.ntmps34
  go_wp2_with (go_at_call 49; (with_reducible refine (A _).mono ?_); rintro e w1 ⟨rfl, rfl⟩)
  go_ret2
  exact ⟨rfl, rfl⟩
set_option maxRecDepth 100000 in
theorem ent_23_2_6 (w : World) : Calls Try.prog 34 #[.string ⟨#[99, 99, 122]⟩, .int .i64 2, .int .i64 6] w fun e w' => e = .returned (.tuple #[.int .i64 (-1), .int .i64 0]) ∧ w' = w := by
  have A := fun w => mvd_23_6 w
  go_enter Try.func34, Try.ntmps34
  go_wp2_with (go_at_call 49; (with_reducible refine (A _).mono ?_); rintro e w1 ⟨rfl, rfl⟩)
  go_ret2
  exact ⟨rfl, rfl⟩
set_option maxRecDepth 100000 in
theorem ent_23_3_6 (w : World) : Calls Try.prog 34 #[.string ⟨#[99, 99, 122]⟩, .int .i64 3, .int .i64 6] w fun e w' => e = .returned (.tuple #[.int .i64 (-1), .int .i64 0]) ∧ w' = w := by
  have A := fun w => mvd_23_6 w
  go_enter Try.func34, Try.ntmps34
  go_wp2_with (go_at_call 49; (with_reducible refine (A _).mono ?_); rintro e w1 ⟨rfl, rfl⟩)
  go_ret2
  exact ⟨rfl, rfl⟩
set_option maxRecDepth 100000 in
theorem ent_23_4_6 (w : World) : Calls Try.prog 34 #[.string ⟨#[99, 99, 122]⟩, .int .i64 4, .int .i64 6] w fun e w' => e = .returned (.tuple #[.int .i64 (-1), .int .i64 0]) ∧ w' = w := by
  have A := fun w => mvd_23_6 w
  go_enter Try.func34, Try.ntmps34
  go_wp2_with (go_at_call 49; (with_reducible refine (A _).mono ?_); rintro e w1 ⟨rfl, rfl⟩)
  go_ret2
  exact ⟨rfl, rfl⟩
set_option maxRecDepth 100000 in
theorem ent_23_5_6 (w : World) : Calls Try.prog 34 #[.string ⟨#[99, 99, 122]⟩, .int .i64 5, .int .i64 6] w fun e w' => e = .returned (.tuple #[.int .i64 (-1), .int .i64 0]) ∧ w' = w := by
  have A := fun w => mvd_23_6 w
  go_enter Try.func34, Try.ntmps34
  go_wp2_with (go_at_call 49; (with_reducible refine (A _).mono ?_); rintro e w1 ⟨rfl, rfl⟩)
  go_ret2
  exact ⟨rfl, rfl⟩
set_option maxRecDepth 100000 in
theorem ent_23_6_6 (w : World) : Calls Try.prog 34 #[.string ⟨#[99, 99, 122]⟩, .int .i64 6, .int .i64 6] w fun e w' => e = .returned (.tuple #[.int .i64 0, .int .i64 0]) ∧ w' = w := by
  have A := fun w => mvd_23_6 w
  go_enter Try.func34, Try.ntmps34
  go_wp2_with (go_at_call 49; (with_reducible refine (A _).mono ?_); rintro e w1 ⟨rfl, rfl⟩)
  go_ret2
  exact ⟨rfl, rfl⟩
set_option maxRecDepth 100000 in
theorem ent_23_7_6 (w : World) : Calls Try.prog 34 #[.string ⟨#[99, 99, 122]⟩, .int .i64 7, .int .i64 6] w fun e w' => e = .returned (.tuple #[.int .i64 (-1), .int .i64 0]) ∧ w' = w := by
  have A := fun w => mvd_23_6 w
  go_enter Try.func34, Try.ntmps34
  go_wp2_with (go_at_call 49; (with_reducible refine (A _).mono ?_); rintro e w1 ⟨rfl, rfl⟩)
  go_ret2
  exact ⟨rfl, rfl⟩
set_option maxRecDepth 100000 in
theorem sub_23_7 (w : World) : Calls Try.prog 59 #[.string ⟨#[99, 99, 122]⟩, .int .i64 7] w fun e w' => e = .returned (.tuple #[.int .i64 7, .int .i64 4]) ∧ w' = w := by
  have b0 : bits BinOp.and IntKind.i64 7 1 = 1 := by decide +kernel
  have b1 : wrap64 (1 * 2) = 2 := by decide +kernel
  have b2 : bits BinOp.xor IntKind.i64 7 2 = 5 := by decide +kernel
  go_enter Try.func59, Try.ntmps59
  go_wp2
  go_ret2
  exact ⟨rfl, rfl⟩
set_option maxRecDepth 100000 in
theorem mvd_23_7 (w : World) : Calls Try.prog 49 #[.string ⟨#[99, 99, 122]⟩, .int .i64 7] w fun e w' => e = .returned (.tuple #[.int .i64 7, .int .i64 4]) ∧ w' = w := by
  have A := fun w => sub_23_7 w
  go_enter Try.func49, Try.ntmps49
  go_wp2_with (go_at_call 59; (with_reducible refine (A _).mono ?_); rintro e w1 ⟨rfl, rfl⟩)
  go_ret2
  exact ⟨rfl, rfl⟩
set_option maxRecDepth 100000 in
theorem ent_23_0_7 (w : World) : Calls Try.prog 34 #[.string ⟨#[99, 99, 122]⟩, .int .i64 0, .int .i64 7] w fun e w' => e = .returned (.tuple #[.int .i64 (-1), .int .i64 0]) ∧ w' = w := by
  have A := fun w => mvd_23_7 w
  go_enter Try.func34, Try.ntmps34
  go_wp2_with (go_at_call 49; (with_reducible refine (A _).mono ?_); rintro e w1 ⟨rfl, rfl⟩)
  go_ret2
  exact ⟨rfl, rfl⟩
set_option maxRecDepth 100000 in
theorem ent_23_1_7 (w : World) : Calls Try.prog 34 #[.string ⟨#[99, 99, 122]⟩, .int .i64 1, .int .i64 7] w fun e w' => e = .returned (.tuple #[.int .i64 (-1), .int .i64 0]) ∧ w' = w := by
  have A := fun w => mvd_23_7 w
  go_enter Try.func34, Try.ntmps34
  go_wp2_with (go_at_call 49; (with_reducible refine (A _).mono ?_); rintro e w1 ⟨rfl, rfl⟩)
  go_ret2
  exact ⟨rfl, rfl⟩
set_option maxRecDepth 100000 in
theorem ent_23_2_7 (w : World) : Calls Try.prog 34 #[.string ⟨#[99, 99, 122]⟩, .int .i64 2, .int .i64 7] w fun e w' => e = .returned (.tuple #[.int .i64 (-1), .int .i64 0]) ∧ w' = w := by
  have A := fun w => mvd_23_7 w
  go_enter Try.func34, Try.ntmps34
  go_wp2_with (go_at_call 49; (with_reducible refine (A _).mono ?_); rintro e w1 ⟨rfl, rfl⟩)
  go_ret2
  exact ⟨rfl, rfl⟩
set_option maxRecDepth 100000 in
theorem ent_23_3_7 (w : World) : Calls Try.prog 34 #[.string ⟨#[99, 99, 122]⟩, .int .i64 3, .int .i64 7] w fun e w' => e = .returned (.tuple #[.int .i64 (-1), .int .i64 0]) ∧ w' = w := by
  have A := fun w => mvd_23_7 w
  go_enter Try.func34, Try.ntmps34
  go_wp2_with (go_at_call 49; (with_reducible refine (A _).mono ?_); rintro e w1 ⟨rfl, rfl⟩)
  go_ret2
  exact ⟨rfl, rfl⟩
set_option maxRecDepth 100000 in
theorem ent_23_4_7 (w : World) : Calls Try.prog 34 #[.string ⟨#[99, 99, 122]⟩, .int .i64 4, .int .i64 7] w fun e w' => e = .returned (.tuple #[.int .i64 (-1), .int .i64 0]) ∧ w' = w := by
  have A := fun w => mvd_23_7 w
  go_enter Try.func34, Try.ntmps34
  go_wp2_with (go_at_call 49; (with_reducible refine (A _).mono ?_); rintro e w1 ⟨rfl, rfl⟩)
  go_ret2
  exact ⟨rfl, rfl⟩
set_option maxRecDepth 100000 in
theorem ent_23_5_7 (w : World) : Calls Try.prog 34 #[.string ⟨#[99, 99, 122]⟩, .int .i64 5, .int .i64 7] w fun e w' => e = .returned (.tuple #[.int .i64 (-1), .int .i64 0]) ∧ w' = w := by
  have A := fun w => mvd_23_7 w
  go_enter Try.func34, Try.ntmps34
  go_wp2_with (go_at_call 49; (with_reducible refine (A _).mono ?_); rintro e w1 ⟨rfl, rfl⟩)
  go_ret2
  exact ⟨rfl, rfl⟩
set_option maxRecDepth 100000 in
theorem ent_23_6_7 (w : World) : Calls Try.prog 34 #[.string ⟨#[99, 99, 122]⟩, .int .i64 6, .int .i64 7] w fun e w' => e = .returned (.tuple #[.int .i64 (-1), .int .i64 0]) ∧ w' = w := by
  have A := fun w => mvd_23_7 w
  go_enter Try.func34, Try.ntmps34
  go_wp2_with (go_at_call 49; (with_reducible refine (A _).mono ?_); rintro e w1 ⟨rfl, rfl⟩)
  go_ret2
  exact ⟨rfl, rfl⟩
set_option maxRecDepth 100000 in
theorem ent_23_7_7 (w : World) : Calls Try.prog 34 #[.string ⟨#[99, 99, 122]⟩, .int .i64 7, .int .i64 7] w fun e w' => e = .returned (.tuple #[.int .i64 4, .int .i64 0]) ∧ w' = w := by
  have A := fun w => mvd_23_7 w
  go_enter Try.func34, Try.ntmps34
  go_wp2_with (go_at_call 49; (with_reducible refine (A _).mono ?_); rintro e w1 ⟨rfl, rfl⟩)
  go_ret2
  exact ⟨rfl, rfl⟩
theorem rent_23 (x y : Nat) (hx : x < 8) (hy : y < 8) (w : World) : Calls Try.prog 34 #[.string (nm 23), .int .i64 (x : Nat), .int .i64 (y : Nat)] w fun e w' => e = .returned (.tuple #[.int .i64 (reP 23 x y), .int .i64 (reH 23 x y)]) ∧ w' = w := by
  have h1 : y = 0 ∨ y = 1 ∨ y = 2 ∨ y = 3 ∨ y = 4 ∨ y = 5 ∨ y = 6 ∨ y = 7 := by omega
  have h2 : x = 0 ∨ x = 1 ∨ x = 2 ∨ x = 3 ∨ x = 4 ∨ x = 5 ∨ x = 6 ∨ x = 7 := by omega
  rcases h1 with rfl | rfl | rfl | rfl | rfl | rfl | rfl | rfl
  · rcases h2 with rfl | rfl | rfl | rfl | rfl | rfl | rfl | rfl
    · exact ent_23_0_0 w
    · exact ent_23_1_0 w
    · exact ent_23_2_0 w
    · exact ent_23_3_0 w
    · exact ent_23_4_0 w
    · exact ent_23_5_0 w
    · exact ent_23_6_0 w
    · exact ent_23_7_0 w
  · rcases h2 with rfl | rfl | rfl | rfl | rfl | rfl | rfl | rfl
    · exact ent_23_0_1 w
    · exact ent_23_1_1 w
    · exact ent_23_2_1 w
    · exact ent_23_3_1 w
    · exact ent_23_4_1 w
    · exact ent_23_5_1 w
    · exact ent_23_6_1 w
    · exact ent_23_7_1 w
  · rcases h2 with rfl | rfl | rfl | rfl | rfl | rfl | rfl | rfl
    · exact ent_23_0_2 w
    · exact ent_23_1_2 w
    · exact ent_23_2_2 w
    · exact ent_23_3_2 w
    · exact ent_23_4_2 w
    · exact ent_23_5_2 w
    · exact ent_23_6_2 w
    · exact ent_23_7_2 w
  · rcases h2 with rfl | rfl | rfl | rfl | rfl | rfl | rfl | rfl
    · exact ent_23_0_3 w
    · exact ent_23_1_3 w
    · exact ent_23_2_3 w
    · exact ent_23_3_3 w
    · exact ent_23_4_3 w
    · exact ent_23_5_3 w
    · exact ent_23_6_3 w
    · exact ent_23_7_3 w
  · rcases h2 with rfl | rfl | rfl | rfl | rfl | rfl | rfl | rfl
    · exact ent_23_0_4 w
    · exact ent_23_1_4 w
    · exact ent_23_2_4 w
    · exact ent_23_3_4 w
    · exact ent_23_4_4 w
    · exact ent_23_5_4 w
    · exact ent_23_6_4 w
    · exact ent_23_7_4 w
  · rcases h2 with rfl | rfl | rfl | rfl | rfl | rfl | rfl | rfl
    · exact ent_23_0_5 w
    · exact ent_23_1_5 w
    · exact ent_23_2_5 w
    · exact ent_23_3_5 w
    · exact ent_23_4_5 w
    · exact ent_23_5_5 w
    · exact ent_23_6_5 w
    · exact ent_23_7_5 w
  · rcases h2 with rfl | rfl | rfl | rfl | rfl | rfl | rfl | rfl
    · exact ent_23_0_6 w
    · exact ent_23_1_6 w
    · exact ent_23_2_6 w
    · exact ent_23_3_6 w
    · exact ent_23_4_6 w
    · exact ent_23_5_6 w
    · exact ent_23_6_6 w
    · exact ent_23_7_6 w
  · rcases h2 with rfl | rfl | rfl | rfl | rfl | rfl | rfl | rfl
    · exact ent_23_0_7 w
    · exact ent_23_1_7 w
    · exact ent_23_2_7 w
    · exact ent_23_3_7 w
    · exact ent_23_4_7 w
    · exact ent_23_5_7 w
    · exact ent_23_6_7 w
    · exact ent_23_7_7 w
end Go.Proofs.Ytjmgcgjmaemgdaa
