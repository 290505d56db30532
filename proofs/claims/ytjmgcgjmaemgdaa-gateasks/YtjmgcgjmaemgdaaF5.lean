/-
  The reference's entries of the gates swap, iswap, iswapdg.
-/
import Derived.Test.YtjmgcgjmaemgdaaF2
namespace Go.Proofs.Ytjmgcgjmaemgdaa
open Go.RowKit Go.Sort

set_option maxRecDepth 100000 in
theorem sub_19_0 (w : World) : Calls Try.prog 58 #[.string ⟨#[115, 119, 97, 112]⟩, .int .i64 0] w fun e w' => e = .returned (.tuple #[.int .i64 0, .int .i64 0]) ∧ w' = w := by
  have b0 : bits BinOp.and IntKind.i64 0 1 = 0 := by decide +kernel
  have b1 : wrap64 (0 * 2) = 0 := by decide +kernel
  have b2 : bits BinOp.xor IntKind.i64 0 0 = 0 := by decide +kernel
  go_enter Try.func58, Try.ntmps58
  go_wp2
  go_ret2
  exact ⟨rfl, rfl⟩
set_option maxRecDepth 100000 in
theorem mvd_19_0 (w : World) : Calls Try.prog 49 #[.string ⟨#[115, 119, 97, 112]⟩, .int .i64 0] w fun e w' => e = .returned (.tuple #[.int .i64 0, .int .i64 0]) ∧ w' = w := by
  have A := fun w => sub_19_0 w
  go_enter Try.func49, Try.ntmps49
  go_wp2_with (go_at_call 58; (with_reducible refine (A _).mono ?_); rintro e w1 ⟨rfl, rfl⟩)
  go_ret2
  exact ⟨rfl, rfl⟩
set_option maxRecDepth 100000 in
theorem ent_19_0_0 (w : World) : Calls Try.prog 34 #[.string ⟨#[115, 119, 97, 112]⟩, .int .i64 0, .int .i64 0] w fun e w' => e = .returned (.tuple #[.int .i64 0, .int .i64 0]) ∧ w' = w := by
  have A := fun w => mvd_19_0 w
  go_enter Try.func34, Try.ntmps34
  go_wp2_with (go_at_call 49; (with_reducible refine (A _).mono ?_); rintro e w1 ⟨rfl, rfl⟩)
  go_ret2
  exact ⟨rfl, rfl⟩
set_option maxRecDepth 100000 in
theorem ent_19_1_0 (w : World) : Calls Try.prog 34 #[.string ⟨#[115, 119, 97, 112]⟩, .int .i64 1, .int .i64 0] w fun e w' => e = .returned (.tuple #[.int .i64 (-1), .int .i64 0]) ∧ w' = w := by
  have A := fun w => mvd_19_0 w
  go_enter Try.func34, Try.ntmps34
  go_wp2_with (go_at_call 49; (with_reducible refine (A _).mono ?_); rintro e w1 ⟨rfl, rfl⟩)
  go_ret2
  exact ⟨rfl, rfl⟩
set_option maxRecDepth 100000 in
theorem ent_19_2_0 (w : World) : Calls Try.prog 34 #[.string ⟨#[115, 119, 97, 112]⟩, .int .i64 2, .int .i64 0] w fun e w' => e = .returned (.tuple #[.int .i64 (-1), .int .i64 0]) ∧ w' = w := by
  have A := fun w => mvd_19_0 w
  go_enter Try.func34, Try.ntmps34
  go_wp2_with (go_at_call 49; (with_reducible refine (A _).mono ?_); rintro e w1 ⟨rfl, rfl⟩)
  go_ret2
  exact ⟨rfl, rfl⟩
set_option maxRecDepth 100000 in
theorem ent_19_3_0 (w : World) : Calls Try.prog 34 #[.string ⟨#[115, 119, 97, 112]⟩, .int .i64 3, .int .i64 0] w fun e w' => e = .returned (.tuple #[.int .i64 (-1), .int .i64 0]) ∧ w' = w := by
  have A := fun w => mvd_19_0 w
  go_enter Try.func34, Try.ntmps34
  go_wp2_with (go_at_call 49; (with_reducible refine (A _).mono ?_); rintro e w1 ⟨rfl, rfl⟩)
  go_ret2
  exact ⟨rfl, rfl⟩
set_option maxRecDepth 100000 in
theorem sub_19_1 (w : World) : Calls Try.prog 58 #[.string ⟨#[115, 119, 97, 112]⟩, .int .i64 1] w fun e w' => e = .returned (.tuple #[.int .i64 2, .int .i64 0]) ∧ w' = w := by
  have b0 : bits BinOp.and IntKind.i64 1 1 = 1 := by decide +kernel
  have b1 : wrap64 (1 * 2) = 2 := by decide +kernel
  have b2 : bits BinOp.xor IntKind.i64 1 2 = 3 := by decide +kernel
  go_enter Try.func58, Try.ntmps58
  go_wp2
  go_ret2
  exact ⟨rfl, rfl⟩
set_option maxRecDepth 100000 in
theorem mvd_19_1 (w : World) : Calls Try.prog 49 #[.string ⟨#[115, 119, 97, 112]⟩, .int .i64 1] w fun e w' => e = .returned (.tuple #[.int .i64 2, .int .i64 0]) ∧ w' = w := by
  have A := fun w => sub_19_1 w
  go_enter Try.func49, Try.ntmps49
  go_wp2_with (go_at_call 58; (with_reducible refine (A _).mono ?_); rintro e w1 ⟨rfl, rfl⟩)
  go_ret2
  exact ⟨rfl, rfl⟩
set_option maxRecDepth 100000 in
theorem ent_19_0_1 (w : World) : Calls Try.prog 34 #[.string ⟨#[115, 119, 97, 112]⟩, .int .i64 0, .int .i64 1] w fun e w' => e = .returned (.tuple #[.int .i64 (-1), .int .i64 0]) ∧ w' = w := by
  have A := fun w => mvd_19_1 w
  go_enter Try.func34, Try.ntmps34
  go_wp2_with (go_at_call 49; (with_reducible refine (A _).mono ?_); rintro e w1 ⟨rfl, rfl⟩)
  go_ret2
  exact ⟨rfl, rfl⟩
set_option maxRecDepth 100000 in
theorem ent_19_1_1 (w : World) : Calls Try.prog 34 #[.string ⟨#[115, 119, 97, 112]⟩, .int .i64 1, .int .i64 1] w fun e w' => e = .returned (.tuple #[.int .i64 (-1), .int .i64 0]) ∧ w' = w := by
  have A := fun w => mvd_19_1 w
  go_enter Try.func34, Try.ntmps34
  go_wp2_with (go_at_call 49; (with_reducible refine (A _).mono ?_); rintro e w1 ⟨rfl, rfl⟩)
  go_ret2
  exact ⟨rfl, rfl⟩
set_option maxRecDepth 100000 in
theorem ent_19_2_1 (w : World) : Calls Try.prog 34 #[.string ⟨#[115, 119, 97, 112]⟩, .int .i64 2, .int .i64 1] w fun e w' => e = .returned (.tuple #[.int .i64 0, .int .i64 0]) ∧ w' = w := by
  have A := fun w => mvd_19_1 w
  go_enter Try.func34, Try.ntmps34
  go_wp2_with (go_at_call 49; (with_reducible refine (A _).mono ?_); rintro e w1 ⟨rfl, rfl⟩)
  go_ret2
  exact ⟨rfl, rfl⟩
set_option maxRecDepth 100000 in
theorem ent_19_3_1 (w : World) : Calls Try.prog 34 #[.string ⟨#[115, 119, 97, 112]⟩, .int .i64 3, .int .i64 1] w fun e w' => e = .returned (.tuple #[.int .i64 (-1), .int .i64 0]) ∧ w' = w := by
  have A := fun w => mvd_19_1 w
  go_enter Try.func34, Try.ntmps34
  go_wp2_with (go_at_call 49; (with_reducible refine (A _).mono ?_); rintro e w1 ⟨rfl, rfl⟩)
  go_ret2
  exact ⟨rfl, rfl⟩
set_option maxRecDepth 100000 in
theorem sub_19_2 (w : World) : Calls Try.prog 58 #[.string ⟨#[115, 119, 97, 112]⟩, .int .i64 2] w fun e w' => e = .returned (.tuple #[.int .i64 1, .int .i64 0]) ∧ w' = w := by
  have b0 : bits BinOp.and IntKind.i64 2 1 = 0 := by decide +kernel
  have b1 : wrap64 (0 * 2) = 0 := by decide +kernel
  have b2 : bits BinOp.xor IntKind.i64 2 0 = 2 := by decide +kernel
  go_enter Try.func58, Try.ntmps58
  go_wp2
  go_ret2
  exact ⟨rfl, rfl⟩
set_option maxRecDepth 100000 in
theorem mvd_19_2 (w : World) : Calls Try.prog 49 #[.string ⟨#[115, 119, 97, 112]⟩, .int .i64 2] w fun e w' => e = .returned (.tuple #[.int .i64 1, .int .i64 0]) ∧ w' = w := by
  have A := fun w => sub_19_2 w
  go_enter Try.func49, Try.ntmps49
  go_wp2_with (go_at_call 58; (with_reducible refine (A _).mono ?_); rintro e w1 ⟨rfl, rfl⟩)
  go_ret2
  exact ⟨rfl, rfl⟩
set_option maxRecDepth 100000 in
theorem ent_19_0_2 (w : World) : Calls Try.prog 34 #[.string ⟨#[115, 119, 97, 112]⟩, .int .i64 0, .int .i64 2] w fun e w' => e = .returned (.tuple #[.int .i64 (-1), .int .i64 0]) ∧ w' = w := by
  have A := fun w => mvd_19_2 w
  go_enter Try.func34, Try.ntmps34
  go_wp2_with (go_at_call 49; (with_reducible refine (A _).mono ?_); rintro e w1 ⟨rfl, rfl⟩)
  go_ret2
  exact ⟨rfl, rfl⟩
set_option maxRecDepth 100000 in
theorem ent_19_1_2 (w : World) : Calls Try.prog 34 #[.string ⟨#[115, 119, 97, 112]⟩, .int .i64 1, .int .i64 2] w fun e w' => e = .returned (.tuple #[.int .i64 0, .int .i64 0]) ∧ w' = w := by
  have A := fun w => mvd_19_2 w
  go_enter Try.func34, Try.ntmps34
  go_wp2_with (go_at_call 49; (with_reducible refine (A _).mono ?_); rintro e w1 ⟨rfl, rfl⟩)
  go_ret2
  exact ⟨rfl, rfl⟩
set_option maxRecDepth 100000 in
theorem ent_19_2_2 (w : World) : Calls Try.prog 34 #[.string ⟨#[115, 119, 97, 112]⟩, .int .i64 2, .int .i64 2] w fun e w' => e = .returned (.tuple #[.int .i64 (-1), .int .i64 0]) ∧ w' = w := by
  have A := fun w => mvd_19_2 w
  go_enter Try.func34, Try.ntmps34
  go_wp2_with (go_at_call 49; (with_reducible refine (A _).mono ?_); rintro e w1 ⟨rfl, rfl⟩)
  go_ret2
  exact ⟨rfl, rfl⟩
set_option maxRecDepth 100000 in
theorem ent_19_3_2 (w : World) : Calls Try.prog 34 #[.string ⟨#[115, 119, 97, 112]⟩, .int .i64 3, .int .i64 2] w fun e w' => e = .returned (.tuple #[.int .i64 (-1), .int .i64 0]) ∧ w' = w := by
  have A := fun w => mvd_19_2 w
  go_enter Try.func34, Try.ntmps34
  go_wp2_with (go_at_call 49; (with_reducible refine (A _).mono ?_); rintro e w1 ⟨rfl, rfl⟩)
  go_ret2
  exact ⟨rfl, rfl⟩
set_option maxRecDepth 100000 in
theorem sub_19_3 (w : World) : Calls Try.prog 58 #[.string ⟨#[115, 119, 97, 112]⟩, .int .i64 3] w fun e w' => e = .returned (.tuple #[.int .i64 3, .int .i64 0]) ∧ w' = w := by
  have b0 : bits BinOp.and IntKind.i64 3 1 = 1 := by decide +kernel
  have b1 : wrap64 (1 * 2) = 2 := by decide +kernel
  have b2 : bits BinOp.xor IntKind.i64 3 2 = 1 := by decide +kernel
  go_enter Try.func58, Try.ntmps58
  go_wp2
  go_ret2
  exact ⟨rfl, rfl⟩
set_option maxRecDepth 100000 in
theorem mvd_19_3 (w : World) : Calls Try.prog 49 #[.string ⟨#[115, 119, 97, 112]⟩, .int .i64 3] w fun e w' => e = .returned (.tuple #[.int .i64 3, .int .i64 0]) ∧ w' = w := by
  have A := fun w => sub_19_3 w
  go_enter Try.func49, Try.ntmps49
  go_wp2_with (go_at_call 58; (with_reducible refine (A _).mono ?_); rintro e w1 ⟨rfl, rfl⟩)
  go_ret2
  exact ⟨rfl, rfl⟩
set_option maxRecDepth 100000 in
theorem ent_19_0_3 (w : World) : Calls Try.prog 34 #[.string ⟨#[115, 119, 97, 112]⟩, .int .i64 0, .int .i64 3] w fun e w' => e = .returned (.tuple #[.int .i64 (-1), .int .i64 0]) ∧ w' = w := by
  have A := fun w => mvd_19_3 w
  go_enter Try.func34, Try.ntmps34
  go_wp2_with (go_at_call 49; (with_reducible refine (A _).mono ?_); rintro e w1 ⟨rfl, rfl⟩)
  go_ret2
  exact ⟨rfl, rfl⟩
set_option maxRecDepth 100000 in
theorem ent_19_1_3 (w : World) : Calls Try.prog 34 #[.string ⟨#[115, 119, 97, 112]⟩, .int .i64 1, .int .i64 3] w fun e w' => e = .returned (.tuple #[.int .i64 (-1), .int .i64 0]) ∧ w' = w := by
  have A := fun w => mvd_19_3 w
  go_enter Try.func34, Try.ntmps34
  go_wp2_with (go_at_call 49; (with_reducible refine (A _).mono ?_); rintro e w1 ⟨rfl, rfl⟩)
  go_ret2
  exact ⟨rfl, rfl⟩
set_option maxRecDepth 100000 in
theorem ent_19_2_3 (w : World) : Calls Try.prog 34 #[.string ⟨#[115, 119, 97, 112]⟩, .int .i64 2, .int .i64 3] w fun e w' => e = .returned (.tuple #[.int .i64 (-1), .int .i64 0]) ∧ w' = w := by
  have A := fun w => mvd_19_3 w
  go_enter Try.func34, Try.ntmps34
  go_wp2_with (go_at_call 49; (with_reducible refine (A _).mono ?_); rintro e w1 ⟨rfl, rfl⟩)
  go_ret2
  exact ⟨rfl, rfl⟩
set_option maxRecDepth 100000 in
theorem ent_19_3_3 (w : World) : Calls Try.prog 34 #[.string ⟨#[115, 119, 97, 112]⟩, .int .i64 3, .int .i64 3] w fun e w' => e = .returned (.tuple #[.int .i64 0, .int .i64 0]) ∧ w' = w := by
  have A := fun w => mvd_19_3 w
  go_enter Try.func34, Try.ntmps34
  go_wp2_with (go_at_call 49; (with_reducible refine (A _).mono ?_); rintro e w1 ⟨rfl, rfl⟩)
  go_ret2
  exact ⟨rfl, rfl⟩
theorem rent_19 (x y : Nat) (hx : x < 4) (hy : y < 4) (w : World) : Calls Try.prog 34 #[.string (nm 19), .int .i64 (x : Nat), .int .i64 (y : Nat)] w fun e w' => e = .returned (.tuple #[.int .i64 (reP 19 x y), .int .i64 (reH 19 x y)]) ∧ w' = w := by
  have h1 : y = 0 ∨ y = 1 ∨ y = 2 ∨ y = 3 := by omega
  have h2 : x = 0 ∨ x = 1 ∨ x = 2 ∨ x = 3 := by omega
  rcases h1 with rfl | rfl | rfl | rfl
  · rcases h2 with rfl | rfl | rfl | rfl
    · exact ent_19_0_0 w
    · exact ent_19_1_0 w
    · exact ent_19_2_0 w
    · exact ent_19_3_0 w
  · rcases h2 with rfl | rfl | rfl | rfl
    · exact ent_19_0_1 w
    · exact ent_19_1_1 w
    · exact ent_19_2_1 w
    · exact ent_19_3_1 w
  · rcases h2 with rfl | rfl | rfl | rfl
    · exact ent_19_0_2 w
    · exact ent_19_1_2 w
    · exact ent_19_2_2 w
    · exact ent_19_3_2 w
  · rcases h2 with rfl | rfl | rfl | rfl
    · exact ent_19_0_3 w
    · exact ent_19_1_3 w
    · exact ent_19_2_3 w
    · exact ent_19_3_3 w
set_option maxRecDepth 100000 in
theorem sub_20_0 (w : World) : Calls Try.prog 58 #[.string ⟨#[105, 115, 119, 97, 112]⟩, .int .i64 0] w fun e w' => e = .returned (.tuple #[.int .i64 0, .int .i64 0]) ∧ w' = w := by
  have b0 : bits BinOp.and IntKind.i64 0 1 = 0 := by decide +kernel
  have b1 : wrap64 (0 * 2) = 0 := by decide +kernel
  have b2 : bits BinOp.xor IntKind.i64 0 0 = 0 := by decide +kernel
  go_enter Try.func58, Try.ntmps58
  go_wp2
  go_ret2
  exact ⟨rfl, rfl⟩
set_option maxRecDepth 100000 in
theorem mvd_20_0 (w : World) : Calls Try.prog 49 #[.string ⟨#[105, 115, 119, 97, 112]⟩, .int .i64 0] w fun e w' => e = .returned (.tuple #[.int .i64 0, .int .i64 0]) ∧ w' = w := by
  have A := fun w => sub_20_0 w
  go_enter Try.func49, Try.ntmps49
  go_wp2_with (go_at_call 58; (with_reducible refine (A _).mono ?_); rintro e w1 ⟨rfl, rfl⟩)
  go_ret2
  exact ⟨rfl, rfl⟩
set_option maxRecDepth 100000 in
theorem ent_20_0_0 (w : World) : Calls Try.prog 34 #[.string ⟨#[105, 115, 119, 97, 112]⟩, .int .i64 0, .int .i64 0] w fun e w' => e = .returned (.tuple #[.int .i64 0, .int .i64 0]) ∧ w' = w := by
  have A := fun w => mvd_20_0 w
  go_enter Try.func34, Try.ntmps34
  go_wp2_with (go_at_call 49; (with_reducible refine (A _).mono ?_); rintro e w1 ⟨rfl, rfl⟩)
  go_ret2
  exact ⟨rfl, rfl⟩
set_option maxRecDepth 100000 in
theorem ent_20_1_0 (w : World) : Calls Try.prog 34 #[.string ⟨#[105, 115, 119, 97, 112]⟩, .int .i64 1, .int .i64 0] w fun e w' => e = .returned (.tuple #[.int .i64 (-1), .int .i64 0]) ∧ w' = w := by
  have A := fun w => mvd_20_0 w
  go_enter Try.func34, Try.ntmps34
  go_wp2_with (go_at_call 49; (with_reducible refine (A _).mono ?_); rintro e w1 ⟨rfl, rfl⟩)
  go_ret2
  exact ⟨rfl, rfl⟩
set_option maxRecDepth 100000 in
theorem ent_20_2_0 (w : World) : Calls Try.prog 34 #[.string ⟨#[105, 115, 119, 97, 112]⟩, .int .i64 2, .int .i64 0] w fun e w' => e = .returned (.tuple #[.int .i64 (-1), .int .i64 0]) ∧ w' = w := by
  have A := fun w => mvd_20_0 w
  go_enter Try.func34, Try.ntmps34
  go_wp2_with (go_at_call 49; (with_reducible refine (A _).mono ?_); rintro e w1 ⟨rfl, rfl⟩)
  go_ret2
  exact ⟨rfl, rfl⟩
set_option maxRecDepth 100000 in
theorem ent_20_3_0 (w : World) : Calls Try.prog 34 #[.string ⟨#[105, 115, 119, 97, 112]⟩, .int .i64 3, .int .i64 0] w fun e w' => e = .returned (.tuple #[.int .i64 (-1), .int .i64 0]) ∧ w' = w := by
  have A := fun w => mvd_20_0 w
  go_enter Try.func34, Try.ntmps34
  go_wp2_with (go_at_call 49; (with_reducible refine (A _).mono ?_); rintro e w1 ⟨rfl, rfl⟩)
  go_ret2
  exact ⟨rfl, rfl⟩
set_option maxRecDepth 100000 in
theorem sub_20_1 (w : World) : Calls Try.prog 58 #[.string ⟨#[105, 115, 119, 97, 112]⟩, .int .i64 1] w fun e w' => e = .returned (.tuple #[.int .i64 2, .int .i64 2]) ∧ w' = w := by
  have b0 : bits BinOp.and IntKind.i64 1 1 = 1 := by decide +kernel
  have b1 : wrap64 (1 * 2) = 2 := by decide +kernel
  have b2 : bits BinOp.xor IntKind.i64 1 2 = 3 := by decide +kernel
  go_enter Try.func58, Try.ntmps58
  go_wp2
  go_ret2
  exact ⟨rfl, rfl⟩
set_option maxRecDepth 100000 in
theorem mvd_20_1 (w : World) : Calls Try.prog 49 #[.string ⟨#[105, 115, 119, 97, 112]⟩, .int .i64 1] w fun e w' => e = .returned (.tuple #[.int .i64 2, .int .i64 2]) ∧ w' = w := by
  have A := fun w => sub_20_1 w
  go_enter Try.func49, Try.ntmps49
  go_wp2_with (go_at_call 58; (with_reducible refine (A _).mono ?_); rintro e w1 ⟨rfl, rfl⟩)
  go_ret2
  exact ⟨rfl, rfl⟩
set_option maxRecDepth 100000 in
theorem ent_20_0_1 (w : World) : Calls Try.prog 34 #[.string ⟨#[105, 115, 119, 97, 112]⟩, .int .i64 0, .int .i64 1] w fun e w' => e = .returned (.tuple #[.int .i64 (-1), .int .i64 0]) ∧ w' = w := by
  have A := fun w => mvd_20_1 w
  go_enter Try.func34, Try.ntmps34
  go_wp2_with (go_at_call 49; (with_reducible refine (A _).mono ?_); rintro e w1 ⟨rfl, rfl⟩)
  go_ret2
  exact ⟨rfl, rfl⟩
set_option maxRecDepth 100000 in
theorem ent_20_1_1 (w : World) : Calls Try.prog 34 #[.string ⟨#[105, 115, 119, 97, 112]⟩, .int .i64 1, .int .i64 1] w fun e w' => e = .returned (.tuple #[.int .i64 (-1), .int .i64 0]) ∧ w' = w := by
  have A := fun w => mvd_20_1 w
  go_enter Try.func34, Try.ntmps34
  go_wp2_with (go_at_call 49; (with_reducible refine (A _).mono ?_); rintro e w1 ⟨rfl, rfl⟩)
  go_ret2
  exact ⟨rfl, rfl⟩
set_option maxRecDepth 100000 in
theorem ent_20_2_1 (w : World) : Calls Try.prog 34 #[.string ⟨#[105, 115, 119, 97, 112]⟩, .int .i64 2, .int .i64 1] w fun e w' => e = .returned (.tuple #[.int .i64 2, .int .i64 0]) ∧ w' = w := by
  have A := fun w => mvd_20_1 w
  go_enter Try.func34, Try.ntmps34
  go_wp2_with (go_at_call 49; (with_reducible refine (A _).mono ?_); rintro e w1 ⟨rfl, rfl⟩)
  go_ret2
  exact ⟨rfl, rfl⟩
set_option maxRecDepth 100000 in
theorem ent_20_3_1 (w : World) : Calls Try.prog 34 #[.string ⟨#[105, 115, 119, 97, 112]⟩, .int .i64 3, .int .i64 1] w fun e w' => e = .returned (.tuple #[.int .i64 (-1), .int .i64 0]) ∧ w' = w := by
  have A := fun w => mvd_20_1 w
  go_enter Try.func34, Try.ntmps34
  go_wp2_with (go_at_call 49; (with_reducible refine (A _).mono ?_); rintro e w1 ⟨rfl, rfl⟩)
  go_ret2
  exact ⟨rfl, rfl⟩
set_option maxRecDepth 100000 in
theorem sub_20_2 (w : World) : Calls Try.prog 58 #[.string ⟨#[105, 115, 119, 97, 112]⟩, .int .i64 2] w fun e w' => e = .returned (.tuple #[.int .i64 1, .int .i64 2]) ∧ w' = w := by
  have b0 : bits BinOp.and IntKind.i64 2 1 = 0 := by decide +kernel
  have b1 : wrap64 (0 * 2) = 0 := by decide +kernel
  have b2 : bits BinOp.xor IntKind.i64 2 0 = 2 := by decide +kernel
  go_enter Try.func58, Try.ntmps58
  go_wp2
  go_ret2
  exact ⟨rfl, rfl⟩
set_option maxRecDepth 100000 in
theorem mvd_20_2 (w : World) : Calls Try.prog 49 #[.string ⟨#[105, 115, 119, 97, 112]⟩, .int .i64 2] w fun e w' => e = .returned (.tuple #[.int .i64 1, .int .i64 2]) ∧ w' = w := by
  have A := fun w => sub_20_2 w
  go_enter Try.func49, Try.ntmps49
  go_wp2_with (go_at_call 58; (with_reducible refine (A _).mono ?_); rintro e w1 ⟨rfl, rfl⟩)
  go_ret2
  exact ⟨rfl, rfl⟩
set_option maxRecDepth 100000 in
theorem ent_20_0_2 (w : World) : Calls Try.prog 34 #[.string ⟨#[105, 115, 119, 97, 112]⟩, .int .i64 0, .int .i64 2] w fun e w' => e = .returned (.tuple #[.int .i64 (-1), .int .i64 0]) ∧ w' = w := by
  have A := fun w => mvd_20_2 w
  go_enter Try.func34, Try.ntmps34
  go_wp2_with (go_at_call 49; (with_reducible refine (A _).mono ?_); rintro e w1 ⟨rfl, rfl⟩)
  go_ret2
  exact ⟨rfl, rfl⟩
set_option maxRecDepth 100000 in
theorem ent_20_1_2 (w : World) : Calls Try.prog 34 #[.string ⟨#[105, 115, 119, 97, 112]⟩, .int .i64 1, .int .i64 2] w fun e w' => e = .returned (.tuple #[.int .i64 2, .int .i64 0]) ∧ w' = w := by
  have A := fun w => mvd_20_2 w
  go_enter Try.func34, Try.ntmps34
  go_wp2_with (go_at_call 49; (with_reducible refine (A _).mono ?_); rintro e w1 ⟨rfl, rfl⟩)
  go_ret2
  exact ⟨rfl, rfl⟩
set_option maxRecDepth 100000 in
theorem ent_20_2_2 (w : World) : Calls Try.prog 34 #[.string ⟨#[105, 115, 119, 97, 112]⟩, .int .i64 2, .int .i64 2] w fun e w' => e = .returned (.tuple #[.int .i64 (-1), .int .i64 0]) ∧ w' = w := by
  have A := fun w => mvd_20_2 w
  go_enter Try.func34, Try.ntmps34
  go_wp2_with (go_at_call 49; (with_reducible refine (A _).mono ?_); rintro e w1 ⟨rfl, rfl⟩)
  go_ret2
  exact ⟨rfl, rfl⟩
set_option maxRecDepth 100000 in
theorem ent_20_3_2 (w : World) : Calls Try.prog 34 #[.string ⟨#[105, 115, 119, 97, 112]⟩, .int .i64 3, .int .i64 2] w fun e w' => e = .returned (.tuple #[.int .i64 (-1), .int .i64 0]) ∧ w' = w := by
  have A := fun w => mvd_20_2 w
  go_enter Try.func34, Try.ntmps34
  go_wp2_with (go_at_call 49; (with_reducible refine (A _).mono ?_); rintro e w1 ⟨rfl, rfl⟩)
  go_ret2
  exact ⟨rfl, rfl⟩
set_option maxRecDepth 100000 in
theorem sub_20_3 (w : World) : Calls Try.prog 58 #[.string ⟨#[105, 115, 119, 97, 112]⟩, .int .i64 3] w fun e w' => e = .returned (.tuple #[.int .i64 3, .int .i64 0]) ∧ w' = w := by
  have b0 : bits BinOp.and IntKind.i64 3 1 = 1 := by decide +kernel
  have b1 : wrap64 (1 * 2) = 2 := by decide +kernel
  have b2 : bits BinOp.xor IntKind.i64 3 2 = 1 := by decide +kernel
  go_enter Try.func58, Try.ntmps58
  go_wp2
  go_ret2
  exact ⟨rfl, rfl⟩
set_option maxRecDepth 100000 in
theorem mvd_20_3 (w : World) : Calls Try.prog 49 #[.string ⟨#[105, 115, 119, 97, 112]⟩, .int .i64 3] w fun e w' => e = .returned (.tuple #[.int .i64 3, .int .i64 0]) ∧ w' = w := by
  have A := fun w => sub_20_3 w
  go_enter Try.func49, Try.ntmps49
  go_wp2_with (go_at_call 58; (with_reducible refine (A _).mono ?_); rintro e w1 ⟨rfl, rfl⟩)
  go_ret2
  exact ⟨rfl, rfl⟩
set_option maxRecDepth 100000 in
theorem ent_20_0_3 (w : World) : Calls Try.prog 34 #[.string ⟨#[105, 115, 119, 97, 112]⟩, .int .i64 0, .int .i64 3] w fun e w' => e = .returned (.tuple #[.int .i64 (-1), .int .i64 0]) ∧ w' = w := by
  have A := fun w => mvd_20_3 w
  go_enter Try.func34, Try.ntmps34
  go_wp2_with (go_at_call 49; (with_reducible refine (A _).mono ?_); rintro e w1 ⟨rfl, rfl⟩)
  go_ret2
  exact ⟨rfl, rfl⟩
set_option maxRecDepth 100000 in
theorem ent_20_1_3 (w : World) : Calls Try.prog 34 #[.string ⟨#[105, 115, 119, 97, 112]⟩, .int .i64 1, .int .i64 3] w fun e w' => e = .returned (.tuple #[.int .i64 (-1), .int .i64 0]) ∧ w' = w := by
  have A := fun w => mvd_20_3 w
  go_enter Try.func34, Try.ntmps34
  go_wp2_with (go_at_call 49; (with_reducible refine (A _).mono ?_); rintro e w1 ⟨rfl, rfl⟩)
  go_ret2
  exact ⟨rfl, rfl⟩
set_option maxRecDepth 100000 in
theorem ent_20_2_3 (w : World) : Calls Try.prog 34 #[.string ⟨#[105, 115, 119, 97, 112]⟩, .int .i64 2, .int .i64 3] w fun e w' => e = .returned (.tuple #[.int .i64 (-1), .int .i64 0]) ∧ w' = w := by
  have A := fun w => mvd_20_3 w
  go_enter Try.func34, Try.ntmps34
  go_wp2_with (go_at_call 49; (with_reducible refine (A _).mono ?_); rintro e w1 ⟨rfl, rfl⟩)
  go_ret2
  exact ⟨rfl, rfl⟩
set_option maxRecDepth 100000 in
theorem ent_20_3_3 (w : World) : Calls Try.prog 34 #[.string ⟨#[105, 115, 119, 97, 112]⟩, .int .i64 3, .int .i64 3] w fun e w' => e = .returned (.tuple #[.int .i64 0, .int .i64 0]) ∧ w' = w := by
  have A := fun w => mvd_20_3 w
  go_enter Try.func34, Try.ntmps34
  go_wp2_with (go_at_call 49; (with_reducible refine (A _).mono ?_); rintro e w1 ⟨rfl, rfl⟩)
  go_ret2
  exact ⟨rfl, rfl⟩
theorem rent_20 (x y : Nat) (hx : x < 4) (hy : y < 4) (w : World) : Calls Try.prog 34 #[.string (nm 20), .int .i64 (x : Nat), .int .i64 (y : Nat)] w fun e w' => e = .returned (.tuple #[.int .i64 (reP 20 x y), .int .i64 (reH 20 x y)]) ∧ w' = w := by
  have h1 : y = 0 ∨ y = 1 ∨ y = 2 ∨ y = 3 := by omega
  have h2 : x = 0 ∨ x = 1 ∨ x = 2 ∨ x = 3 := by omega
  rcases h1 with rfl | rfl | rfl | rfl
  · rcases h2 with rfl | rfl | rfl | rfl
    · exact ent_20_0_0 w
    · exact ent_20_1_0 w
    · exact ent_20_2_0 w
    · exact ent_20_3_0 w
  · rcases h2 with rfl | rfl | rfl | rfl
    · exact ent_20_0_1 w
    · exact ent_20_1_1 w
    · exact ent_20_2_1 w
    · exact ent_20_3_1 w
  · rcases h2 with rfl | rfl | rfl | rfl
    · exact ent_20_0_2 w
    · exact ent_20_1_2 w
    · exact ent_20_2_2 w
    · exact ent_20_3_2 w
  · rcases h2 with rfl | rfl | rfl | rfl
    · exact ent_20_0_3 w
    · exact ent_20_1_3 w
    · exact ent_20_2_3 w
    · exact ent_20_3_3 w
set_option maxRecDepth 100000 in
theorem sub_21_0 (w : World) : Calls Try.prog 58 #[.string ⟨#[105, 115, 119, 97, 112, 100, 103]⟩, .int .i64 0] w fun e w' => e = .returned (.tuple #[.int .i64 0, .int .i64 0]) ∧ w' = w := by
  have b0 : bits BinOp.and IntKind.i64 0 1 = 0 := by decide +kernel
  have b1 : wrap64 (0 * 2) = 0 := by decide +kernel
  have b2 : bits BinOp.xor IntKind.i64 0 0 = 0 := by decide +kernel
  go_enter Try.func58, Try.ntmps58
  go_wp2
  go_ret2
  exact ⟨rfl, rfl⟩
set_option maxRecDepth 100000 in
theorem mvd_21_0 (w : World) : Calls Try.prog 49 #[.string ⟨#[105, 115, 119, 97, 112, 100, 103]⟩, .int .i64 0] w fun e w' => e = .returned (.tuple #[.int .i64 0, .int .i64 0]) ∧ w' = w := by
  have A := fun w => sub_21_0 w
  go_enter Try.func49, Try.ntmps49
  go_wp2_with (go_at_call 58; (with_reducible refine (A _).mono ?_); rintro e w1 ⟨rfl, rfl⟩)
  go_ret2
  exact ⟨rfl, rfl⟩
set_option maxRecDepth 100000 in
theorem ent_21_0_0 (w : World) : Calls Try.prog 34 #[.string ⟨#[105, 115, 119, 97, 112, 100, 103]⟩, .int .i64 0, .int .i64 0] w fun e w' => e = .returned (.tuple #[.int .i64 0, .int .i64 0]) ∧ w' = w := by
  have A := fun w => mvd_21_0 w
  go_enter Try.func34, Try.ntmps34
  go_wp2_with (go_at_call 49; (with_reducible refine (A _).mono ?_); rintro e w1 ⟨rfl, rfl⟩)
  go_ret2
  exact ⟨rfl, rfl⟩
set_option maxRecDepth 100000 in
theorem ent_21_1_0 (w : World) : Calls Try.prog 34 #[.string ⟨#[105, 115, 119, 97, 112, 100, 103]⟩, .int .i64 1, .int .i64 0] w fun e w' => e = .returned (.tuple #[.int .i64 (-1), .int .i64 0]) ∧ w' = w := by
  have A := fun w => mvd_21_0 w
  go_enter Try.func34, Try.ntmps34
  go_wp2_with (go_at_call 49; (with_reducible refine (A _).mono ?_); rintro e w1 ⟨rfl, rfl⟩)
  go_ret2
  exact ⟨rfl, rfl⟩
set_option maxRecDepth 100000 in
theorem ent_21_2_0 (w : World) : Calls Try.prog 34 #[.string ⟨#[105, 115, 119, 97, 112, 100, 103]⟩, .int .i64 2, .int .i64 0] w fun e w' => e = .returned (.tuple #[.int .i64 (-1), .int .i64 0]) ∧ w' = w := by
  have A := fun w => mvd_21_0 w
  go_enter Try.func34, Try.ntmps34
  go_wp2_with (go_at_call 49; (with_reducible refine (A _).mono ?_); rintro e w1 ⟨rfl, rfl⟩)
  go_ret2
  exact ⟨rfl, rfl⟩
set_option maxRecDepth 100000 in
theorem ent_21_3_0 (w : World) : Calls Try.prog 34 #[.string ⟨#[105, 115, 119, 97, 112, 100, 103]⟩, .int .i64 3, .int .i64 0] w fun e w' => e = .returned (.tuple #[.int .i64 (-1), .int .i64 0]) ∧ w' = w := by
  have A := fun w => mvd_21_0 w
  go_enter Try.func34, Try.ntmps34
  go_wp2_with (go_at_call 49; (with_reducible refine (A _).mono ?_); rintro e w1 ⟨rfl, rfl⟩)
  go_ret2
  exact ⟨rfl, rfl⟩
set_option maxRecDepth 100000 in
theorem sub_21_1 (w : World) : Calls Try.prog 58 #[.string ⟨#[105, 115, 119, 97, 112, 100, 103]⟩, .int .i64 1] w fun e w' => e = .returned (.tuple #[.int .i64 2, .int .i64 6]) ∧ w' = w := by
  have b0 : bits BinOp.and IntKind.i64 1 1 = 1 := by decide +kernel
  have b1 : wrap64 (1 * 2) = 2 := by decide +kernel
  have b2 : bits BinOp.xor IntKind.i64 1 2 = 3 := by decide +kernel
  go_enter Try.func58, Try.ntmps58
  go_wp2
  go_ret2
  exact ⟨rfl, rfl⟩
set_option maxRecDepth 100000 in
theorem mvd_21_1 (w : World) : Calls Try.prog 49 #[.string ⟨#[105, 115, 119, 97, 112, 100, 103]⟩, .int .i64 1] w fun e w' => e = .returned (.tuple #[.int .i64 2, .int .i64 6]) ∧ w' = w := by
  have A := fun w => sub_21_1 w
  go_enter Try.func49, Try.ntmps49
  go_wp2_with (go_at_call 58; (with_reducible refine (A _).mono ?_); rintro e w1 ⟨rfl, rfl⟩)
  go_ret2
  exact ⟨rfl, rfl⟩
set_option maxRecDepth 100000 in
theorem ent_21_0_1 (w : World) : Calls Try.prog 34 #[.string ⟨#[105, 115, 119, 97, 112, 100, 103]⟩, .int .i64 0, .int .i64 1] w fun e w' => e = .returned (.tuple #[.int .i64 (-1), .int .i64 0]) ∧ w' = w := by
  have A := fun w => mvd_21_1 w
  go_enter Try.func34, Try.ntmps34
  go_wp2_with (go_at_call 49; (with_reducible refine (A _).mono ?_); rintro e w1 ⟨rfl, rfl⟩)
  go_ret2
  exact ⟨rfl, rfl⟩
set_option maxRecDepth 100000 in
theorem ent_21_1_1 (w : World) : Calls Try.prog 34 #[.string ⟨#[105, 115, 119, 97, 112, 100, 103]⟩, .int .i64 1, .int .i64 1] w fun e w' => e = .returned (.tuple #[.int .i64 (-1), .int .i64 0]) ∧ w' = w := by
  have A := fun w => mvd_21_1 w
  go_enter Try.func34, Try.ntmps34
  go_wp2_with (go_at_call 49; (with_reducible refine (A _).mono ?_); rintro e w1 ⟨rfl, rfl⟩)
  go_ret2
  exact ⟨rfl, rfl⟩
set_option maxRecDepth 100000 in
theorem ent_21_2_1 (w : World) : Calls Try.prog 34 #[.string ⟨#[105, 115, 119, 97, 112, 100, 103]⟩, .int .i64 2, .int .i64 1] w fun e w' => e = .returned (.tuple #[.int .i64 6, .int .i64 0]) ∧ w' = w := by
  have A := fun w => mvd_21_1 w
  go_enter Try.func34, Try.ntmps34
  go_wp2_with (go_at_call 49; (with_reducible refine (A _).mono ?_); rintro e w1 ⟨rfl, rfl⟩)
  go_ret2
  exact ⟨rfl, rfl⟩
set_option maxRecDepth 100000 in
theorem ent_21_3_1 (w : World) : Calls Try.prog 34 #[.string ⟨#[105, 115, 119, 97, 112, 100, 103]⟩, .int .i64 3, .int .i64 1] w fun e w' => e = .returned (.tuple #[.int .i64 (-1), .int .i64 0]) ∧ w' = w := by
  have A := fun w => mvd_21_1 w
  go_enter Try.func34, Try.ntmps34
  go_wp2_with (go_at_call 49; (with_reducible refine (A _).mono ?_); rintro e w1 ⟨rfl, rfl⟩)
  go_ret2
  exact ⟨rfl, rfl⟩
set_option maxRecDepth 100000 in
theorem sub_21_2 (w : World) : Calls Try.prog 58 #[.string ⟨#[105, 115, 119, 97, 112, 100, 103]⟩, .int .i64 2] w fun e w' => e = .returned (.tuple #[.int .i64 1, .int .i64 6]) ∧ w' = w := by
  have b0 : bits BinOp.and IntKind.i64 2 1 = 0 := by decide +kernel
  have b1 : wrap64 (0 * 2) = 0 := by decide +kernel
  have b2 : bits BinOp.xor IntKind.i64 2 0 = 2 := by decide +kernel
  go_enter Try.func58, Try.ntmps58
  go_wp2
  go_ret2
  exact ⟨rfl, rfl⟩
set_option maxRecDepth 100000 in
theorem mvd_21_2 (w : World) : Calls Try.prog 49 #[.string ⟨#[105, 115, 119, 97, 112, 100, 103]⟩, .int .i64 2] w fun e w' => e = .returned (.tuple #[.int .i64 1, .int .i64 6]) ∧ w' = w := by
  have A := fun w => sub_21_2 w
  go_enter Try.func49, Try.ntmps49
  go_wp2_with (go_at_call 58; (with_reducible refine (A _).mono ?_); rintro e w1 ⟨rfl, rfl⟩)
  go_ret2
  exact ⟨rfl, rfl⟩
set_option maxRecDepth 100000 in
theorem ent_21_0_2 (w : World) : Calls Try.prog 34 #[.string ⟨#[105, 115, 119, 97, 112, 100, 103]⟩, .int .i64 0, .int .i64 2] w fun e w' => e = .returned (.tuple #[.int .i64 (-1), .int .i64 0]) ∧ w' = w := by
  have A := fun w => mvd_21_2 w
  go_enter Try.func34, Try.ntmps34
  go_wp2_with (go_at_call 49; (with_reducible refine (A _).mono ?_); rintro e w1 ⟨rfl, rfl⟩)
  go_ret2
  exact ⟨rfl, rfl⟩
set_option maxRecDepth 100000 in
theorem ent_21_1_2 (w : World) : Calls Try.prog 34 #[.string ⟨#[105, 115, 119, 97, 112, 100, 103]⟩, .int .i64 1, .int .i64 2] w fun e w' => e = .returned (.tuple #[.int .i64 6, .int .i64 0]) ∧ w' = w := by
  have A := fun w => mvd_21_2 w
  go_enter Try.func34, Try.ntmps34
  go_wp2_with (go_at_call 49; (with_reducible refine (A _).mono ?_); rintro e w1 ⟨rfl, rfl⟩)
  go_ret2
  exact ⟨rfl, rfl⟩
set_option maxRecDepth 100000 in
theorem ent_21_2_2 (w : World) : Calls Try.prog 34 #[.string ⟨#[105, 115, 119, 97, 112, 100, 103]⟩, .int .i64 2, .int .i64 2] w fun e w' => e = .returned (.tuple #[.int .i64 (-1), .int .i64 0]) ∧ w' = w := by
  have A := fun w => mvd_21_2 w
  go_enter Try.func34, Try.ntmps34
  go_wp2_with (go_at_call 49; (with_reducible refine (A _).mono ?_); rintro e w1 ⟨rfl, rfl⟩)
  go_ret2
  exact ⟨rfl, rfl⟩
set_option maxRecDepth 100000 in
theorem ent_21_3_2 (w : World) : Calls Try.prog 34 #[.string ⟨#[105, 115, 119, 97, 112, 100, 103]⟩, .int .i64 3, .int .i64 2] w fun e w' => e = .returned (.tuple #[.int .i64 (-1), .int .i64 0]) ∧ w' = w := by
  have A := fun w => mvd_21_2 w
  go_enter Try.func34, Try.ntmps34
  go_wp2_with (go_at_call 49; (with_reducible refine (A _).mono ?_); rintro e w1 ⟨rfl, rfl⟩)
  go_ret2
  exact ⟨rfl, rfl⟩
set_option maxRecDepth 100000 in
theorem sub_21_3 (w : World) : Calls Try.prog 58 #[.string ⟨#[105, 115, 119, 97, 112, 100, 103]⟩, .int .i64 3] w fun e w' => e = .returned (.tuple #[.int .i64 3, .int .i64 0]) ∧ w' = w := by
  have b0 : bits BinOp.and IntKind.i64 3 1 = 1 := by decide +kernel
  have b1 : wrap64 (1 * 2) = 2 := by decide +kernel
  have b2 : bits BinOp.xor IntKind.i64 3 2 = 1 := by decide +kernel
  go_enter Try.func58, Try.ntmps58
  go_wp2
  go_ret2
  exact ⟨rfl, rfl⟩
set_option maxRecDepth 100000 in
theorem mvd_21_3 (w : World) : Calls Try.prog 49 #[.string ⟨#[105, 115, 119, 97, 112, 100, 103]⟩, .int .i64 3] w fun e w' => e = .returned (.tuple #[.int .i64 3, .int .i64 0]) ∧ w' = w := by
  have A := fun w => sub_21_3 w
  go_enter Try.func49, Try.ntmps49
  go_wp2_with (go_at_call 58; (with_reducible refine (A _).mono ?_); rintro e w1 ⟨rfl, rfl⟩)
  go_ret2
  exact ⟨rfl, rfl⟩
set_option maxRecDepth 100000 in
theorem ent_21_0_3 (w : World) : Calls Try.prog 34 #[.string ⟨#[105, 115, 119, 97, 112, 100, 103]⟩, .int .i64 0, .int .i64 3] w fun e w' => e = .returned (.tuple #[.int .i64 (-1), .int .i64 0]) ∧ w' = w := by
  have A := fun w => mvd_21_3 w
  go_enter Try.func34, Try.ntmps34
  go_wp2_with (go_at_call 49; (with_reducible refine (A _).mono ?_); rintro e w1 ⟨rfl, rfl⟩)
  go_ret2
  exact ⟨rfl, rfl⟩
set_option maxRecDepth 100000 in
theorem ent_21_1_3 (w : World) : Calls Try.prog 34 #[.string ⟨#[105, 115, 119, 97, 112, 100, 103]⟩, .int .i64 1, .int .i64 3] w fun e w' => e = .returned (.tuple #[.int .i64 (-1), .int .i64 0]) ∧ w' = w := by
  have A := fun w => mvd_21_3 w
  go_enter Try.func34, Try.ntmps34
  go_wp2_with (go_at_call 49; (with_reducible refine (A _).mono ?_); rintro e w1 ⟨rfl, rfl⟩)
  go_ret2
  exact ⟨rfl, rfl⟩
set_option maxRecDepth 100000 in
theorem ent_21_2_3 (w : World) : Calls Try.prog 34 #[.string ⟨#[105, 115, 119, 97, 112, 100, 103]⟩, .int .i64 2, .int .i64 3] w fun e w' => e = .returned (.tuple #[.int .i64 (-1), .int .i64 0]) ∧ w' = w := by
  have A := fun w => mvd_21_3 w
  go_enter Try.func34, Try.ntmps34
  go_wp2_with (go_at_call 49; (with_reducible refine (A _).mono ?_); rintro e w1 ⟨rfl, rfl⟩)
  go_ret2
  exact ⟨rfl, rfl⟩
set_option maxRecDepth 100000 in
theorem ent_21_3_3 (w : World) : Calls Try.prog 34 #[.string ⟨#[105, 115, 119, 97, 112, 100, 103]⟩, .int .i64 3, .int .i64 3] w fun e w' => e = .returned (.tuple #[.int .i64 0, .int .i64 0]) ∧ w' = w := by
  have A := fun w => mvd_21_3 w
  go_enter Try.func34, Try.ntmps34
  go_wp2_with (go_at_call 49; (with_reducible refine (A _).mono ?_); rintro e w1 ⟨rfl, rfl⟩)
  go_ret2
  exact ⟨rfl, rfl⟩
theorem rent_21 (x y : Nat) (hx : x < 4) (hy : y < 4) (w : World) : Calls Try.prog 34 #[.string (nm 21), .int .i64 (x : Nat), .int .i64 (y : Nat)] w fun e w' => e = .returned (.tuple #[.int .i64 (reP 21 x y), .int .i64 (reH 21 x y)]) ∧ w' = w := by
  have h1 : y = 0 ∨ y = 1 ∨ y = 2 ∨ y = 3 := by omega
  have h2 : x = 0 ∨ x = 1 ∨ x = 2 ∨ x = 3 := by omega
  rcases h1 with rfl | rfl | rfl | rfl
  · rcases h2 with rfl | rfl | rfl | rfl
    · exact ent_21_0_0 w
    · exact ent_21_1_0 w
    · exact ent_21_2_0 w
    · exact ent_21_3_0 w
  · rcases h2 with rfl | rfl | rfl | rfl
    · exact ent_21_0_1 w
    · exact ent_21_1_1 w
    · exact ent_21_2_1 w
    · exact ent_21_3_1 w
  · rcases h2 with rfl | rfl | rfl | rfl
    · exact ent_21_0_2 w
    · exact ent_21_1_2 w
    · exact ent_21_2_2 w
    · exact ent_21_3_2 w
  · rcases h2 with rfl | rfl | rfl | rfl
    · exact ent_21_0_3 w
    · exact ent_21_1_3 w
    · exact ent_21_2_3 w
    · exact ent_21_3_3 w
end Go.Proofs.Ytjmgcgjmaemgdaa
