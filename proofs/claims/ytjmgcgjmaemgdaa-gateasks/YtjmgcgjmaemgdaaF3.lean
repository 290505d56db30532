/-
  The reference's entries of the gates i, x, y, z, h, s, sdg, t, tdg, v, vdg, w, wdg.
-/
import Derived.Test.YtjmgcgjmaemgdaaF2
namespace Go.Proofs.Ytjmgcgjmaemgdaa
open Go.RowKit Go.Sort

set_option maxRecDepth 100000 in
theorem sub_0_0 (w : World) : Calls Try.prog 59 #[.string ⟨#[105]⟩, .int .i64 0] w fun e w' => e = .returned (.tuple #[.int .i64 0, .int .i64 0]) ∧ w' = w := by
  have b0 : bits BinOp.and IntKind.i64 0 1 = 0 := by decide +kernel
  have b1 : wrap64 (0 * 2) = 0 := by decide +kernel
  have b2 : bits BinOp.xor IntKind.i64 0 0 = 0 := by decide +kernel
  go_enter Try.func59, Try.ntmps59
  go_wp2
  go_ret2
  exact ⟨rfl, rfl⟩
set_option maxRecDepth 100000 in
theorem mvd_0_0 (w : World) : Calls Try.prog 49 #[.string ⟨#[105]⟩, .int .i64 0] w fun e w' => e = .returned (.tuple #[.int .i64 0, .int .i64 0]) ∧ w' = w := by
  have A := fun w => sub_0_0 w
  go_enter Try.func49, Try.ntmps49
  go_wp2_with (go_at_call 59; (with_reducible refine (A _).mono ?_); rintro e w1 ⟨rfl, rfl⟩)
  go_ret2
  exact ⟨rfl, rfl⟩
set_option maxRecDepth 100000 in
theorem ent_0_0_0 (w : World) : Calls Try.prog 34 #[.string ⟨#[105]⟩, .int .i64 0, .int .i64 0] w fun e w' => e = .returned (.tuple #[.int .i64 0, .int .i64 0]) ∧ w' = w := by
  have A := fun w => mvd_0_0 w
  go_enter Try.func34, Try.ntmps34
  go_wp2_with (go_at_call 49; (with_reducible refine (A _).mono ?_); rintro e w1 ⟨rfl, rfl⟩)
  go_ret2
  exact ⟨rfl, rfl⟩
set_option maxRecDepth 100000 in
theorem ent_0_1_0 (w : World) : Calls Try.prog 34 #[.string ⟨#[105]⟩, .int .i64 1, .int .i64 0] w fun e w' => e = .returned (.tuple #[.int .i64 (-1), .int .i64 0]) ∧ w' = w := by
  have A := fun w => mvd_0_0 w
  go_enter Try.func34, Try.ntmps34
  go_wp2_with (go_at_call 49; (with_reducible refine (A _).mono ?_); rintro e w1 ⟨rfl, rfl⟩)
  go_ret2
  exact ⟨rfl, rfl⟩
set_option maxRecDepth 100000 in
theorem sub_0_1 (w : World) : Calls Try.prog 59 #[.string ⟨#[105]⟩, .int .i64 1] w fun e w' => e = .returned (.tuple #[.int .i64 1, .int .i64 0]) ∧ w' = w := by
  have b0 : bits BinOp.and IntKind.i64 1 1 = 1 := by decide +kernel
  have b1 : wrap64 (1 * 2) = 2 := by decide +kernel
  have b2 : bits BinOp.xor IntKind.i64 1 2 = 3 := by decide +kernel
  go_enter Try.func59, Try.ntmps59
  go_wp2
  go_ret2
  exact ⟨rfl, rfl⟩
set_option maxRecDepth 100000 in
theorem mvd_0_1 (w : World) : Calls Try.prog 49 #[.string ⟨#[105]⟩, .int .i64 1] w fun e w' => e = .returned (.tuple #[.int .i64 1, .int .i64 0]) ∧ w' = w := by
  have A := fun w => sub_0_1 w
  go_enter Try.func49, Try.ntmps49
  go_wp2_with (go_at_call 59; (with_reducible refine (A _).mono ?_); rintro e w1 ⟨rfl, rfl⟩)
  go_ret2
  exact ⟨rfl, rfl⟩
set_option maxRecDepth 100000 in
theorem ent_0_0_1 (w : World) : Calls Try.prog 34 #[.string ⟨#[105]⟩, .int .i64 0, .int .i64 1] w fun e w' => e = .returned (.tuple #[.int .i64 (-1), .int .i64 0]) ∧ w' = w := by
  have A := fun w => mvd_0_1 w
  go_enter Try.func34, Try.ntmps34
  go_wp2_with (go_at_call 49; (with_reducible refine (A _).mono ?_); rintro e w1 ⟨rfl, rfl⟩)
  go_ret2
  exact ⟨rfl, rfl⟩
set_option maxRecDepth 100000 in
theorem ent_0_1_1 (w : World) : Calls Try.prog 34 #[.string ⟨#[105]⟩, .int .i64 1, .int .i64 1] w fun e w' => e = .returned (.tuple #[.int .i64 0, .int .i64 0]) ∧ w' = w := by
  have A := fun w => mvd_0_1 w
  go_enter Try.func34, Try.ntmps34
  go_wp2_with (go_at_call 49; (with_reducible refine (A _).mono ?_); rintro e w1 ⟨rfl, rfl⟩)
  go_ret2
  exact ⟨rfl, rfl⟩
theorem rent_0 (x y : Nat) (hx : x < 2) (hy : y < 2) (w : World) : Calls Try.prog 34 #[.string (nm 0), .int .i64 (x : Nat), .int .i64 (y : Nat)] w fun e w' => e = .returned (.tuple #[.int .i64 (reP 0 x y), .int .i64 (reH 0 x y)]) ∧ w' = w := by
  have h1 : y = 0 ∨ y = 1 := by omega
  have h2 : x = 0 ∨ x = 1 := by omega
  rcases h1 with rfl | rfl
  · rcases h2 with rfl | rfl
    · exact ent_0_0_0 w
    · exact ent_0_1_0 w
  · rcases h2 with rfl | rfl
    · exact ent_0_0_1 w
    · exact ent_0_1_1 w
set_option maxRecDepth 100000 in
theorem mvd_1_0 (w : World) : Calls Try.prog 49 #[.string ⟨#[120]⟩, .int .i64 0] w fun e w' => e = .returned (.tuple #[.int .i64 1, .int .i64 0]) ∧ w' = w := by
  go_enter Try.func49, Try.ntmps49
  go_wp2
  go_ret2
  exact ⟨rfl, rfl⟩
set_option maxRecDepth 100000 in
theorem ent_1_0_0 (w : World) : Calls Try.prog 34 #[.string ⟨#[120]⟩, .int .i64 0, .int .i64 0] w fun e w' => e = .returned (.tuple #[.int .i64 (-1), .int .i64 0]) ∧ w' = w := by
  have A := fun w => mvd_1_0 w
  go_enter Try.func34, Try.ntmps34
  go_wp2_with (go_at_call 49; (with_reducible refine (A _).mono ?_); rintro e w1 ⟨rfl, rfl⟩)
  go_ret2
  exact ⟨rfl, rfl⟩
set_option maxRecDepth 100000 in
theorem ent_1_1_0 (w : World) : Calls Try.prog 34 #[.string ⟨#[120]⟩, .int .i64 1, .int .i64 0] w fun e w' => e = .returned (.tuple #[.int .i64 0, .int .i64 0]) ∧ w' = w := by
  have A := fun w => mvd_1_0 w
  go_enter Try.func34, Try.ntmps34
  go_wp2_with (go_at_call 49; (with_reducible refine (A _).mono ?_); rintro e w1 ⟨rfl, rfl⟩)
  go_ret2
  exact ⟨rfl, rfl⟩
set_option maxRecDepth 100000 in
theorem mvd_1_1 (w : World) : Calls Try.prog 49 #[.string ⟨#[120]⟩, .int .i64 1] w fun e w' => e = .returned (.tuple #[.int .i64 0, .int .i64 0]) ∧ w' = w := by
  go_enter Try.func49, Try.ntmps49
  go_wp2
  go_ret2
  exact ⟨rfl, rfl⟩
set_option maxRecDepth 100000 in
theorem ent_1_0_1 (w : World) : Calls Try.prog 34 #[.string ⟨#[120]⟩, .int .i64 0, .int .i64 1] w fun e w' => e = .returned (.tuple #[.int .i64 0, .int .i64 0]) ∧ w' = w := by
  have A := fun w => mvd_1_1 w
  go_enter Try.func34, Try.ntmps34
  go_wp2_with (go_at_call 49; (with_reducible refine (A _).mono ?_); rintro e w1 ⟨rfl, rfl⟩)
  go_ret2
  exact ⟨rfl, rfl⟩
set_option maxRecDepth 100000 in
theorem ent_1_1_1 (w : World) : Calls Try.prog 34 #[.string ⟨#[120]⟩, .int .i64 1, .int .i64 1] w fun e w' => e = .returned (.tuple #[.int .i64 (-1), .int .i64 0]) ∧ w' = w := by
  have A := fun w => mvd_1_1 w
  go_enter Try.func34, Try.ntmps34
  go_wp2_with (go_at_call 49; (with_reducible refine (A _).mono ?_); rintro e w1 ⟨rfl, rfl⟩)
  go_ret2
  exact ⟨rfl, rfl⟩
theorem rent_1 (x y : Nat) (hx : x < 2) (hy : y < 2) (w : World) : Calls Try.prog 34 #[.string (nm 1), .int .i64 (x : Nat), .int .i64 (y : Nat)] w fun e w' => e = .returned (.tuple #[.int .i64 (reP 1 x y), .int .i64 (reH 1 x y)]) ∧ w' = w := by
  have h1 : y = 0 ∨ y = 1 := by omega
  have h2 : x = 0 ∨ x = 1 := by omega
  rcases h1 with rfl | rfl
  · rcases h2 with rfl | rfl
    · exact ent_1_0_0 w
    · exact ent_1_1_0 w
  · rcases h2 with rfl | rfl
    · exact ent_1_0_1 w
    · exact ent_1_1_1 w
set_option maxRecDepth 100000 in
theorem mvd_2_0 (w : World) : Calls Try.prog 49 #[.string ⟨#[121]⟩, .int .i64 0] w fun e w' => e = .returned (.tuple #[.int .i64 1, .int .i64 2]) ∧ w' = w := by
  go_enter Try.func49, Try.ntmps49
  go_wp2
  go_ret2
  exact ⟨rfl, rfl⟩
set_option maxRecDepth 100000 in
theorem ent_2_0_0 (w : World) : Calls Try.prog 34 #[.string ⟨#[121]⟩, .int .i64 0, .int .i64 0] w fun e w' => e = .returned (.tuple #[.int .i64 (-1), .int .i64 0]) ∧ w' = w := by
  have A := fun w => mvd_2_0 w
  go_enter Try.func34, Try.ntmps34
  go_wp2_with (go_at_call 49; (with_reducible refine (A _).mono ?_); rintro e w1 ⟨rfl, rfl⟩)
  go_ret2
  exact ⟨rfl, rfl⟩
set_option maxRecDepth 100000 in
theorem ent_2_1_0 (w : World) : Calls Try.prog 34 #[.string ⟨#[121]⟩, .int .i64 1, .int .i64 0] w fun e w' => e = .returned (.tuple #[.int .i64 2, .int .i64 0]) ∧ w' = w := by
  have A := fun w => mvd_2_0 w
  go_enter Try.func34, Try.ntmps34
  go_wp2_with (go_at_call 49; (with_reducible refine (A _).mono ?_); rintro e w1 ⟨rfl, rfl⟩)
  go_ret2
  exact ⟨rfl, rfl⟩
set_option maxRecDepth 100000 in
theorem mvd_2_1 (w : World) : Calls Try.prog 49 #[.string ⟨#[121]⟩, .int .i64 1] w fun e w' => e = .returned (.tuple #[.int .i64 0, .int .i64 6]) ∧ w' = w := by
  go_enter Try.func49, Try.ntmps49
  go_wp2
  go_ret2
  exact ⟨rfl, rfl⟩
set_option maxRecDepth 100000 in
theorem ent_2_0_1 (w : World) : Calls Try.prog 34 #[.string ⟨#[121]⟩, .int .i64 0, .int .i64 1] w fun e w' => e = .returned (.tuple #[.int .i64 6, .int .i64 0]) ∧ w' = w := by
  have A := fun w => mvd_2_1 w
  go_enter Try.func34, Try.ntmps34
  go_wp2_with (go_at_call 49; (with_reducible refine (A _).mono ?_); rintro e w1 ⟨rfl, rfl⟩)
  go_ret2
  exact ⟨rfl, rfl⟩
set_option maxRecDepth 100000 in
theorem ent_2_1_1 (w : World) : Calls Try.prog 34 #[.string ⟨#[121]⟩, .int .i64 1, .int .i64 1] w fun e w' => e = .returned (.tuple #[.int .i64 (-1), .int .i64 0]) ∧ w' = w := by
  have A := fun w => mvd_2_1 w
  go_enter Try.func34, Try.ntmps34
  go_wp2_with (go_at_call 49; (with_reducible refine (A _).mono ?_); rintro e w1 ⟨rfl, rfl⟩)
  go_ret2
  exact ⟨rfl, rfl⟩
theorem rent_2 (x y : Nat) (hx : x < 2) (hy : y < 2) (w : World) : Calls Try.prog 34 #[.string (nm 2), .int .i64 (x : Nat), .int .i64 (y : Nat)] w fun e w' => e = .returned (.tuple #[.int .i64 (reP 2 x y), .int .i64 (reH 2 x y)]) ∧ w' = w := by
  have h1 : y = 0 ∨ y = 1 := by omega
  have h2 : x = 0 ∨ x = 1 := by omega
  rcases h1 with rfl | rfl
  · rcases h2 with rfl | rfl
    · exact ent_2_0_0 w
    · exact ent_2_1_0 w
  · rcases h2 with rfl | rfl
    · exact ent_2_0_1 w
    · exact ent_2_1_1 w
set_option maxRecDepth 100000 in
theorem mvd_3_0 (w : World) : Calls Try.prog 49 #[.string ⟨#[122]⟩, .int .i64 0] w fun e w' => e = .returned (.tuple #[.int .i64 0, .int .i64 0]) ∧ w' = w := by
  go_enter Try.func49, Try.ntmps49
  go_wp2
  go_ret2
  exact ⟨rfl, rfl⟩
set_option maxRecDepth 100000 in
theorem ent_3_0_0 (w : World) : Calls Try.prog 34 #[.string ⟨#[122]⟩, .int .i64 0, .int .i64 0] w fun e w' => e = .returned (.tuple #[.int .i64 0, .int .i64 0]) ∧ w' = w := by
  have A := fun w => mvd_3_0 w
  go_enter Try.func34, Try.ntmps34
  go_wp2_with (go_at_call 49; (with_reducible refine (A _).mono ?_); rintro e w1 ⟨rfl, rfl⟩)
  go_ret2
  exact ⟨rfl, rfl⟩
set_option maxRecDepth 100000 in
theorem ent_3_1_0 (w : World) : Calls Try.prog 34 #[.string ⟨#[122]⟩, .int .i64 1, .int .i64 0] w fun e w' => e = .returned (.tuple #[.int .i64 (-1), .int .i64 0]) ∧ w' = w := by
  have A := fun w => mvd_3_0 w
  go_enter Try.func34, Try.ntmps34
  go_wp2_with (go_at_call 49; (with_reducible refine (A _).mono ?_); rintro e w1 ⟨rfl, rfl⟩)
  go_ret2
  exact ⟨rfl, rfl⟩
set_option maxRecDepth 100000 in
theorem mvd_3_1 (w : World) : Calls Try.prog 49 #[.string ⟨#[122]⟩, .int .i64 1] w fun e w' => e = .returned (.tuple #[.int .i64 1, .int .i64 4]) ∧ w' = w := by
  go_enter Try.func49, Try.ntmps49
  go_wp2
  go_ret2
  exact ⟨rfl, rfl⟩
set_option maxRecDepth 100000 in
theorem ent_3_0_1 (w : World) : Calls Try.prog 34 #[.string ⟨#[122]⟩, .int .i64 0, .int .i64 1] w fun e w' => e = .returned (.tuple #[.int .i64 (-1), .int .i64 0]) ∧ w' = w := by
  have A := fun w => mvd_3_1 w
  go_enter Try.func34, Try.ntmps34
  go_wp2_with (go_at_call 49; (with_reducible refine (A _).mono ?_); rintro e w1 ⟨rfl, rfl⟩)
  go_ret2
  exact ⟨rfl, rfl⟩
set_option maxRecDepth 100000 in
theorem ent_3_1_1 (w : World) : Calls Try.prog 34 #[.string ⟨#[122]⟩, .int .i64 1, .int .i64 1] w fun e w' => e = .returned (.tuple #[.int .i64 4, .int .i64 0]) ∧ w' = w := by
  have A := fun w => mvd_3_1 w
  go_enter Try.func34, Try.ntmps34
  go_wp2_with (go_at_call 49; (with_reducible refine (A _).mono ?_); rintro e w1 ⟨rfl, rfl⟩)
  go_ret2
  exact ⟨rfl, rfl⟩
theorem rent_3 (x y : Nat) (hx : x < 2) (hy : y < 2) (w : World) : Calls Try.prog 34 #[.string (nm 3), .int .i64 (x : Nat), .int .i64 (y : Nat)] w fun e w' => e = .returned (.tuple #[.int .i64 (reP 3 x y), .int .i64 (reH 3 x y)]) ∧ w' = w := by
  have h1 : y = 0 ∨ y = 1 := by omega
  have h2 : x = 0 ∨ x = 1 := by omega
  rcases h1 with rfl | rfl
  · rcases h2 with rfl | rfl
    · exact ent_3_0_0 w
    · exact ent_3_1_0 w
  · rcases h2 with rfl | rfl
    · exact ent_3_0_1 w
    · exact ent_3_1_1 w
set_option maxRecDepth 100000 in
theorem hlv_4_0_0 (w : World) : Calls Try.prog 48 #[.string ⟨#[104]⟩, .int .i64 0, .int .i64 0] w fun e w' => e = .returned (.tuple #[.int .i64 0, .int .i64 1]) ∧ w' = w := by
  have b0 : bits BinOp.and IntKind.i64 0 0 = 0 := by decide +kernel
  have b1 : bits BinOp.and IntKind.i64 0 0 = 0 := by decide +kernel
  have b2 : wrap64 (4 * 0) = 0 := by decide +kernel
  have b3 : wrap64 (4 * 0) = 0 := by decide +kernel
  go_enter Try.func48, Try.ntmps48
  go_wp2
  go_ret2
  exact ⟨rfl, rfl⟩
set_option maxRecDepth 100000 in
theorem ent_4_0_0 (w : World) : Calls Try.prog 34 #[.string ⟨#[104]⟩, .int .i64 0, .int .i64 0] w fun e w' => e = .returned (.tuple #[.int .i64 0, .int .i64 1]) ∧ w' = w := by
  have A := fun w => hlv_4_0_0 w
  go_enter Try.func34, Try.ntmps34
  go_wp2_with (go_at_call 48; (with_reducible refine (A _).mono ?_); rintro e w1 ⟨rfl, rfl⟩)
  go_ret2
  exact ⟨rfl, rfl⟩
set_option maxRecDepth 100000 in
theorem hlv_4_1_0 (w : World) : Calls Try.prog 48 #[.string ⟨#[104]⟩, .int .i64 1, .int .i64 0] w fun e w' => e = .returned (.tuple #[.int .i64 0, .int .i64 1]) ∧ w' = w := by
  have b0 : bits BinOp.and IntKind.i64 1 0 = 0 := by decide +kernel
  have b1 : bits BinOp.and IntKind.i64 0 0 = 0 := by decide +kernel
  have b2 : wrap64 (4 * 0) = 0 := by decide +kernel
  have b3 : wrap64 (4 * 0) = 0 := by decide +kernel
  go_enter Try.func48, Try.ntmps48
  go_wp2
  go_ret2
  exact ⟨rfl, rfl⟩
set_option maxRecDepth 100000 in
theorem ent_4_1_0 (w : World) : Calls Try.prog 34 #[.string ⟨#[104]⟩, .int .i64 1, .int .i64 0] w fun e w' => e = .returned (.tuple #[.int .i64 0, .int .i64 1]) ∧ w' = w := by
  have A := fun w => hlv_4_1_0 w
  go_enter Try.func34, Try.ntmps34
  go_wp2_with (go_at_call 48; (with_reducible refine (A _).mono ?_); rintro e w1 ⟨rfl, rfl⟩)
  go_ret2
  exact ⟨rfl, rfl⟩
set_option maxRecDepth 100000 in
theorem hlv_4_0_1 (w : World) : Calls Try.prog 48 #[.string ⟨#[104]⟩, .int .i64 0, .int .i64 1] w fun e w' => e = .returned (.tuple #[.int .i64 0, .int .i64 1]) ∧ w' = w := by
  have b0 : bits BinOp.and IntKind.i64 0 1 = 0 := by decide +kernel
  have b1 : bits BinOp.and IntKind.i64 0 0 = 0 := by decide +kernel
  have b2 : wrap64 (4 * 0) = 0 := by decide +kernel
  have b3 : wrap64 (4 * 0) = 0 := by decide +kernel
  go_enter Try.func48, Try.ntmps48
  go_wp2
  go_ret2
  exact ⟨rfl, rfl⟩
set_option maxRecDepth 100000 in
theorem ent_4_0_1 (w : World) : Calls Try.prog 34 #[.string ⟨#[104]⟩, .int .i64 0, .int .i64 1] w fun e w' => e = .returned (.tuple #[.int .i64 0, .int .i64 1]) ∧ w' = w := by
  have A := fun w => hlv_4_0_1 w
  go_enter Try.func34, Try.ntmps34
  go_wp2_with (go_at_call 48; (with_reducible refine (A _).mono ?_); rintro e w1 ⟨rfl, rfl⟩)
  go_ret2
  exact ⟨rfl, rfl⟩
set_option maxRecDepth 100000 in
theorem hlv_4_1_1 (w : World) : Calls Try.prog 48 #[.string ⟨#[104]⟩, .int .i64 1, .int .i64 1] w fun e w' => e = .returned (.tuple #[.int .i64 4, .int .i64 1]) ∧ w' = w := by
  have b0 : bits BinOp.and IntKind.i64 1 1 = 1 := by decide +kernel
  have b1 : bits BinOp.and IntKind.i64 0 0 = 0 := by decide +kernel
  have b2 : wrap64 (4 * 1) = 4 := by decide +kernel
  have b3 : wrap64 (4 * 0) = 0 := by decide +kernel
  go_enter Try.func48, Try.ntmps48
  go_wp2
  go_ret2
  exact ⟨rfl, rfl⟩
set_option maxRecDepth 100000 in
theorem ent_4_1_1 (w : World) : Calls Try.prog 34 #[.string ⟨#[104]⟩, .int .i64 1, .int .i64 1] w fun e w' => e = .returned (.tuple #[.int .i64 4, .int .i64 1]) ∧ w' = w := by
  have A := fun w => hlv_4_1_1 w
  go_enter Try.func34, Try.ntmps34
  go_wp2_with (go_at_call 48; (with_reducible refine (A _).mono ?_); rintro e w1 ⟨rfl, rfl⟩)
  go_ret2
  exact ⟨rfl, rfl⟩
theorem rent_4 (x y : Nat) (hx : x < 2) (hy : y < 2) (w : World) : Calls Try.prog 34 #[.string (nm 4), .int .i64 (x : Nat), .int .i64 (y : Nat)] w fun e w' => e = .returned (.tuple #[.int .i64 (reP 4 x y), .int .i64 (reH 4 x y)]) ∧ w' = w := by
  have h1 : y = 0 ∨ y = 1 := by omega
  have h2 : x = 0 ∨ x = 1 := by omega
  rcases h1 with rfl | rfl
  · rcases h2 with rfl | rfl
    · exact ent_4_0_0 w
    · exact ent_4_1_0 w
  · rcases h2 with rfl | rfl
    · exact ent_4_0_1 w
    · exact ent_4_1_1 w
set_option maxRecDepth 100000 in
theorem mvd_5_0 (w : World) : Calls Try.prog 49 #[.string ⟨#[115]⟩, .int .i64 0] w fun e w' => e = .returned (.tuple #[.int .i64 0, .int .i64 0]) ∧ w' = w := by
  go_enter Try.func49, Try.ntmps49
  go_wp2
  go_ret2
  exact ⟨rfl, rfl⟩
set_option maxRecDepth 100000 in
theorem ent_5_0_0 (w : World) : Calls Try.prog 34 #[.string ⟨#[115]⟩, .int .i64 0, .int .i64 0] w fun e w' => e = .returned (.tuple #[.int .i64 0, .int .i64 0]) ∧ w' = w := by
  have A := fun w => mvd_5_0 w
  go_enter Try.func34, Try.ntmps34
  go_wp2_with (go_at_call 49; (with_reducible refine (A _).mono ?_); rintro e w1 ⟨rfl, rfl⟩)
  go_ret2
  exact ⟨rfl, rfl⟩
set_option maxRecDepth 100000 in
theorem ent_5_1_0 (w : World) : Calls Try.prog 34 #[.string ⟨#[115]⟩, .int .i64 1, .int .i64 0] w fun e w' => e = .returned (.tuple #[.int .i64 (-1), .int .i64 0]) ∧ w' = w := by
  have A := fun w => mvd_5_0 w
  go_enter Try.func34, Try.ntmps34
  go_wp2_with (go_at_call 49; (with_reducible refine (A _).mono ?_); rintro e w1 ⟨rfl, rfl⟩)
  go_ret2
  exact ⟨rfl, rfl⟩
set_option maxRecDepth 100000 in
theorem mvd_5_1 (w : World) : Calls Try.prog 49 #[.string ⟨#[115]⟩, .int .i64 1] w fun e w' => e = .returned (.tuple #[.int .i64 1, .int .i64 2]) ∧ w' = w := by
  go_enter Try.func49, Try.ntmps49
  go_wp2
  go_ret2
  exact ⟨rfl, rfl⟩
set_option maxRecDepth 100000 in
theorem ent_5_0_1 (w : World) : Calls Try.prog 34 #[.string ⟨#[115]⟩, .int .i64 0, .int .i64 1] w fun e w' => e = .returned (.tuple #[.int .i64 (-1), .int .i64 0]) ∧ w' = w := by
  have A := fun w => mvd_5_1 w
  go_enter Try.func34, Try.ntmps34
  go_wp2_with (go_at_call 49; (with_reducible refine (A _).mono ?_); rintro e w1 ⟨rfl, rfl⟩)
  go_ret2
  exact ⟨rfl, rfl⟩
set_option maxRecDepth 100000 in
theorem ent_5_1_1 (w : World) : Calls Try.prog 34 #[.string ⟨#[115]⟩, .int .i64 1, .int .i64 1] w fun e w' => e = .returned (.tuple #[.int .i64 2, .int .i64 0]) ∧ w' = w := by
  have A := fun w => mvd_5_1 w
  go_enter Try.func34, Try.ntmps34
  go_wp2_with (go_at_call 49; (with_reducible refine (A _).mono ?_); rintro e w1 ⟨rfl, rfl⟩)
  go_ret2
  exact ⟨rfl, rfl⟩
theorem rent_5 (x y : Nat) (hx : x < 2) (hy : y < 2) (w : World) : Calls Try.prog 34 #[.string (nm 5), .int .i64 (x : Nat), .int .i64 (y : Nat)] w fun e w' => e = .returned (.tuple #[.int .i64 (reP 5 x y), .int .i64 (reH 5 x y)]) ∧ w' = w := by
  have h1 : y = 0 ∨ y = 1 := by omega
  have h2 : x = 0 ∨ x = 1 := by omega
  rcases h1 with rfl | rfl
  · rcases h2 with rfl | rfl
    · exact ent_5_0_0 w
    · exact ent_5_1_0 w
  · rcases h2 with rfl | rfl
    · exact ent_5_0_1 w
    · exact ent_5_1_1 w
set_option maxRecDepth 100000 in
theorem mvd_6_0 (w : World) : Calls Try.prog 49 #[.string ⟨#[115, 100, 103]⟩, .int .i64 0] w fun e w' => e = .returned (.tuple #[.int .i64 0, .int .i64 0]) ∧ w' = w := by
  go_enter Try.func49, Try.ntmps49
  go_wp2
  go_ret2
  exact ⟨rfl, rfl⟩
set_option maxRecDepth 100000 in
theorem ent_6_0_0 (w : World) : Calls Try.prog 34 #[.string ⟨#[115, 100, 103]⟩, .int .i64 0, .int .i64 0] w fun e w' => e = .returned (.tuple #[.int .i64 0, .int .i64 0]) ∧ w' = w := by
  have A := fun w => mvd_6_0 w
  go_enter Try.func34, Try.ntmps34
  go_wp2_with (go_at_call 49; (with_reducible refine (A _).mono ?_); rintro e w1 ⟨rfl, rfl⟩)
  go_ret2
  exact ⟨rfl, rfl⟩
set_option maxRecDepth 100000 in
theorem ent_6_1_0 (w : World) : Calls Try.prog 34 #[.string ⟨#[115, 100, 103]⟩, .int .i64 1, .int .i64 0] w fun e w' => e = .returned (.tuple #[.int .i64 (-1), .int .i64 0]) ∧ w' = w := by
  have A := fun w => mvd_6_0 w
  go_enter Try.func34, Try.ntmps34
  go_wp2_with (go_at_call 49; (with_reducible refine (A _).mono ?_); rintro e w1 ⟨rfl, rfl⟩)
  go_ret2
  exact ⟨rfl, rfl⟩
set_option maxRecDepth 100000 in
theorem mvd_6_1 (w : World) : Calls Try.prog 49 #[.string ⟨#[115, 100, 103]⟩, .int .i64 1] w fun e w' => e = .returned (.tuple #[.int .i64 1, .int .i64 6]) ∧ w' = w := by
  go_enter Try.func49, Try.ntmps49
  go_wp2
  go_ret2
  exact ⟨rfl, rfl⟩
set_option maxRecDepth 100000 in
theorem ent_6_0_1 (w : World) : Calls Try.prog 34 #[.string ⟨#[115, 100, 103]⟩, .int .i64 0, .int .i64 1] w fun e w' => e = .returned (.tuple #[.int .i64 (-1), .int .i64 0]) ∧ w' = w := by
  have A := fun w => mvd_6_1 w
  go_enter Try.func34, Try.ntmps34
  go_wp2_with (go_at_call 49; (with_reducible refine (A _).mono ?_); rintro e w1 ⟨rfl, rfl⟩)
  go_ret2
  exact ⟨rfl, rfl⟩
set_option maxRecDepth 100000 in
theorem ent_6_1_1 (w : World) : Calls Try.prog 34 #[.string ⟨#[115, 100, 103]⟩, .int .i64 1, .int .i64 1] w fun e w' => e = .returned (.tuple #[.int .i64 6, .int .i64 0]) ∧ w' = w := by
  have A := fun w => mvd_6_1 w
  go_enter Try.func34, Try.ntmps34
  go_wp2_with (go_at_call 49; (with_reducible refine (A _).mono ?_); rintro e w1 ⟨rfl, rfl⟩)
  go_ret2
  exact ⟨rfl, rfl⟩
theorem rent_6 (x y : Nat) (hx : x < 2) (hy : y < 2) (w : World) : Calls Try.prog 34 #[.string (nm 6), .int .i64 (x : Nat), .int .i64 (y : Nat)] w fun e w' => e = .returned (.tuple #[.int .i64 (reP 6 x y), .int .i64 (reH 6 x y)]) ∧ w' = w := by
  have h1 : y = 0 ∨ y = 1 := by omega
  have h2 : x = 0 ∨ x = 1 := by omega
  rcases h1 with rfl | rfl
  · rcases h2 with rfl | rfl
    · exact ent_6_0_0 w
    · exact ent_6_1_0 w
  · rcases h2 with rfl | rfl
    · exact ent_6_0_1 w
    · exact ent_6_1_1 w
set_option maxRecDepth 100000 in
theorem mvd_7_0 (w : World) : Calls Try.prog 49 #[.string ⟨#[116]⟩, .int .i64 0] w fun e w' => e = .returned (.tuple #[.int .i64 0, .int .i64 0]) ∧ w' = w := by
  go_enter Try.func49, Try.ntmps49
  go_wp2
  go_ret2
  exact ⟨rfl, rfl⟩
set_option maxRecDepth 100000 in
theorem ent_7_0_0 (w : World) : Calls Try.prog 34 #[.string ⟨#[116]⟩, .int .i64 0, .int .i64 0] w fun e w' => e = .returned (.tuple #[.int .i64 0, .int .i64 0]) ∧ w' = w := by
  have A := fun w => mvd_7_0 w
  go_enter Try.func34, Try.ntmps34
  go_wp2_with (go_at_call 49; (with_reducible refine (A _).mono ?_); rintro e w1 ⟨rfl, rfl⟩)
  go_ret2
  exact ⟨rfl, rfl⟩
set_option maxRecDepth 100000 in
theorem ent_7_1_0 (w : World) : Calls Try.prog 34 #[.string ⟨#[116]⟩, .int .i64 1, .int .i64 0] w fun e w' => e = .returned (.tuple #[.int .i64 (-1), .int .i64 0]) ∧ w' = w := by
  have A := fun w => mvd_7_0 w
  go_enter Try.func34, Try.ntmps34
  go_wp2_with (go_at_call 49; (with_reducible refine (A _).mono ?_); rintro e w1 ⟨rfl, rfl⟩)
  go_ret2
  exact ⟨rfl, rfl⟩
set_option maxRecDepth 100000 in
theorem mvd_7_1 (w : World) : Calls Try.prog 49 #[.string ⟨#[116]⟩, .int .i64 1] w fun e w' => e = .returned (.tuple #[.int .i64 1, .int .i64 1]) ∧ w' = w := by
  go_enter Try.func49, Try.ntmps49
  go_wp2
  go_ret2
  exact ⟨rfl, rfl⟩
set_option maxRecDepth 100000 in
theorem ent_7_0_1 (w : World) : Calls Try.prog 34 #[.string ⟨#[116]⟩, .int .i64 0, .int .i64 1] w fun e w' => e = .returned (.tuple #[.int .i64 (-1), .int .i64 0]) ∧ w' = w := by
  have A := fun w => mvd_7_1 w
  go_enter Try.func34, Try.ntmps34
  go_wp2_with (go_at_call 49; (with_reducible refine (A _).mono ?_); rintro e w1 ⟨rfl, rfl⟩)
  go_ret2
  exact ⟨rfl, rfl⟩
set_option maxRecDepth 100000 in
theorem ent_7_1_1 (w : World) : Calls Try.prog 34 #[.string ⟨#[116]⟩, .int .i64 1, .int .i64 1] w fun e w' => e = .returned (.tuple #[.int .i64 1, .int .i64 0]) ∧ w' = w := by
  have A := fun w => mvd_7_1 w
  go_enter Try.func34, Try.ntmps34
  go_wp2_with (go_at_call 49; (with_reducible refine (A _).mono ?_); rintro e w1 ⟨rfl, rfl⟩)
  go_ret2
  exact ⟨rfl, rfl⟩
theorem rent_7 (x y : Nat) (hx : x < 2) (hy : y < 2) (w : World) : Calls Try.prog 34 #[.string (nm 7), .int .i64 (x : Nat), .int .i64 (y : Nat)] w fun e w' => e = .returned (.tuple #[.int .i64 (reP 7 x y), .int .i64 (reH 7 x y)]) ∧ w' = w := by
  have h1 : y = 0 ∨ y = 1 := by omega
  have h2 : x = 0 ∨ x = 1 := by omega
  rcases h1 with rfl | rfl
  · rcases h2 with rfl | rfl
    · exact ent_7_0_0 w
    · exact ent_7_1_0 w
  · rcases h2 with rfl | rfl
    · exact ent_7_0_1 w
    · exact ent_7_1_1 w
set_option maxRecDepth 100000 in
theorem mvd_8_0 (w : World) : Calls Try.prog 49 #[.string ⟨#[116, 100, 103]⟩, .int .i64 0] w fun e w' => e = .returned (.tuple #[.int .i64 0, .int .i64 0]) ∧ w' = w := by
  go_enter Try.func49, Try.ntmps49
  go_wp2
  go_ret2
  exact ⟨rfl, rfl⟩
set_option maxRecDepth 100000 in
theorem ent_8_0_0 (w : World) : Calls Try.prog 34 #[.string ⟨#[116, 100, 103]⟩, .int .i64 0, .int .i64 0] w fun e w' => e = .returned (.tuple #[.int .i64 0, .int .i64 0]) ∧ w' = w := by
  have A := fun w => mvd_8_0 w
  go_enter Try.func34, Try.ntmps34
  go_wp2_with (go_at_call 49; (with_reducible refine (A _).mono ?_); rintro e w1 ⟨rfl, rfl⟩)
  go_ret2
  exact ⟨rfl, rfl⟩
set_option maxRecDepth 100000 in
theorem ent_8_1_0 (w : World) : Calls Try.prog 34 #[.string ⟨#[116, 100, 103]⟩, .int .i64 1, .int .i64 0] w fun e w' => e = .returned (.tuple #[.int .i64 (-1), .int .i64 0]) ∧ w' = w := by
  have A := fun w => mvd_8_0 w
  go_enter Try.func34, Try.ntmps34
  go_wp2_with (go_at_call 49; (with_reducible refine (A _).mono ?_); rintro e w1 ⟨rfl, rfl⟩)
  go_ret2
  exact ⟨rfl, rfl⟩
set_option maxRecDepth 100000 in
theorem mvd_8_1 (w : World) : Calls Try.prog 49 #[.string ⟨#[116, 100, 103]⟩, .int .i64 1] w fun e w' => e = .returned (.tuple #[.int .i64 1, .int .i64 7]) ∧ w' = w := by
  go_enter Try.func49, Try.ntmps49
  go_wp2
  go_ret2
  exact ⟨rfl, rfl⟩
set_option maxRecDepth 100000 in
theorem ent_8_0_1 (w : World) : Calls Try.prog 34 #[.string ⟨#[116, 100, 103]⟩, .int .i64 0, .int .i64 1] w fun e w' => e = .returned (.tuple #[.int .i64 (-1), .int .i64 0]) ∧ w' = w := by
  have A := fun w => mvd_8_1 w
  go_enter Try.func34, Try.ntmps34
  go_wp2_with (go_at_call 49; (with_reducible refine (A _).mono ?_); rintro e w1 ⟨rfl, rfl⟩)
  go_ret2
  exact ⟨rfl, rfl⟩
set_option maxRecDepth 100000 in
theorem ent_8_1_1 (w : World) : Calls Try.prog 34 #[.string ⟨#[116, 100, 103]⟩, .int .i64 1, .int .i64 1] w fun e w' => e = .returned (.tuple #[.int .i64 7, .int .i64 0]) ∧ w' = w := by
  have A := fun w => mvd_8_1 w
  go_enter Try.func34, Try.ntmps34
  go_wp2_with (go_at_call 49; (with_reducible refine (A _).mono ?_); rintro e w1 ⟨rfl, rfl⟩)
  go_ret2
  exact ⟨rfl, rfl⟩
theorem rent_8 (x y : Nat) (hx : x < 2) (hy : y < 2) (w : World) : Calls Try.prog 34 #[.string (nm 8), .int .i64 (x : Nat), .int .i64 (y : Nat)] w fun e w' => e = .returned (.tuple #[.int .i64 (reP 8 x y), .int .i64 (reH 8 x y)]) ∧ w' = w := by
  have h1 : y = 0 ∨ y = 1 := by omega
  have h2 : x = 0 ∨ x = 1 := by omega
  rcases h1 with rfl | rfl
  · rcases h2 with rfl | rfl
    · exact ent_8_0_0 w
    · exact ent_8_1_0 w
  · rcases h2 with rfl | rfl
    · exact ent_8_0_1 w
    · exact ent_8_1_1 w
set_option maxRecDepth 100000 in
theorem hlv_9_0_0 (w : World) : Calls Try.prog 48 #[.string ⟨#[118]⟩, .int .i64 0, .int .i64 0] w fun e w' => e = .returned (.tuple #[.int .i64 1, .int .i64 1]) ∧ w' = w := by
  have b0 : bits BinOp.and IntKind.i64 0 0 = 0 := by decide +kernel
  have b1 : bits BinOp.and IntKind.i64 0 0 = 0 := by decide +kernel
  have b2 : wrap64 (4 * 0) = 0 := by decide +kernel
  have b3 : wrap64 (4 * 0) = 0 := by decide +kernel
  go_enter Try.func48, Try.ntmps48
  go_wp2
  go_ret2
  exact ⟨rfl, rfl⟩
set_option maxRecDepth 100000 in
theorem ent_9_0_0 (w : World) : Calls Try.prog 34 #[.string ⟨#[118]⟩, .int .i64 0, .int .i64 0] w fun e w' => e = .returned (.tuple #[.int .i64 1, .int .i64 1]) ∧ w' = w := by
  have A := fun w => hlv_9_0_0 w
  go_enter Try.func34, Try.ntmps34
  go_wp2_with (go_at_call 48; (with_reducible refine (A _).mono ?_); rintro e w1 ⟨rfl, rfl⟩)
  go_ret2
  exact ⟨rfl, rfl⟩
set_option maxRecDepth 100000 in
theorem hlv_9_1_0 (w : World) : Calls Try.prog 48 #[.string ⟨#[118]⟩, .int .i64 1, .int .i64 0] w fun e w' => e = .returned (.tuple #[.int .i64 7, .int .i64 1]) ∧ w' = w := by
  have b0 : bits BinOp.and IntKind.i64 1 0 = 0 := by decide +kernel
  have b1 : bits BinOp.and IntKind.i64 0 0 = 0 := by decide +kernel
  have b2 : wrap64 (4 * 0) = 0 := by decide +kernel
  have b3 : wrap64 (4 * 0) = 0 := by decide +kernel
  go_enter Try.func48, Try.ntmps48
  go_wp2
  go_ret2
  exact ⟨rfl, rfl⟩
set_option maxRecDepth 100000 in
theorem ent_9_1_0 (w : World) : Calls Try.prog 34 #[.string ⟨#[118]⟩, .int .i64 1, .int .i64 0] w fun e w' => e = .returned (.tuple #[.int .i64 7, .int .i64 1]) ∧ w' = w := by
  have A := fun w => hlv_9_1_0 w
  go_enter Try.func34, Try.ntmps34
  go_wp2_with (go_at_call 48; (with_reducible refine (A _).mono ?_); rintro e w1 ⟨rfl, rfl⟩)
  go_ret2
  exact ⟨rfl, rfl⟩
set_option maxRecDepth 100000 in
theorem hlv_9_0_1 (w : World) : Calls Try.prog 48 #[.string ⟨#[118]⟩, .int .i64 0, .int .i64 1] w fun e w' => e = .returned (.tuple #[.int .i64 7, .int .i64 1]) ∧ w' = w := by
  have b0 : bits BinOp.and IntKind.i64 0 1 = 0 := by decide +kernel
  have b1 : bits BinOp.and IntKind.i64 0 0 = 0 := by decide +kernel
  have b2 : wrap64 (4 * 0) = 0 := by decide +kernel
  have b3 : wrap64 (4 * 0) = 0 := by decide +kernel
  go_enter Try.func48, Try.ntmps48
  go_wp2
  go_ret2
  exact ⟨rfl, rfl⟩
set_option maxRecDepth 100000 in
theorem ent_9_0_1 (w : World) : Calls Try.prog 34 #[.string ⟨#[118]⟩, .int .i64 0, .int .i64 1] w fun e w' => e = .returned (.tuple #[.int .i64 7, .int .i64 1]) ∧ w' = w := by
  have A := fun w => hlv_9_0_1 w
  go_enter Try.func34, Try.ntmps34
  go_wp2_with (go_at_call 48; (with_reducible refine (A _).mono ?_); rintro e w1 ⟨rfl, rfl⟩)
  go_ret2
  exact ⟨rfl, rfl⟩
set_option maxRecDepth 100000 in
theorem hlv_9_1_1 (w : World) : Calls Try.prog 48 #[.string ⟨#[118]⟩, .int .i64 1, .int .i64 1] w fun e w' => e = .returned (.tuple #[.int .i64 1, .int .i64 1]) ∧ w' = w := by
  have b0 : bits BinOp.and IntKind.i64 1 1 = 1 := by decide +kernel
  have b1 : bits BinOp.and IntKind.i64 0 0 = 0 := by decide +kernel
  have b2 : wrap64 (4 * 1) = 4 := by decide +kernel
  have b3 : wrap64 (4 * 0) = 0 := by decide +kernel
  go_enter Try.func48, Try.ntmps48
  go_wp2
  go_ret2
  exact ⟨rfl, rfl⟩
set_option maxRecDepth 100000 in
theorem ent_9_1_1 (w : World) : Calls Try.prog 34 #[.string ⟨#[118]⟩, .int .i64 1, .int .i64 1] w fun e w' => e = .returned (.tuple #[.int .i64 1, .int .i64 1]) ∧ w' = w := by
  have A := fun w => hlv_9_1_1 w
  go_enter Try.func34, Try.ntmps34
  go_wp2_with (go_at_call 48; (with_reducible refine (A _).mono ?_); rintro e w1 ⟨rfl, rfl⟩)
  go_ret2
  exact ⟨rfl, rfl⟩
theorem rent_9 (x y : Nat) (hx : x < 2) (hy : y < 2) (w : World) : Calls Try.prog 34 #[.string (nm 9), .int .i64 (x : Nat), .int .i64 (y : Nat)] w fun e w' => e = .returned (.tuple #[.int .i64 (reP 9 x y), .int .i64 (reH 9 x y)]) ∧ w' = w := by
  have h1 : y = 0 ∨ y = 1 := by omega
  have h2 : x = 0 ∨ x = 1 := by omega
  rcases h1 with rfl | rfl
  · rcases h2 with rfl | rfl
    · exact ent_9_0_0 w
    · exact ent_9_1_0 w
  · rcases h2 with rfl | rfl
    · exact ent_9_0_1 w
    · exact ent_9_1_1 w
set_option maxRecDepth 100000 in
theorem hlv_10_0_0 (w : World) : Calls Try.prog 48 #[.string ⟨#[118, 100, 103]⟩, .int .i64 0, .int .i64 0] w fun e w' => e = .returned (.tuple #[.int .i64 7, .int .i64 1]) ∧ w' = w := by
  have b0 : bits BinOp.and IntKind.i64 0 0 = 0 := by decide +kernel
  have b1 : bits BinOp.and IntKind.i64 0 0 = 0 := by decide +kernel
  have b2 : wrap64 (4 * 0) = 0 := by decide +kernel
  have b3 : wrap64 (4 * 0) = 0 := by decide +kernel
  go_enter Try.func48, Try.ntmps48
  go_wp2
  go_ret2
  exact ⟨rfl, rfl⟩
set_option maxRecDepth 100000 in
theorem ent_10_0_0 (w : World) : Calls Try.prog 34 #[.string ⟨#[118, 100, 103]⟩, .int .i64 0, .int .i64 0] w fun e w' => e = .returned (.tuple #[.int .i64 7, .int .i64 1]) ∧ w' = w := by
  have A := fun w => hlv_10_0_0 w
  go_enter Try.func34, Try.ntmps34
  go_wp2_with (go_at_call 48; (with_reducible refine (A _).mono ?_); rintro e w1 ⟨rfl, rfl⟩)
  go_ret2
  exact ⟨rfl, rfl⟩
set_option maxRecDepth 100000 in
theorem hlv_10_1_0 (w : World) : Calls Try.prog 48 #[.string ⟨#[118, 100, 103]⟩, .int .i64 1, .int .i64 0] w fun e w' => e = .returned (.tuple #[.int .i64 1, .int .i64 1]) ∧ w' = w := by
  have b0 : bits BinOp.and IntKind.i64 1 0 = 0 := by decide +kernel
  have b1 : bits BinOp.and IntKind.i64 0 0 = 0 := by decide +kernel
  have b2 : wrap64 (4 * 0) = 0 := by decide +kernel
  have b3 : wrap64 (4 * 0) = 0 := by decide +kernel
  go_enter Try.func48, Try.ntmps48
  go_wp2
  go_ret2
  exact ⟨rfl, rfl⟩
set_option maxRecDepth 100000 in
theorem ent_10_1_0 (w : World) : Calls Try.prog 34 #[.string ⟨#[118, 100, 103]⟩, .int .i64 1, .int .i64 0] w fun e w' => e = .returned (.tuple #[.int .i64 1, .int .i64 1]) ∧ w' = w := by
  have A := fun w => hlv_10_1_0 w
  go_enter Try.func34, Try.ntmps34
  go_wp2_with (go_at_call 48; (with_reducible refine (A _).mono ?_); rintro e w1 ⟨rfl, rfl⟩)
  go_ret2
  exact ⟨rfl, rfl⟩
set_option maxRecDepth 100000 in
theorem hlv_10_0_1 (w : World) : Calls Try.prog 48 #[.string ⟨#[118, 100, 103]⟩, .int .i64 0, .int .i64 1] w fun e w' => e = .returned (.tuple #[.int .i64 1, .int .i64 1]) ∧ w' = w := by
  have b0 : bits BinOp.and IntKind.i64 0 1 = 0 := by decide +kernel
  have b1 : bits BinOp.and IntKind.i64 0 0 = 0 := by decide +kernel
  have b2 : wrap64 (4 * 0) = 0 := by decide +kernel
  have b3 : wrap64 (4 * 0) = 0 := by decide +kernel
  go_enter Try.func48, Try.ntmps48
  go_wp2
  go_ret2
  exact ⟨rfl, rfl⟩
set_option maxRecDepth 100000 in
theorem ent_10_0_1 (w : World) : Calls Try.prog 34 #[.string ⟨#[118, 100, 103]⟩, .int .i64 0, .int .i64 1] w fun e w' => e = .returned (.tuple #[.int .i64 1, .int .i64 1]) ∧ w' = w := by
  have A := fun w => hlv_10_0_1 w
  go_enter Try.func34, Try.ntmps34
  go_wp2_with (go_at_call 48; (with_reducible refine (A _).mono ?_); rintro e w1 ⟨rfl, rfl⟩)
  go_ret2
  exact ⟨rfl, rfl⟩
set_option maxRecDepth 100000 in
theorem hlv_10_1_1 (w : World) : Calls Try.prog 48 #[.string ⟨#[118, 100, 103]⟩, .int .i64 1, .int .i64 1] w fun e w' => e = .returned (.tuple #[.int .i64 7, .int .i64 1]) ∧ w' = w := by
  have b0 : bits BinOp.and IntKind.i64 1 1 = 1 := by decide +kernel
  have b1 : bits BinOp.and IntKind.i64 0 0 = 0 := by decide +kernel
  have b2 : wrap64 (4 * 1) = 4 := by decide +kernel
  have b3 : wrap64 (4 * 0) = 0 := by decide +kernel
  go_enter Try.func48, Try.ntmps48
  go_wp2
  go_ret2
  exact ⟨rfl, rfl⟩
set_option maxRecDepth 100000 in
theorem ent_10_1_1 (w : World) : Calls Try.prog 34 #[.string ⟨#[118, 100, 103]⟩, .int .i64 1, .int .i64 1] w fun e w' => e = .returned (.tuple #[.int .i64 7, .int .i64 1]) ∧ w' = w := by
  have A := fun w => hlv_10_1_1 w
  go_enter Try.func34, Try.ntmps34
  go_wp2_with (go_at_call 48; (with_reducible refine (A _).mono ?_); rintro e w1 ⟨rfl, rfl⟩)
  go_ret2
  exact ⟨rfl, rfl⟩
theorem rent_10 (x y : Nat) (hx : x < 2) (hy : y < 2) (w : World) : Calls Try.prog 34 #[.string (nm 10), .int .i64 (x : Nat), .int .i64 (y : Nat)] w fun e w' => e = .returned (.tuple #[.int .i64 (reP 10 x y), .int .i64 (reH 10 x y)]) ∧ w' = w := by
  have h1 : y = 0 ∨ y = 1 := by omega
  have h2 : x = 0 ∨ x = 1 := by omega
  rcases h1 with rfl | rfl
  · rcases h2 with rfl | rfl
    · exact ent_10_0_0 w
    · exact ent_10_1_0 w
  · rcases h2 with rfl | rfl
    · exact ent_10_0_1 w
    · exact ent_10_1_1 w
set_option maxRecDepth 100000 in
theorem hlv_11_0_0 (w : World) : Calls Try.prog 48 #[.string ⟨#[119]⟩, .int .i64 0, .int .i64 0] w fun e w' => e = .returned (.tuple #[.int .i64 1, .int .i64 0]) ∧ w' = w := by
  have b0 : bits BinOp.and IntKind.i64 0 0 = 0 := by decide +kernel
  have b1 : bits BinOp.and IntKind.i64 0 0 = 0 := by decide +kernel
  have b2 : wrap64 (4 * 0) = 0 := by decide +kernel
  have b3 : wrap64 (4 * 0) = 0 := by decide +kernel
  go_enter Try.func48, Try.ntmps48
  go_wp2
  go_ret2
  exact ⟨rfl, rfl⟩
set_option maxRecDepth 100000 in
theorem ent_11_0_0 (w : World) : Calls Try.prog 34 #[.string ⟨#[119]⟩, .int .i64 0, .int .i64 0] w fun e w' => e = .returned (.tuple #[.int .i64 1, .int .i64 0]) ∧ w' = w := by
  have A := fun w => hlv_11_0_0 w
  go_enter Try.func34, Try.ntmps34
  go_wp2_with (go_at_call 48; (with_reducible refine (A _).mono ?_); rintro e w1 ⟨rfl, rfl⟩)
  go_ret2
  exact ⟨rfl, rfl⟩
set_option maxRecDepth 100000 in
theorem hlv_11_1_0 (w : World) : Calls Try.prog 48 #[.string ⟨#[119]⟩, .int .i64 1, .int .i64 0] w fun e w' => e = .returned (.tuple #[.int .i64 (-1), .int .i64 0]) ∧ w' = w := by
  have b0 : bits BinOp.and IntKind.i64 1 0 = 0 := by decide +kernel
  have b1 : bits BinOp.and IntKind.i64 0 0 = 0 := by decide +kernel
  have b2 : wrap64 (4 * 0) = 0 := by decide +kernel
  have b3 : wrap64 (4 * 0) = 0 := by decide +kernel
  go_enter Try.func48, Try.ntmps48
  go_wp2
  go_ret2
  exact ⟨rfl, rfl⟩
set_option maxRecDepth 100000 in
theorem ent_11_1_0 (w : World) : Calls Try.prog 34 #[.string ⟨#[119]⟩, .int .i64 1, .int .i64 0] w fun e w' => e = .returned (.tuple #[.int .i64 (-1), .int .i64 0]) ∧ w' = w := by
  have A := fun w => hlv_11_1_0 w
  go_enter Try.func34, Try.ntmps34
  go_wp2_with (go_at_call 48; (with_reducible refine (A _).mono ?_); rintro e w1 ⟨rfl, rfl⟩)
  go_ret2
  exact ⟨rfl, rfl⟩
set_option maxRecDepth 100000 in
theorem hlv_11_0_1 (w : World) : Calls Try.prog 48 #[.string ⟨#[119]⟩, .int .i64 0, .int .i64 1] w fun e w' => e = .returned (.tuple #[.int .i64 (-1), .int .i64 0]) ∧ w' = w := by
  have b0 : bits BinOp.and IntKind.i64 0 1 = 0 := by decide +kernel
  have b1 : bits BinOp.and IntKind.i64 0 0 = 0 := by decide +kernel
  have b2 : wrap64 (4 * 0) = 0 := by decide +kernel
  have b3 : wrap64 (4 * 0) = 0 := by decide +kernel
  go_enter Try.func48, Try.ntmps48
  go_wp2
  go_ret2
  exact ⟨rfl, rfl⟩
set_option maxRecDepth 100000 in
theorem ent_11_0_1 (w : World) : Calls Try.prog 34 #[.string ⟨#[119]⟩, .int .i64 0, .int .i64 1] w fun e w' => e = .returned (.tuple #[.int .i64 (-1), .int .i64 0]) ∧ w' = w := by
  have A := fun w => hlv_11_0_1 w
  go_enter Try.func34, Try.ntmps34
  go_wp2_with (go_at_call 48; (with_reducible refine (A _).mono ?_); rintro e w1 ⟨rfl, rfl⟩)
  go_ret2
  exact ⟨rfl, rfl⟩
set_option maxRecDepth 100000 in
theorem hlv_11_1_1 (w : World) : Calls Try.prog 48 #[.string ⟨#[119]⟩, .int .i64 1, .int .i64 1] w fun e w' => e = .returned (.tuple #[.int .i64 1, .int .i64 0]) ∧ w' = w := by
  have b0 : bits BinOp.and IntKind.i64 1 1 = 1 := by decide +kernel
  have b1 : bits BinOp.and IntKind.i64 0 0 = 0 := by decide +kernel
  have b2 : wrap64 (4 * 1) = 4 := by decide +kernel
  have b3 : wrap64 (4 * 0) = 0 := by decide +kernel
  go_enter Try.func48, Try.ntmps48
  go_wp2
  go_ret2
  exact ⟨rfl, rfl⟩
set_option maxRecDepth 100000 in
theorem ent_11_1_1 (w : World) : Calls Try.prog 34 #[.string ⟨#[119]⟩, .int .i64 1, .int .i64 1] w fun e w' => e = .returned (.tuple #[.int .i64 1, .int .i64 0]) ∧ w' = w := by
  have A := fun w => hlv_11_1_1 w
  go_enter Try.func34, Try.ntmps34
  go_wp2_with (go_at_call 48; (with_reducible refine (A _).mono ?_); rintro e w1 ⟨rfl, rfl⟩)
  go_ret2
  exact ⟨rfl, rfl⟩
theorem rent_11 (x y : Nat) (hx : x < 2) (hy : y < 2) (w : World) : Calls Try.prog 34 #[.string (nm 11), .int .i64 (x : Nat), .int .i64 (y : Nat)] w fun e w' => e = .returned (.tuple #[.int .i64 (reP 11 x y), .int .i64 (reH 11 x y)]) ∧ w' = w := by
  have h1 : y = 0 ∨ y = 1 := by omega
  have h2 : x = 0 ∨ x = 1 := by omega
  rcases h1 with rfl | rfl
  · rcases h2 with rfl | rfl
    · exact ent_11_0_0 w
    · exact ent_11_1_0 w
  · rcases h2 with rfl | rfl
    · exact ent_11_0_1 w
    · exact ent_11_1_1 w
set_option maxRecDepth 100000 in
theorem hlv_12_0_0 (w : World) : Calls Try.prog 48 #[.string ⟨#[119, 100, 103]⟩, .int .i64 0, .int .i64 0] w fun e w' => e = .returned (.tuple #[.int .i64 7, .int .i64 0]) ∧ w' = w := by
  have b0 : bits BinOp.and IntKind.i64 0 0 = 0 := by decide +kernel
  have b1 : bits BinOp.and IntKind.i64 0 0 = 0 := by decide +kernel
  have b2 : wrap64 (4 * 0) = 0 := by decide +kernel
  have b3 : wrap64 (4 * 0) = 0 := by decide +kernel
  go_enter Try.func48, Try.ntmps48
  go_wp2
  go_ret2
  exact ⟨rfl, rfl⟩
set_option maxRecDepth 100000 in
theorem ent_12_0_0 (w : World) : Calls Try.prog 34 #[.string ⟨#[119, 100, 103]⟩, .int .i64 0, .int .i64 0] w fun e w' => e = .returned (.tuple #[.int .i64 7, .int .i64 0]) ∧ w' = w := by
  have A := fun w => hlv_12_0_0 w
  go_enter Try.func34, Try.ntmps34
  go_wp2_with (go_at_call 48; (with_reducible refine (A _).mono ?_); rintro e w1 ⟨rfl, rfl⟩)
  go_ret2
  exact ⟨rfl, rfl⟩
set_option maxRecDepth 100000 in
theorem hlv_12_1_0 (w : World) : Calls Try.prog 48 #[.string ⟨#[119, 100, 103]⟩, .int .i64 1, .int .i64 0] w fun e w' => e = .returned (.tuple #[.int .i64 (-1), .int .i64 0]) ∧ w' = w := by
  have b0 : bits BinOp.and IntKind.i64 1 0 = 0 := by decide +kernel
  have b1 : bits BinOp.and IntKind.i64 0 0 = 0 := by decide +kernel
  have b2 : wrap64 (4 * 0) = 0 := by decide +kernel
  have b3 : wrap64 (4 * 0) = 0 := by decide +kernel
  go_enter Try.func48, Try.ntmps48
  go_wp2
  go_ret2
  exact ⟨rfl, rfl⟩
set_option maxRecDepth 100000 in
theorem ent_12_1_0 (w : World) : Calls Try.prog 34 #[.string ⟨#[119, 100, 103]⟩, .int .i64 1, .int .i64 0] w fun e w' => e = .returned (.tuple #[.int .i64 (-1), .int .i64 0]) ∧ w' = w := by
  have A := fun w => hlv_12_1_0 w
  go_enter Try.func34, Try.ntmps34
  go_wp2_with (go_at_call 48; (with_reducible refine (A _).mono ?_); rintro e w1 ⟨rfl, rfl⟩)
  go_ret2
  exact ⟨rfl, rfl⟩
set_option maxRecDepth 100000 in
theorem hlv_12_0_1 (w : World) : Calls Try.prog 48 #[.string ⟨#[119, 100, 103]⟩, .int .i64 0, .int .i64 1] w fun e w' => e = .returned (.tuple #[.int .i64 (-1), .int .i64 0]) ∧ w' = w := by
  have b0 : bits BinOp.and IntKind.i64 0 1 = 0 := by decide +kernel
  have b1 : bits BinOp.and IntKind.i64 0 0 = 0 := by decide +kernel
  have b2 : wrap64 (4 * 0) = 0 := by decide +kernel
  have b3 : wrap64 (4 * 0) = 0 := by decide +kernel
  go_enter Try.func48, Try.ntmps48
  go_wp2
  go_ret2
  exact ⟨rfl, rfl⟩
set_option maxRecDepth 100000 in
theorem ent_12_0_1 (w : World) : Calls Try.prog 34 #[.string ⟨#[119, 100, 103]⟩, .int .i64 0, .int .i64 1] w fun e w' => e = .returned (.tuple #[.int .i64 (-1), .int .i64 0]) ∧ w' = w := by
  have A := fun w => hlv_12_0_1 w
  go_enter Try.func34, Try.ntmps34
  go_wp2_with (go_at_call 48; (with_reducible refine (A _).mono ?_); rintro e w1 ⟨rfl, rfl⟩)
  go_ret2
  exact ⟨rfl, rfl⟩
set_option maxRecDepth 100000 in
theorem hlv_12_1_1 (w : World) : Calls Try.prog 48 #[.string ⟨#[119, 100, 103]⟩, .int .i64 1, .int .i64 1] w fun e w' => e = .returned (.tuple #[.int .i64 7, .int .i64 0]) ∧ w' = w := by
  have b0 : bits BinOp.and IntKind.i64 1 1 = 1 := by decide +kernel
  have b1 : bits BinOp.and IntKind.i64 0 0 = 0 := by decide +kernel
  have b2 : wrap64 (4 * 1) = 4 := by decide +kernel
  have b3 : wrap64 (4 * 0) = 0 := by decide +kernel
  go_enter Try.func48, Try.ntmps48
  go_wp2
  go_ret2
  exact ⟨rfl, rfl⟩
set_option maxRecDepth 100000 in
theorem ent_12_1_1 (w : World) : Calls Try.prog 34 #[.string ⟨#[119, 100, 103]⟩, .int .i64 1, .int .i64 1] w fun e w' => e = .returned (.tuple #[.int .i64 7, .int .i64 0]) ∧ w' = w := by
  have A := fun w => hlv_12_1_1 w
  go_enter Try.func34, Try.ntmps34
  go_wp2_with (go_at_call 48; (with_reducible refine (A _).mono ?_); rintro e w1 ⟨rfl, rfl⟩)
  go_ret2
  exact ⟨rfl, rfl⟩
theorem rent_12 (x y : Nat) (hx : x < 2) (hy : y < 2) (w : World) : Calls Try.prog 34 #[.string (nm 12), .int .i64 (x : Nat), .int .i64 (y : Nat)] w fun e w' => e = .returned (.tuple #[.int .i64 (reP 12 x y), .int .i64 (reH 12 x y)]) ∧ w' = w := by
  have h1 : y = 0 ∨ y = 1 := by omega
  have h2 : x = 0 ∨ x = 1 := by omega
  rcases h1 with rfl | rfl
  · rcases h2 with rfl | rfl
    · exact ent_12_0_0 w
    · exact ent_12_1_0 w
  · rcases h2 with rfl | rfl
    · exact ent_12_0_1 w
    · exact ent_12_1_1 w
end Go.Proofs.Ytjmgcgjmaemgdaa
