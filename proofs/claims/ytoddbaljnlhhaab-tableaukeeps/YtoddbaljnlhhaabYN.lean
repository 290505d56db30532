/-
  Put together of: G2 JK.
-/
import Derived.Test.YtoddbaljnlhhaabXV
import Derived.Test.YtoddbaljnlhhaabXW
import Derived.BigQuiet
namespace Go.Proofs.Ytoddbaljnlhhaab
open Go.RowKit Go.Sort

set_option maxRecDepth 100000 in
theorem rarity_0 (w : World) : Calls Try.prog 37 #[.string ⟨#[105]⟩] w fun e w' => e = .returned (.int .i64 1) ∧ w' = w := by
  go_enter Try.func37, Try.ntmps37
  go_wp2
  go_ret
  exact ⟨rfl, rfl⟩
set_option maxRecDepth 100000 in
theorem rarity_1 (w : World) : Calls Try.prog 37 #[.string ⟨#[120]⟩] w fun e w' => e = .returned (.int .i64 1) ∧ w' = w := by
  go_enter Try.func37, Try.ntmps37
  go_wp2
  go_ret
  exact ⟨rfl, rfl⟩
set_option maxRecDepth 100000 in
theorem rarity_2 (w : World) : Calls Try.prog 37 #[.string ⟨#[121]⟩] w fun e w' => e = .returned (.int .i64 1) ∧ w' = w := by
  go_enter Try.func37, Try.ntmps37
  go_wp2
  go_ret
  exact ⟨rfl, rfl⟩
set_option maxRecDepth 100000 in
theorem rarity_3 (w : World) : Calls Try.prog 37 #[.string ⟨#[122]⟩] w fun e w' => e = .returned (.int .i64 1) ∧ w' = w := by
  go_enter Try.func37, Try.ntmps37
  go_wp2
  go_ret
  exact ⟨rfl, rfl⟩
set_option maxRecDepth 100000 in
theorem rarity_4 (w : World) : Calls Try.prog 37 #[.string ⟨#[104]⟩] w fun e w' => e = .returned (.int .i64 1) ∧ w' = w := by
  go_enter Try.func37, Try.ntmps37
  go_wp2
  go_ret
  exact ⟨rfl, rfl⟩
set_option maxRecDepth 100000 in
theorem rarity_5 (w : World) : Calls Try.prog 37 #[.string ⟨#[115]⟩] w fun e w' => e = .returned (.int .i64 1) ∧ w' = w := by
  go_enter Try.func37, Try.ntmps37
  go_wp2
  go_ret
  exact ⟨rfl, rfl⟩
set_option maxRecDepth 100000 in
theorem rarity_6 (w : World) : Calls Try.prog 37 #[.string ⟨#[115, 100, 103]⟩] w fun e w' => e = .returned (.int .i64 1) ∧ w' = w := by
  go_enter Try.func37, Try.ntmps37
  go_wp2
  go_ret
  exact ⟨rfl, rfl⟩
set_option maxRecDepth 100000 in
theorem rarity_7 (w : World) : Calls Try.prog 37 #[.string ⟨#[116]⟩] w fun e w' => e = .returned (.int .i64 1) ∧ w' = w := by
  go_enter Try.func37, Try.ntmps37
  go_wp2
  go_ret
  exact ⟨rfl, rfl⟩
set_option maxRecDepth 100000 in
theorem rarity_8 (w : World) : Calls Try.prog 37 #[.string ⟨#[116, 100, 103]⟩] w fun e w' => e = .returned (.int .i64 1) ∧ w' = w := by
  go_enter Try.func37, Try.ntmps37
  go_wp2
  go_ret
  exact ⟨rfl, rfl⟩
set_option maxRecDepth 100000 in
theorem rarity_9 (w : World) : Calls Try.prog 37 #[.string ⟨#[118]⟩] w fun e w' => e = .returned (.int .i64 1) ∧ w' = w := by
  go_enter Try.func37, Try.ntmps37
  go_wp2
  go_ret
  exact ⟨rfl, rfl⟩
set_option maxRecDepth 100000 in
theorem rarity_10 (w : World) : Calls Try.prog 37 #[.string ⟨#[118, 100, 103]⟩] w fun e w' => e = .returned (.int .i64 1) ∧ w' = w := by
  go_enter Try.func37, Try.ntmps37
  go_wp2
  go_ret
  exact ⟨rfl, rfl⟩
set_option maxRecDepth 100000 in
theorem rarity_11 (w : World) : Calls Try.prog 37 #[.string ⟨#[119]⟩] w fun e w' => e = .returned (.int .i64 1) ∧ w' = w := by
  go_enter Try.func37, Try.ntmps37
  go_wp2
  go_ret
  exact ⟨rfl, rfl⟩
set_option maxRecDepth 100000 in
theorem rarity_12 (w : World) : Calls Try.prog 37 #[.string ⟨#[119, 100, 103]⟩] w fun e w' => e = .returned (.int .i64 1) ∧ w' = w := by
  go_enter Try.func37, Try.ntmps37
  go_wp2
  go_ret
  exact ⟨rfl, rfl⟩
set_option maxRecDepth 100000 in
theorem rarity_13 (w : World) : Calls Try.prog 37 #[.string ⟨#[99, 120]⟩] w fun e w' => e = .returned (.int .i64 2) ∧ w' = w := by
  go_enter Try.func37, Try.ntmps37
  go_wp2
  go_ret
  exact ⟨rfl, rfl⟩
set_option maxRecDepth 100000 in
theorem rarity_14 (w : World) : Calls Try.prog 37 #[.string ⟨#[99, 121]⟩] w fun e w' => e = .returned (.int .i64 2) ∧ w' = w := by
  go_enter Try.func37, Try.ntmps37
  go_wp2
  go_ret
  exact ⟨rfl, rfl⟩
set_option maxRecDepth 100000 in
theorem rarity_15 (w : World) : Calls Try.prog 37 #[.string ⟨#[99, 122]⟩] w fun e w' => e = .returned (.int .i64 2) ∧ w' = w := by
  go_enter Try.func37, Try.ntmps37
  go_wp2
  go_ret
  exact ⟨rfl, rfl⟩
set_option maxRecDepth 100000 in
theorem rarity_16 (w : World) : Calls Try.prog 37 #[.string ⟨#[99, 104]⟩] w fun e w' => e = .returned (.int .i64 2) ∧ w' = w := by
  go_enter Try.func37, Try.ntmps37
  go_wp2
  go_ret
  exact ⟨rfl, rfl⟩
set_option maxRecDepth 100000 in
theorem rarity_17 (w : World) : Calls Try.prog 37 #[.string ⟨#[99, 115]⟩] w fun e w' => e = .returned (.int .i64 2) ∧ w' = w := by
  go_enter Try.func37, Try.ntmps37
  go_wp2
  go_ret
  exact ⟨rfl, rfl⟩
set_option maxRecDepth 100000 in
theorem rarity_18 (w : World) : Calls Try.prog 37 #[.string ⟨#[99, 115, 100, 103]⟩] w fun e w' => e = .returned (.int .i64 2) ∧ w' = w := by
  go_enter Try.func37, Try.ntmps37
  go_wp2
  go_ret
  exact ⟨rfl, rfl⟩
set_option maxRecDepth 100000 in
theorem rarity_19 (w : World) : Calls Try.prog 37 #[.string ⟨#[115, 119, 97, 112]⟩] w fun e w' => e = .returned (.int .i64 2) ∧ w' = w := by
  go_enter Try.func37, Try.ntmps37
  go_wp2
  go_ret
  exact ⟨rfl, rfl⟩
set_option maxRecDepth 100000 in
theorem rarity_20 (w : World) : Calls Try.prog 37 #[.string ⟨#[105, 115, 119, 97, 112]⟩] w fun e w' => e = .returned (.int .i64 2) ∧ w' = w := by
  go_enter Try.func37, Try.ntmps37
  go_wp2
  go_ret
  exact ⟨rfl, rfl⟩
set_option maxRecDepth 100000 in
theorem rarity_21 (w : World) : Calls Try.prog 37 #[.string ⟨#[105, 115, 119, 97, 112, 100, 103]⟩] w fun e w' => e = .returned (.int .i64 2) ∧ w' = w := by
  go_enter Try.func37, Try.ntmps37
  go_wp2
  go_ret
  exact ⟨rfl, rfl⟩
set_option maxRecDepth 100000 in
theorem rarity_22 (w : World) : Calls Try.prog 37 #[.string ⟨#[99, 99, 120]⟩] w fun e w' => e = .returned (.int .i64 3) ∧ w' = w := by
  go_enter Try.func37, Try.ntmps37
  go_wp2
  go_ret
  exact ⟨rfl, rfl⟩
set_option maxRecDepth 100000 in
theorem rarity_23 (w : World) : Calls Try.prog 37 #[.string ⟨#[99, 99, 122]⟩] w fun e w' => e = .returned (.int .i64 3) ∧ w' = w := by
  go_enter Try.func37, Try.ntmps37
  go_wp2
  go_ret
  exact ⟨rfl, rfl⟩
set_option maxRecDepth 100000 in
theorem rarity_24 (w : World) : Calls Try.prog 37 #[.string ⟨#[99, 115, 119, 97, 112]⟩] w fun e w' => e = .returned (.int .i64 3) ∧ w' = w := by
  go_enter Try.func37, Try.ntmps37
  go_wp2
  go_ret
  exact ⟨rfl, rfl⟩
set_option maxRecDepth 100000 in
theorem rarity_miss {s : ByteArray} (H : Miss s) (w : World) : Calls Try.prog 37 #[.string s] w fun e w' => e = .returned (.int .i64 0) ∧ w' = w := by
  have m0 := H.m0; have m1 := H.m1; have m2 := H.m2; have m3 := H.m3; have m4 := H.m4; have m5 := H.m5; have m6 := H.m6; have m7 := H.m7; have m8 := H.m8; have m9 := H.m9; have m10 := H.m10; have m11 := H.m11; have m12 := H.m12; have m13 := H.m13; have m14 := H.m14; have m15 := H.m15; have m16 := H.m16; have m17 := H.m17; have m18 := H.m18; have m19 := H.m19; have m20 := H.m20; have m21 := H.m21; have m22 := H.m22; have m23 := H.m23; have m24 := H.m24
  clear H
  go_enter Try.func37, Try.ntmps37
  go_wp2
  go_ret
  exact ⟨rfl, rfl⟩
theorem rarity_any (s : ByteArray) (w : World) : Calls Try.prog 37 #[.string s] w fun e w' => e = .returned (.int .i64 (gar s : Nat)) ∧ w' = w := by
  rcases hit_or_miss s with h | H
  · simp only [nms, List.mem_cons, List.not_mem_nil, or_false] at h
    rcases h with rfl | rfl | rfl | rfl | rfl | rfl | rfl | rfl | rfl | rfl | rfl | rfl | rfl | rfl | rfl | rfl | rfl | rfl | rfl | rfl | rfl | rfl | rfl | rfl | rfl
    · rw [show gar ⟨#[105]⟩ = 1 by kernel_rfl]; exact rarity_0 w
    · rw [show gar ⟨#[120]⟩ = 1 by kernel_rfl]; exact rarity_1 w
    · rw [show gar ⟨#[121]⟩ = 1 by kernel_rfl]; exact rarity_2 w
    · rw [show gar ⟨#[122]⟩ = 1 by kernel_rfl]; exact rarity_3 w
    · rw [show gar ⟨#[104]⟩ = 1 by kernel_rfl]; exact rarity_4 w
    · rw [show gar ⟨#[115]⟩ = 1 by kernel_rfl]; exact rarity_5 w
    · rw [show gar ⟨#[115, 100, 103]⟩ = 1 by kernel_rfl]; exact rarity_6 w
    · rw [show gar ⟨#[116]⟩ = 1 by kernel_rfl]; exact rarity_7 w
    · rw [show gar ⟨#[116, 100, 103]⟩ = 1 by kernel_rfl]; exact rarity_8 w
    · rw [show gar ⟨#[118]⟩ = 1 by kernel_rfl]; exact rarity_9 w
    · rw [show gar ⟨#[118, 100, 103]⟩ = 1 by kernel_rfl]; exact rarity_10 w
    · rw [show gar ⟨#[119]⟩ = 1 by kernel_rfl]; exact rarity_11 w
    · rw [show gar ⟨#[119, 100, 103]⟩ = 1 by kernel_rfl]; exact rarity_12 w
    · rw [show gar ⟨#[99, 120]⟩ = 2 by kernel_rfl]; exact rarity_13 w
    · rw [show gar ⟨#[99, 121]⟩ = 2 by kernel_rfl]; exact rarity_14 w
    · rw [show gar ⟨#[99, 122]⟩ = 2 by kernel_rfl]; exact rarity_15 w
    · rw [show gar ⟨#[99, 104]⟩ = 2 by kernel_rfl]; exact rarity_16 w
    · rw [show gar ⟨#[99, 115]⟩ = 2 by kernel_rfl]; exact rarity_17 w
    · rw [show gar ⟨#[99, 115, 100, 103]⟩ = 2 by kernel_rfl]; exact rarity_18 w
    · rw [show gar ⟨#[115, 119, 97, 112]⟩ = 2 by kernel_rfl]; exact rarity_19 w
    · rw [show gar ⟨#[105, 115, 119, 97, 112]⟩ = 2 by kernel_rfl]; exact rarity_20 w
    · rw [show gar ⟨#[105, 115, 119, 97, 112, 100, 103]⟩ = 2 by kernel_rfl]; exact rarity_21 w
    · rw [show gar ⟨#[99, 99, 120]⟩ = 3 by kernel_rfl]; exact rarity_22 w
    · rw [show gar ⟨#[99, 99, 122]⟩ = 3 by kernel_rfl]; exact rarity_23 w
    · rw [show gar ⟨#[99, 115, 119, 97, 112]⟩ = 3 by kernel_rfl]; exact rarity_24 w
  · have e : gar s = 0 := by unfold gar; rw [H.gI]; rfl
    rw [e]
    exact rarity_miss H w
set_option maxRecDepth 100000 in
theorem rclifford_0 (w : World) : Calls Try.prog 38 #[.string ⟨#[105]⟩] w fun e w' => e = .returned (.bool true) ∧ w' = w := by
  have A := fun w => rarity_0 w
  go_enter Try.func38, Try.ntmps38
  go_wp2_with (go_at_call 37; (with_reducible refine (A _).mono ?_); rintro e w1 ⟨rfl, rfl⟩)
  go_ret
  exact ⟨rfl, rfl⟩
set_option maxRecDepth 100000 in
theorem rclifford_1 (w : World) : Calls Try.prog 38 #[.string ⟨#[120]⟩] w fun e w' => e = .returned (.bool true) ∧ w' = w := by
  have A := fun w => rarity_1 w
  go_enter Try.func38, Try.ntmps38
  go_wp2_with (go_at_call 37; (with_reducible refine (A _).mono ?_); rintro e w1 ⟨rfl, rfl⟩)
  go_ret
  exact ⟨rfl, rfl⟩
set_option maxRecDepth 100000 in
theorem rclifford_2 (w : World) : Calls Try.prog 38 #[.string ⟨#[121]⟩] w fun e w' => e = .returned (.bool true) ∧ w' = w := by
  have A := fun w => rarity_2 w
  go_enter Try.func38, Try.ntmps38
  go_wp2_with (go_at_call 37; (with_reducible refine (A _).mono ?_); rintro e w1 ⟨rfl, rfl⟩)
  go_ret
  exact ⟨rfl, rfl⟩
set_option maxRecDepth 100000 in
theorem rclifford_3 (w : World) : Calls Try.prog 38 #[.string ⟨#[122]⟩] w fun e w' => e = .returned (.bool true) ∧ w' = w := by
  have A := fun w => rarity_3 w
  go_enter Try.func38, Try.ntmps38
  go_wp2_with (go_at_call 37; (with_reducible refine (A _).mono ?_); rintro e w1 ⟨rfl, rfl⟩)
  go_ret
  exact ⟨rfl, rfl⟩
set_option maxRecDepth 100000 in
theorem rclifford_4 (w : World) : Calls Try.prog 38 #[.string ⟨#[104]⟩] w fun e w' => e = .returned (.bool true) ∧ w' = w := by
  have A := fun w => rarity_4 w
  go_enter Try.func38, Try.ntmps38
  go_wp2_with (go_at_call 37; (with_reducible refine (A _).mono ?_); rintro e w1 ⟨rfl, rfl⟩)
  go_ret
  exact ⟨rfl, rfl⟩
set_option maxRecDepth 100000 in
theorem rclifford_5 (w : World) : Calls Try.prog 38 #[.string ⟨#[115]⟩] w fun e w' => e = .returned (.bool true) ∧ w' = w := by
  have A := fun w => rarity_5 w
  go_enter Try.func38, Try.ntmps38
  go_wp2_with (go_at_call 37; (with_reducible refine (A _).mono ?_); rintro e w1 ⟨rfl, rfl⟩)
  go_ret
  exact ⟨rfl, rfl⟩
set_option maxRecDepth 100000 in
theorem rclifford_6 (w : World) : Calls Try.prog 38 #[.string ⟨#[115, 100, 103]⟩] w fun e w' => e = .returned (.bool true) ∧ w' = w := by
  have A := fun w => rarity_6 w
  go_enter Try.func38, Try.ntmps38
  go_wp2_with (go_at_call 37; (with_reducible refine (A _).mono ?_); rintro e w1 ⟨rfl, rfl⟩)
  go_ret
  exact ⟨rfl, rfl⟩
set_option maxRecDepth 100000 in
theorem rclifford_7 (w : World) : Calls Try.prog 38 #[.string ⟨#[116]⟩] w fun e w' => e = .returned (.bool false) ∧ w' = w := by
  have A := fun w => rarity_7 w
  go_enter Try.func38, Try.ntmps38
  go_wp2_with (go_at_call 37; (with_reducible refine (A _).mono ?_); rintro e w1 ⟨rfl, rfl⟩)
  go_ret
  exact ⟨rfl, rfl⟩
set_option maxRecDepth 100000 in
theorem rclifford_8 (w : World) : Calls Try.prog 38 #[.string ⟨#[116, 100, 103]⟩] w fun e w' => e = .returned (.bool false) ∧ w' = w := by
  have A := fun w => rarity_8 w
  go_enter Try.func38, Try.ntmps38
  go_wp2_with (go_at_call 37; (with_reducible refine (A _).mono ?_); rintro e w1 ⟨rfl, rfl⟩)
  go_ret
  exact ⟨rfl, rfl⟩
set_option maxRecDepth 100000 in
theorem rclifford_9 (w : World) : Calls Try.prog 38 #[.string ⟨#[118]⟩] w fun e w' => e = .returned (.bool true) ∧ w' = w := by
  have A := fun w => rarity_9 w
  go_enter Try.func38, Try.ntmps38
  go_wp2_with (go_at_call 37; (with_reducible refine (A _).mono ?_); rintro e w1 ⟨rfl, rfl⟩)
  go_ret
  exact ⟨rfl, rfl⟩
set_option maxRecDepth 100000 in
theorem rclifford_10 (w : World) : Calls Try.prog 38 #[.string ⟨#[118, 100, 103]⟩] w fun e w' => e = .returned (.bool true) ∧ w' = w := by
  have A := fun w => rarity_10 w
  go_enter Try.func38, Try.ntmps38
  go_wp2_with (go_at_call 37; (with_reducible refine (A _).mono ?_); rintro e w1 ⟨rfl, rfl⟩)
  go_ret
  exact ⟨rfl, rfl⟩
set_option maxRecDepth 100000 in
theorem rclifford_11 (w : World) : Calls Try.prog 38 #[.string ⟨#[119]⟩] w fun e w' => e = .returned (.bool true) ∧ w' = w := by
  have A := fun w => rarity_11 w
  go_enter Try.func38, Try.ntmps38
  go_wp2_with (go_at_call 37; (with_reducible refine (A _).mono ?_); rintro e w1 ⟨rfl, rfl⟩)
  go_ret
  exact ⟨rfl, rfl⟩
set_option maxRecDepth 100000 in
theorem rclifford_12 (w : World) : Calls Try.prog 38 #[.string ⟨#[119, 100, 103]⟩] w fun e w' => e = .returned (.bool true) ∧ w' = w := by
  have A := fun w => rarity_12 w
  go_enter Try.func38, Try.ntmps38
  go_wp2_with (go_at_call 37; (with_reducible refine (A _).mono ?_); rintro e w1 ⟨rfl, rfl⟩)
  go_ret
  exact ⟨rfl, rfl⟩
set_option maxRecDepth 100000 in
theorem rclifford_13 (w : World) : Calls Try.prog 38 #[.string ⟨#[99, 120]⟩] w fun e w' => e = .returned (.bool true) ∧ w' = w := by
  have A := fun w => rarity_13 w
  go_enter Try.func38, Try.ntmps38
  go_wp2_with (go_at_call 37; (with_reducible refine (A _).mono ?_); rintro e w1 ⟨rfl, rfl⟩)
  go_ret
  exact ⟨rfl, rfl⟩
set_option maxRecDepth 100000 in
theorem rclifford_14 (w : World) : Calls Try.prog 38 #[.string ⟨#[99, 121]⟩] w fun e w' => e = .returned (.bool true) ∧ w' = w := by
  have A := fun w => rarity_14 w
  go_enter Try.func38, Try.ntmps38
  go_wp2_with (go_at_call 37; (with_reducible refine (A _).mono ?_); rintro e w1 ⟨rfl, rfl⟩)
  go_ret
  exact ⟨rfl, rfl⟩
set_option maxRecDepth 100000 in
theorem rclifford_15 (w : World) : Calls Try.prog 38 #[.string ⟨#[99, 122]⟩] w fun e w' => e = .returned (.bool true) ∧ w' = w := by
  have A := fun w => rarity_15 w
  go_enter Try.func38, Try.ntmps38
  go_wp2_with (go_at_call 37; (with_reducible refine (A _).mono ?_); rintro e w1 ⟨rfl, rfl⟩)
  go_ret
  exact ⟨rfl, rfl⟩
set_option maxRecDepth 100000 in
theorem rclifford_16 (w : World) : Calls Try.prog 38 #[.string ⟨#[99, 104]⟩] w fun e w' => e = .returned (.bool false) ∧ w' = w := by
  have A := fun w => rarity_16 w
  go_enter Try.func38, Try.ntmps38
  go_wp2_with (go_at_call 37; (with_reducible refine (A _).mono ?_); rintro e w1 ⟨rfl, rfl⟩)
  go_ret
  exact ⟨rfl, rfl⟩
set_option maxRecDepth 100000 in
theorem rclifford_17 (w : World) : Calls Try.prog 38 #[.string ⟨#[99, 115]⟩] w fun e w' => e = .returned (.bool false) ∧ w' = w := by
  have A := fun w => rarity_17 w
  go_enter Try.func38, Try.ntmps38
  go_wp2_with (go_at_call 37; (with_reducible refine (A _).mono ?_); rintro e w1 ⟨rfl, rfl⟩)
  go_ret
  exact ⟨rfl, rfl⟩
set_option maxRecDepth 100000 in
theorem rclifford_18 (w : World) : Calls Try.prog 38 #[.string ⟨#[99, 115, 100, 103]⟩] w fun e w' => e = .returned (.bool false) ∧ w' = w := by
  have A := fun w => rarity_18 w
  go_enter Try.func38, Try.ntmps38
  go_wp2_with (go_at_call 37; (with_reducible refine (A _).mono ?_); rintro e w1 ⟨rfl, rfl⟩)
  go_ret
  exact ⟨rfl, rfl⟩
set_option maxRecDepth 100000 in
theorem rclifford_19 (w : World) : Calls Try.prog 38 #[.string ⟨#[115, 119, 97, 112]⟩] w fun e w' => e = .returned (.bool true) ∧ w' = w := by
  have A := fun w => rarity_19 w
  go_enter Try.func38, Try.ntmps38
  go_wp2_with (go_at_call 37; (with_reducible refine (A _).mono ?_); rintro e w1 ⟨rfl, rfl⟩)
  go_ret
  exact ⟨rfl, rfl⟩
set_option maxRecDepth 100000 in
theorem rclifford_20 (w : World) : Calls Try.prog 38 #[.string ⟨#[105, 115, 119, 97, 112]⟩] w fun e w' => e = .returned (.bool true) ∧ w' = w := by
  have A := fun w => rarity_20 w
  go_enter Try.func38, Try.ntmps38
  go_wp2_with (go_at_call 37; (with_reducible refine (A _).mono ?_); rintro e w1 ⟨rfl, rfl⟩)
  go_ret
  exact ⟨rfl, rfl⟩
set_option maxRecDepth 100000 in
theorem rclifford_21 (w : World) : Calls Try.prog 38 #[.string ⟨#[105, 115, 119, 97, 112, 100, 103]⟩] w fun e w' => e = .returned (.bool true) ∧ w' = w := by
  have A := fun w => rarity_21 w
  go_enter Try.func38, Try.ntmps38
  go_wp2_with (go_at_call 37; (with_reducible refine (A _).mono ?_); rintro e w1 ⟨rfl, rfl⟩)
  go_ret
  exact ⟨rfl, rfl⟩
set_option maxRecDepth 100000 in
theorem rclifford_22 (w : World) : Calls Try.prog 38 #[.string ⟨#[99, 99, 120]⟩] w fun e w' => e = .returned (.bool false) ∧ w' = w := by
  have A := fun w => rarity_22 w
  go_enter Try.func38, Try.ntmps38
  go_wp2_with (go_at_call 37; (with_reducible refine (A _).mono ?_); rintro e w1 ⟨rfl, rfl⟩)
  go_ret
  exact ⟨rfl, rfl⟩
set_option maxRecDepth 100000 in
theorem rclifford_23 (w : World) : Calls Try.prog 38 #[.string ⟨#[99, 99, 122]⟩] w fun e w' => e = .returned (.bool false) ∧ w' = w := by
  have A := fun w => rarity_23 w
  go_enter Try.func38, Try.ntmps38
  go_wp2_with (go_at_call 37; (with_reducible refine (A _).mono ?_); rintro e w1 ⟨rfl, rfl⟩)
  go_ret
  exact ⟨rfl, rfl⟩
set_option maxRecDepth 100000 in
theorem rclifford_24 (w : World) : Calls Try.prog 38 #[.string ⟨#[99, 115, 119, 97, 112]⟩] w fun e w' => e = .returned (.bool false) ∧ w' = w := by
  have A := fun w => rarity_24 w
  go_enter Try.func38, Try.ntmps38
  go_wp2_with (go_at_call 37; (with_reducible refine (A _).mono ?_); rintro e w1 ⟨rfl, rfl⟩)
  go_ret
  exact ⟨rfl, rfl⟩
set_option maxRecDepth 100000 in
theorem rclifford_miss {s : ByteArray} (H : Miss s) (w : World) : Calls Try.prog 38 #[.string s] w fun e w' => e = .returned (.bool false) ∧ w' = w := by
  have A := fun w => rarity_miss H w
  have m0 := H.m0; have m1 := H.m1; have m2 := H.m2; have m3 := H.m3; have m4 := H.m4; have m5 := H.m5; have m6 := H.m6; have m7 := H.m7; have m8 := H.m8; have m9 := H.m9; have m10 := H.m10; have m11 := H.m11; have m12 := H.m12; have m13 := H.m13; have m14 := H.m14; have m15 := H.m15; have m16 := H.m16; have m17 := H.m17; have m18 := H.m18; have m19 := H.m19; have m20 := H.m20; have m21 := H.m21; have m22 := H.m22; have m23 := H.m23; have m24 := H.m24
  clear H
  go_enter Try.func38, Try.ntmps38
  go_wp2_with (go_at_call 37; (with_reducible refine (A _).mono ?_); rintro e w1 ⟨rfl, rfl⟩)
  go_ret
  exact ⟨rfl, rfl⟩
theorem rclifford_any (s : ByteArray) (w : World) : Calls Try.prog 38 #[.string s] w fun e w' => e = .returned (.bool (gcl s)) ∧ w' = w := by
  rcases hit_or_miss s with h | H
  · simp only [nms, List.mem_cons, List.not_mem_nil, or_false] at h
    rcases h with rfl | rfl | rfl | rfl | rfl | rfl | rfl | rfl | rfl | rfl | rfl | rfl | rfl | rfl | rfl | rfl | rfl | rfl | rfl | rfl | rfl | rfl | rfl | rfl | rfl
    · rw [show gcl ⟨#[105]⟩ = true by kernel_rfl]; exact rclifford_0 w
    · rw [show gcl ⟨#[120]⟩ = true by kernel_rfl]; exact rclifford_1 w
    · rw [show gcl ⟨#[121]⟩ = true by kernel_rfl]; exact rclifford_2 w
    · rw [show gcl ⟨#[122]⟩ = true by kernel_rfl]; exact rclifford_3 w
    · rw [show gcl ⟨#[104]⟩ = true by kernel_rfl]; exact rclifford_4 w
    · rw [show gcl ⟨#[115]⟩ = true by kernel_rfl]; exact rclifford_5 w
    · rw [show gcl ⟨#[115, 100, 103]⟩ = true by kernel_rfl]; exact rclifford_6 w
    · rw [show gcl ⟨#[116]⟩ = false by kernel_rfl]; exact rclifford_7 w
    · rw [show gcl ⟨#[116, 100, 103]⟩ = false by kernel_rfl]; exact rclifford_8 w
    · rw [show gcl ⟨#[118]⟩ = true by kernel_rfl]; exact rclifford_9 w
    · rw [show gcl ⟨#[118, 100, 103]⟩ = true by kernel_rfl]; exact rclifford_10 w
    · rw [show gcl ⟨#[119]⟩ = true by kernel_rfl]; exact rclifford_11 w
    · rw [show gcl ⟨#[119, 100, 103]⟩ = true by kernel_rfl]; exact rclifford_12 w
    · rw [show gcl ⟨#[99, 120]⟩ = true by kernel_rfl]; exact rclifford_13 w
    · rw [show gcl ⟨#[99, 121]⟩ = true by kernel_rfl]; exact rclifford_14 w
    · rw [show gcl ⟨#[99, 122]⟩ = true by kernel_rfl]; exact rclifford_15 w
    · rw [show gcl ⟨#[99, 104]⟩ = false by kernel_rfl]; exact rclifford_16 w
    · rw [show gcl ⟨#[99, 115]⟩ = false by kernel_rfl]; exact rclifford_17 w
    · rw [show gcl ⟨#[99, 115, 100, 103]⟩ = false by kernel_rfl]; exact rclifford_18 w
    · rw [show gcl ⟨#[115, 119, 97, 112]⟩ = true by kernel_rfl]; exact rclifford_19 w
    · rw [show gcl ⟨#[105, 115, 119, 97, 112]⟩ = true by kernel_rfl]; exact rclifford_20 w
    · rw [show gcl ⟨#[105, 115, 119, 97, 112, 100, 103]⟩ = true by kernel_rfl]; exact rclifford_21 w
    · rw [show gcl ⟨#[99, 99, 120]⟩ = false by kernel_rfl]; exact rclifford_22 w
    · rw [show gcl ⟨#[99, 99, 122]⟩ = false by kernel_rfl]; exact rclifford_23 w
    · rw [show gcl ⟨#[99, 115, 119, 97, 112]⟩ = false by kernel_rfl]; exact rclifford_24 w
  · have e : gcl s = false := by unfold gcl; rw [H.gI]; rfl
    rw [e]
    exact rclifford_miss H w
end Go.Proofs.Ytoddbaljnlhhaab
namespace Go.Proofs.Ytoddbaljnlhhaab
open Go.RowKit Go.Sort
open PL (pv PS bt)

set_option maxHeartbeats 2000000 in
set_option maxRecDepth 100000 in
theorem rfault_any (n : Int) (s : ByteArray) (q : Nat → Int) (aq : Option Addr) (m cq : Nat) (w : World) (HQ : BL.Row aq q m w) (hm : m ≤ cq) (hc : cq ≤ 9223372036854775807) :
    Calls Try.prog 17 #[.int .i64 n, .string s, .slice aq m cq] w fun e w' => e = .returned (.int .i64 (gE n s q m)) ∧ Below w.heap.size w w' := by
  have AR := fun w => rarity_any s w
  have CL := fun w => rclifford_any s w
  by_cases h0 : gar s = 0
  · have hE : gE n s q m = 80 := by unfold gE; rw [if_pos h0]
    rw [hE]
    rw [h0] at AR
    clear CL HQ hE h0
    go_enter Try.func17, Try.ntmps17
    go_wp2_with (go_at_call 37; (with_reducible refine (AR _).mono ?_); rintro e w1 ⟨rfl, rfl⟩)
    go_ret
    exact ⟨rfl, Below.refl _ _⟩
  by_cases hme : m = gar s
  case neg =>
    have hE : gE n s q m = 111 := by unfold gE; rw [if_neg h0, if_pos hme]
    rw [hE]
    have hb : ((gar s : Int) == 0) = false := by simp; omega
    have hb2 : ((m : Int) != (gar s : Int)) = true := bne_iff_ne.2 (by omega)
    generalize gar s = k at *
    clear CL HQ hE hme
    go_enter Try.func17, Try.ntmps17
    go_wp2_with (go_at_call 37; (with_reducible refine (AR _).mono ?_); rintro e w1 ⟨rfl, rfl⟩)
    go_ret
    exact ⟨rfl, Below.refl _ _⟩
  rw [← hme] at AR h0
  have HE : Hid (gE n s q m = if outQ n q m = true then 112 else if dupQ q m = true then 113 else if gcl s = true then 0 else 181) := by
    show _ = _
    unfold gE
    rw [if_neg (by rw [← hme]; exact h0), if_neg (fun h => h hme)]
  obtain ⟨E, hE⟩ : ∃ E, Hid (E = gE n s q m) := ⟨_, rfl⟩
  rw [← hE.out] at HE ⊢
  have hb : ((m : Int) == 0) = false := by simp; omega
  have hb2 : ((m : Int) != (m : Int)) = false := bne_self_eq_false' _
  generalize gcl s = C at *
  have HH := hid HQ
  clear hE hme HQ
  go_enter Try.func17, Try.ntmps17
  go_wp2_with (go_at_call 37; (with_reducible refine (AR _).mono ?_); rintro e w1 ⟨rfl, rfl⟩)
  go_loop [8] (fun v8 => ∃ k : Nat, k ≤ m ∧ v8 = .int .i64 (k : Nat) ∧ Hid (outQ n q k = false)) (fun v8 => m - (intOf v8).toNat)
  case atStart => exact ⟨0, Nat.zero_le _, rfl, rfl⟩
  case round =>
    obtain ⟨k, hk, rfl, HO⟩ := hrel
    by_cases hlt : k < m
    case pos =>
      obtain ⟨b, o, rfl, hcell⟩ := HH.out.at_ k hlt
      have HS : Hid (outQ n q (k + 1) = (outQ n q k || !decide (0 ≤ q k ∧ q k < n))) := rfl
      have HM : Hid (outQ n q (k + 1) = true → outQ n q m = true) := fun h => outQ_mono (by omega) h
      generalize q k = u at *
      by_cases h1 : u < 0
      · have hY : E = 112 := by rw [HE.out, if_pos (HM.out (by rw [HS.out]; simp; omega))]
        have h1' : decide (u < 0) = true := decide_eq_true h1
        clear HS HM HO
        go_wp2
        go_ret
        exact ⟨rfl, Below.refl _ _⟩
      · by_cases h2 : n ≤ u
        · have hY : E = 112 := by rw [HE.out, if_pos (HM.out (by rw [HS.out]; simp; omega))]
          clear HS HM HO
          go_wp2
          go_ret
          exact ⟨rfl, Below.refl _ _⟩
        · have hN : Hid (outQ n q (k + 1) = false) := by
            show _ = _
            rw [HS.out, HO.out, decide_eq_true (show 0 ≤ u ∧ u < n by omega)]
            rfl
          clear HS HM HO
          go_wp2
          exact ⟨⟨k + 1, by omega, by go_num, hN⟩, by simp only [intOf]; omega⟩
    obtain rfl : k = m := by omega
    have hE2 : Hid (E = if dupQ q k = true then 113 else if C = true then 0 else 181) := by
      show _ = _
      rw [HE.out, if_neg (by rw [HO.out]; decide)]
    clear HO HE
    go_wp2
    go_loopw [9] (fun v9 wx => ∃ i : Nat, i ≤ k ∧ v9 = .int .i64 (i : Nat) ∧ Hid (dupQ q i = false) ∧ Hid (Below w1.heap.size w1 wx)) (fun v9 _ => k - (intOf v9).toNat)
    case atStart => exact ⟨0, Nat.zero_le _, rfl, rfl, Below.refl _ _⟩
    case round =>
      obtain ⟨i, hi, rfl, HD, HB⟩ := hrel
      by_cases hlt2 : i < k
      case neg =>
        obtain rfl : i = k := by omega
        have hE3 : E = if C = true then 0 else 181 := by rw [hE2.out, if_neg (by rw [HD.out]; decide)]
        clear hE2 HD
        cases C
        all_goals
          go_wp2_with (go_at_call 38; (with_reducible refine (CL _).mono ?_); rintro e w1 ⟨rfl, rfl⟩)
          go_ret
          first
            | exact ⟨rfl, HB.out⟩
            | exact ⟨by rw [hE3]; rfl, HB.out⟩
      have HS : Hid (dupQ q (i + 1) = (dupQ q i || hasV q (q i) i)) := rfl
      have HM : Hid (dupQ q (i + 1) = true → dupQ q k = true) := fun h => dupQ_mono (by omega) h
      go_wp2
      go_loopw [10] (fun v10 wx => ∃ j : Nat, j ≤ i ∧ v10 = .int .i64 (j : Nat) ∧ Hid (hasV q (q i) j = false) ∧ Hid (Below w1.heap.size w1 wx)) (fun v10 _ => i - (intOf v10).toNat)
      case atStart => exact ⟨0, Nat.zero_le _, rfl, rfl, HB⟩
      case round =>
        clear HB
        obtain ⟨j, hj, rfl, HV, HB⟩ := hrel
        by_cases hlt3 : j < i
        case neg =>
          obtain rfl : j = i := by omega
          have hN : Hid (dupQ q (j + 1) = false) := by show _ = _; rw [HS.out, HD.out, HV.out]; rfl
          clear HS HM HV HD
          have HBn := HB
          go_wp2
          exact ⟨⟨j + 1, by omega, by go_num, hN, HBn⟩, by simp only [intOf]; omega⟩
        obtain ⟨b, o, rfl, hcell⟩ := (HH.out.below HB.out).at_ i hlt2
        obtain ⟨b', o', e', hcell'⟩ := (HH.out.below HB.out).at_ j (by omega)
        cases e'
        have HVs : Hid (hasV q (q i) (j + 1) = (hasV q (q i) j || q j == q i)) := rfl
        have HVm : Hid (hasV q (q i) (j + 1) = true → hasV q (q i) i = true) := fun h => hasV_mono (by omega) h
        have hjk : j < k := by omega
        by_cases hq : q i = q j
        · have hY : E = 113 := by
            rw [hE2.out, if_pos (HM.out (by rw [HS.out, HVm.out (by rw [HVs.out]; simp [hq])]; simp))]
          have hqb : (q i == q j) = true := beq_iff_eq.2 hq
          clear HS HM HV HVs HVm HD hE2 hq
          generalize q i = u at *
          generalize q j = v at *
          go_upto_region 17 with (fail)
          go_quiet (fail)
          go_wp2
          go_ret
          exact ⟨by rw [hY]; rfl, below_drewN HB.out _⟩
        · have hN : Hid (hasV q (q i) (j + 1) = false) := by
            show _ = _
            rw [HVs.out, HV.out]
            simp
            exact fun h => hq h.symm
          have hqb : (q i == q j) = false := beq_eq_false_iff_ne.2 hq
          clear HVs HVm HV
          generalize hu : q i = u at *
          generalize hv : q j = v at *
          go_upto_region 17 with (fail)
          go_quiet (fail)
          have HBn := hid (below_drewN HB.out nq)
          go_wp2
          exact ⟨⟨j + 1, by omega, by go_num, hN, HBn⟩, by simp only [intOf]; omega⟩
end Go.Proofs.Ytoddbaljnlhhaab
