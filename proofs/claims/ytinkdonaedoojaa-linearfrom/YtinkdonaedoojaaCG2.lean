/-
  The reference's Arity, Halves, Clifford, Inverse at every name.
-/
import Derived.Test.YtinkdonaedoojaaCG1
namespace Go.Proofs.Ytinkdonaedoojaa.CL
open Go.RowKit Go.Sort

set_option maxRecDepth 100000 in
theorem rarity_0 (w : World) : Calls Try.prog 55 #[.string ⟨#[105]⟩] w fun e w' => e = .returned (.int .i64 1) ∧ w' = w := by
  go_enter Try.func55, Try.ntmps55
  go_wp2
  go_ret
  exact ⟨rfl, rfl⟩
set_option maxRecDepth 100000 in
theorem rarity_1 (w : World) : Calls Try.prog 55 #[.string ⟨#[120]⟩] w fun e w' => e = .returned (.int .i64 1) ∧ w' = w := by
  go_enter Try.func55, Try.ntmps55
  go_wp2
  go_ret
  exact ⟨rfl, rfl⟩
set_option maxRecDepth 100000 in
theorem rarity_2 (w : World) : Calls Try.prog 55 #[.string ⟨#[121]⟩] w fun e w' => e = .returned (.int .i64 1) ∧ w' = w := by
  go_enter Try.func55, Try.ntmps55
  go_wp2
  go_ret
  exact ⟨rfl, rfl⟩
set_option maxRecDepth 100000 in
theorem rarity_3 (w : World) : Calls Try.prog 55 #[.string ⟨#[122]⟩] w fun e w' => e = .returned (.int .i64 1) ∧ w' = w := by
  go_enter Try.func55, Try.ntmps55
  go_wp2
  go_ret
  exact ⟨rfl, rfl⟩
set_option maxRecDepth 100000 in
theorem rarity_4 (w : World) : Calls Try.prog 55 #[.string ⟨#[104]⟩] w fun e w' => e = .returned (.int .i64 1) ∧ w' = w := by
  go_enter Try.func55, Try.ntmps55
  go_wp2
  go_ret
  exact ⟨rfl, rfl⟩
set_option maxRecDepth 100000 in
theorem rarity_5 (w : World) : Calls Try.prog 55 #[.string ⟨#[115]⟩] w fun e w' => e = .returned (.int .i64 1) ∧ w' = w := by
  go_enter Try.func55, Try.ntmps55
  go_wp2
  go_ret
  exact ⟨rfl, rfl⟩
set_option maxRecDepth 100000 in
theorem rarity_6 (w : World) : Calls Try.prog 55 #[.string ⟨#[115, 100, 103]⟩] w fun e w' => e = .returned (.int .i64 1) ∧ w' = w := by
  go_enter Try.func55, Try.ntmps55
  go_wp2
  go_ret
  exact ⟨rfl, rfl⟩
set_option maxRecDepth 100000 in
theorem rarity_7 (w : World) : Calls Try.prog 55 #[.string ⟨#[116]⟩] w fun e w' => e = .returned (.int .i64 1) ∧ w' = w := by
  go_enter Try.func55, Try.ntmps55
  go_wp2
  go_ret
  exact ⟨rfl, rfl⟩
set_option maxRecDepth 100000 in
theorem rarity_8 (w : World) : Calls Try.prog 55 #[.string ⟨#[116, 100, 103]⟩] w fun e w' => e = .returned (.int .i64 1) ∧ w' = w := by
  go_enter Try.func55, Try.ntmps55
  go_wp2
  go_ret
  exact ⟨rfl, rfl⟩
set_option maxRecDepth 100000 in
theorem rarity_9 (w : World) : Calls Try.prog 55 #[.string ⟨#[118]⟩] w fun e w' => e = .returned (.int .i64 1) ∧ w' = w := by
  go_enter Try.func55, Try.ntmps55
  go_wp2
  go_ret
  exact ⟨rfl, rfl⟩
set_option maxRecDepth 100000 in
theorem rarity_10 (w : World) : Calls Try.prog 55 #[.string ⟨#[118, 100, 103]⟩] w fun e w' => e = .returned (.int .i64 1) ∧ w' = w := by
  go_enter Try.func55, Try.ntmps55
  go_wp2
  go_ret
  exact ⟨rfl, rfl⟩
set_option maxRecDepth 100000 in
theorem rarity_11 (w : World) : Calls Try.prog 55 #[.string ⟨#[119]⟩] w fun e w' => e = .returned (.int .i64 1) ∧ w' = w := by
  go_enter Try.func55, Try.ntmps55
  go_wp2
  go_ret
  exact ⟨rfl, rfl⟩
set_option maxRecDepth 100000 in
theorem rarity_12 (w : World) : Calls Try.prog 55 #[.string ⟨#[119, 100, 103]⟩] w fun e w' => e = .returned (.int .i64 1) ∧ w' = w := by
  go_enter Try.func55, Try.ntmps55
  go_wp2
  go_ret
  exact ⟨rfl, rfl⟩
set_option maxRecDepth 100000 in
theorem rarity_13 (w : World) : Calls Try.prog 55 #[.string ⟨#[99, 120]⟩] w fun e w' => e = .returned (.int .i64 2) ∧ w' = w := by
  go_enter Try.func55, Try.ntmps55
  go_wp2
  go_ret
  exact ⟨rfl, rfl⟩
set_option maxRecDepth 100000 in
theorem rarity_14 (w : World) : Calls Try.prog 55 #[.string ⟨#[99, 121]⟩] w fun e w' => e = .returned (.int .i64 2) ∧ w' = w := by
  go_enter Try.func55, Try.ntmps55
  go_wp2
  go_ret
  exact ⟨rfl, rfl⟩
set_option maxRecDepth 100000 in
theorem rarity_15 (w : World) : Calls Try.prog 55 #[.string ⟨#[99, 122]⟩] w fun e w' => e = .returned (.int .i64 2) ∧ w' = w := by
  go_enter Try.func55, Try.ntmps55
  go_wp2
  go_ret
  exact ⟨rfl, rfl⟩
set_option maxRecDepth 100000 in
theorem rarity_16 (w : World) : Calls Try.prog 55 #[.string ⟨#[99, 104]⟩] w fun e w' => e = .returned (.int .i64 2) ∧ w' = w := by
  go_enter Try.func55, Try.ntmps55
  go_wp2
  go_ret
  exact ⟨rfl, rfl⟩
set_option maxRecDepth 100000 in
theorem rarity_17 (w : World) : Calls Try.prog 55 #[.string ⟨#[99, 115]⟩] w fun e w' => e = .returned (.int .i64 2) ∧ w' = w := by
  go_enter Try.func55, Try.ntmps55
  go_wp2
  go_ret
  exact ⟨rfl, rfl⟩
set_option maxRecDepth 100000 in
theorem rarity_18 (w : World) : Calls Try.prog 55 #[.string ⟨#[99, 115, 100, 103]⟩] w fun e w' => e = .returned (.int .i64 2) ∧ w' = w := by
  go_enter Try.func55, Try.ntmps55
  go_wp2
  go_ret
  exact ⟨rfl, rfl⟩
set_option maxRecDepth 100000 in
theorem rarity_19 (w : World) : Calls Try.prog 55 #[.string ⟨#[115, 119, 97, 112]⟩] w fun e w' => e = .returned (.int .i64 2) ∧ w' = w := by
  go_enter Try.func55, Try.ntmps55
  go_wp2
  go_ret
  exact ⟨rfl, rfl⟩
set_option maxRecDepth 100000 in
theorem rarity_20 (w : World) : Calls Try.prog 55 #[.string ⟨#[105, 115, 119, 97, 112]⟩] w fun e w' => e = .returned (.int .i64 2) ∧ w' = w := by
  go_enter Try.func55, Try.ntmps55
  go_wp2
  go_ret
  exact ⟨rfl, rfl⟩
set_option maxRecDepth 100000 in
theorem rarity_21 (w : World) : Calls Try.prog 55 #[.string ⟨#[105, 115, 119, 97, 112, 100, 103]⟩] w fun e w' => e = .returned (.int .i64 2) ∧ w' = w := by
  go_enter Try.func55, Try.ntmps55
  go_wp2
  go_ret
  exact ⟨rfl, rfl⟩
set_option maxRecDepth 100000 in
theorem rarity_22 (w : World) : Calls Try.prog 55 #[.string ⟨#[99, 99, 120]⟩] w fun e w' => e = .returned (.int .i64 3) ∧ w' = w := by
  go_enter Try.func55, Try.ntmps55
  go_wp2
  go_ret
  exact ⟨rfl, rfl⟩
set_option maxRecDepth 100000 in
theorem rarity_23 (w : World) : Calls Try.prog 55 #[.string ⟨#[99, 99, 122]⟩] w fun e w' => e = .returned (.int .i64 3) ∧ w' = w := by
  go_enter Try.func55, Try.ntmps55
  go_wp2
  go_ret
  exact ⟨rfl, rfl⟩
set_option maxRecDepth 100000 in
theorem rarity_24 (w : World) : Calls Try.prog 55 #[.string ⟨#[99, 115, 119, 97, 112]⟩] w fun e w' => e = .returned (.int .i64 3) ∧ w' = w := by
  go_enter Try.func55, Try.ntmps55
  go_wp2
  go_ret
  exact ⟨rfl, rfl⟩
set_option maxRecDepth 100000 in
theorem rarity_miss {s : ByteArray} (H : Miss s) (w : World) : Calls Try.prog 55 #[.string s] w fun e w' => e = .returned (.int .i64 0) ∧ w' = w := by
  have m0 := H.m0; have m1 := H.m1; have m2 := H.m2; have m3 := H.m3; have m4 := H.m4; have m5 := H.m5; have m6 := H.m6; have m7 := H.m7; have m8 := H.m8; have m9 := H.m9; have m10 := H.m10; have m11 := H.m11; have m12 := H.m12; have m13 := H.m13; have m14 := H.m14; have m15 := H.m15; have m16 := H.m16; have m17 := H.m17; have m18 := H.m18; have m19 := H.m19; have m20 := H.m20; have m21 := H.m21; have m22 := H.m22; have m23 := H.m23; have m24 := H.m24
  clear H
  go_enter Try.func55, Try.ntmps55
  go_wp2
  go_ret
  exact ⟨rfl, rfl⟩
theorem rarity_any (s : ByteArray) (w : World) : Calls Try.prog 55 #[.string s] w fun e w' => e = .returned (.int .i64 (gar s : Nat)) ∧ w' = w := by
  rcases hit_or_miss s with h | H
  · simp only [nms, List.mem_cons, List.not_mem_nil, or_false] at h
    rcases h with rfl | rfl | rfl | rfl | rfl | rfl | rfl | rfl | rfl | rfl | rfl | rfl | rfl | rfl | rfl | rfl | rfl | rfl | rfl | rfl | rfl | rfl | rfl | rfl | rfl
    · rw [show gar ⟨#[105]⟩ = 1 by kernel_rfl]; exact rarity_0 w
    · rw [show gar ⟨#[120]⟩ = 1 by kernel_rfl]; exact rarity_1 w
    · rw [show gar ⟨#[121]⟩ = 1 by kernel_rfl]; exact rarity_2 w
    · rw [show gar ⟨#[122]⟩ = 1 by kernel_rfl]; exact rarity_3 w
    · rw [show gar ⟨#[104]⟩ = 1 by kernel_rfl]; exact rarity_4 w
    · rw [show gar ⟨#[115]⟩ = 1 by kernel_rfl]; exact rarity_5 w
    · rw [show gar ⟨#[115, 100, 103]⟩ = 1 by kernel_rfl]; exact rarity_6 w
    · rw [show gar ⟨#[116]⟩ = 1 by kernel_rfl]; exact rarity_7 w
    · rw [show gar ⟨#[116, 100, 103]⟩ = 1 by kernel_rfl]; exact rarity_8 w
    · rw [show gar ⟨#[118]⟩ = 1 by kernel_rfl]; exact rarity_9 w
    · rw [show gar ⟨#[118, 100, 103]⟩ = 1 by kernel_rfl]; exact rarity_10 w
    · rw [show gar ⟨#[119]⟩ = 1 by kernel_rfl]; exact rarity_11 w
    · rw [show gar ⟨#[119, 100, 103]⟩ = 1 by kernel_rfl]; exact rarity_12 w
    · rw [show gar ⟨#[99, 120]⟩ = 2 by kernel_rfl]; exact rarity_13 w
    · rw [show gar ⟨#[99, 121]⟩ = 2 by kernel_rfl]; exact rarity_14 w
    · rw [show gar ⟨#[99, 122]⟩ = 2 by kernel_rfl]; exact rarity_15 w
    · rw [show gar ⟨#[99, 104]⟩ = 2 by kernel_rfl]; exact rarity_16 w
    · rw [show gar ⟨#[99, 115]⟩ = 2 by kernel_rfl]; exact rarity_17 w
    · rw [show gar ⟨#[99, 115, 100, 103]⟩ = 2 by kernel_rfl]; exact rarity_18 w
    · rw [show gar ⟨#[115, 119, 97, 112]⟩ = 2 by kernel_rfl]; exact rarity_19 w
    · rw [show gar ⟨#[105, 115, 119, 97, 112]⟩ = 2 by kernel_rfl]; exact rarity_20 w
    · rw [show gar ⟨#[105, 115, 119, 97, 112, 100, 103]⟩ = 2 by kernel_rfl]; exact rarity_21 w
    · rw [show gar ⟨#[99, 99, 120]⟩ = 3 by kernel_rfl]; exact rarity_22 w
    · rw [show gar ⟨#[99, 99, 122]⟩ = 3 by kernel_rfl]; exact rarity_23 w
    · rw [show gar ⟨#[99, 115, 119, 97, 112]⟩ = 3 by kernel_rfl]; exact rarity_24 w
  · have e : gar s = 0 := by unfold gar; rw [H.gI]; rfl
    rw [e]
    exact rarity_miss H w
set_option maxRecDepth 100000 in
theorem rhalves_0 (w : World) : Calls Try.prog 56 #[.string ⟨#[105]⟩] w fun e w' => e = .returned (.int .i64 0) ∧ w' = w := by
  go_enter Try.func56, Try.ntmps56
  go_wp2
  go_ret
  exact ⟨rfl, rfl⟩
set_option maxRecDepth 100000 in
theorem rhalves_1 (w : World) : Calls Try.prog 56 #[.string ⟨#[120]⟩] w fun e w' => e = .returned (.int .i64 0) ∧ w' = w := by
  go_enter Try.func56, Try.ntmps56
  go_wp2
  go_ret
  exact ⟨rfl, rfl⟩
set_option maxRecDepth 100000 in
theorem rhalves_2 (w : World) : Calls Try.prog 56 #[.string ⟨#[121]⟩] w fun e w' => e = .returned (.int .i64 0) ∧ w' = w := by
  go_enter Try.func56, Try.ntmps56
  go_wp2
  go_ret
  exact ⟨rfl, rfl⟩
set_option maxRecDepth 100000 in
theorem rhalves_3 (w : World) : Calls Try.prog 56 #[.string ⟨#[122]⟩] w fun e w' => e = .returned (.int .i64 0) ∧ w' = w := by
  go_enter Try.func56, Try.ntmps56
  go_wp2
  go_ret
  exact ⟨rfl, rfl⟩
set_option maxRecDepth 100000 in
theorem rhalves_4 (w : World) : Calls Try.prog 56 #[.string ⟨#[104]⟩] w fun e w' => e = .returned (.int .i64 1) ∧ w' = w := by
  go_enter Try.func56, Try.ntmps56
  go_wp2
  go_ret
  exact ⟨rfl, rfl⟩
set_option maxRecDepth 100000 in
theorem rhalves_5 (w : World) : Calls Try.prog 56 #[.string ⟨#[115]⟩] w fun e w' => e = .returned (.int .i64 0) ∧ w' = w := by
  go_enter Try.func56, Try.ntmps56
  go_wp2
  go_ret
  exact ⟨rfl, rfl⟩
set_option maxRecDepth 100000 in
theorem rhalves_6 (w : World) : Calls Try.prog 56 #[.string ⟨#[115, 100, 103]⟩] w fun e w' => e = .returned (.int .i64 0) ∧ w' = w := by
  go_enter Try.func56, Try.ntmps56
  go_wp2
  go_ret
  exact ⟨rfl, rfl⟩
set_option maxRecDepth 100000 in
theorem rhalves_7 (w : World) : Calls Try.prog 56 #[.string ⟨#[116]⟩] w fun e w' => e = .returned (.int .i64 0) ∧ w' = w := by
  go_enter Try.func56, Try.ntmps56
  go_wp2
  go_ret
  exact ⟨rfl, rfl⟩
set_option maxRecDepth 100000 in
theorem rhalves_8 (w : World) : Calls Try.prog 56 #[.string ⟨#[116, 100, 103]⟩] w fun e w' => e = .returned (.int .i64 0) ∧ w' = w := by
  go_enter Try.func56, Try.ntmps56
  go_wp2
  go_ret
  exact ⟨rfl, rfl⟩
set_option maxRecDepth 100000 in
theorem rhalves_9 (w : World) : Calls Try.prog 56 #[.string ⟨#[118]⟩] w fun e w' => e = .returned (.int .i64 1) ∧ w' = w := by
  go_enter Try.func56, Try.ntmps56
  go_wp2
  go_ret
  exact ⟨rfl, rfl⟩
set_option maxRecDepth 100000 in
theorem rhalves_10 (w : World) : Calls Try.prog 56 #[.string ⟨#[118, 100, 103]⟩] w fun e w' => e = .returned (.int .i64 1) ∧ w' = w := by
  go_enter Try.func56, Try.ntmps56
  go_wp2
  go_ret
  exact ⟨rfl, rfl⟩
set_option maxRecDepth 100000 in
theorem rhalves_11 (w : World) : Calls Try.prog 56 #[.string ⟨#[119]⟩] w fun e w' => e = .returned (.int .i64 0) ∧ w' = w := by
  go_enter Try.func56, Try.ntmps56
  go_wp2
  go_ret
  exact ⟨rfl, rfl⟩
set_option maxRecDepth 100000 in
theorem rhalves_12 (w : World) : Calls Try.prog 56 #[.string ⟨#[119, 100, 103]⟩] w fun e w' => e = .returned (.int .i64 0) ∧ w' = w := by
  go_enter Try.func56, Try.ntmps56
  go_wp2
  go_ret
  exact ⟨rfl, rfl⟩
set_option maxRecDepth 100000 in
theorem rhalves_13 (w : World) : Calls Try.prog 56 #[.string ⟨#[99, 120]⟩] w fun e w' => e = .returned (.int .i64 0) ∧ w' = w := by
  go_enter Try.func56, Try.ntmps56
  go_wp2
  go_ret
  exact ⟨rfl, rfl⟩
set_option maxRecDepth 100000 in
theorem rhalves_14 (w : World) : Calls Try.prog 56 #[.string ⟨#[99, 121]⟩] w fun e w' => e = .returned (.int .i64 0) ∧ w' = w := by
  go_enter Try.func56, Try.ntmps56
  go_wp2
  go_ret
  exact ⟨rfl, rfl⟩
set_option maxRecDepth 100000 in
theorem rhalves_15 (w : World) : Calls Try.prog 56 #[.string ⟨#[99, 122]⟩] w fun e w' => e = .returned (.int .i64 0) ∧ w' = w := by
  go_enter Try.func56, Try.ntmps56
  go_wp2
  go_ret
  exact ⟨rfl, rfl⟩
set_option maxRecDepth 100000 in
theorem rhalves_16 (w : World) : Calls Try.prog 56 #[.string ⟨#[99, 104]⟩] w fun e w' => e = .returned (.int .i64 1) ∧ w' = w := by
  go_enter Try.func56, Try.ntmps56
  go_wp2
  go_ret
  exact ⟨rfl, rfl⟩
set_option maxRecDepth 100000 in
theorem rhalves_17 (w : World) : Calls Try.prog 56 #[.string ⟨#[99, 115]⟩] w fun e w' => e = .returned (.int .i64 0) ∧ w' = w := by
  go_enter Try.func56, Try.ntmps56
  go_wp2
  go_ret
  exact ⟨rfl, rfl⟩
set_option maxRecDepth 100000 in
theorem rhalves_18 (w : World) : Calls Try.prog 56 #[.string ⟨#[99, 115, 100, 103]⟩] w fun e w' => e = .returned (.int .i64 0) ∧ w' = w := by
  go_enter Try.func56, Try.ntmps56
  go_wp2
  go_ret
  exact ⟨rfl, rfl⟩
set_option maxRecDepth 100000 in
theorem rhalves_19 (w : World) : Calls Try.prog 56 #[.string ⟨#[115, 119, 97, 112]⟩] w fun e w' => e = .returned (.int .i64 0) ∧ w' = w := by
  go_enter Try.func56, Try.ntmps56
  go_wp2
  go_ret
  exact ⟨rfl, rfl⟩
set_option maxRecDepth 100000 in
theorem rhalves_20 (w : World) : Calls Try.prog 56 #[.string ⟨#[105, 115, 119, 97, 112]⟩] w fun e w' => e = .returned (.int .i64 0) ∧ w' = w := by
  go_enter Try.func56, Try.ntmps56
  go_wp2
  go_ret
  exact ⟨rfl, rfl⟩
set_option maxRecDepth 100000 in
theorem rhalves_21 (w : World) : Calls Try.prog 56 #[.string ⟨#[105, 115, 119, 97, 112, 100, 103]⟩] w fun e w' => e = .returned (.int .i64 0) ∧ w' = w := by
  go_enter Try.func56, Try.ntmps56
  go_wp2
  go_ret
  exact ⟨rfl, rfl⟩
set_option maxRecDepth 100000 in
theorem rhalves_22 (w : World) : Calls Try.prog 56 #[.string ⟨#[99, 99, 120]⟩] w fun e w' => e = .returned (.int .i64 0) ∧ w' = w := by
  go_enter Try.func56, Try.ntmps56
  go_wp2
  go_ret
  exact ⟨rfl, rfl⟩
set_option maxRecDepth 100000 in
theorem rhalves_23 (w : World) : Calls Try.prog 56 #[.string ⟨#[99, 99, 122]⟩] w fun e w' => e = .returned (.int .i64 0) ∧ w' = w := by
  go_enter Try.func56, Try.ntmps56
  go_wp2
  go_ret
  exact ⟨rfl, rfl⟩
set_option maxRecDepth 100000 in
theorem rhalves_24 (w : World) : Calls Try.prog 56 #[.string ⟨#[99, 115, 119, 97, 112]⟩] w fun e w' => e = .returned (.int .i64 0) ∧ w' = w := by
  go_enter Try.func56, Try.ntmps56
  go_wp2
  go_ret
  exact ⟨rfl, rfl⟩
set_option maxRecDepth 100000 in
theorem rhalves_miss {s : ByteArray} (H : Miss s) (w : World) : Calls Try.prog 56 #[.string s] w fun e w' => e = .returned (.int .i64 0) ∧ w' = w := by
  have m0 := H.m0; have m1 := H.m1; have m2 := H.m2; have m3 := H.m3; have m4 := H.m4; have m5 := H.m5; have m6 := H.m6; have m7 := H.m7; have m8 := H.m8; have m9 := H.m9; have m10 := H.m10; have m11 := H.m11; have m12 := H.m12; have m13 := H.m13; have m14 := H.m14; have m15 := H.m15; have m16 := H.m16; have m17 := H.m17; have m18 := H.m18; have m19 := H.m19; have m20 := H.m20; have m21 := H.m21; have m22 := H.m22; have m23 := H.m23; have m24 := H.m24
  clear H
  go_enter Try.func56, Try.ntmps56
  go_wp2
  go_ret
  exact ⟨rfl, rfl⟩
theorem rhalves_any (s : ByteArray) (w : World) : Calls Try.prog 56 #[.string s] w fun e w' => e = .returned (.int .i64 (ghv s : Nat)) ∧ w' = w := by
  rcases hit_or_miss s with h | H
  · simp only [nms, List.mem_cons, List.not_mem_nil, or_false] at h
    rcases h with rfl | rfl | rfl | rfl | rfl | rfl | rfl | rfl | rfl | rfl | rfl | rfl | rfl | rfl | rfl | rfl | rfl | rfl | rfl | rfl | rfl | rfl | rfl | rfl | rfl
    · rw [show ghv ⟨#[105]⟩ = 0 by kernel_rfl]; exact rhalves_0 w
    · rw [show ghv ⟨#[120]⟩ = 0 by kernel_rfl]; exact rhalves_1 w
    · rw [show ghv ⟨#[121]⟩ = 0 by kernel_rfl]; exact rhalves_2 w
    · rw [show ghv ⟨#[122]⟩ = 0 by kernel_rfl]; exact rhalves_3 w
    · rw [show ghv ⟨#[104]⟩ = 1 by kernel_rfl]; exact rhalves_4 w
    · rw [show ghv ⟨#[115]⟩ = 0 by kernel_rfl]; exact rhalves_5 w
    · rw [show ghv ⟨#[115, 100, 103]⟩ = 0 by kernel_rfl]; exact rhalves_6 w
    · rw [show ghv ⟨#[116]⟩ = 0 by kernel_rfl]; exact rhalves_7 w
    · rw [show ghv ⟨#[116, 100, 103]⟩ = 0 by kernel_rfl]; exact rhalves_8 w
    · rw [show ghv ⟨#[118]⟩ = 1 by kernel_rfl]; exact rhalves_9 w
    · rw [show ghv ⟨#[118, 100, 103]⟩ = 1 by kernel_rfl]; exact rhalves_10 w
    · rw [show ghv ⟨#[119]⟩ = 0 by kernel_rfl]; exact rhalves_11 w
    · rw [show ghv ⟨#[119, 100, 103]⟩ = 0 by kernel_rfl]; exact rhalves_12 w
    · rw [show ghv ⟨#[99, 120]⟩ = 0 by kernel_rfl]; exact rhalves_13 w
    · rw [show ghv ⟨#[99, 121]⟩ = 0 by kernel_rfl]; exact rhalves_14 w
    · rw [show ghv ⟨#[99, 122]⟩ = 0 by kernel_rfl]; exact rhalves_15 w
    · rw [show ghv ⟨#[99, 104]⟩ = 1 by kernel_rfl]; exact rhalves_16 w
    · rw [show ghv ⟨#[99, 115]⟩ = 0 by kernel_rfl]; exact rhalves_17 w
    · rw [show ghv ⟨#[99, 115, 100, 103]⟩ = 0 by kernel_rfl]; exact rhalves_18 w
    · rw [show ghv ⟨#[115, 119, 97, 112]⟩ = 0 by kernel_rfl]; exact rhalves_19 w
    · rw [show ghv ⟨#[105, 115, 119, 97, 112]⟩ = 0 by kernel_rfl]; exact rhalves_20 w
    · rw [show ghv ⟨#[105, 115, 119, 97, 112, 100, 103]⟩ = 0 by kernel_rfl]; exact rhalves_21 w
    · rw [show ghv ⟨#[99, 99, 120]⟩ = 0 by kernel_rfl]; exact rhalves_22 w
    · rw [show ghv ⟨#[99, 99, 122]⟩ = 0 by kernel_rfl]; exact rhalves_23 w
    · rw [show ghv ⟨#[99, 115, 119, 97, 112]⟩ = 0 by kernel_rfl]; exact rhalves_24 w
  · have e : ghv s = 0 := by unfold ghv; rw [H.gI]; rfl
    rw [e]
    exact rhalves_miss H w
end Go.Proofs.Ytinkdonaedoojaa.CL
