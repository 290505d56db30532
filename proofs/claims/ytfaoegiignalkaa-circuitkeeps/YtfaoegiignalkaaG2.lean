/-
  The reference's Arity, Halves, Clifford, Inverse at every name.
-/
import Derived.Test.YtfaoegiignalkaaG1
namespace Go.Proofs.Ytfaoegiignalkaa
open Go.RowKit Go.Sort

set_option maxRecDepth 100000 in
theorem rarity_0 (w : World) : Calls Try.prog 49 #[.string ⟨#[105]⟩] w fun e w' => e = .returned (.int .i64 1) ∧ w' = w := by
  go_enter Try.func49, Try.ntmps49
  go_wp2
  go_ret
  exact ⟨rfl, rfl⟩
set_option maxRecDepth 100000 in
theorem rarity_1 (w : World) : Calls Try.prog 49 #[.string ⟨#[120]⟩] w fun e w' => e = .returned (.int .i64 1) ∧ w' = w := by
  go_enter Try.func49, Try.ntmps49
  go_wp2
  go_ret
  exact ⟨rfl, rfl⟩
set_option maxRecDepth 100000 in
theorem rarity_2 (w : World) : Calls Try.prog 49 #[.string ⟨#[121]⟩] w fun e w' => e = .returned (.int .i64 1) ∧ w' = w := by
  go_enter Try.func49, Try.ntmps49
  go_wp2
  go_ret
  exact ⟨rfl, rfl⟩
set_option maxRecDepth 100000 in
theorem rarity_3 (w : World) : Calls Try.prog 49 #[.string ⟨#[122]⟩] w fun e w' => e = .returned (.int .i64 1) ∧ w' = w := by
  go_enter Try.func49, Try.ntmps49
  go_wp2
  go_ret
  exact ⟨rfl, rfl⟩
set_option maxRecDepth 100000 in
theorem rarity_4 (w : World) : Calls Try.prog 49 #[.string ⟨#[104]⟩] w fun e w' => e = .returned (.int .i64 1) ∧ w' = w := by
  go_enter Try.func49, Try.ntmps49
  go_wp2
  go_ret
  exact ⟨rfl, rfl⟩
set_option maxRecDepth 100000 in
theorem rarity_5 (w : World) : Calls Try.prog 49 #[.string ⟨#[115]⟩] w fun e w' => e = .returned (.int .i64 1) ∧ w' = w := by
  go_enter Try.func49, Try.ntmps49
  go_wp2
  go_ret
  exact ⟨rfl, rfl⟩
set_option maxRecDepth 100000 in
theorem rarity_6 (w : World) : Calls Try.prog 49 #[.string ⟨#[115, 100, 103]⟩] w fun e w' => e = .returned (.int .i64 1) ∧ w' = w := by
  go_enter Try.func49, Try.ntmps49
  go_wp2
  go_ret
  exact ⟨rfl, rfl⟩
set_option maxRecDepth 100000 in
theorem rarity_7 (w : World) : Calls Try.prog 49 #[.string ⟨#[116]⟩] w fun e w' => e = .returned (.int .i64 1) ∧ w' = w := by
  go_enter Try.func49, Try.ntmps49
  go_wp2
  go_ret
  exact ⟨rfl, rfl⟩
set_option maxRecDepth 100000 in
theorem rarity_8 (w : World) : Calls Try.prog 49 #[.string ⟨#[116, 100, 103]⟩] w fun e w' => e = .returned (.int .i64 1) ∧ w' = w := by
  go_enter Try.func49, Try.ntmps49
  go_wp2
  go_ret
  exact ⟨rfl, rfl⟩
set_option maxRecDepth 100000 in
theorem rarity_9 (w : World) : Calls Try.prog 49 #[.string ⟨#[118]⟩] w fun e w' => e = .returned (.int .i64 1) ∧ w' = w := by
  go_enter Try.func49, Try.ntmps49
  go_wp2
  go_ret
  exact ⟨rfl, rfl⟩
set_option maxRecDepth 100000 in
theorem rarity_10 (w : World) : Calls Try.prog 49 #[.string ⟨#[118, 100, 103]⟩] w fun e w' => e = .returned (.int .i64 1) ∧ w' = w := by
  go_enter Try.func49, Try.ntmps49
  go_wp2
  go_ret
  exact ⟨rfl, rfl⟩
set_option maxRecDepth 100000 in
theorem rarity_11 (w : World) : Calls Try.prog 49 #[.string ⟨#[119]⟩] w fun e w' => e = .returned (.int .i64 1) ∧ w' = w := by
  go_enter Try.func49, Try.ntmps49
  go_wp2
  go_ret
  exact ⟨rfl, rfl⟩
set_option maxRecDepth 100000 in
theorem rarity_12 (w : World) : Calls Try.prog 49 #[.string ⟨#[119, 100, 103]⟩] w fun e w' => e = .returned (.int .i64 1) ∧ w' = w := by
  go_enter Try.func49, Try.ntmps49
  go_wp2
  go_ret
  exact ⟨rfl, rfl⟩
set_option maxRecDepth 100000 in
theorem rarity_13 (w : World) : Calls Try.prog 49 #[.string ⟨#[99, 120]⟩] w fun e w' => e = .returned (.int .i64 2) ∧ w' = w := by
  go_enter Try.func49, Try.ntmps49
  go_wp2
  go_ret
  exact ⟨rfl, rfl⟩
set_option maxRecDepth 100000 in
theorem rarity_14 (w : World) : Calls Try.prog 49 #[.string ⟨#[99, 121]⟩] w fun e w' => e = .returned (.int .i64 2) ∧ w' = w := by
  go_enter Try.func49, Try.ntmps49
  go_wp2
  go_ret
  exact ⟨rfl, rfl⟩
set_option maxRecDepth 100000 in
theorem rarity_15 (w : World) : Calls Try.prog 49 #[.string ⟨#[99, 122]⟩] w fun e w' => e = .returned (.int .i64 2) ∧ w' = w := by
  go_enter Try.func49, Try.ntmps49
  go_wp2
  go_ret
  exact ⟨rfl, rfl⟩
set_option maxRecDepth 100000 in
theorem rarity_16 (w : World) : Calls Try.prog 49 #[.string ⟨#[99, 104]⟩] w fun e w' => e = .returned (.int .i64 2) ∧ w' = w := by
  go_enter Try.func49, Try.ntmps49
  go_wp2
  go_ret
  exact ⟨rfl, rfl⟩
set_option maxRecDepth 100000 in
theorem rarity_17 (w : World) : Calls Try.prog 49 #[.string ⟨#[99, 115]⟩] w fun e w' => e = .returned (.int .i64 2) ∧ w' = w := by
  go_enter Try.func49, Try.ntmps49
  go_wp2
  go_ret
  exact ⟨rfl, rfl⟩
set_option maxRecDepth 100000 in
theorem rarity_18 (w : World) : Calls Try.prog 49 #[.string ⟨#[99, 115, 100, 103]⟩] w fun e w' => e = .returned (.int .i64 2) ∧ w' = w := by
  go_enter Try.func49, Try.ntmps49
  go_wp2
  go_ret
  exact ⟨rfl, rfl⟩
set_option maxRecDepth 100000 in
theorem rarity_19 (w : World) : Calls Try.prog 49 #[.string ⟨#[115, 119, 97, 112]⟩] w fun e w' => e = .returned (.int .i64 2) ∧ w' = w := by
  go_enter Try.func49, Try.ntmps49
  go_wp2
  go_ret
  exact ⟨rfl, rfl⟩
set_option maxRecDepth 100000 in
theorem rarity_20 (w : World) : Calls Try.prog 49 #[.string ⟨#[105, 115, 119, 97, 112]⟩] w fun e w' => e = .returned (.int .i64 2) ∧ w' = w := by
  go_enter Try.func49, Try.ntmps49
  go_wp2
  go_ret
  exact ⟨rfl, rfl⟩
set_option maxRecDepth 100000 in
theorem rarity_21 (w : World) : Calls Try.prog 49 #[.string ⟨#[105, 115, 119, 97, 112, 100, 103]⟩] w fun e w' => e = .returned (.int .i64 2) ∧ w' = w := by
  go_enter Try.func49, Try.ntmps49
  go_wp2
  go_ret
  exact ⟨rfl, rfl⟩
set_option maxRecDepth 100000 in
theorem rarity_22 (w : World) : Calls Try.prog 49 #[.string ⟨#[99, 99, 120]⟩] w fun e w' => e = .returned (.int .i64 3) ∧ w' = w := by
  go_enter Try.func49, Try.ntmps49
  go_wp2
  go_ret
  exact ⟨rfl, rfl⟩
set_option maxRecDepth 100000 in
theorem rarity_23 (w : World) : Calls Try.prog 49 #[.string ⟨#[99, 99, 122]⟩] w fun e w' => e = .returned (.int .i64 3) ∧ w' = w := by
  go_enter Try.func49, Try.ntmps49
  go_wp2
  go_ret
  exact ⟨rfl, rfl⟩
set_option maxRecDepth 100000 in
theorem rarity_24 (w : World) : Calls Try.prog 49 #[.string ⟨#[99, 115, 119, 97, 112]⟩] w fun e w' => e = .returned (.int .i64 3) ∧ w' = w := by
  go_enter Try.func49, Try.ntmps49
  go_wp2
  go_ret
  exact ⟨rfl, rfl⟩
set_option maxRecDepth 100000 in
theorem rarity_miss {s : ByteArray} (H : Miss s) (w : World) : Calls Try.prog 49 #[.string s] w fun e w' => e = .returned (.int .i64 0) ∧ w' = w := by
  have m0 := H.m0; have m1 := H.m1; have m2 := H.m2; have m3 := H.m3; have m4 := H.m4; have m5 := H.m5; have m6 := H.m6; have m7 := H.m7; have m8 := H.m8; have m9 := H.m9; have m10 := H.m10; have m11 := H.m11; have m12 := H.m12; have m13 := H.m13; have m14 := H.m14; have m15 := H.m15; have m16 := H.m16; have m17 := H.m17; have m18 := H.m18; have m19 := H.m19; have m20 := H.m20; have m21 := H.m21; have m22 := H.m22; have m23 := H.m23; have m24 := H.m24
  clear H
  go_enter Try.func49, Try.ntmps49
  go_wp2
  go_ret
  exact ⟨rfl, rfl⟩
theorem rarity_any (s : ByteArray) (w : World) : Calls Try.prog 49 #[.string s] w fun e w' => e = .returned (.int .i64 (gar s : Nat)) ∧ w' = w := by
  rcases hit_or_miss s with h | H
  · simp only [nms, List.mem_cons, List.not_mem_nil, or_false] at h
    rcases h with rfl | rfl | rfl | rfl | rfl | rfl | rfl | rfl | rfl | rfl | rfl | rfl | rfl | rfl | rfl | rfl | rfl | rfl | rfl | rfl | rfl | rfl | rfl | rfl | rfl
    · rw [show gar ⟨#[105]⟩ = 1 by kernel_rfl]; exact rarity_0 w
    · rw [show gar ⟨#[120]⟩ = 1 by kernel_rfl]; exact rarity_1 w
    · rw [show gar ⟨#[121]⟩ = 1 by kernel_rfl]; exact rarity_2 w
    · rw [show gar ⟨#[122]⟩ = 1 by kernel_rfl]; exact rarity_3 w
    · rw [show gar ⟨#[104]⟩ = 1 by kernel_rfl]; exact rarity_4 w
    · rw [show gar ⟨#[115]⟩ = 1 by kernel_rfl]; exact rarity_5 w
    · rw [show gar ⟨#[115, 100, 103]⟩ = 1 by kernel_rfl]; exact rarity_6 w
    · rw [show gar ⟨#[116]⟩ = 1 by kernel_rfl]; exact rarity_7 w
    · rw [show gar ⟨#[116, 100, 103]⟩ = 1 by kernel_rfl]; exact rarity_8 w
    · rw [show gar ⟨#[118]⟩ = 1 by kernel_rfl]; exact rarity_9 w
    · rw [show gar ⟨#[118, 100, 103]⟩ = 1 by kernel_rfl]; exact rarity_10 w
    · rw [show gar ⟨#[119]⟩ = 1 by kernel_rfl]; exact rarity_11 w
    · rw [show gar ⟨#[119, 100, 103]⟩ = 1 by kernel_rfl]; exact rarity_12 w
    · rw [show gar ⟨#[99, 120]⟩ = 2 by kernel_rfl]; exact rarity_13 w
    · rw [show gar ⟨#[99, 121]⟩ = 2 by kernel_rfl]; exact rarity_14 w
    · rw [show gar ⟨#[99, 122]⟩ = 2 by kernel_rfl]; exact rarity_15 w
    · rw [show gar ⟨#[99, 104]⟩ = 2 by kernel_rfl]; exact rarity_16 w
    · rw [show gar ⟨#[99, 115]⟩ = 2 by kernel_rfl]; exact rarity_17 w
    · rw [show gar ⟨#[99, 115, 100, 103]⟩ = 2 by kernel_rfl]; exact rarity_18 w
    · rw [show gar ⟨#[115, 119, 97, 112]⟩ = 2 by kernel_rfl]; exact rarity_19 w
    · rw [show gar ⟨#[105, 115, 119, 97, 112]⟩ = 2 by kernel_rfl]; exact rarity_20 w
    · rw [show gar ⟨#[105, 115, 119, 97, 112, 100, 103]⟩ = 2 by kernel_rfl]; exact rarity_21 w
    · rw [show gar ⟨#[99, 99, 120]⟩ = 3 by kernel_rfl]; exact rarity_22 w
    · rw [show gar ⟨#[99, 99, 122]⟩ = 3 by kernel_rfl]; exact rarity_23 w
    · rw [show gar ⟨#[99, 115, 119, 97, 112]⟩ = 3 by kernel_rfl]; exact rarity_24 w
  · have e : gar s = 0 := by unfold gar; rw [H.gI]; rfl
    rw [e]
    exact rarity_miss H w
set_option maxRecDepth 100000 in
theorem rhalves_0 (w : World) : Calls Try.prog 50 #[.string ⟨#[105]⟩] w fun e w' => e = .returned (.int .i64 0) ∧ w' = w := by
  go_enter Try.func50, Try.ntmps50
  go_wp2
  go_ret
  exact ⟨rfl, rfl⟩
set_option maxRecDepth 100000 in
theorem rhalves_1 (w : World) : Calls Try.prog 50 #[.string ⟨#[120]⟩] w fun e w' => e = .returned (.int .i64 0) ∧ w' = w := by
  go_enter Try.func50, Try.ntmps50
  go_wp2
  go_ret
  exact ⟨rfl, rfl⟩
set_option maxRecDepth 100000 in
theorem rhalves_2 (w : World) : Calls Try.prog 50 #[.string ⟨#[121]⟩] w fun e w' => e = .returned (.int .i64 0) ∧ w' = w := by
  go_enter Try.func50, Try.ntmps50
  go_wp2
  go_ret
  exact ⟨rfl, rfl⟩
set_option maxRecDepth 100000 in
theorem rhalves_3 (w : World) : Calls Try.prog 50 #[.string ⟨#[122]⟩] w fun e w' => e = .returned (.int .i64 0) ∧ w' = w := by
  go_enter Try.func50, Try.ntmps50
  go_wp2
  go_ret
  exact ⟨rfl, rfl⟩
set_option maxRecDepth 100000 in
theorem rhalves_4 (w : World) : Calls Try.prog 50 #[.string ⟨#[104]⟩] w fun e w' => e = .returned (.int .i64 1) ∧ w' = w := by
  go_enter Try.func50, Try.ntmps50
  go_wp2
  go_ret
  exact ⟨rfl, rfl⟩
set_option maxRecDepth 100000 in
theorem rhalves_5 (w : World) : Calls Try.prog 50 #[.string ⟨#[115]⟩] w fun e w' => e = .returned (.int .i64 0) ∧ w' = w := by
  go_enter Try.func50, Try.ntmps50
  go_wp2
  go_ret
  exact ⟨rfl, rfl⟩
set_option maxRecDepth 100000 in
theorem rhalves_6 (w : World) : Calls Try.prog 50 #[.string ⟨#[115, 100, 103]⟩] w fun e w' => e = .returned (.int .i64 0) ∧ w' = w := by
  go_enter Try.func50, Try.ntmps50
  go_wp2
  go_ret
  exact ⟨rfl, rfl⟩
set_option maxRecDepth 100000 in
theorem rhalves_7 (w : World) : Calls Try.prog 50 #[.string ⟨#[116]⟩] w fun e w' => e = .returned (.int .i64 0) ∧ w' = w := by
  go_enter Try.func50, Try.ntmps50
  go_wp2
  go_ret
  exact ⟨rfl, rfl⟩
set_option maxRecDepth 100000 in
theorem rhalves_8 (w : World) : Calls Try.prog 50 #[.string ⟨#[116, 100, 103]⟩] w fun e w' => e = .returned (.int .i64 0) ∧ w' = w := by
  go_enter Try.func50, Try.ntmps50
  go_wp2
  go_ret
  exact ⟨rfl, rfl⟩
set_option maxRecDepth 100000 in
theorem rhalves_9 (w : World) : Calls Try.prog 50 #[.string ⟨#[118]⟩] w fun e w' => e = .returned (.int .i64 1) ∧ w' = w := by
  go_enter Try.func50, Try.ntmps50
  go_wp2
  go_ret
  exact ⟨rfl, rfl⟩
set_option maxRecDepth 100000 in
theorem rhalves_10 (w : World) : Calls Try.prog 50 #[.string ⟨#[118, 100, 103]⟩] w fun e w' => e = .returned (.int .i64 1) ∧ w' = w := by
  go_enter Try.func50, Try.ntmps50
  go_wp2
  go_ret
  exact ⟨rfl, rfl⟩
set_option maxRecDepth 100000 in
theorem rhalves_11 (w : World) : Calls Try.prog 50 #[.string ⟨#[119]⟩] w fun e w' => e = .returned (.int .i64 0) ∧ w' = w := by
  go_enter Try.func50, Try.ntmps50
  go_wp2
  go_ret
  exact ⟨rfl, rfl⟩
set_option maxRecDepth 100000 in
theorem rhalves_12 (w : World) : Calls Try.prog 50 #[.string ⟨#[119, 100, 103]⟩] w fun e w' => e = .returned (.int .i64 0) ∧ w' = w := by
  go_enter Try.func50, Try.ntmps50
  go_wp2
  go_ret
  exact ⟨rfl, rfl⟩
set_option maxRecDepth 100000 in
theorem rhalves_13 (w : World) : Calls Try.prog 50 #[.string ⟨#[99, 120]⟩] w fun e w' => e = .returned (.int .i64 0) ∧ w' = w := by
  go_enter Try.func50, Try.ntmps50
  go_wp2
  go_ret
  exact ⟨rfl, rfl⟩
set_option maxRecDepth 100000 in
theorem rhalves_14 (w : World) : Calls Try.prog 50 #[.string ⟨#[99, 121]⟩] w fun e w' => e = .returned (.int .i64 0) ∧ w' = w := by
  go_enter Try.func50, Try.ntmps50
  go_wp2
  go_ret
  exact ⟨rfl, rfl⟩
set_option maxRecDepth 100000 in
theorem rhalves_15 (w : World) : Calls Try.prog 50 #[.string ⟨#[99, 122]⟩] w fun e w' => e = .returned (.int .i64 0) ∧ w' = w := by
  go_enter Try.func50, Try.ntmps50
  go_wp2
  go_ret
  exact ⟨rfl, rfl⟩
set_option maxRecDepth 100000 in
theorem rhalves_16 (w : World) : Calls Try.prog 50 #[.string ⟨#[99, 104]⟩] w fun e w' => e = .returned (.int .i64 1) ∧ w' = w := by
  go_enter Try.func50, Try.ntmps50
  go_wp2
  go_ret
  exact ⟨rfl, rfl⟩
set_option maxRecDepth 100000 in
theorem rhalves_17 (w : World) : Calls Try.prog 50 #[.string ⟨#[99, 115]⟩] w fun e w' => e = .returned (.int .i64 0) ∧ w' = w := by
  go_enter Try.func50, Try.ntmps50
  go_wp2
  go_ret
  exact ⟨rfl, rfl⟩
set_option maxRecDepth 100000 in
theorem rhalves_18 (w : World) : Calls Try.prog 50 #[.string ⟨#[99, 115, 100, 103]⟩] w fun e w' => e = .returned (.int .i64 0) ∧ w' = w := by
  go_enter Try.func50, Try.ntmps50
  go_wp2
  go_ret
  exact ⟨rfl, rfl⟩
set_option maxRecDepth 100000 in
theorem rhalves_19 (w : World) : Calls Try.prog 50 #[.string ⟨#[115, 119, 97, 112]⟩] w fun e w' => e = .returned (.int .i64 0) ∧ w' = w := by
  go_enter Try.func50, Try.ntmps50
  go_wp2
  go_ret
  exact ⟨rfl, rfl⟩
set_option maxRecDepth 100000 in
theorem rhalves_20 (w : World) : Calls Try.prog 50 #[.string ⟨#[105, 115, 119, 97, 112]⟩] w fun e w' => e = .returned (.int .i64 0) ∧ w' = w := by
  go_enter Try.func50, Try.ntmps50
  go_wp2
  go_ret
  exact ⟨rfl, rfl⟩
set_option maxRecDepth 100000 in
theorem rhalves_21 (w : World) : Calls Try.prog 50 #[.string ⟨#[105, 115, 119, 97, 112, 100, 103]⟩] w fun e w' => e = .returned (.int .i64 0) ∧ w' = w := by
  go_enter Try.func50, Try.ntmps50
  go_wp2
  go_ret
  exact ⟨rfl, rfl⟩
set_option maxRecDepth 100000 in
theorem rhalves_22 (w : World) : Calls Try.prog 50 #[.string ⟨#[99, 99, 120]⟩] w fun e w' => e = .returned (.int .i64 0) ∧ w' = w := by
  go_enter Try.func50, Try.ntmps50
  go_wp2
  go_ret
  exact ⟨rfl, rfl⟩
set_option maxRecDepth 100000 in
theorem rhalves_23 (w : World) : Calls Try.prog 50 #[.string ⟨#[99, 99, 122]⟩] w fun e w' => e = .returned (.int .i64 0) ∧ w' = w := by
  go_enter Try.func50, Try.ntmps50
  go_wp2
  go_ret
  exact ⟨rfl, rfl⟩
set_option maxRecDepth 100000 in
theorem rhalves_24 (w : World) : Calls Try.prog 50 #[.string ⟨#[99, 115, 119, 97, 112]⟩] w fun e w' => e = .returned (.int .i64 0) ∧ w' = w := by
  go_enter Try.func50, Try.ntmps50
  go_wp2
  go_ret
  exact ⟨rfl, rfl⟩
set_option maxRecDepth 100000 in
theorem rhalves_miss {s : ByteArray} (H : Miss s) (w : World) : Calls Try.prog 50 #[.string s] w fun e w' => e = .returned (.int .i64 0) ∧ w' = w := by
  have m0 := H.m0; have m1 := H.m1; have m2 := H.m2; have m3 := H.m3; have m4 := H.m4; have m5 := H.m5; have m6 := H.m6; have m7 := H.m7; have m8 := H.m8; have m9 := H.m9; have m10 := H.m10; have m11 := H.m11; have m12 := H.m12; have m13 := H.m13; have m14 := H.m14; have m15 := H.m15; have m16 := H.m16; have m17 := H.m17; have m18 := H.m18; have m19 := H.m19; have m20 := H.m20; have m21 := H.m21; have m22 := H.m22; have m23 := H.m23; have m24 := H.m24
  clear H
  go_enter Try.func50, Try.ntmps50
  go_wp2
  go_ret
  exact ⟨rfl, rfl⟩
theorem rhalves_any (s : ByteArray) (w : World) : Calls Try.prog 50 #[.string s] w fun e w' => e = .returned (.int .i64 (ghv s : Nat)) ∧ w' = w := by
  rcases hit_or_miss s with h | H
  · simp only [nms, List.mem_cons, List.not_mem_nil, or_false] at h
    rcases h with rfl | rfl | rfl | rfl | rfl | rfl | rfl | rfl | rfl | rfl | rfl | rfl | rfl | rfl | rfl | rfl | rfl | rfl | rfl | rfl | rfl | rfl | rfl | rfl | rfl
    · rw [show ghv ⟨#[105]⟩ = 0 by kernel_rfl]; exact rhalves_0 w
    · rw [show ghv ⟨#[120]⟩ = 0 by kernel_rfl]; exact rhalves_1 w
    · rw [show ghv ⟨#[121]⟩ = 0 by kernel_rfl]; exact rhalves_2 w
    · rw [show ghv ⟨#[122]⟩ = 0 by kernel_rfl]; exact rhalves_3 w
    · rw [show ghv ⟨#[104]⟩ = 1 by kernel_rfl]; exact rhalves_4 w
    · rw [show ghv ⟨#[115]⟩ = 0 by kernel_rfl]; exact rhalves_5 w
    · rw [show ghv ⟨#[115, 100, 103]⟩ = 0 by kernel_rfl]; exact rhalves_6 w
    · rw [show ghv ⟨#[116]⟩ = 0 by kernel_rfl]; exact rhalves_7 w
    · rw [show ghv ⟨#[116, 100, 103]⟩ = 0 by kernel_rfl]; exact rhalves_8 w
    · rw [show ghv ⟨#[118]⟩ = 1 by kernel_rfl]; exact rhalves_9 w
    · rw [show ghv ⟨#[118, 100, 103]⟩ = 1 by kernel_rfl]; exact rhalves_10 w
    · rw [show ghv ⟨#[119]⟩ = 0 by kernel_rfl]; exact rhalves_11 w
    · rw [show ghv ⟨#[119, 100, 103]⟩ = 0 by kernel_rfl]; exact rhalves_12 w
    · rw [show ghv ⟨#[99, 120]⟩ = 0 by kernel_rfl]; exact rhalves_13 w
    · rw [show ghv ⟨#[99, 121]⟩ = 0 by kernel_rfl]; exact rhalves_14 w
    · rw [show ghv ⟨#[99, 122]⟩ = 0 by kernel_rfl]; exact rhalves_15 w
    · rw [show ghv ⟨#[99, 104]⟩ = 1 by kernel_rfl]; exact rhalves_16 w
    · rw [show ghv ⟨#[99, 115]⟩ = 0 by kernel_rfl]; exact rhalves_17 w
    · rw [show ghv ⟨#[99, 115, 100, 103]⟩ = 0 by kernel_rfl]; exact rhalves_18 w
    · rw [show ghv ⟨#[115, 119, 97, 112]⟩ = 0 by kernel_rfl]; exact rhalves_19 w
    · rw [show ghv ⟨#[105, 115, 119, 97, 112]⟩ = 0 by kernel_rfl]; exact rhalves_20 w
    · rw [show ghv ⟨#[105, 115, 119, 97, 112, 100, 103]⟩ = 0 by kernel_rfl]; exact rhalves_21 w
    · rw [show ghv ⟨#[99, 99, 120]⟩ = 0 by kernel_rfl]; exact rhalves_22 w
    · rw [show ghv ⟨#[99, 99, 122]⟩ = 0 by kernel_rfl]; exact rhalves_23 w
    · rw [show ghv ⟨#[99, 115, 119, 97, 112]⟩ = 0 by kernel_rfl]; exact rhalves_24 w
  · have e : ghv s = 0 := by unfold ghv; rw [H.gI]; rfl
    rw [e]
    exact rhalves_miss H w
set_option maxRecDepth 100000 in
theorem rclifford_0 (w : World) : Calls Try.prog 34 #[.string ⟨#[105]⟩] w fun e w' => e = .returned (.bool true) ∧ w' = w := by
  have A := fun w => rarity_0 w
  go_enter Try.func34, Try.ntmps34
  go_wp2_with (go_at_call 49; (with_reducible refine (A _).mono ?_); rintro e w1 ⟨rfl, rfl⟩)
  go_ret
  exact ⟨rfl, rfl⟩
set_option maxRecDepth 100000 in
theorem rclifford_1 (w : World) : Calls Try.prog 34 #[.string ⟨#[120]⟩] w fun e w' => e = .returned (.bool true) ∧ w' = w := by
  have A := fun w => rarity_1 w
  go_enter Try.func34, Try.ntmps34
  go_wp2_with (go_at_call 49; (with_reducible refine (A _).mono ?_); rintro e w1 ⟨rfl, rfl⟩)
  go_ret
  exact ⟨rfl, rfl⟩
set_option maxRecDepth 100000 in
theorem rclifford_2 (w : World) : Calls Try.prog 34 #[.string ⟨#[121]⟩] w fun e w' => e = .returned (.bool true) ∧ w' = w := by
  have A := fun w => rarity_2 w
  go_enter Try.func34, Try.ntmps34
  go_wp2_with (go_at_call 49; (with_reducible refine (A _).mono ?_); rintro e w1 ⟨rfl, rfl⟩)
  go_ret
  exact ⟨rfl, rfl⟩
set_option maxRecDepth 100000 in
theorem rclifford_3 (w : World) : Calls Try.prog 34 #[.string ⟨#[122]⟩] w fun e w' => e = .returned (.bool true) ∧ w' = w := by
  have A := fun w => rarity_3 w
  go_enter Try.func34, Try.ntmps34
  go_wp2_with (go_at_call 49; (with_reducible refine (A _).mono ?_); rintro e w1 ⟨rfl, rfl⟩)
  go_ret
  exact ⟨rfl, rfl⟩
set_option maxRecDepth 100000 in
theorem rclifford_4 (w : World) : Calls Try.prog 34 #[.string ⟨#[104]⟩] w fun e w' => e = .returned (.bool true) ∧ w' = w := by
  have A := fun w => rarity_4 w
  go_enter Try.func34, Try.ntmps34
  go_wp2_with (go_at_call 49; (with_reducible refine (A _).mono ?_); rintro e w1 ⟨rfl, rfl⟩)
  go_ret
  exact ⟨rfl, rfl⟩
set_option maxRecDepth 100000 in
theorem rclifford_5 (w : World) : Calls Try.prog 34 #[.string ⟨#[115]⟩] w fun e w' => e = .returned (.bool true) ∧ w' = w := by
  have A := fun w => rarity_5 w
  go_enter Try.func34, Try.ntmps34
  go_wp2_with (go_at_call 49; (with_reducible refine (A _).mono ?_); rintro e w1 ⟨rfl, rfl⟩)
  go_ret
  exact ⟨rfl, rfl⟩
set_option maxRecDepth 100000 in
theorem rclifford_6 (w : World) : Calls Try.prog 34 #[.string ⟨#[115, 100, 103]⟩] w fun e w' => e = .returned (.bool true) ∧ w' = w := by
  have A := fun w => rarity_6 w
  go_enter Try.func34, Try.ntmps34
  go_wp2_with (go_at_call 49; (with_reducible refine (A _).mono ?_); rintro e w1 ⟨rfl, rfl⟩)
  go_ret
  exact ⟨rfl, rfl⟩
set_option maxRecDepth 100000 in
theorem rclifford_7 (w : World) : Calls Try.prog 34 #[.string ⟨#[116]⟩] w fun e w' => e = .returned (.bool false) ∧ w' = w := by
  have A := fun w => rarity_7 w
  go_enter Try.func34, Try.ntmps34
  go_wp2_with (go_at_call 49; (with_reducible refine (A _).mono ?_); rintro e w1 ⟨rfl, rfl⟩)
  go_ret
  exact ⟨rfl, rfl⟩
set_option maxRecDepth 100000 in
theorem rclifford_8 (w : World) : Calls Try.prog 34 #[.string ⟨#[116, 100, 103]⟩] w fun e w' => e = .returned (.bool false) ∧ w' = w := by
  have A := fun w => rarity_8 w
  go_enter Try.func34, Try.ntmps34
  go_wp2_with (go_at_call 49; (with_reducible refine (A _).mono ?_); rintro e w1 ⟨rfl, rfl⟩)
  go_ret
  exact ⟨rfl, rfl⟩
set_option maxRecDepth 100000 in
theorem rclifford_9 (w : World) : Calls Try.prog 34 #[.string ⟨#[118]⟩] w fun e w' => e = .returned (.bool true) ∧ w' = w := by
  have A := fun w => rarity_9 w
  go_enter Try.func34, Try.ntmps34
  go_wp2_with (go_at_call 49; (with_reducible refine (A _).mono ?_); rintro e w1 ⟨rfl, rfl⟩)
  go_ret
  exact ⟨rfl, rfl⟩
set_option maxRecDepth 100000 in
theorem rclifford_10 (w : World) : Calls Try.prog 34 #[.string ⟨#[118, 100, 103]⟩] w fun e w' => e = .returned (.bool true) ∧ w' = w := by
  have A := fun w => rarity_10 w
  go_enter Try.func34, Try.ntmps34
  go_wp2_with (go_at_call 49; (with_reducible refine (A _).mono ?_); rintro e w1 ⟨rfl, rfl⟩)
  go_ret
  exact ⟨rfl, rfl⟩
set_option maxRecDepth 100000 in
theorem rclifford_11 (w : World) : Calls Try.prog 34 #[.string ⟨#[119]⟩] w fun e w' => e = .returned (.bool true) ∧ w' = w := by
  have A := fun w => rarity_11 w
  go_enter Try.func34, Try.ntmps34
  go_wp2_with (go_at_call 49; (with_reducible refine (A _).mono ?_); rintro e w1 ⟨rfl, rfl⟩)
  go_ret
  exact ⟨rfl, rfl⟩
set_option maxRecDepth 100000 in
theorem rclifford_12 (w : World) : Calls Try.prog 34 #[.string ⟨#[119, 100, 103]⟩] w fun e w' => e = .returned (.bool true) ∧ w' = w := by
  have A := fun w => rarity_12 w
  go_enter Try.func34, Try.ntmps34
  go_wp2_with (go_at_call 49; (with_reducible refine (A _).mono ?_); rintro e w1 ⟨rfl, rfl⟩)
  go_ret
  exact ⟨rfl, rfl⟩
set_option maxRecDepth 100000 in
theorem rclifford_13 (w : World) : Calls Try.prog 34 #[.string ⟨#[99, 120]⟩] w fun e w' => e = .returned (.bool true) ∧ w' = w := by
  have A := fun w => rarity_13 w
  go_enter Try.func34, Try.ntmps34
  go_wp2_with (go_at_call 49; (with_reducible refine (A _).mono ?_); rintro e w1 ⟨rfl, rfl⟩)
  go_ret
  exact ⟨rfl, rfl⟩
set_option maxRecDepth 100000 in
theorem rclifford_14 (w : World) : Calls Try.prog 34 #[.string ⟨#[99, 121]⟩] w fun e w' => e = .returned (.bool true) ∧ w' = w := by
  have A := fun w => rarity_14 w
  go_enter Try.func34, Try.ntmps34
  go_wp2_with (go_at_call 49; (with_reducible refine (A _).mono ?_); rintro e w1 ⟨rfl, rfl⟩)
  go_ret
  exact ⟨rfl, rfl⟩
set_option maxRecDepth 100000 in
theorem rclifford_15 (w : World) : Calls Try.prog 34 #[.string ⟨#[99, 122]⟩] w fun e w' => e = .returned (.bool true) ∧ w' = w := by
  have A := fun w => rarity_15 w
  go_enter Try.func34, Try.ntmps34
  go_wp2_with (go_at_call 49; (with_reducible refine (A _).mono ?_); rintro e w1 ⟨rfl, rfl⟩)
  go_ret
  exact ⟨rfl, rfl⟩
set_option maxRecDepth 100000 in
theorem rclifford_16 (w : World) : Calls Try.prog 34 #[.string ⟨#[99, 104]⟩] w fun e w' => e = .returned (.bool false) ∧ w' = w := by
  have A := fun w => rarity_16 w
  go_enter Try.func34, Try.ntmps34
  go_wp2_with (go_at_call 49; (with_reducible refine (A _).mono ?_); rintro e w1 ⟨rfl, rfl⟩)
  go_ret
  exact ⟨rfl, rfl⟩
set_option maxRecDepth 100000 in
theorem rclifford_17 (w : World) : Calls Try.prog 34 #[.string ⟨#[99, 115]⟩] w fun e w' => e = .returned (.bool false) ∧ w' = w := by
  have A := fun w => rarity_17 w
  go_enter Try.func34, Try.ntmps34
  go_wp2_with (go_at_call 49; (with_reducible refine (A _).mono ?_); rintro e w1 ⟨rfl, rfl⟩)
  go_ret
  exact ⟨rfl, rfl⟩
set_option maxRecDepth 100000 in
theorem rclifford_18 (w : World) : Calls Try.prog 34 #[.string ⟨#[99, 115, 100, 103]⟩] w fun e w' => e = .returned (.bool false) ∧ w' = w := by
  have A := fun w => rarity_18 w
  go_enter Try.func34, Try.ntmps34
  go_wp2_with (go_at_call 49; (with_reducible refine (A _).mono ?_); rintro e w1 ⟨rfl, rfl⟩)
  go_ret
  exact ⟨rfl, rfl⟩
set_option maxRecDepth 100000 in
theorem rclifford_19 (w : World) : Calls Try.prog 34 #[.string ⟨#[115, 119, 97, 112]⟩] w fun e w' => e = .returned (.bool true) ∧ w' = w := by
  have A := fun w => rarity_19 w
  go_enter Try.func34, Try.ntmps34
  go_wp2_with (go_at_call 49; (with_reducible refine (A _).mono ?_); rintro e w1 ⟨rfl, rfl⟩)
  go_ret
  exact ⟨rfl, rfl⟩
set_option maxRecDepth 100000 in
theorem rclifford_20 (w : World) : Calls Try.prog 34 #[.string ⟨#[105, 115, 119, 97, 112]⟩] w fun e w' => e = .returned (.bool true) ∧ w' = w := by
  have A := fun w => rarity_20 w
  go_enter Try.func34, Try.ntmps34
  go_wp2_with (go_at_call 49; (with_reducible refine (A _).mono ?_); rintro e w1 ⟨rfl, rfl⟩)
  go_ret
  exact ⟨rfl, rfl⟩
set_option maxRecDepth 100000 in
theorem rclifford_21 (w : World) : Calls Try.prog 34 #[.string ⟨#[105, 115, 119, 97, 112, 100, 103]⟩] w fun e w' => e = .returned (.bool true) ∧ w' = w := by
  have A := fun w => rarity_21 w
  go_enter Try.func34, Try.ntmps34
  go_wp2_with (go_at_call 49; (with_reducible refine (A _).mono ?_); rintro e w1 ⟨rfl, rfl⟩)
  go_ret
  exact ⟨rfl, rfl⟩
set_option maxRecDepth 100000 in
theorem rclifford_22 (w : World) : Calls Try.prog 34 #[.string ⟨#[99, 99, 120]⟩] w fun e w' => e = .returned (.bool false) ∧ w' = w := by
  have A := fun w => rarity_22 w
  go_enter Try.func34, Try.ntmps34
  go_wp2_with (go_at_call 49; (with_reducible refine (A _).mono ?_); rintro e w1 ⟨rfl, rfl⟩)
  go_ret
  exact ⟨rfl, rfl⟩
set_option maxRecDepth 100000 in
theorem rclifford_23 (w : World) : Calls Try.prog 34 #[.string ⟨#[99, 99, 122]⟩] w fun e w' => e = .returned (.bool false) ∧ w' = w := by
  have A := fun w => rarity_23 w
  go_enter Try.func34, Try.ntmps34
  go_wp2_with (go_at_call 49; (with_reducible refine (A _).mono ?_); rintro e w1 ⟨rfl, rfl⟩)
  go_ret
  exact ⟨rfl, rfl⟩
set_option maxRecDepth 100000 in
theorem rclifford_24 (w : World) : Calls Try.prog 34 #[.string ⟨#[99, 115, 119, 97, 112]⟩] w fun e w' => e = .returned (.bool false) ∧ w' = w := by
  have A := fun w => rarity_24 w
  go_enter Try.func34, Try.ntmps34
  go_wp2_with (go_at_call 49; (with_reducible refine (A _).mono ?_); rintro e w1 ⟨rfl, rfl⟩)
  go_ret
  exact ⟨rfl, rfl⟩
set_option maxRecDepth 100000 in
theorem rclifford_miss {s : ByteArray} (H : Miss s) (w : World) : Calls Try.prog 34 #[.string s] w fun e w' => e = .returned (.bool false) ∧ w' = w := by
  have A := fun w => rarity_miss H w
  have m0 := H.m0; have m1 := H.m1; have m2 := H.m2; have m3 := H.m3; have m4 := H.m4; have m5 := H.m5; have m6 := H.m6; have m7 := H.m7; have m8 := H.m8; have m9 := H.m9; have m10 := H.m10; have m11 := H.m11; have m12 := H.m12; have m13 := H.m13; have m14 := H.m14; have m15 := H.m15; have m16 := H.m16; have m17 := H.m17; have m18 := H.m18; have m19 := H.m19; have m20 := H.m20; have m21 := H.m21; have m22 := H.m22; have m23 := H.m23; have m24 := H.m24
  clear H
  go_enter Try.func34, Try.ntmps34
  go_wp2_with (go_at_call 49; (with_reducible refine (A _).mono ?_); rintro e w1 ⟨rfl, rfl⟩)
  go_ret
  exact ⟨rfl, rfl⟩
theorem rclifford_any (s : ByteArray) (w : World) : Calls Try.prog 34 #[.string s] w fun e w' => e = .returned (.bool (gcl s)) ∧ w' = w := by
  rcases hit_or_miss s with h | H
  · simp only [nms, List.mem_cons, List.not_mem_nil, or_false] at h
    rcases h with rfl | rfl | rfl | rfl | rfl | rfl | rfl | rfl | rfl | rfl | rfl | rfl | rfl | rfl | rfl | rfl | rfl | rfl | rfl | rfl | rfl | rfl | rfl | rfl | rfl
    · rw [show gcl ⟨#[105]⟩ = true by kernel_rfl]; exact rclifford_0 w
    · rw [show gcl ⟨#[120]⟩ = true by kernel_rfl]; exact rclifford_1 w
    · rw [show gcl ⟨#[121]⟩ = true by kernel_rfl]; exact rclifford_2 w
    · rw [show gcl ⟨#[122]⟩ = true by kernel_rfl]; exact rclifford_3 w
    · rw [show gcl ⟨#[104]⟩ = true by kernel_rfl]; exact rclifford_4 w
    · rw [show gcl ⟨#[115]⟩ = true by kernel_rfl]; exact rclifford_5 w
    · rw [show gcl ⟨#[115, 100, 103]⟩ = true by kernel_rfl]; exact rclifford_6 w
    · rw [show gcl ⟨#[116]⟩ = false by kernel_rfl]; exact rclifford_7 w
    · rw [show gcl ⟨#[116, 100, 103]⟩ = false by kernel_rfl]; exact rclifford_8 w
    · rw [show gcl ⟨#[118]⟩ = true by kernel_rfl]; exact rclifford_9 w
    · rw [show gcl ⟨#[118, 100, 103]⟩ = true by kernel_rfl]; exact rclifford_10 w
    · rw [show gcl ⟨#[119]⟩ = true by kernel_rfl]; exact rclifford_11 w
    · rw [show gcl ⟨#[119, 100, 103]⟩ = true by kernel_rfl]; exact rclifford_12 w
    · rw [show gcl ⟨#[99, 120]⟩ = true by kernel_rfl]; exact rclifford_13 w
    · rw [show gcl ⟨#[99, 121]⟩ = true by kernel_rfl]; exact rclifford_14 w
    · rw [show gcl ⟨#[99, 122]⟩ = true by kernel_rfl]; exact rclifford_15 w
    · rw [show gcl ⟨#[99, 104]⟩ = false by kernel_rfl]; exact rclifford_16 w
    · rw [show gcl ⟨#[99, 115]⟩ = false by kernel_rfl]; exact rclifford_17 w
    · rw [show gcl ⟨#[99, 115, 100, 103]⟩ = false by kernel_rfl]; exact rclifford_18 w
    · rw [show gcl ⟨#[115, 119, 97, 112]⟩ = true by kernel_rfl]; exact rclifford_19 w
    · rw [show gcl ⟨#[105, 115, 119, 97, 112]⟩ = true by kernel_rfl]; exact rclifford_20 w
    · rw [show gcl ⟨#[105, 115, 119, 97, 112, 100, 103]⟩ = true by kernel_rfl]; exact rclifford_21 w
    · rw [show gcl ⟨#[99, 99, 120]⟩ = false by kernel_rfl]; exact rclifford_22 w
    · rw [show gcl ⟨#[99, 99, 122]⟩ = false by kernel_rfl]; exact rclifford_23 w
    · rw [show gcl ⟨#[99, 115, 119, 97, 112]⟩ = false by kernel_rfl]; exact rclifford_24 w
  · have e : gcl s = false := by unfold gcl; rw [H.gI]; rfl
    rw [e]
    exact rclifford_miss H w
set_option maxRecDepth 100000 in
theorem rinverse_0 (w : World) : Calls Try.prog 37 #[.string ⟨#[105]⟩] w fun e w' => e = .returned (.tuple #[.string ⟨#[105]⟩, .int .i64 0]) ∧ w' = w := by
  have A := fun w => rarity_0 w
  go_enter Try.func37, Try.ntmps37
  go_wp2_with (go_at_call 49; (with_reducible refine (A _).mono ?_); rintro e w1 ⟨rfl, rfl⟩)
  go_ret2
  exact ⟨rfl, rfl⟩
set_option maxRecDepth 100000 in
theorem rinverse_1 (w : World) : Calls Try.prog 37 #[.string ⟨#[120]⟩] w fun e w' => e = .returned (.tuple #[.string ⟨#[120]⟩, .int .i64 0]) ∧ w' = w := by
  have A := fun w => rarity_1 w
  go_enter Try.func37, Try.ntmps37
  go_wp2_with (go_at_call 49; (with_reducible refine (A _).mono ?_); rintro e w1 ⟨rfl, rfl⟩)
  go_ret2
  exact ⟨rfl, rfl⟩
set_option maxRecDepth 100000 in
theorem rinverse_2 (w : World) : Calls Try.prog 37 #[.string ⟨#[121]⟩] w fun e w' => e = .returned (.tuple #[.string ⟨#[121]⟩, .int .i64 0]) ∧ w' = w := by
  have A := fun w => rarity_2 w
  go_enter Try.func37, Try.ntmps37
  go_wp2_with (go_at_call 49; (with_reducible refine (A _).mono ?_); rintro e w1 ⟨rfl, rfl⟩)
  go_ret2
  exact ⟨rfl, rfl⟩
set_option maxRecDepth 100000 in
theorem rinverse_3 (w : World) : Calls Try.prog 37 #[.string ⟨#[122]⟩] w fun e w' => e = .returned (.tuple #[.string ⟨#[122]⟩, .int .i64 0]) ∧ w' = w := by
  have A := fun w => rarity_3 w
  go_enter Try.func37, Try.ntmps37
  go_wp2_with (go_at_call 49; (with_reducible refine (A _).mono ?_); rintro e w1 ⟨rfl, rfl⟩)
  go_ret2
  exact ⟨rfl, rfl⟩
set_option maxRecDepth 100000 in
theorem rinverse_4 (w : World) : Calls Try.prog 37 #[.string ⟨#[104]⟩] w fun e w' => e = .returned (.tuple #[.string ⟨#[104]⟩, .int .i64 0]) ∧ w' = w := by
  have A := fun w => rarity_4 w
  go_enter Try.func37, Try.ntmps37
  go_wp2_with (go_at_call 49; (with_reducible refine (A _).mono ?_); rintro e w1 ⟨rfl, rfl⟩)
  go_ret2
  exact ⟨rfl, rfl⟩
set_option maxRecDepth 100000 in
theorem rinverse_5 (w : World) : Calls Try.prog 37 #[.string ⟨#[115]⟩] w fun e w' => e = .returned (.tuple #[.string ⟨#[115, 100, 103]⟩, .int .i64 0]) ∧ w' = w := by
  have A := fun w => rarity_5 w
  go_enter Try.func37, Try.ntmps37
  go_wp2_with (go_at_call 49; (with_reducible refine (A _).mono ?_); rintro e w1 ⟨rfl, rfl⟩)
  go_ret2
  exact ⟨rfl, rfl⟩
set_option maxRecDepth 100000 in
theorem rinverse_6 (w : World) : Calls Try.prog 37 #[.string ⟨#[115, 100, 103]⟩] w fun e w' => e = .returned (.tuple #[.string ⟨#[115]⟩, .int .i64 0]) ∧ w' = w := by
  have A := fun w => rarity_6 w
  go_enter Try.func37, Try.ntmps37
  go_wp2_with (go_at_call 49; (with_reducible refine (A _).mono ?_); rintro e w1 ⟨rfl, rfl⟩)
  go_ret2
  exact ⟨rfl, rfl⟩
set_option maxRecDepth 100000 in
theorem rinverse_7 (w : World) : Calls Try.prog 37 #[.string ⟨#[116]⟩] w fun e w' => e = .returned (.tuple #[.string ⟨#[116, 100, 103]⟩, .int .i64 0]) ∧ w' = w := by
  have A := fun w => rarity_7 w
  go_enter Try.func37, Try.ntmps37
  go_wp2_with (go_at_call 49; (with_reducible refine (A _).mono ?_); rintro e w1 ⟨rfl, rfl⟩)
  go_ret2
  exact ⟨rfl, rfl⟩
set_option maxRecDepth 100000 in
theorem rinverse_8 (w : World) : Calls Try.prog 37 #[.string ⟨#[116, 100, 103]⟩] w fun e w' => e = .returned (.tuple #[.string ⟨#[116]⟩, .int .i64 0]) ∧ w' = w := by
  have A := fun w => rarity_8 w
  go_enter Try.func37, Try.ntmps37
  go_wp2_with (go_at_call 49; (with_reducible refine (A _).mono ?_); rintro e w1 ⟨rfl, rfl⟩)
  go_ret2
  exact ⟨rfl, rfl⟩
set_option maxRecDepth 100000 in
theorem rinverse_9 (w : World) : Calls Try.prog 37 #[.string ⟨#[118]⟩] w fun e w' => e = .returned (.tuple #[.string ⟨#[118, 100, 103]⟩, .int .i64 0]) ∧ w' = w := by
  have A := fun w => rarity_9 w
  go_enter Try.func37, Try.ntmps37
  go_wp2_with (go_at_call 49; (with_reducible refine (A _).mono ?_); rintro e w1 ⟨rfl, rfl⟩)
  go_ret2
  exact ⟨rfl, rfl⟩
set_option maxRecDepth 100000 in
theorem rinverse_10 (w : World) : Calls Try.prog 37 #[.string ⟨#[118, 100, 103]⟩] w fun e w' => e = .returned (.tuple #[.string ⟨#[118]⟩, .int .i64 0]) ∧ w' = w := by
  have A := fun w => rarity_10 w
  go_enter Try.func37, Try.ntmps37
  go_wp2_with (go_at_call 49; (with_reducible refine (A _).mono ?_); rintro e w1 ⟨rfl, rfl⟩)
  go_ret2
  exact ⟨rfl, rfl⟩
set_option maxRecDepth 100000 in
theorem rinverse_11 (w : World) : Calls Try.prog 37 #[.string ⟨#[119]⟩] w fun e w' => e = .returned (.tuple #[.string ⟨#[119, 100, 103]⟩, .int .i64 0]) ∧ w' = w := by
  have A := fun w => rarity_11 w
  go_enter Try.func37, Try.ntmps37
  go_wp2_with (go_at_call 49; (with_reducible refine (A _).mono ?_); rintro e w1 ⟨rfl, rfl⟩)
  go_ret2
  exact ⟨rfl, rfl⟩
set_option maxRecDepth 100000 in
theorem rinverse_12 (w : World) : Calls Try.prog 37 #[.string ⟨#[119, 100, 103]⟩] w fun e w' => e = .returned (.tuple #[.string ⟨#[119]⟩, .int .i64 0]) ∧ w' = w := by
  have A := fun w => rarity_12 w
  go_enter Try.func37, Try.ntmps37
  go_wp2_with (go_at_call 49; (with_reducible refine (A _).mono ?_); rintro e w1 ⟨rfl, rfl⟩)
  go_ret2
  exact ⟨rfl, rfl⟩
set_option maxRecDepth 100000 in
theorem rinverse_13 (w : World) : Calls Try.prog 37 #[.string ⟨#[99, 120]⟩] w fun e w' => e = .returned (.tuple #[.string ⟨#[99, 120]⟩, .int .i64 0]) ∧ w' = w := by
  have A := fun w => rarity_13 w
  go_enter Try.func37, Try.ntmps37
  go_wp2_with (go_at_call 49; (with_reducible refine (A _).mono ?_); rintro e w1 ⟨rfl, rfl⟩)
  go_ret2
  exact ⟨rfl, rfl⟩
set_option maxRecDepth 100000 in
theorem rinverse_14 (w : World) : Calls Try.prog 37 #[.string ⟨#[99, 121]⟩] w fun e w' => e = .returned (.tuple #[.string ⟨#[99, 121]⟩, .int .i64 0]) ∧ w' = w := by
  have A := fun w => rarity_14 w
  go_enter Try.func37, Try.ntmps37
  go_wp2_with (go_at_call 49; (with_reducible refine (A _).mono ?_); rintro e w1 ⟨rfl, rfl⟩)
  go_ret2
  exact ⟨rfl, rfl⟩
set_option maxRecDepth 100000 in
theorem rinverse_15 (w : World) : Calls Try.prog 37 #[.string ⟨#[99, 122]⟩] w fun e w' => e = .returned (.tuple #[.string ⟨#[99, 122]⟩, .int .i64 0]) ∧ w' = w := by
  have A := fun w => rarity_15 w
  go_enter Try.func37, Try.ntmps37
  go_wp2_with (go_at_call 49; (with_reducible refine (A _).mono ?_); rintro e w1 ⟨rfl, rfl⟩)
  go_ret2
  exact ⟨rfl, rfl⟩
set_option maxRecDepth 100000 in
theorem rinverse_16 (w : World) : Calls Try.prog 37 #[.string ⟨#[99, 104]⟩] w fun e w' => e = .returned (.tuple #[.string ⟨#[99, 104]⟩, .int .i64 0]) ∧ w' = w := by
  have A := fun w => rarity_16 w
  go_enter Try.func37, Try.ntmps37
  go_wp2_with (go_at_call 49; (with_reducible refine (A _).mono ?_); rintro e w1 ⟨rfl, rfl⟩)
  go_ret2
  exact ⟨rfl, rfl⟩
set_option maxRecDepth 100000 in
theorem rinverse_17 (w : World) : Calls Try.prog 37 #[.string ⟨#[99, 115]⟩] w fun e w' => e = .returned (.tuple #[.string ⟨#[99, 115, 100, 103]⟩, .int .i64 0]) ∧ w' = w := by
  have A := fun w => rarity_17 w
  go_enter Try.func37, Try.ntmps37
  go_wp2_with (go_at_call 49; (with_reducible refine (A _).mono ?_); rintro e w1 ⟨rfl, rfl⟩)
  go_ret2
  exact ⟨rfl, rfl⟩
set_option maxRecDepth 100000 in
theorem rinverse_18 (w : World) : Calls Try.prog 37 #[.string ⟨#[99, 115, 100, 103]⟩] w fun e w' => e = .returned (.tuple #[.string ⟨#[99, 115]⟩, .int .i64 0]) ∧ w' = w := by
  have A := fun w => rarity_18 w
  go_enter Try.func37, Try.ntmps37
  go_wp2_with (go_at_call 49; (with_reducible refine (A _).mono ?_); rintro e w1 ⟨rfl, rfl⟩)
  go_ret2
  exact ⟨rfl, rfl⟩
set_option maxRecDepth 100000 in
theorem rinverse_19 (w : World) : Calls Try.prog 37 #[.string ⟨#[115, 119, 97, 112]⟩] w fun e w' => e = .returned (.tuple #[.string ⟨#[115, 119, 97, 112]⟩, .int .i64 0]) ∧ w' = w := by
  have A := fun w => rarity_19 w
  go_enter Try.func37, Try.ntmps37
  go_wp2_with (go_at_call 49; (with_reducible refine (A _).mono ?_); rintro e w1 ⟨rfl, rfl⟩)
  go_ret2
  exact ⟨rfl, rfl⟩
set_option maxRecDepth 100000 in
theorem rinverse_20 (w : World) : Calls Try.prog 37 #[.string ⟨#[105, 115, 119, 97, 112]⟩] w fun e w' => e = .returned (.tuple #[.string ⟨#[105, 115, 119, 97, 112, 100, 103]⟩, .int .i64 0]) ∧ w' = w := by
  have A := fun w => rarity_20 w
  go_enter Try.func37, Try.ntmps37
  go_wp2_with (go_at_call 49; (with_reducible refine (A _).mono ?_); rintro e w1 ⟨rfl, rfl⟩)
  go_ret2
  exact ⟨rfl, rfl⟩
set_option maxRecDepth 100000 in
theorem rinverse_21 (w : World) : Calls Try.prog 37 #[.string ⟨#[105, 115, 119, 97, 112, 100, 103]⟩] w fun e w' => e = .returned (.tuple #[.string ⟨#[105, 115, 119, 97, 112]⟩, .int .i64 0]) ∧ w' = w := by
  have A := fun w => rarity_21 w
  go_enter Try.func37, Try.ntmps37
  go_wp2_with (go_at_call 49; (with_reducible refine (A _).mono ?_); rintro e w1 ⟨rfl, rfl⟩)
  go_ret2
  exact ⟨rfl, rfl⟩
set_option maxRecDepth 100000 in
theorem rinverse_22 (w : World) : Calls Try.prog 37 #[.string ⟨#[99, 99, 120]⟩] w fun e w' => e = .returned (.tuple #[.string ⟨#[99, 99, 120]⟩, .int .i64 0]) ∧ w' = w := by
  have A := fun w => rarity_22 w
  go_enter Try.func37, Try.ntmps37
  go_wp2_with (go_at_call 49; (with_reducible refine (A _).mono ?_); rintro e w1 ⟨rfl, rfl⟩)
  go_ret2
  exact ⟨rfl, rfl⟩
set_option maxRecDepth 100000 in
theorem rinverse_23 (w : World) : Calls Try.prog 37 #[.string ⟨#[99, 99, 122]⟩] w fun e w' => e = .returned (.tuple #[.string ⟨#[99, 99, 122]⟩, .int .i64 0]) ∧ w' = w := by
  have A := fun w => rarity_23 w
  go_enter Try.func37, Try.ntmps37
  go_wp2_with (go_at_call 49; (with_reducible refine (A _).mono ?_); rintro e w1 ⟨rfl, rfl⟩)
  go_ret2
  exact ⟨rfl, rfl⟩
set_option maxRecDepth 100000 in
theorem rinverse_24 (w : World) : Calls Try.prog 37 #[.string ⟨#[99, 115, 119, 97, 112]⟩] w fun e w' => e = .returned (.tuple #[.string ⟨#[99, 115, 119, 97, 112]⟩, .int .i64 0]) ∧ w' = w := by
  have A := fun w => rarity_24 w
  go_enter Try.func37, Try.ntmps37
  go_wp2_with (go_at_call 49; (with_reducible refine (A _).mono ?_); rintro e w1 ⟨rfl, rfl⟩)
  go_ret2
  exact ⟨rfl, rfl⟩
set_option maxRecDepth 100000 in
theorem rinverse_miss {s : ByteArray} (H : Miss s) (w : World) : Calls Try.prog 37 #[.string s] w fun e w' => e = .returned (.tuple #[.string ⟨#[]⟩, .int .i64 80]) ∧ w' = w := by
  have A := fun w => rarity_miss H w
  have m0 := H.m0; have m1 := H.m1; have m2 := H.m2; have m3 := H.m3; have m4 := H.m4; have m5 := H.m5; have m6 := H.m6; have m7 := H.m7; have m8 := H.m8; have m9 := H.m9; have m10 := H.m10; have m11 := H.m11; have m12 := H.m12; have m13 := H.m13; have m14 := H.m14; have m15 := H.m15; have m16 := H.m16; have m17 := H.m17; have m18 := H.m18; have m19 := H.m19; have m20 := H.m20; have m21 := H.m21; have m22 := H.m22; have m23 := H.m23; have m24 := H.m24
  clear H
  go_enter Try.func37, Try.ntmps37
  go_wp2_with (go_at_call 49; (with_reducible refine (A _).mono ?_); rintro e w1 ⟨rfl, rfl⟩)
  go_ret2
  exact ⟨rfl, rfl⟩
theorem rinverse_any (s : ByteArray) (w : World) : Calls Try.prog 37 #[.string s] w fun e w' => e = .returned (.tuple #[.string (giv s), .int .i64 (gerr s)]) ∧ w' = w := by
  rcases hit_or_miss s with h | H
  · simp only [nms, List.mem_cons, List.not_mem_nil, or_false] at h
    rcases h with rfl | rfl | rfl | rfl | rfl | rfl | rfl | rfl | rfl | rfl | rfl | rfl | rfl | rfl | rfl | rfl | rfl | rfl | rfl | rfl | rfl | rfl | rfl | rfl | rfl
    · rw [show giv ⟨#[105]⟩ = ⟨#[105]⟩ by kernel_rfl, show gerr ⟨#[105]⟩ = 0 by kernel_rfl]; exact rinverse_0 w
    · rw [show giv ⟨#[120]⟩ = ⟨#[120]⟩ by kernel_rfl, show gerr ⟨#[120]⟩ = 0 by kernel_rfl]; exact rinverse_1 w
    · rw [show giv ⟨#[121]⟩ = ⟨#[121]⟩ by kernel_rfl, show gerr ⟨#[121]⟩ = 0 by kernel_rfl]; exact rinverse_2 w
    · rw [show giv ⟨#[122]⟩ = ⟨#[122]⟩ by kernel_rfl, show gerr ⟨#[122]⟩ = 0 by kernel_rfl]; exact rinverse_3 w
    · rw [show giv ⟨#[104]⟩ = ⟨#[104]⟩ by kernel_rfl, show gerr ⟨#[104]⟩ = 0 by kernel_rfl]; exact rinverse_4 w
    · rw [show giv ⟨#[115]⟩ = ⟨#[115, 100, 103]⟩ by kernel_rfl, show gerr ⟨#[115]⟩ = 0 by kernel_rfl]; exact rinverse_5 w
    · rw [show giv ⟨#[115, 100, 103]⟩ = ⟨#[115]⟩ by kernel_rfl, show gerr ⟨#[115, 100, 103]⟩ = 0 by kernel_rfl]; exact rinverse_6 w
    · rw [show giv ⟨#[116]⟩ = ⟨#[116, 100, 103]⟩ by kernel_rfl, show gerr ⟨#[116]⟩ = 0 by kernel_rfl]; exact rinverse_7 w
    · rw [show giv ⟨#[116, 100, 103]⟩ = ⟨#[116]⟩ by kernel_rfl, show gerr ⟨#[116, 100, 103]⟩ = 0 by kernel_rfl]; exact rinverse_8 w
    · rw [show giv ⟨#[118]⟩ = ⟨#[118, 100, 103]⟩ by kernel_rfl, show gerr ⟨#[118]⟩ = 0 by kernel_rfl]; exact rinverse_9 w
    · rw [show giv ⟨#[118, 100, 103]⟩ = ⟨#[118]⟩ by kernel_rfl, show gerr ⟨#[118, 100, 103]⟩ = 0 by kernel_rfl]; exact rinverse_10 w
    · rw [show giv ⟨#[119]⟩ = ⟨#[119, 100, 103]⟩ by kernel_rfl, show gerr ⟨#[119]⟩ = 0 by kernel_rfl]; exact rinverse_11 w
    · rw [show giv ⟨#[119, 100, 103]⟩ = ⟨#[119]⟩ by kernel_rfl, show gerr ⟨#[119, 100, 103]⟩ = 0 by kernel_rfl]; exact rinverse_12 w
    · rw [show giv ⟨#[99, 120]⟩ = ⟨#[99, 120]⟩ by kernel_rfl, show gerr ⟨#[99, 120]⟩ = 0 by kernel_rfl]; exact rinverse_13 w
    · rw [show giv ⟨#[99, 121]⟩ = ⟨#[99, 121]⟩ by kernel_rfl, show gerr ⟨#[99, 121]⟩ = 0 by kernel_rfl]; exact rinverse_14 w
    · rw [show giv ⟨#[99, 122]⟩ = ⟨#[99, 122]⟩ by kernel_rfl, show gerr ⟨#[99, 122]⟩ = 0 by kernel_rfl]; exact rinverse_15 w
    · rw [show giv ⟨#[99, 104]⟩ = ⟨#[99, 104]⟩ by kernel_rfl, show gerr ⟨#[99, 104]⟩ = 0 by kernel_rfl]; exact rinverse_16 w
    · rw [show giv ⟨#[99, 115]⟩ = ⟨#[99, 115, 100, 103]⟩ by kernel_rfl, show gerr ⟨#[99, 115]⟩ = 0 by kernel_rfl]; exact rinverse_17 w
    · rw [show giv ⟨#[99, 115, 100, 103]⟩ = ⟨#[99, 115]⟩ by kernel_rfl, show gerr ⟨#[99, 115, 100, 103]⟩ = 0 by kernel_rfl]; exact rinverse_18 w
    · rw [show giv ⟨#[115, 119, 97, 112]⟩ = ⟨#[115, 119, 97, 112]⟩ by kernel_rfl, show gerr ⟨#[115, 119, 97, 112]⟩ = 0 by kernel_rfl]; exact rinverse_19 w
    · rw [show giv ⟨#[105, 115, 119, 97, 112]⟩ = ⟨#[105, 115, 119, 97, 112, 100, 103]⟩ by kernel_rfl, show gerr ⟨#[105, 115, 119, 97, 112]⟩ = 0 by kernel_rfl]; exact rinverse_20 w
    · rw [show giv ⟨#[105, 115, 119, 97, 112, 100, 103]⟩ = ⟨#[105, 115, 119, 97, 112]⟩ by kernel_rfl, show gerr ⟨#[105, 115, 119, 97, 112, 100, 103]⟩ = 0 by kernel_rfl]; exact rinverse_21 w
    · rw [show giv ⟨#[99, 99, 120]⟩ = ⟨#[99, 99, 120]⟩ by kernel_rfl, show gerr ⟨#[99, 99, 120]⟩ = 0 by kernel_rfl]; exact rinverse_22 w
    · rw [show giv ⟨#[99, 99, 122]⟩ = ⟨#[99, 99, 122]⟩ by kernel_rfl, show gerr ⟨#[99, 99, 122]⟩ = 0 by kernel_rfl]; exact rinverse_23 w
    · rw [show giv ⟨#[99, 115, 119, 97, 112]⟩ = ⟨#[99, 115, 119, 97, 112]⟩ by kernel_rfl, show gerr ⟨#[99, 115, 119, 97, 112]⟩ = 0 by kernel_rfl]; exact rinverse_24 w
  · have e : giv s = ⟨#[]⟩ := by unfold giv; rw [H.gI]; rfl
    have e2 : gerr s = 80 := by unfold gerr; rw [H.gI]; rfl
    rw [e, e2]
    exact rinverse_miss H w
end Go.Proofs.Ytfaoegiignalkaa
