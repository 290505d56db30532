/-
  The kinds of bytes, as the program and the reference ask for them.
-/
import Derived.Test.YtiepbfeliehjnaaDoorM1
import Derived.WalkKit
import Derived.BigQuiet
import Derived.Deep.QuietTactic
import Derived.Deep.RegionHeld3
import Derived.Lib.QuietBelow
import Derived.Deep.CutRange
import Derived.Maps.AppendAt
import Derived.OwnWalk
import Derived.Lib.SmallJoins
namespace Go.Proofs.YtiepbfeliehjnaaDoor
open Go.RowKit Go.Sort

theorem ret_b {a b : Bool} (h : a = true ↔ b = true) : Ending.returned (.bool a) = .returned (.bool b) := by rw [Bool.eq_iff_iff.2 h]
theorem letter_any (c : Nat) (w : World) : Calls Tryd.prog 36 #[.int .u8 c] w fun e w' => e = .returned (.bool (isL c)) ∧ w' = w := by
  go_enter Tryd.func36, Tryd.ntmps36
  go_wp2
  all_goals
    go_ret
    refine ⟨ret_b ?_, rfl⟩
    rw [isL_p]
    simp
    try omega
theorem letter2_any (c : Nat) (w : World) : Calls Tryd.prog 29 #[.int .u8 c] w fun e w' => e = .returned (.bool (isL c)) ∧ w' = w := by
  go_enter Tryd.func29, Tryd.ntmps29
  go_wp2
  all_goals
    go_ret
    refine ⟨ret_b ?_, rfl⟩
    rw [isL_p]
    simp
    try omega
theorem digit_any (c : Nat) (w : World) : Calls Tryd.prog 37 #[.int .u8 c] w fun e w' => e = .returned (.bool (isD c)) ∧ w' = w := by
  go_enter Tryd.func37, Tryd.ntmps37
  go_wp2
  all_goals
    go_ret
    refine ⟨ret_b ?_, rfl⟩
    rw [isD_p]
    simp
    try omega
theorem digit2_any (c : Nat) (w : World) : Calls Tryd.prog 31 #[.int .u8 c] w fun e w' => e = .returned (.bool (isD c)) ∧ w' = w := by
  go_enter Tryd.func31, Tryd.ntmps31
  go_wp2
  all_goals
    go_ret
    refine ⟨ret_b ?_, rfl⟩
    rw [isD_p]
    simp
    try omega
theorem blank_any (c : Nat) (w : World) : Calls Tryd.prog 35 #[.int .u8 c] w fun e w' => e = .returned (.bool (isB c)) ∧ w' = w := by
  go_enter Tryd.func35, Tryd.ntmps35
  go_wp2
  all_goals
    go_ret
    refine ⟨ret_b ?_, rfl⟩
    rw [isB_p]
    simp
    try omega
theorem blank2_any (c : Nat) (w : World) : Calls Tryd.prog 28 #[.int .u8 c] w fun e w' => e = .returned (.bool (isB c)) ∧ w' = w := by
  go_enter Tryd.func28, Tryd.ntmps28
  go_wp2
  all_goals
    go_ret
    refine ⟨ret_b ?_, rfl⟩
    rw [isB_p]
    simp
    try omega
theorem sign_any (c : Nat) (w : World) : Calls Tryd.prog 38 #[.int .u8 c] w fun e w' => e = .returned (.bool (isS c)) ∧ w' = w := by
  go_enter Tryd.func38, Tryd.ntmps38
  go_wp2
  all_goals
    go_ret
    refine ⟨ret_b ?_, rfl⟩
    rw [isS_p]
    simp
    try omega
theorem sign2_any (c : Nat) (w : World) : Calls Tryd.prog 33 #[.int .u8 c] w fun e w' => e = .returned (.bool (isS c)) ∧ w' = w := by
  have e := isS_p (c := c)
  by_cases h1 : c = 123
  · subst h1; go_enter Tryd.func33, Tryd.ntmps33; go_wp2; go_ret; exact ⟨rfl, rfl⟩
  by_cases h2 : c = 125
  · subst h2; go_enter Tryd.func33, Tryd.ntmps33; go_wp2; go_ret; exact ⟨rfl, rfl⟩
  by_cases h3 : c = 91
  · subst h3; go_enter Tryd.func33, Tryd.ntmps33; go_wp2; go_ret; exact ⟨rfl, rfl⟩
  by_cases h4 : c = 93
  · subst h4; go_enter Tryd.func33, Tryd.ntmps33; go_wp2; go_ret; exact ⟨rfl, rfl⟩
  by_cases h5 : c = 59
  · subst h5; go_enter Tryd.func33, Tryd.ntmps33; go_wp2; go_ret; exact ⟨rfl, rfl⟩
  by_cases h6 : c = 44
  · subst h6; go_enter Tryd.func33, Tryd.ntmps33; go_wp2; go_ret; exact ⟨rfl, rfl⟩
  have e' : isS c = false := fls (by rw [e]; omega)
  rw [e']
  have k1 : ((c : Int) == 123) = false := by simp; omega
  have k2 : ((c : Int) == 125) = false := by simp; omega
  have k3 : ((c : Int) == 91) = false := by simp; omega
  have k4 : ((c : Int) == 93) = false := by simp; omega
  have k5 : ((c : Int) == 59) = false := by simp; omega
  have k6 : ((c : Int) == 44) = false := by simp; omega
  clear e e' h1 h2 h3 h4 h5 h6
  go_enter Tryd.func33, Tryd.ntmps33
  go_wp2
  go_ret
  exact ⟨rfl, rfl⟩
end Go.Proofs.YtiepbfeliehjnaaDoor
