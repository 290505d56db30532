/-
  Where a name and a number end.
-/
import Derived.Test.YtiepbfeliehjnaaDoorA1
namespace Go.Proofs.YtiepbfeliehjnaaDoor
open Go.RowKit Go.Sort

theorem isN_f {c : Nat} (h : isN c = false) : isL c = false ∧ isD c = false := by simpa [isN] using h
theorem nameEnd_any (s : ByteArray) (i j : Nat) (w : World) (hs : s.size ≤ 9223372036854775807) (h : End isN s i j) :
    Calls Tryd.prog 30 #[.string s, .int .i64 i] w fun e w' => e = .returned (.int .i64 j) ∧ w' = w := by
  have HE : Hid (End isN s i j) := h
  have hij := h.le
  have hjs := h.sz
  clear h
  go_enter Tryd.func30, Tryd.ntmps30
  go_upto_region 1 with (fail)
  go_loop [1] (fun v => ∃ k : Nat, i ≤ k ∧ k ≤ j ∧ v = .int .i64 k) (fun v => j - (intOf v).toNat)
  case atStart => exact ⟨i, by omega, by omega, rfl⟩
  case round =>
    obtain ⟨k, hik, hk, rfl⟩ := hrel
    by_cases hlt : k < j
    · have hks : k < s.size := by omega
      have hb := HE.out.all k hik hlt
      rw [cb_at hks] at hb
      have LA := fun w => letter2_any s[k].toNat w
      have DA := fun w => digit2_any s[k].toNat w
      cases hL : isL s[k].toNat with
      | true =>
        rw [hL] at LA
        clear hb DA hL
        go_wp2_with (go_at_call 29; (with_reducible refine (LA _).mono ?_); rintro e w1 ⟨rfl, rfl⟩)
        go_round
        case rel => exact ⟨k + 1, by omega, by omega, by go_num⟩
        case measure => simp [intOf]; omega
      | false =>
        have hD : isD s[k].toNat = true := by
          rcases isN_p.1 hb with g | g
          · rw [hL] at g; exact absurd g (by decide)
          · exact g
        rw [hL] at LA
        rw [hD] at DA
        clear hb hL hD
        go_wp2_with (first | (go_at_call 29; (with_reducible refine (LA _).mono ?_); rintro e w1 ⟨rfl, rfl⟩) | (go_at_call 31; (with_reducible refine (DA _).mono ?_); rintro e w1 ⟨rfl, rfl⟩))
        go_round
        case rel => exact ⟨k + 1, by omega, by omega, by go_num⟩
        case measure => simp [intOf]; omega
    · obtain rfl : k = j := by omega
      by_cases hks : k < s.size
      · obtain ⟨hL, hD⟩ := isN_f HE.out.no
        rw [cb_at hks] at hL hD
        have LA := fun w => letter2_any s[k].toNat w
        have DA := fun w => digit2_any s[k].toNat w
        rw [hL] at LA
        rw [hD] at DA
        clear hL hD
        go_wp2_with (first | (go_at_call 29; (with_reducible refine (LA _).mono ?_); rintro e w1 ⟨rfl, rfl⟩) | (go_at_call 31; (with_reducible refine (DA _).mono ?_); rintro e w1 ⟨rfl, rfl⟩))
        go_ret
        exact ⟨rfl, rfl⟩
      · go_wp2
        go_ret
        exact ⟨rfl, rfl⟩
theorem numberEnd_any (s : ByteArray) (i j : Nat) (w : World) (hs : s.size ≤ 9223372036854775807) (h : End isD s i j) :
    Calls Tryd.prog 32 #[.string s, .int .i64 i] w fun e w' => e = .returned (.int .i64 j) ∧ w' = w := by
  have HE : Hid (End isD s i j) := h
  have hij := h.le
  have hjs := h.sz
  clear h
  go_enter Tryd.func32, Tryd.ntmps32
  go_upto_region 1 with (fail)
  go_loop [1] (fun v => ∃ k : Nat, i ≤ k ∧ k ≤ j ∧ v = .int .i64 k) (fun v => j - (intOf v).toNat)
  case atStart => exact ⟨i, by omega, by omega, rfl⟩
  case round =>
    obtain ⟨k, hik, hk, rfl⟩ := hrel
    by_cases hlt : k < j
    · have hks : k < s.size := by omega
      have hb := HE.out.all k hik hlt
      rw [cb_at hks] at hb
      have DA := fun w => digit2_any s[k].toNat w
      rw [hb] at DA
      clear hb
      go_wp2_with (go_at_call 31; (with_reducible refine (DA _).mono ?_); rintro e w1 ⟨rfl, rfl⟩)
      go_round
      case rel => exact ⟨k + 1, by omega, by omega, by go_num⟩
      case measure => simp [intOf]; omega
    · obtain rfl : k = j := by omega
      by_cases hks : k < s.size
      · have hD := HE.out.no
        rw [cb_at hks] at hD
        have DA := fun w => digit2_any s[k].toNat w
        rw [hD] at DA
        clear hD
        go_wp2_with (go_at_call 31; (with_reducible refine (DA _).mono ?_); rintro e w1 ⟨rfl, rfl⟩)
        go_ret
        exact ⟨rfl, rfl⟩
      · go_wp2
        go_ret
        exact ⟨rfl, rfl⟩
end Go.Proofs.YtiepbfeliehjnaaDoor
