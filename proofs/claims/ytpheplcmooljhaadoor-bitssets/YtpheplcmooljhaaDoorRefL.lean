/-
  What the reference's Places, Pick and Put answer.
-/
import Derived.Test.YtpheplcmooljhaaDoorList
import Derived.Test.YtpheplcmooljhaaDoorRef
namespace Go.Proofs.YtpheplcmooljhaaDoor
open Go.RowKit

theorem rplaces_long (a : Option Addr) (n cap : Nat) (w : World) (hn : n ≤ 9223372036854775807) (h : 64 < n) :
    Calls Tryd.prog 45 #[.slice a n cap] w fun e w' => e = .returned (.bool false) ∧ ∃ m, w' = w.drewN m := by
  go_enter Tryd.func45, Tryd.ntmps45
  go_wp2
  go_ret
  exact ⟨rfl, 0, rfl⟩

set_option maxHeartbeats 1000000 in
theorem rplaces_short (a : Option Addr) (p : Nat → Int) (n cap : Nat) (w : World) (r : Bool) (hn : n ≤ 64) (hr : Row a p n w) (hb : r = true ↔ Plc p n) :
    Calls Tryd.prog 45 #[.slice a n cap] w fun e w' => e = .returned (.bool r) ∧ ∃ m, w' = w.drewN m := by
  have HB : Hid (r = true ↔ Plc p n) := hb
  have HR : Hid (Row a p n w) := hr
  clear hb hr
  have HF : Hid (¬ Plc p n → r = false) := fun h => by
    cases r
    · rfl
    · exact absurd (HB.out.1 rfl) h
  go_enter Tryd.func45, Tryd.ntmps45
  go_wp2
  go_loopw [3] (fun i wr => ∃ k m : Nat, k ≤ n ∧ i = .int .i64 k ∧ Hid (wr = w.drewN m) ∧ Hid (Plc p k)) (fun i _ => n - (intOf i).toNat)
  case atStart => exact ⟨0, 0, by omega, rfl, rfl, Plc.zero p⟩
  case round =>
    obtain ⟨k, m, hk, rfl, hw, hp⟩ := hrel
    by_cases hlt : k < n
    · obtain ⟨b, off, rfl, hc0⟩ := HR.out.at_ k hlt
      have hc : wr.cell? ⟨b, off + k, none⟩ = some (.int .i64 (p k)) := by rw [hw.out]; simpa using hc0
      clear hc0
      by_cases h1 : p k < 0
      · have F : Hid (r = false) := HF.out fun h => by have := (h k hlt).1; omega
        go_wp2
        go_ret
        exact ⟨by rw [F.out]; rfl, m, hw⟩
      · by_cases h2 : p k > 63
        · have F : Hid (r = false) := HF.out fun h => by have := (h k hlt).2.1; omega
          go_wp2
          go_ret
          exact ⟨by rw [F.out]; rfl, m, hw⟩
        · go_wp2
          go_loopw [4] (fun i ws => ∃ j m' : Nat, j ≤ k ∧ i = .int .i64 j ∧ Hid (ws = w.drewN m') ∧ Hid (∀ t, t < j → p t ≠ p k)) (fun i _ => k - (intOf i).toNat)
          case atStart => exact ⟨0, m, by omega, rfl, hw, fun t ht => by omega⟩
          case round =>
            obtain ⟨j, m', hj, rfl, hw', hne⟩ := hrel
            have hck : wr.cell? ⟨b, off + k, none⟩ = some (.int .i64 (p k)) := by
              obtain ⟨b', off', e, hc'⟩ := HR.out.at_ k hlt
              cases e
              rw [hw'.out]; simpa using hc'
            by_cases hjk : j < k
            · have hcj : wr.cell? ⟨b, off + j, none⟩ = some (.int .i64 (p j)) := by
                obtain ⟨b', off', e, hc'⟩ := HR.out.at_ j (by omega)
                cases e
                rw [hw'.out]; simpa using hc'
              by_cases heq : p j = p k
              · have F : Hid (r = false) := HF.out fun h => (h k hlt).2.2 j hjk heq
                have hd : (p j == p k) = true := by simp [heq]
                clear heq
                go_wp2
                go_quiet (fail)
                go_wp2
                go_ret
                exact ⟨by rw [F.out]; rfl, _, by rw [hw'.out]; exact drewN_two _ _ _⟩
              · have hd : (p j == p k) = false := by simp [heq]
                have N : Hid (∀ t, t < j + 1 → p t ≠ p k) := fun t ht => if h : t < j then hne.out t h else by
                  obtain rfl : t = j := by omega
                  exact heq
                clear heq
                go_wp2
                go_quiet (fail)
                go_wp2
                go_roundw
                case rel => exact ⟨j + 1, m' + nq, by omega, by go_num, by show _ = _; rw [hw'.out]; exact drewN_two _ _ _, N⟩
                case measure => simp [intOf]; omega
            · obtain rfl : j = k := by omega
              go_wp2
              go_roundw
              case rel => exact ⟨j + 1, m', by omega, by go_num, hw', hp.out.succ (by omega) (by omega) hne.out⟩
              case measure => simp [intOf]; omega
    · obtain rfl : k = n := by omega
      go_wp2
      go_ret
      exact ⟨by rw [HB.out.2 hp.out]; rfl, m, hw⟩

theorem rplaces_any (a : Option Addr) (p : Nat → Int) (n cap : Nat) (w : World) (r : Bool) (hn : n ≤ 9223372036854775807) (hr : Row a p n w) (hb : r = true ↔ Plc p n) :
    Calls Tryd.prog 45 #[.slice a n cap] w fun e w' => e = .returned (.bool r) ∧ ∃ m, w' = w.drewN m := by
  by_cases h : 64 < n
  · have : r = false := by
      cases r
      · rfl
      · have := (hb.1 rfl).len; omega
    subst this
    exact rplaces_long a n cap w hn h
  · exact rplaces_short a p n cap w r (by omega) hr hb

theorem rpick_no (x : Nat) (a : Option Addr) (p : Nat → Int) (n cap : Nat) (w : World) (hn : n ≤ 9223372036854775807) (hr : Row a p n w) (hp : ¬ Plc p n) :
    Calls Tryd.prog 26 #[.int .u64 x, .slice a n cap] w fun e w' => e = .returned (.tuple #[.int .u64 0, .int .i64 2]) ∧ ∃ m, w' = w.drewN m := by
  have HA := rplaces_any a p n cap w false hn hr (by simp [hp])
  have HP : Hid (¬ Plc p n) := hp
  have HR : Hid (Row a p n w) := hr
  clear hp hr
  go_enter Tryd.func26, Tryd.ntmps26
  go_wp2_with (first
    | (go_at_call 45; with_reducible refine HA.mono ?_; rintro e w' ⟨rfl, m, rfl⟩))
  go_ret2
  exact ⟨rfl, _, rfl⟩

set_option maxHeartbeats 400000 in
theorem rpick_any (x : Nat) (a : Option Addr) (p : Nat → Int) (n cap : Nat) (w : World) (hx : x < 18446744073709551616) (hr : Row a p n w) (hp : Plc p n) :
    Calls Tryd.prog 26 #[.int .u64 x, .slice a n cap] w fun e w' => e = .returned (.tuple #[.int .u64 (pickN x p n), .int .i64 0]) ∧ ∃ m, w' = w.drewN m := by
  have hn := hp.len
  have HA := rplaces_any a p n cap w true (by omega) hr (by simp [hp])
  have HP : Hid (Plc p n) := hp
  have HR : Hid (Row a p n w) := hr
  clear hp hr
  go_enter Tryd.func26, Tryd.ntmps26
  go_wp2_with (first
    | (go_at_call 45; with_reducible refine HA.mono ?_; rintro e w' ⟨rfl, m, rfl⟩))
  clear HA
  have HR1 : Hid (Row a p n (w.drewN m)) := HR.out.drewN m
  obtain ⟨w1, hw1⟩ : ∃ w1, w1 = w.drewN m := ⟨_, rfl⟩
  rw [← hw1] at HR1
  rw [← hw1]
  have HW : Hid (w1 = w.drewN m) := hw1
  clear hw1
  go_loop [6, 7] (fun v i => ∃ k : Nat, k ≤ n ∧ i = .int .i64 k ∧ v = .int .u64 (pickN x p k)) (fun _ i => n - (intOf i).toNat)
  case atStart => exact ⟨0, by omega, rfl, rfl⟩
  case round =>
    obtain ⟨k, hk, rfl, rfl⟩ := hrel
    by_cases hlt : k < n
    · obtain ⟨b, off, rfl, hc⟩ := HR1.out.at_ k hlt
      have hpk := HP.out k hlt
      have h0 := hpk.1
      have hl := pickN_lt x p (k := k) (by omega)
      have hs := fun w => set_any (pickN x p k) k (bt x (p k).toNat) w hl (by omega)
      have HB : ∀ w, Calls Tryd.prog 39 #[.int .u64 x, .int .i64 (p k)] w fun e w' => e = .returned (.int .i64 (bt x (p k).toNat)) ∧ w' = w := fun w => by
        have := bit_any x (p k).toNat w hx (by omega)
        rwa [Int.toNat_of_nonneg h0] at this
      have HE : Hid (pickN x p (k + 1) = setB (pickN x p k) k (bt x (p k).toNat)) := rfl
      clear hpk h0
      generalize bt x (p k).toNat = B at hs HB HE
      go_wp2_with (first
        | (go_at_call 39; with_reducible refine (HB _).mono ?_; rintro e w' ⟨rfl, rfl⟩)
        | (go_at_call 41; with_reducible refine (hs _).mono ?_; rintro e w' ⟨rfl, rfl⟩))
      go_round
      case rel => exact ⟨k + 1, by omega, by go_num, by rw [HE.out]⟩
      case measure => simp [intOf]; omega
    · obtain rfl : k = n := by omega
      go_wp2
      go_ret2
      exact ⟨rfl, _, HW⟩

theorem rput_no (x v : Nat) (a : Option Addr) (p : Nat → Int) (n cap : Nat) (w : World) (hn : n ≤ 9223372036854775807) (hr : Row a p n w) (hp : ¬ Plc p n) :
    Calls Tryd.prog 28 #[.int .u64 x, .slice a n cap, .int .u64 v] w fun e w' => e = .returned (.tuple #[.int .u64 0, .int .i64 2]) ∧ ∃ m, w' = w.drewN m := by
  have HA := rplaces_any a p n cap w false hn hr (by simp [hp])
  have HP : Hid (¬ Plc p n) := hp
  have HR : Hid (Row a p n w) := hr
  clear hp hr
  go_enter Tryd.func28, Tryd.ntmps28
  go_wp2_with (first
    | (go_at_call 45; with_reducible refine HA.mono ?_; rintro e w' ⟨rfl, m, rfl⟩))
  go_ret2
  exact ⟨rfl, _, rfl⟩

theorem high_of {v n : Nat} (hv : v < 18446744073709551616) (h : ∀ j, n ≤ j → j < 64 → bt v j = 0) : v < 2 ^ n :=
  lt_pow_of_bt fun i hi => if h64 : i < 64 then h i hi h64 else bt_big hv (by omega)
theorem low_of {v n j : Nat} (hv : v < 2 ^ n) (hj : n ≤ j) : bt v j = 0 :=
  bt_zero.2 (Nat.testBit_lt_two_pow (Nat.lt_of_lt_of_le hv (Nat.pow_le_pow_right (by decide) hj)))

set_option maxHeartbeats 400000 in
theorem rput_high (x v : Nat) (a : Option Addr) (p : Nat → Int) (n cap : Nat) (w : World) (hvl : v < 18446744073709551616) (hr : Row a p n w) (hp : Plc p n) (hv : ¬ v < 2 ^ n) :
    Calls Tryd.prog 28 #[.int .u64 x, .slice a n cap, .int .u64 v] w fun e w' => e = .returned (.tuple #[.int .u64 0, .int .i64 2]) ∧ ∃ m, w' = w.drewN m := by
  have hn := hp.len
  have HA := rplaces_any a p n cap w true (by omega) hr (by simp [hp])
  have HV : Hid (¬ v < 2 ^ n) := hv
  clear hp hr hv
  go_enter Tryd.func28, Tryd.ntmps28
  go_wp2_with (first
    | (go_at_call 45; with_reducible refine HA.mono ?_; rintro e w' ⟨rfl, m, rfl⟩))
  clear HA
  obtain ⟨w1, hw1⟩ : ∃ w1, w1 = w.drewN m := ⟨_, rfl⟩
  rw [← hw1]
  have HW : Hid (w1 = w.drewN m) := hw1
  clear hw1
  go_loop [8] (fun i => ∃ k : Nat, k ≤ 64 ∧ n ≤ k ∧ i = .int .i64 k ∧ Hid (∀ j, n ≤ j → j < k → bt v j = 0)) (fun i => 64 - (intOf i).toNat)
  case atStart => exact ⟨n, by omega, by omega, rfl, fun j h1 h2 => by omega⟩
  case round =>
    obtain ⟨k, hk, hnk, rfl, hz⟩ := hrel
    by_cases hlt : k < 64
    · have H1 := fun w => bit_any v k w hvl hlt
      by_cases h1 : bt v k = 1
      · rw [h1] at H1
        clear h1
        go_wp2_with (first
          | (go_at_call 39; with_reducible refine (H1 _).mono ?_; rintro e w' ⟨rfl, rfl⟩))
        go_ret2
        exact ⟨rfl, _, HW⟩
      · have h0 : bt v k = 0 := by have := bt_le v k; omega
        rw [h0] at H1
        have N : Hid (∀ j, n ≤ j → j < k + 1 → bt v j = 0) := fun j h1 h2 => if h : j < k then hz.out j h1 h else by
          obtain rfl : j = k := by omega
          exact h0
        clear h1 h0
        go_wp2_with (first
          | (go_at_call 39; with_reducible refine (H1 _).mono ?_; rintro e w' ⟨rfl, rfl⟩))
        go_round
        case rel => exact ⟨k + 1, by omega, by omega, by go_num, N⟩
        case measure => simp [intOf]; omega
    · obtain rfl : k = 64 := by omega
      exact absurd (high_of hvl hz.out) HV.out

set_option maxHeartbeats 1000000 in
theorem rput_any (x v : Nat) (a : Option Addr) (p : Nat → Int) (n cap : Nat) (w : World) (hx : x < 18446744073709551616) (hvl : v < 18446744073709551616) (hr : Row a p n w) (hp : Plc p n) (hv : v < 2 ^ n) :
    Calls Tryd.prog 28 #[.int .u64 x, .slice a n cap, .int .u64 v] w fun e w' => e = .returned (.tuple #[.int .u64 (putN v p x n), .int .i64 0]) ∧ ∃ m, w' = w.drewN m := by
  have hn := hp.len
  have HA := rplaces_any a p n cap w true (by omega) hr (by simp [hp])
  have HV : Hid (v < 2 ^ n) := hv
  have HP : Hid (Plc p n) := hp
  have HR : Hid (Row a p n w) := hr
  clear hp hr hv
  go_enter Tryd.func28, Tryd.ntmps28
  go_wp2_with (first
    | (go_at_call 45; with_reducible refine HA.mono ?_; rintro e w' ⟨rfl, m, rfl⟩))
  clear HA
  have HR1 : Hid (Row a p n (w.drewN m)) := HR.out.drewN m
  obtain ⟨w1, hw1⟩ : ∃ w1, w1 = w.drewN m := ⟨_, rfl⟩
  rw [← hw1] at HR1
  rw [← hw1]
  have HW : Hid (w1 = w.drewN m) := hw1
  clear hw1
  go_loop [8] (fun i => ∃ k : Nat, k ≤ 64 ∧ n ≤ k ∧ i = .int .i64 k) (fun i => 64 - (intOf i).toNat)
  case atStart => exact ⟨n, by omega, by omega, rfl⟩
  case round =>
    obtain ⟨k, hk, hnk, rfl⟩ := hrel
    by_cases hlt : k < 64
    · have H1 := fun w => bit_any v k w hvl hlt
      rw [low_of HV.out hnk] at H1
      go_wp2_with (first
        | (go_at_call 39; with_reducible refine (H1 _).mono ?_; rintro e w' ⟨rfl, rfl⟩))
      go_round
      case rel => exact ⟨k + 1, by omega, by omega, by go_num⟩
      case measure => simp [intOf]; omega
    · go_wp2
      go_loopw [0, 9] (fun x' i wr => ∃ j m' : Nat, j ≤ n ∧ i = .int .i64 j ∧ x' = .int .u64 (putN v p x j) ∧ Hid (wr = w1.drewN m')) (fun _ i _ => n - (intOf i).toNat)
      case atStart => exact ⟨0, 0, by omega, rfl, rfl, rfl⟩
      case round =>
        obtain ⟨j, m', hj, rfl, rfl, hw'⟩ := hrel
        by_cases hjn : j < n
        · obtain ⟨b, off, rfl, hc0⟩ := HR1.out.at_ j hjn
          have hc : wr.cell? ⟨b, off + j, none⟩ = some (.int .i64 (p j)) := by rw [hw'.out]; simpa using hc0
          clear hc0
          have hpk := HP.out j hjn
          have h0 := hpk.1
          have hl : putN v p x j < 18446744073709551616 := putN_lt hx (HP.out.mono hj)
          have HB := fun w => bit_any v j w hvl (by omega)
          have HS : ∀ w, Calls Tryd.prog 41 #[.int .u64 (putN v p x j), .int .i64 (p j), .int .i64 (bt v j)] w fun e w' => e = .returned (.int .u64 (setB (putN v p x j) (p j).toNat (bt v j))) ∧ w' = w := fun w => by
            have := set_any (putN v p x j) (p j).toNat (bt v j) w hl (by omega)
            rwa [Int.toNat_of_nonneg h0] at this
          have HE : Hid (putN v p x (j + 1) = setB (putN v p x j) (p j).toNat (bt v j)) := rfl
          clear hpk h0
          generalize setB (putN v p x j) (p j).toNat (bt v j) = Y at HS HE
          generalize bt v j = B at HB HS
          go_wp2
          go_quiet ((first | (go_at_call 39; exact Calls.quiet_of_same (HB _)) | (go_at_call 41; exact Calls.quiet_of_same (HS _))))
          go_wp2
          go_roundw
          case rel => exact ⟨j + 1, m' + nq, by omega, by go_num, by rw [HE.out], by show _ = _; rw [hw'.out]; exact drewN_two _ _ _⟩
          case measure => simp [intOf]; omega
        · obtain rfl : j = n := by omega
          go_wp2
          go_ret2
          exact ⟨rfl, m + m', by rw [hw'.out, HW.out]; exact drewN_two _ _ _⟩
end Go.Proofs.YtpheplcmooljhaaDoor
