/-
  What Parse answers, the reference's Parse and the reference's Text.
-/
import Derived.Test.YtcehedlmpnaofaaDoorMath4
import Derived.Test.YtcehedlmpnaofaaDoorRef
namespace Go.Proofs.YtcehedlmpnaofaaDoor
open Go.RowKit

theorem parse_long (s : ByteArray) (w : World) (hs : s.size ≤ 9223372036854775807) (h : 64 < s.size) :
    Calls Tryd.prog 33 #[.string s] w fun e w' => e = .returned (.tuple #[.int .u64 0, .int .i64 0, .int .i64 1]) ∧ w' = w := by
  go_enter Tryd.func33, Tryd.ntmps33
  go_wp2
  go_ret3
  exact ⟨rfl, rfl⟩
theorem rparse_long (s : ByteArray) (w : World) (hs : s.size ≤ 9223372036854775807) (h : 64 < s.size) :
    Calls Tryd.prog 32 #[.string s] w fun e w' => e = .returned (.tuple #[.int .u64 0, .int .i64 0, .int .i64 1]) ∧ w' = w := by
  go_enter Tryd.func32, Tryd.ntmps32
  go_wp2
  go_ret3
  exact ⟨rfl, rfl⟩

theorem prs_small (s : ByteArray) (k : Nat) (hk : k < 64) : prs (dg s) k < 9223372036854775808 :=
  Nat.lt_of_lt_of_le (prs_lt _ (dg_le s) k) (Nat.pow_le_pow_right (n := 2) (by decide) (show k ≤ 63 by omega))

set_option maxHeartbeats 400000 in
theorem parse_good (s : ByteArray) (w : World) (hs : s.size ≤ 64) (hg : Good s) :
    Calls Tryd.prog 33 #[.string s] w fun e w' => e = .returned (.tuple #[.int .u64 (prs (dg s) s.size), .int .i64 s.size, .int .i64 0]) ∧ w' = w := by
  have HG : Hid (Good s) := hg
  clear hg
  go_enter Tryd.func33, Tryd.ntmps33
  go_wp2
  go_loop [5, 12] (fun x i => ∃ k : Nat, k ≤ s.size ∧ i = .int .i64 k ∧ x = .int .u64 (prs (dg s) k)) (fun _ i => s.size - (intOf i).toNat)
  case atStart => exact ⟨0, by omega, rfl, rfl⟩
  case round =>
    obtain ⟨k, hk, rfl, rfl⟩ := hrel
    by_cases hlt : k < s.size
    · have hp := prs_small s k (by omega)
      have hd := dg_at s k hlt
      have HE : Hid (prs (dg s) (k + 1) = 2 * prs (dg s) k + dg s k) := rfl
      have hpu := i_push (prs (dg s) k) (dg s k) hp (dg_le s k)
      rcases HG.out k hlt with hb | hb
      all_goals
        rw [hb] at hd
        rw [hd] at hpu HE
        generalize prs (dg s) k = X at hp hpu HE
        clear hd
        have HPU : Hid _ := hpu
        clear hpu
        go_wp2
        go_round
        case rel => exact ⟨k + 1, by omega, by go_num, by rw [HE.out]; exact congrArg (Value.int .u64) HPU.out⟩
        case measure => simp [intOf]; omega
    · obtain rfl : k = s.size := by omega
      go_wp2
      go_ret3
      exact ⟨rfl, rfl⟩

set_option maxHeartbeats 400000 in
theorem parse_bad (s : ByteArray) (w : World) (hs : s.size ≤ 64) (hg : ¬ Good s) :
    Calls Tryd.prog 33 #[.string s] w fun e w' => e = .returned (.tuple #[.int .u64 0, .int .i64 0, .int .i64 22]) ∧ w' = w := by
  have HG : Hid (¬ Good s) := hg
  clear hg
  go_enter Tryd.func33, Tryd.ntmps33
  go_wp2
  go_loop [5, 12] (fun x i => ∃ k X : Nat, k ≤ s.size ∧ i = .int .i64 k ∧ x = .int .u64 X ∧ X < 2 ^ k ∧ Hid (∀ i (h : i < s.size), i < k → s[i].toNat = 48 ∨ s[i].toNat = 49)) (fun _ i => s.size - (intOf i).toNat)
  case atStart => exact ⟨0, 0, by omega, rfl, rfl, by decide, fun i h h' => by omega⟩
  case round =>
    obtain ⟨k, X, hk, rfl, rfl, hX, hall⟩ := hrel
    by_cases hlt : k < s.size
    · have hX' : X < 9223372036854775808 := Nat.lt_of_lt_of_le hX (Nat.pow_le_pow_right (n := 2) (by decide) (show k ≤ 63 by omega))
      have HX0 : Hid (2 * X + 1 < 2 ^ (k + 1)) := by show _ < _; rw [Nat.pow_succ]; omega
      clear hX
      by_cases h48 : s[k].toNat = 48
      · have HPU : Hid _ := i_push X 0 hX' (by omega)
        have N : Hid (∀ i (h : i < s.size), i < k + 1 → s[i].toNat = 48 ∨ s[i].toNat = 49) := fun i h h' => if e : i < k then hall.out i h e else by
          obtain rfl : i = k := by omega
          exact .inl h48
        go_wp2
        go_round
        case rel => exact ⟨k + 1, 2 * X + 0, by omega, by go_num, congrArg (Value.int .u64) HPU.out, by have := HX0.out; omega, N⟩
        case measure => simp [intOf]; omega
      · by_cases h49 : s[k].toNat = 49
        · have HPU : Hid _ := i_push X 1 hX' (by omega)
          have N : Hid (∀ i (h : i < s.size), i < k + 1 → s[i].toNat = 48 ∨ s[i].toNat = 49) := fun i h h' => if e : i < k then hall.out i h e else by
            obtain rfl : i = k := by omega
            exact .inr h49
          clear h48
          go_wp2
          go_round
          case rel => exact ⟨k + 1, 2 * X + 1, by omega, by go_num, congrArg (Value.int .u64) HPU.out, HX0, N⟩
          case measure => simp [intOf]; omega
        · have h48' : ((s[k].toNat : Int) != 48) = true := by simp; omega
          have h49' : ((s[k].toNat : Int) != 49) = true := by simp; omega
          clear h48 h49
          go_wp2
          go_ret3
          exact ⟨rfl, rfl⟩
    · obtain rfl : k = s.size := by omega
      exact absurd (fun i h => hall.out i h h) HG.out

theorem high_hi {X n : Nat} (h : X < 2 ^ n) : hi X n = 0 := by
  unfold hi; rw [Nat.div_eq_of_lt h]; simp

set_option maxHeartbeats 400000 in
theorem rparse_good (s : ByteArray) (w : World) (hs : s.size ≤ 64) (hg : Good s) :
    Calls Tryd.prog 32 #[.string s] w fun e w' => e = .returned (.tuple #[.int .u64 (prs (dg s) s.size), .int .i64 s.size, .int .i64 0]) ∧ w' = w := by
  have HG : Hid (Good s) := hg
  have hX := prs_lt _ (dg_le s) s.size
  have HX : Hid (prs (dg s) s.size < 2 ^ s.size) := hX
  have hXl : prs (dg s) s.size < 18446744073709551616 := Nat.lt_of_lt_of_le hX (Nat.pow_le_pow_right (n := 2) (by decide) (show s.size ≤ 64 by omega))
  have HBT : Hid (∀ i, i < s.size → bt (prs (dg s) s.size) (s.size - 1 - i) = dg s i) := bt_prs _ (dg_le s) s.size
  generalize prs (dg s) s.size = X at hXl HX HBT
  clear hg hX
  go_enter Tryd.func32, Tryd.ntmps32
  go_wp2
  go_loop [5, 6] (fun x i => ∃ k : Nat, k ≤ s.size ∧ i = .int .i64 k ∧ x = .int .u64 (hi X (s.size - k))) (fun _ i => s.size - (intOf i).toNat)
  case atStart => exact ⟨0, by omega, rfl, by rw [Nat.sub_zero, high_hi HX.out]; rfl⟩
  case round =>
    obtain ⟨k, hk, rfl, rfl⟩ := hrel
    by_cases hlt : k < s.size
    · have hd := dg_at s k hlt
      have hb0 := HBT.out k hlt
      rw [hd] at hb0
      have hst := hi_step X (s.size - 1 - k)
      rw [hb0, show s.size - 1 - k + 1 = s.size - k by omega] at hst
      have hh : hi X (s.size - k) < 18446744073709551616 := Nat.lt_of_le_of_lt (hi_le _ _) hXl
      have hset := fun b w => set_any (hi X (s.size - k)) (s.size - 1 - k) b w hh (by omega)
      have ek : ((s.size - 1 - k : Nat) : Int) = (s.size : Int) - 1 - k := by omega
      have e2 : s.size - (k + 1) = s.size - 1 - k := by omega
      rcases HG.out k hlt with hb | hb
      · rw [hb] at hst
        have HS : ∀ w, Calls Tryd.prog 41 #[.int .u64 (hi X (s.size - k)), .int .i64 ((s.size : Int) - 1 - k), .int .i64 0] w fun e w' => e = .returned (.int .u64 (hi X (s.size - (k + 1)))) ∧ w' = w := fun w => by
          have := hset 0 w
          rw [ek] at this
          rw [e2, ← hst]
          exact this
        clear hset hst hd hb0 ek e2
        go_wp2_with (first
          | (go_at_call 41; with_reducible refine (HS _).mono ?_; rintro e w' ⟨rfl, rfl⟩))
        go_round
        case rel => exact ⟨k + 1, by omega, by go_num, rfl⟩
        case measure => simp [intOf]; omega
      · rw [hb] at hst
        have HS : ∀ w, Calls Tryd.prog 41 #[.int .u64 (hi X (s.size - k)), .int .i64 ((s.size : Int) - 1 - k), .int .i64 1] w fun e w' => e = .returned (.int .u64 (hi X (s.size - (k + 1)))) ∧ w' = w := fun w => by
          have := hset 1 w
          rw [ek] at this
          rw [e2, ← hst]
          exact this
        clear hset hst hd hb0 ek e2
        go_wp2_with (first
          | (go_at_call 41; with_reducible refine (HS _).mono ?_; rintro e w' ⟨rfl, rfl⟩))
        go_round
        case rel => exact ⟨k + 1, by omega, by go_num, rfl⟩
        case measure => simp [intOf]; omega
    · obtain rfl : k = s.size := by omega
      go_wp2
      go_ret3
      exact ⟨ret_intss (by rw [hi_zero]) rfl rfl, rfl⟩

set_option maxHeartbeats 400000 in
theorem rparse_bad (s : ByteArray) (w : World) (hs : s.size ≤ 64) (hg : ¬ Good s) :
    Calls Tryd.prog 32 #[.string s] w fun e w' => e = .returned (.tuple #[.int .u64 0, .int .i64 0, .int .i64 22]) ∧ w' = w := by
  have HG : Hid (¬ Good s) := hg
  clear hg
  go_enter Tryd.func32, Tryd.ntmps32
  go_wp2
  go_loop [5, 6] (fun x i => ∃ k X : Nat, k ≤ s.size ∧ i = .int .i64 k ∧ x = .int .u64 X ∧ X < 18446744073709551616 ∧ Hid (∀ i (h : i < s.size), i < k → s[i].toNat = 48 ∨ s[i].toNat = 49)) (fun _ i => s.size - (intOf i).toNat)
  case atStart => exact ⟨0, 0, by omega, rfl, rfl, by omega, fun i h h' => by omega⟩
  case round =>
    obtain ⟨k, X, hk, rfl, rfl, hX, hall⟩ := hrel
    by_cases hlt : k < s.size
    · have hset : ∀ (b : Nat) w, Calls Tryd.prog 41 #[.int .u64 X, .int .i64 ((s.size : Int) - 1 - k), .int .i64 b] w fun e w' => e = .returned (.int .u64 (setB X (s.size - 1 - k) b)) ∧ w' = w := fun b w => by
        have := set_any X (s.size - 1 - k) b w hX (by omega)
        rwa [show ((s.size - 1 - k : Nat) : Int) = (s.size : Int) - 1 - k by omega] at this
      have hsl : ∀ b, setB X (s.size - 1 - k) b < 18446744073709551616 := fun b => setB_lt hX (by omega)
      by_cases h48 : s[k].toNat = 48
      · have HS : ∀ w, Calls Tryd.prog 41 #[.int .u64 X, .int .i64 ((s.size : Int) - 1 - k), .int .i64 0] w fun e w' => e = .returned (.int .u64 (setB X (s.size - 1 - k) 0)) ∧ w' = w := hset 0
        have HL : Hid (setB X (s.size - 1 - k) 0 < 18446744073709551616) := hsl 0
        have N : Hid (∀ i (h : i < s.size), i < k + 1 → s[i].toNat = 48 ∨ s[i].toNat = 49) := fun i h h' => if e : i < k then hall.out i h e else by
          obtain rfl : i = k := by omega
          exact .inl h48
        clear hset hsl
        go_wp2_with (first
          | (go_at_call 41; with_reducible refine (HS _).mono ?_; rintro e w' ⟨rfl, rfl⟩))
        go_round
        case rel => exact ⟨k + 1, _, by omega, by go_num, rfl, HL, N⟩
        case measure => simp [intOf]; omega
      · by_cases h49 : s[k].toNat = 49
        · have HS : ∀ w, Calls Tryd.prog 41 #[.int .u64 X, .int .i64 ((s.size : Int) - 1 - k), .int .i64 1] w fun e w' => e = .returned (.int .u64 (setB X (s.size - 1 - k) 1)) ∧ w' = w := hset 1
          have HL : Hid (setB X (s.size - 1 - k) 1 < 18446744073709551616) := hsl 1
          have N : Hid (∀ i (h : i < s.size), i < k + 1 → s[i].toNat = 48 ∨ s[i].toNat = 49) := fun i h h' => if e : i < k then hall.out i h e else by
            obtain rfl : i = k := by omega
            exact .inr h49
          clear hset hsl h48
          go_wp2_with (first
            | (go_at_call 41; with_reducible refine (HS _).mono ?_; rintro e w' ⟨rfl, rfl⟩))
          go_round
          case rel => exact ⟨k + 1, _, by omega, by go_num, rfl, HL, N⟩
          case measure => simp [intOf]; omega
        · have h48' : ((s[k].toNat : Int) != 48) = true := by simp; omega
          have h49' : ((s[k].toNat : Int) != 49) = true := by simp; omega
          clear h48 h49 hset hsl
          go_wp2
          go_ret3
          exact ⟨rfl, rfl⟩
    · obtain rfl : k = s.size := by omega
      exact absurd (fun i h => hall.out i h h) HG.out

theorem ret_str {a b : ByteArray} {k : IntKind} {c d : Int} (h : a = b) (g : c = d) : Ending.returned (.tuple #[.string a, .int k c]) = .returned (.tuple #[.string b, .int k d]) := by rw [h, g]

set_option maxHeartbeats 400000 in
theorem rtext_no (x : Nat) (n : Int) (w : World) (hx : x < 18446744073709551616) (h : n < 0 ∨ 64 < n ∨ (0 ≤ n ∧ n ≤ 64 ∧ ¬ x < 2 ^ n.toNat)) :
    Calls Tryd.prog 30 #[.int .u64 x, .int .i64 n] w fun e w' => e = .returned (.tuple #[.string ⟨#[]⟩, .int .i64 2]) ∧ w' = w := by
  rcases h with h | h | ⟨h0, h1, h2⟩
  · go_enter Tryd.func30, Tryd.ntmps30
    go_wp2
    go_ret2
    exact ⟨rfl, rfl⟩
  · have h1 : ¬ n < 0 := by omega
    go_enter Tryd.func30, Tryd.ntmps30
    go_wp2
    go_ret2
    exact ⟨rfl, rfl⟩
  · obtain ⟨m, rfl⟩ : ∃ m : Nat, n = m := ⟨n.toNat, by omega⟩
    simp only [Int.toNat_natCast] at h2
    have HV : Hid (¬ x < 2 ^ m) := h2
    have hm : m ≤ 64 := by omega
    clear h2 h0 h1
    go_enter Tryd.func30, Tryd.ntmps30
    go_wp2
    go_loop [6] (fun i => ∃ k : Nat, k ≤ 64 ∧ m ≤ k ∧ i = .int .i64 k ∧ Hid (∀ j, m ≤ j → j < k → bt x j = 0)) (fun i => 64 - (intOf i).toNat)
    case atStart => exact ⟨m, by omega, by omega, rfl, fun j h1 h2 => by omega⟩
    case round =>
      obtain ⟨k, hk, hnk, rfl, hz⟩ := hrel
      by_cases hlt : k < 64
      · have H1 := fun w => bit_any x k w hx hlt
        by_cases h1 : bt x k = 1
        · rw [h1] at H1
          clear h1
          go_wp2_with (first
            | (go_at_call 39; with_reducible refine (H1 _).mono ?_; rintro e w' ⟨rfl, rfl⟩))
          go_ret2
          exact ⟨rfl, rfl⟩
        · have h0 : bt x k = 0 := by have := bt_le x k; omega
          rw [h0] at H1
          have N : Hid (∀ j, m ≤ j → j < k + 1 → bt x j = 0) := fun j h1 h2 => if h : j < k then hz.out j h1 h else by
            obtain rfl : j = k := by omega
            exact h0
          clear h1 h0
          go_wp2_with (first
            | (go_at_call 39; with_reducible refine (H1 _).mono ?_; rintro e w' ⟨rfl, rfl⟩))
          go_round
          case rel => exact ⟨k + 1, by omega, by omega, by go_num, N⟩
          case measure => simp [intOf]; omega
      · obtain rfl : k = 64 := by omega
        exact absurd (lt_pow_of_bt fun i hi => if h64 : i < 64 then hz.out i hi h64 else bt_big hx (by omega)) HV.out

/-- The first k characters of the text. -/
def txtT (x n k : Nat) : ByteArray := ⟨((txtL x n).take k).toArray⟩
theorem txtT_size (x n k : Nat) (hk : k ≤ n) : (txtT x n k).size = k := by
  show ((txtL x n).take k).toArray.size = k
  rw [List.size_toArray, List.length_take, txtL_len]; omega
theorem txtT_succ (x n k : Nat) (hk : k < n) : txtT x n (k + 1) = txtT x n k ++ ⟨#[UInt8.ofNat (48 + bt x (n - 1 - k))]⟩ := by
  unfold txtT
  rw [take_txt x n k hk]
  exact (ByteArray.mk_append_mk _ [UInt8.ofNat (48 + bt x (n - 1 - k))]).symm
theorem txtT_all (x n : Nat) : txtT x n n = ⟨(txtL x n).toArray⟩ := by
  unfold txtT; rw [List.take_of_length_le (by rw [txtL_len]; exact Nat.le_refl _)]

set_option maxHeartbeats 1000000 in
theorem rtext_any (x n : Nat) (w : World) (hx : x < 18446744073709551616) (hn : n ≤ 64) (hv : x < 2 ^ n) :
    Calls Tryd.prog 30 #[.int .u64 x, .int .i64 n] w fun e w' => e = .returned (.tuple #[.string ⟨(txtL x n).toArray⟩, .int .i64 0]) ∧ w' = w := by
  have HV : Hid (x < 2 ^ n) := hv
  clear hv
  go_enter Tryd.func30, Tryd.ntmps30
  go_wp2
  go_loop [6] (fun i => ∃ k : Nat, k ≤ 64 ∧ n ≤ k ∧ i = .int .i64 k) (fun i => 64 - (intOf i).toNat)
  case atStart => exact ⟨n, by omega, by omega, rfl⟩
  case round =>
    obtain ⟨k, hk, hnk, rfl⟩ := hrel
    by_cases hlt : k < 64
    · have H1 := fun w => bit_any x k w hx hlt
      have hz : bt x k = 0 := bt_zero.2 (Nat.testBit_lt_two_pow (Nat.lt_of_lt_of_le HV.out (Nat.pow_le_pow_right (by decide) hnk)))
      rw [hz] at H1
      clear hz
      go_wp2_with (first
        | (go_at_call 39; with_reducible refine (H1 _).mono ?_; rintro e w' ⟨rfl, rfl⟩))
      go_round
      case rel => exact ⟨k + 1, by omega, by omega, by go_num⟩
      case measure => simp [intOf]; omega
    · go_wp2
      go_loop [7, 8] (fun s i => ∃ j : Nat, j ≤ n ∧ i = .int .i64 ((n : Int) - 1 - j) ∧ s = .string (txtT x n j)) (fun _ i => (intOf i + 1).toNat)
      case atStart => exact ⟨0, by omega, by simp, rfl⟩
      case round =>
        obtain ⟨j, hj, rfl, rfl⟩ := hrel
        have hsz := txtT_size x n j hj
        by_cases hjn : j < n
        · have H1 : ∀ w, Calls Tryd.prog 39 #[.int .u64 x, .int .i64 ((n : Int) - 1 - j)] w fun e w' => e = .returned (.int .i64 (bt x (n - 1 - j))) ∧ w' = w := fun w => by
            have := bit_any x (n - 1 - j) w hx (by omega)
            rwa [show ((n - 1 - j : Nat) : Int) = (n : Int) - 1 - j by omega] at this
          have hsu := txtT_succ x n j hjn
          have hg0 : (0 : Int) ≤ (n : Int) - 1 - j := by omega
          have hadd := fun (w : World) (c : UInt8) => run_string_add_sum (P := Tryd.prog) (w := w) (txtT x n j) ⟨#[c]⟩ (by rw [hsz]; show j + 1 ≤ _; omega)
          by_cases h1 : bt x (n - 1 - j) = 1
          · rw [h1] at H1 hsu
            have HSU : Hid (txtT x n (j + 1) = txtT x n j ++ ⟨#[49]⟩) := hsu
            clear h1 hsu
            generalize txtT x n j = T at hadd HSU hsz
            go_wp2_with (first
              | (go_at_call 39; with_reducible refine (H1 _).mono ?_; rintro e w' ⟨rfl, rfl⟩))
            go_round
            case rel => exact ⟨j + 1, by omega, by simp; omega, by rw [HSU.out]⟩
            case measure => simp [intOf]; omega
          · have h0 : bt x (n - 1 - j) = 0 := by have := bt_le x (n - 1 - j); omega
            rw [h0] at H1 hsu
            have HSU : Hid (txtT x n (j + 1) = txtT x n j ++ ⟨#[48]⟩) := hsu
            clear h1 h0 hsu
            generalize txtT x n j = T at hadd HSU hsz
            go_wp2_with (first
              | (go_at_call 39; with_reducible refine (H1 _).mono ?_; rintro e w' ⟨rfl, rfl⟩))
            go_round
            case rel => exact ⟨j + 1, by omega, by simp; omega, by rw [HSU.out]⟩
            case measure => simp [intOf]; omega
        · have hg0 : ¬ (0 : Int) ≤ (n : Int) - 1 - j := by omega
          obtain rfl : j = n := by omega
          go_wp2
          go_ret2
          exact ⟨ret_str (txtT_all x j) rfl, rfl⟩
end Go.Proofs.YtcehedlmpnaofaaDoor
