/-
  What the law's reference answers: Count, Parity, Low, Gray, Ungray, Close, Swap, Open, bit by bit.
-/
import Derived.Test.YtpheplcmooljhaaDoorSmall
import Derived.Test.YtpheplcmooljhaaDoorMath2
namespace Go.Proofs.YtpheplcmooljhaaDoor
open Go.RowKit

set_option maxHeartbeats 400000 in
theorem rcount_any (x : Nat) (w : World) (hx : x < 18446744073709551616) :
    Calls Tryd.prog 11 #[.int .u64 x] w fun e w' => e = .returned (.int .i64 (pop 64 x)) ∧ w' = w := by
  go_enter Tryd.func11, Tryd.ntmps11
  go_wp2
  go_loop [3, 4] (fun n i => ∃ k : Nat, k ≤ 64 ∧ i = .int .i64 k ∧ n = .int .i64 (pop k x)) (fun _ i => 64 - (intOf i).toNat)
  case atStart => exact ⟨0, by omega, rfl, rfl⟩
  case round =>
    obtain ⟨k, hk, rfl, rfl⟩ := hrel
    have hp := pop_le k x
    have hb := bt_le x k
    by_cases hlt : k < 64
    · go_wp2_with (go_at_call 39; refine (bit_any _ _ _ hx hlt).mono ?_; rintro e w' ⟨rfl, rfl⟩)
      go_round
      case rel => exact ⟨k + 1, by omega, by go_num, by simp only [pop]; go_num⟩
      case measure => simp [intOf]; omega
    · obtain rfl : k = 64 := by omega
      go_wp2
      go_ret
      exact ⟨rfl, rfl⟩

theorem rparity_any (x : Nat) (w : World) (hx : x < 18446744073709551616) :
    Calls Tryd.prog 13 #[.int .u64 x] w fun e w' => e = .returned (.int .i64 ((pop 64 x % 2 : Nat) : Int)) ∧ w' = w := by
  have hp := pop_le 64 x
  go_enter Tryd.func13, Tryd.ntmps13
  go_wp2_with (go_at_call 11; refine (rcount_any _ _ hx).mono ?_; rintro e w' ⟨rfl, rfl⟩)
  go_ret
  exact ⟨ret_int (by omega), rfl⟩

set_option maxHeartbeats 400000 in
theorem rlow_any (x : Nat) (w : World) (hx : x < 18446744073709551616) :
    Calls Tryd.prog 15 #[.int .u64 x] w fun e w' => e = .returned (.int .i64 (Lib.ctz 64 x)) ∧ w' = w := by
  go_enter Tryd.func15, Tryd.ntmps15
  go_wp2
  go_loop [3] (fun i => ∃ k : Nat, k ≤ 64 ∧ i = .int .i64 k ∧ Hid (∀ i, i < k → bt x i = 0)) (fun i => 64 - (intOf i).toNat)
  case atStart => exact ⟨0, by omega, rfl, fun i hi => by omega⟩
  case round =>
    obtain ⟨k, hk, rfl, hall⟩ := hrel
    have hb := bt_le x k
    by_cases hlt : k < 64
    · by_cases h1 : bt x k = 1
      · have H1 := fun w => bit_any x k w hx hlt
        rw [h1] at H1
        have HH : Hid (bt x k = 1) := h1
        clear h1 hb
        go_wp2_with (go_at_call 39; with_reducible refine (H1 _).mono ?_; rintro e w' ⟨rfl, rfl⟩)
        go_ret
        exact ⟨ret_int (by rw [ctz_is hx hall HH.out]), rfl⟩
      · have h0 : bt x k = 0 := by omega
        have H1 := fun w => bit_any x k w hx hlt
        rw [h0] at H1
        have HH : Hid (bt x k = 0) := h0
        clear h0 h1 hb
        go_wp2_with (go_at_call 39; with_reducible refine (H1 _).mono ?_; rintro e w' ⟨rfl, rfl⟩)
        go_round
        case rel => exact ⟨k + 1, by omega, by go_num, fun i hi => if h : i < k then hall i h else by
                          obtain rfl : i = k := by omega
                          exact HH⟩
        case measure => simp [intOf]; omega
    · obtain rfl : k = 64 := by omega
      go_wp2
      go_ret
      exact ⟨ret_int (by rw [ctz_none hx hall]; rfl), rfl⟩

set_option maxHeartbeats 400000 in
theorem rgray_any (x : Nat) (w : World) (hx : x < 18446744073709551616) :
    Calls Tryd.prog 17 #[.int .u64 x] w fun e w' => e = .returned (.int .u64 (grayN x)) ∧ w' = w := by
  go_enter Tryd.func17, Tryd.ntmps17
  go_wp2
  go_loop [3, 4] (fun v i => ∃ k : Nat, k ≤ 64 ∧ i = .int .i64 k ∧ v = .int .u64 (mk (fun i => (bt x i + bt x (i + 1)) % 2) k)) (fun _ i => 64 - (intOf i).toNat)
  case atStart => exact ⟨0, by omega, rfl, rfl⟩
  case round =>
    obtain ⟨k, hk, rfl, rfl⟩ := hrel
    have hl := mk_lt (fun i => (bt x i + bt x (i + 1)) % 2) k hk
    by_cases hlt : k < 64
    · have hs := fun b w => set_any (mk (fun i => (bt x i + bt x (i + 1)) % 2) k) k b w hl hlt
      have HM : Hid (mk (fun i => (bt x i + bt x (i + 1)) % 2) (k + 1) = setB (mk (fun i => (bt x i + bt x (i + 1)) % 2) k) k ((bt x k + bt x (k + 1)) % 2)) := rfl
      generalize mk (fun i => (bt x i + bt x (i + 1)) % 2) k = V at hl hs HM
      have hb := bt_le x k
      have hb1 := bt_le x (k + 1)
      have H1 := fun w => bit_any x k w hx hlt
      by_cases h63 : k < 63
      · have H2 : ∀ w, Calls Tryd.prog 39 #[.int .u64 x, .int .i64 ((k : Int) + 1)] w fun e w' => e = .returned (.int .i64 (bt x (k + 1))) ∧ w' = w := fun w => bit_any x (k + 1) w hx (by omega)
        have hs1 : ∀ w, Calls Tryd.prog 41 #[.int .u64 V, .int .i64 k, .int .i64 (((bt x k : Int) + (bt x (k + 1) : Int)) % 2)] w fun e w' => e = .returned (.int .u64 (setB V k ((bt x k + bt x (k + 1)) % 2))) ∧ w' = w := fun w => by have := hs ((bt x k + bt x (k + 1)) % 2) w; simpa using this
        clear hs
        go_wp2_with (first
          | (go_at_call 39; with_reducible refine (H1 _).mono ?_; rintro e w' ⟨rfl, rfl⟩)
          | (go_at_call 39; with_reducible refine (H2 _).mono ?_; rintro e w' ⟨rfl, rfl⟩)
          | (go_at_call 41; with_reducible refine (hs1 _).mono ?_; rintro e w' ⟨rfl, rfl⟩))
        go_round
        case rel => exact ⟨k + 1, by omega, by go_num, by rw [HM.out]⟩
        case measure => simp [intOf]; omega
      · obtain rfl : k = 63 := by omega
        have e : bt x (63 + 1) = 0 := bt_big hx (by omega)
        have hs1 : ∀ w, Calls Tryd.prog 41 #[.int .u64 V, .int .i64 63, .int .i64 (bt x 63)] w fun e w' => e = .returned (.int .u64 (setB V 63 (bt x 63))) ∧ w' = w := hs (bt x 63)
        replace H1 : ∀ w, Calls Tryd.prog 39 #[.int .u64 x, .int .i64 63] w fun e w' => e = .returned (.int .i64 (bt x 63)) ∧ w' = w := H1
        have e2 : (bt x 63 + bt x (63 + 1)) % 2 = bt x 63 := by rw [e]; omega
        rw [e2] at HM
        clear hs e e2 hb1
        go_wp2_with (first
          | (go_at_call 39; with_reducible refine (H1 _).mono ?_; rintro e w' ⟨rfl, rfl⟩)
          | (go_at_call 41; with_reducible refine (hs1 _).mono ?_; rintro e w' ⟨rfl, rfl⟩))
        go_round
        case rel => exact ⟨64, by omega, by go_num, by rw [← HM.out]⟩
        case measure => simp [intOf]
    · obtain rfl : k = 64 := by omega
      go_wp2
      go_ret
      exact ⟨ret_int (by rw [mk_gray hx]), rfl⟩

set_option maxHeartbeats 400000 in
theorem rungray_any (x : Nat) (w : World) (hx : x < 18446744073709551616) :
    Calls Tryd.prog 19 #[.int .u64 x] w fun e w' => e = .returned (.int .u64 (ungrayN x)) ∧ w' = w := by
  have hu := ungray_lt hx
  have hst := ungray_step hx
  have ha := hi_all hu
  have h64 : bt (ungrayN x) 64 = 0 := bt_big hu (by omega)
  generalize ungrayN x = u at hu hst ha h64
  have HST : Hid (∀ k, (bt u (k + 1) + bt x k) % 2 = bt u k) := hst
  have HA : Hid (hi u 64 = 0) := ha
  have H64 : Hid (bt u 64 = 0) := h64
  clear hst ha h64
  go_enter Tryd.func19, Tryd.ntmps19
  go_wp2
  go_loop [3, 4, 5] (fun v l i => ∃ k : Nat, k ≤ 64 ∧ i = .int .i64 ((k : Int) - 1) ∧ v = .int .u64 (hi u k) ∧ l = .int .i64 (bt u k)) (fun _ _ i => (intOf i + 1).toNat)
  case atStart => exact ⟨64, by omega, rfl, by rw [HA.out]; rfl, by rw [H64.out]; rfl⟩
  case round =>
    obtain ⟨k, hk, rfl, rfl, rfl⟩ := hrel
    by_cases hlt : 0 < k
    · obtain ⟨j, rfl⟩ : ∃ j, k = j + 1 := ⟨k - 1, by omega⟩
      have e : ((j + 1 : Nat) : Int) - 1 = j := by omega
      rw [e]
      have hb := bt_le u (j + 1)
      have hb' := bt_le x j
      have hh : hi u (j + 1) < 18446744073709551616 := Nat.lt_of_le_of_lt (hi_le _ _) hu
      have H1 := fun w => bit_any x j w hx (by omega)
      have hs1 : ∀ w, Calls Tryd.prog 41 #[.int .u64 (hi u (j + 1)), .int .i64 j, .int .i64 (((bt u (j + 1) : Int) + (bt x j : Int)) % 2)] w fun e w' => e = .returned (.int .u64 (hi u j)) ∧ w' = w := fun w => by
        have := set_any (hi u (j + 1)) j ((bt u (j + 1) + bt x j) % 2) w hh (by omega)
        rw [HST.out j, hi_step] at this
        rw [← HST.out j] at this
        simpa using this
      have HE : Hid (((bt u (j + 1) : Int) + (bt x j : Int)) % 2 = bt u j) := by
        have := HST.out j
        show ((bt u (j + 1) : Int) + (bt x j : Int)) % 2 = bt u j
        omega
      clear e
      go_wp2_with (first
        | (go_at_call 39; with_reducible refine (H1 _).mono ?_; rintro e w' ⟨rfl, rfl⟩)
        | (go_at_call 41; with_reducible refine (hs1 _).mono ?_; rintro e w' ⟨rfl, rfl⟩))
      go_round
      case rel => exact ⟨j, by omega, rfl, rfl, by rw [HE.out]⟩
      case measure => simp [intOf]
    · obtain rfl : k = 0 := by omega
      go_wp2
      go_ret
      exact ⟨ret_int (by rw [hi_zero]), rfl⟩

theorem rclose_no (x : Nat) (a : Int) (w : World) (ha : a < 0 ∨ 64 ≤ a) :
    Calls Tryd.prog 20 #[.int .u64 x, .int .i64 a] w fun e w' => e = .returned (.tuple #[.int .u64 0, .int .i64 0, .int .i64 2]) ∧ w' = w := by
  rcases ha with h | h
  · go_enter Tryd.func20, Tryd.ntmps20
    go_wp2
    go_ret3
    exact ⟨rfl, rfl⟩
  · have h1 : ¬ a < 0 := by omega
    have h2 : a > 63 := by omega
    clear h
    go_enter Tryd.func20, Tryd.ntmps20
    go_wp2
    go_ret3
    exact ⟨rfl, rfl⟩

set_option maxHeartbeats 400000 in
theorem rclose_any (x a : Nat) (w : World) (hx : x < 18446744073709551616) (ha : a < 64) :
    Calls Tryd.prog 20 #[.int .u64 x, .int .i64 a] w fun e w' => e = .returned (.tuple #[.int .u64 (closeN x a), .int .i64 (bt x a), .int .i64 0]) ∧ w' = w := by
  have HM : Hid (mk (fun i => if i < a then bt x i else bt x (i + 1)) 63 = closeN x a) := mk_close a ha hx
  have HN : Hid (∀ k, mk (fun i => if i < a then bt x i else bt x (i + 1)) (k + 1) = setB (mk (fun i => if i < a then bt x i else bt x (i + 1)) k) k (if k < a then bt x k else bt x (k + 1))) := fun _ => rfl
  have hl : ∀ k, k ≤ 64 → mk (fun i => if i < a then bt x i else bt x (i + 1)) k < 18446744073709551616 := fun k hk => mk_lt _ k hk
  have HZ : Hid (mk (fun i => if i < a then bt x i else bt x (i + 1)) 0 = 0) := rfl
  generalize mk (fun i => if i < a then bt x i else bt x (i + 1)) = V at HM HN hl HZ
  have HL : Hid (∀ k, k ≤ 64 → V k < 18446744073709551616) := hl
  clear hl
  have H0 := fun w => bit_any x a w hx ha
  go_enter Tryd.func20, Tryd.ntmps20
  go_wp2
  go_loop [7, 8] (fun v i => ∃ k : Nat, k ≤ 63 ∧ i = .int .i64 k ∧ v = .int .u64 (V k)) (fun _ i => 63 - (intOf i).toNat)
  case atStart => exact ⟨0, by omega, rfl, by rw [HZ.out]; rfl⟩
  case round =>
    obtain ⟨k, hk, rfl, rfl⟩ := hrel
    have hV := HL.out k (by omega)
    by_cases hlt : k < 63
    · have hs := fun b w => set_any (V k) k b w hV (by omega)
      by_cases h : k < a
      · have H1 := fun w => bit_any x k w hx (by omega)
        have hs1 := hs (bt x k)
        have e := HN.out k
        rw [if_pos h] at e
        have E : Hid (V (k + 1) = setB (V k) k (bt x k)) := e
        clear hs e
        go_wp2_with (first
          | (go_at_call 39; with_reducible refine (H1 _).mono ?_; rintro e w' ⟨rfl, rfl⟩)
          | (go_at_call 41; with_reducible refine (hs1 _).mono ?_; rintro e w' ⟨rfl, rfl⟩))
        go_round
        case rel => exact ⟨k + 1, by omega, by go_num, by rw [E.out]⟩
        case measure => simp [intOf]; omega
      · have H1 : ∀ w, Calls Tryd.prog 39 #[.int .u64 x, .int .i64 ((k : Int) + 1)] w fun e w' => e = .returned (.int .i64 (bt x (k + 1))) ∧ w' = w := fun w => bit_any x (k + 1) w hx (by omega)
        have hs1 := hs (bt x (k + 1))
        have e := HN.out k
        rw [if_neg h] at e
        have E : Hid (V (k + 1) = setB (V k) k (bt x (k + 1))) := e
        clear hs e
        go_wp2_with (first
          | (go_at_call 39; with_reducible refine (H1 _).mono ?_; rintro e w' ⟨rfl, rfl⟩)
          | (go_at_call 41; with_reducible refine (hs1 _).mono ?_; rintro e w' ⟨rfl, rfl⟩))
        go_round
        case rel => exact ⟨k + 1, by omega, by go_num, by rw [E.out]⟩
        case measure => simp [intOf]; omega
    · obtain rfl : k = 63 := by omega
      go_wp2_with (first
          | (go_at_call 39; with_reducible refine (H0 _).mono ?_; rintro e w' ⟨rfl, rfl⟩))
      go_ret3
      exact ⟨ret_intss (by rw [HM.out]) rfl rfl, rfl⟩

theorem rswap_no (x : Nat) (i j : Int) (w : World) (h : (i < 0 ∨ 64 ≤ i) ∨ (j < 0 ∨ 64 ≤ j)) :
    Calls Tryd.prog 22 #[.int .u64 x, .int .i64 i, .int .i64 j] w fun e w' => e = .returned (.tuple #[.int .u64 0, .int .i64 2]) ∧ w' = w := by
  by_cases h1 : i < 0
  · clear h
    go_enter Tryd.func22, Tryd.ntmps22
    go_wp2
    go_ret2
    exact ⟨rfl, rfl⟩
  · by_cases h2 : i > 63
    · clear h
      go_enter Tryd.func22, Tryd.ntmps22
      go_wp2
      go_ret2
      exact ⟨rfl, rfl⟩
    · by_cases h3 : j < 0
      · clear h
        go_enter Tryd.func22, Tryd.ntmps22
        go_wp2
        go_ret2
        exact ⟨rfl, rfl⟩
      · have h4 : j > 63 := by omega
        clear h
        go_enter Tryd.func22, Tryd.ntmps22
        go_wp2
        go_ret2
        exact ⟨rfl, rfl⟩

theorem rswap_any (x i j : Nat) (w : World) (hx : x < 18446744073709551616) (hi : i < 64) (hj : j < 64) :
    Calls Tryd.prog 22 #[.int .u64 x, .int .i64 i, .int .i64 j] w fun e w' => e = .returned (.tuple #[.int .u64 (swapN x i j), .int .i64 0]) ∧ w' = w := by
  have H1 := fun w => bit_any x i w hx hi
  have H2 := fun w => bit_any x j w hx hj
  have H3 := fun w => set_any x i (bt x j) w hx hi
  have H4 := fun w => set_any (setB x i (bt x j)) j (bt x i) w (setB_lt hx hi) hj
  go_enter Tryd.func22, Tryd.ntmps22
  go_wp2_with (first
    | (go_at_call 39; with_reducible refine (H1 _).mono ?_; rintro e w' ⟨rfl, rfl⟩)
    | (go_at_call 39; with_reducible refine (H2 _).mono ?_; rintro e w' ⟨rfl, rfl⟩)
    | (go_at_call 41; with_reducible refine (H3 _).mono ?_; rintro e w' ⟨rfl, rfl⟩)
    | (go_at_call 41; with_reducible refine (H4 _).mono ?_; rintro e w' ⟨rfl, rfl⟩))
  go_ret2
  exact ⟨rfl, rfl⟩

theorem ropen_no (x : Nat) (a b : Int) (w : World) (h : (a < 0 ∨ 64 ≤ a) ∨ (b < 0 ∨ 1 < b)) :
    Calls Tryd.prog 24 #[.int .u64 x, .int .i64 a, .int .i64 b] w fun e w' => e = .returned (.tuple #[.int .u64 0, .int .i64 2]) ∧ w' = w := by
  by_cases h1 : a < 0
  · clear h
    go_enter Tryd.func24, Tryd.ntmps24
    go_wp2
    go_ret2
    exact ⟨rfl, rfl⟩
  · by_cases h2 : a > 63
    · clear h
      go_enter Tryd.func24, Tryd.ntmps24
      go_wp2
      go_ret2
      exact ⟨rfl, rfl⟩
    · by_cases h3 : b < 0
      · clear h
        go_enter Tryd.func24, Tryd.ntmps24
        go_wp2
        go_ret2
        exact ⟨rfl, rfl⟩
      · have h4 : b > 1 := by omega
        clear h
        go_enter Tryd.func24, Tryd.ntmps24
        go_wp2
        go_ret2
        exact ⟨rfl, rfl⟩

theorem ropen_long (x a b : Nat) (w : World) (hx : x < 18446744073709551616) (ha : a < 64) (hb : b ≤ 1) (hl : 9223372036854775808 ≤ x) :
    Calls Tryd.prog 24 #[.int .u64 x, .int .i64 a, .int .i64 b] w fun e w' => e = .returned (.tuple #[.int .u64 0, .int .i64 1]) ∧ w' = w := by
  have h1 : bt x 63 = 1 := by rw [bt_div]; omega
  have H1 : ∀ w, Calls Tryd.prog 39 #[.int .u64 x, .int .i64 63] w fun e w' => e = .returned (.int .i64 1) ∧ w' = w := fun w => by
    have := bit_any x 63 w hx (by omega)
    rw [h1] at this
    exact this
  clear h1
  go_enter Tryd.func24, Tryd.ntmps24
  go_wp2_with (first
    | (go_at_call 39; with_reducible refine (H1 _).mono ?_; rintro e w' ⟨rfl, rfl⟩))
  go_ret2
  exact ⟨rfl, rfl⟩

set_option maxHeartbeats 400000 in
theorem ropen_any (x a b : Nat) (w : World) (hx : x < 9223372036854775808) (ha : a < 64) (hb : b ≤ 1) :
    Calls Tryd.prog 24 #[.int .u64 x, .int .i64 a, .int .i64 b] w fun e w' => e = .returned (.tuple #[.int .u64 (openN x a b), .int .i64 0]) ∧ w' = w := by
  have hx' : x < 18446744073709551616 := by omega
  have h1 : bt x 63 = 0 := by rw [bt_div]; omega
  have H0 : ∀ w, Calls Tryd.prog 39 #[.int .u64 x, .int .i64 63] w fun e w' => e = .returned (.int .i64 0) ∧ w' = w := fun w => by
    have := bit_any x 63 w hx' (by omega)
    rw [h1] at this
    exact this
  clear h1
  have HM : Hid (mk (fun i => if i < a then bt x i else if i = a then b else bt x (i - 1)) 64 = openN x a b) := mk_open a b ha hb hx
  have HN : Hid (∀ k, mk (fun i => if i < a then bt x i else if i = a then b else bt x (i - 1)) (k + 1) = setB (mk (fun i => if i < a then bt x i else if i = a then b else bt x (i - 1)) k) k (if k < a then bt x k else if k = a then b else bt x (k - 1))) := fun _ => rfl
  have hl : ∀ k, k ≤ 64 → mk (fun i => if i < a then bt x i else if i = a then b else bt x (i - 1)) k < 18446744073709551616 := fun k hk => mk_lt _ k hk
  have HZ : Hid (mk (fun i => if i < a then bt x i else if i = a then b else bt x (i - 1)) 0 = 0) := rfl
  generalize mk (fun i => if i < a then bt x i else if i = a then b else bt x (i - 1)) = V at HM HN hl HZ
  have HL : Hid (∀ k, k ≤ 64 → V k < 18446744073709551616) := hl
  clear hl
  go_enter Tryd.func24, Tryd.ntmps24
  go_wp2_with (first
    | (go_at_call 39; with_reducible refine (H0 _).mono ?_; rintro e w' ⟨rfl, rfl⟩))
  go_loop [8, 9] (fun v i => ∃ k : Nat, k ≤ 64 ∧ i = .int .i64 k ∧ v = .int .u64 (V k)) (fun _ i => 64 - (intOf i).toNat)
  case atStart => exact ⟨0, by omega, rfl, by rw [HZ.out]; rfl⟩
  case round =>
    obtain ⟨k, hk, rfl, rfl⟩ := hrel
    have hV := HL.out k (by omega)
    by_cases hlt : k < 64
    · have hs := fun b w => set_any (V k) k b w hV (by omega)
      rcases Nat.lt_trichotomy k a with h | h | h
      · have H1 := fun w => bit_any x k w hx' (by omega)
        have hs1 := hs (bt x k)
        have e := HN.out k
        rw [if_pos h] at e
        have E : Hid (V (k + 1) = setB (V k) k (bt x k)) := e
        clear hs e
        go_wp2_with (first
          | (go_at_call 39; with_reducible refine (H1 _).mono ?_; rintro e w' ⟨rfl, rfl⟩)
          | (go_at_call 41; with_reducible refine (hs1 _).mono ?_; rintro e w' ⟨rfl, rfl⟩))
        go_round
        case rel => exact ⟨k + 1, by omega, by go_num, by rw [E.out]⟩
        case measure => simp [intOf]; omega
      · subst h
        have hs1 := hs b
        have e := HN.out k
        rw [if_neg (by omega), if_pos rfl] at e
        have E : Hid (V (k + 1) = setB (V k) k b) := e
        clear hs e
        go_wp2_with (first
          | (go_at_call 41; with_reducible refine (hs1 _).mono ?_; rintro e w' ⟨rfl, rfl⟩))
        go_round
        case rel => exact ⟨k + 1, by omega, by go_num, by rw [E.out]⟩
        case measure => simp [intOf]; omega
      · have H1 : ∀ w, Calls Tryd.prog 39 #[.int .u64 x, .int .i64 ((k : Int) - 1)] w fun e w' => e = .returned (.int .i64 (bt x (k - 1))) ∧ w' = w := fun w => by
          have := bit_any x (k - 1) w hx' (by omega)
          rwa [show ((k - 1 : Nat) : Int) = (k : Int) - 1 by omega] at this
        have hs1 := hs (bt x (k - 1))
        have e := HN.out k
        rw [if_neg (by omega), if_neg (by omega)] at e
        have E : Hid (V (k + 1) = setB (V k) k (bt x (k - 1))) := e
        have h2 : ¬ (k : Int) < a := by omega
        have h3 : ((k : Int) == a) = false := by simp; omega
        clear hs e
        go_wp2_with (first
          | (go_at_call 39; with_reducible refine (H1 _).mono ?_; rintro e w' ⟨rfl, rfl⟩)
          | (go_at_call 41; with_reducible refine (hs1 _).mono ?_; rintro e w' ⟨rfl, rfl⟩))
        go_round
        case rel => exact ⟨k + 1, by omega, by go_num, by rw [E.out]⟩
        case measure => simp [intOf]; omega
    · obtain rfl : k = 64 := by omega
      go_wp2
      go_ret2
      exact ⟨ret_ints (by rw [HM.out]) rfl, rfl⟩
end Go.Proofs.YtpheplcmooljhaaDoor
