/-
  What Ungray, Close, Open, Swap and Low answer, and the reference's of the same names.
-/
import Derived.Test.YtpheplcmooljhaaDoorSmall
import Derived.Test.YtpheplcmooljhaaDoorMath2
namespace Go.Proofs.YtpheplcmooljhaaDoor
open Go.RowKit

theorem drewN_two (w : World) (n m : Nat) : (w.drewN n).drewN m = w.drewN (n + m) := by
  exact World.drewN_drewN w n m
theorem i_shx1 (x : Nat) (hx : x < 18446744073709551616) : bits .xor .u64 (x : Int) ((x : Int) / 2) = (shx 1 x : Int) := by have := i_shx 1 x hx; simpa using this
theorem i_shx2 (x : Nat) (hx : x < 18446744073709551616) : bits .xor .u64 (x : Int) ((x : Int) / 4) = (shx 2 x : Int) := by have := i_shx 2 x hx; simpa using this
theorem i_shx4 (x : Nat) (hx : x < 18446744073709551616) : bits .xor .u64 (x : Int) ((x : Int) / 16) = (shx 4 x : Int) := by have := i_shx 4 x hx; simpa using this
theorem i_shx8 (x : Nat) (hx : x < 18446744073709551616) : bits .xor .u64 (x : Int) ((x : Int) / 256) = (shx 8 x : Int) := by have := i_shx 8 x hx; simpa using this
theorem i_shx16 (x : Nat) (hx : x < 18446744073709551616) : bits .xor .u64 (x : Int) ((x : Int) / 65536) = (shx 16 x : Int) := by have := i_shx 16 x hx; simpa using this
theorem i_shx32 (x : Nat) (hx : x < 18446744073709551616) : bits .xor .u64 (x : Int) ((x : Int) / 4294967296) = (shx 32 x : Int) := by have := i_shx 32 x hx; simpa using this

set_option maxHeartbeats 400000 in
theorem ungray_any (x : Nat) (w : World) (hx : x < 18446744073709551616) :
    Calls Tryd.prog 18 #[.int .u64 x] w fun e w' => e = .returned (.int .u64 (ungrayN x)) ∧ w' = w := by
  go_enter Tryd.func18, Tryd.ntmps18
  go_wp2
  refine wp_loop_rounds 7 ?_
  rw [rounds_succ]
  go_wp2
  rw [rounds_succ]
  go_wp2
  rw [rounds_succ]
  go_wp2
  rw [rounds_succ]
  go_wp2
  rw [rounds_succ]
  go_wp2
  rw [rounds_succ]
  go_wp2
  rw [rounds_succ]
  go_wp2
  go_ret
  refine ⟨ret_int ?_, rfl⟩
  rw [i_shx1 x hx, i_shx2 _ (shx_lt _ hx), i_shx4 _ (shx_lt _ (shx_lt _ hx)), i_shx8 _ (shx_lt _ (shx_lt _ (shx_lt _ hx))), i_shx16 _ (shx_lt _ (shx_lt _ (shx_lt _ (shx_lt _ hx)))), i_shx32 _ (shx_lt _ (shx_lt _ (shx_lt _ (shx_lt _ (shx_lt _ hx)))))]
  rfl

theorem and1 (n : Nat) (h : n < 9223372036854775808) : bits .and .i64 (n : Int) 1 = ((n % 2 : Nat) : Int) := by
  have h1 : (BitVec.ofInt 64 (n : Int)).toNat = n := ofInt_u64 n (by omega)
  have h2 : (BitVec.ofInt 64 (1 : Int)).toNat = 1 := by decide
  have h3 : n &&& 1 = n % 2 := Nat.and_one_is_mod n
  show IntKind.i64.wrap ((BitVec.ofInt 64 (n : Int) &&& BitVec.ofInt 64 1).toNat : Int) = _
  rw [BitVec.toNat_and, h1, h2, h3]
  simp [IntKind.wrap, IntKind.signed, IntKind.bits]
  omega

theorem parity_any (x : Nat) (w : World) (hx : x < 18446744073709551616) :
    Calls Tryd.prog 12 #[.int .u64 x] w fun e w' => e = .returned (.int .i64 ((pop 64 x % 2 : Nat) : Int)) ∧ w' = w := by
  have hp := pop_le 64 x
  go_enter Tryd.func12, Tryd.ntmps12
  go_wp2_with (go_at_call 10; refine (count_any _ _ hx).mono ?_; rintro e w' ⟨rfl, rfl⟩)
  go_ret
  exact ⟨ret_int (and1 _ (by omega)), rfl⟩

theorem close_any (x a : Nat) (w : World) (hx : x < 18446744073709551616) (ha : a < 64) :
    Calls Tryd.prog 21 #[.int .u64 x, .int .i64 a] w fun e w' => e = .returned (.tuple #[.int .u64 (closeN x a), .int .i64 (bt x a), .int .i64 0]) ∧ ∃ n, w' = w.drewN n := by
  have hc := i_close x a hx ha
  have hb := i_bit x a hx
  rw [div_pow] at hb
  have hd : x / 2 ^ a < 18446744073709551616 := lt_div a hx
  have hm : x % 2 ^ a < 18446744073709551616 := Nat.lt_of_le_of_lt (Nat.mod_le _ _) hx
  have HS := fun w => split_any x a w hx ha
  generalize x / 2 ^ a = A at hc hb hd HS
  generalize x % 2 ^ a = B at hc hm HS
  go_enter Tryd.func21, Tryd.ntmps21
  go_wp2_with (first
    | (go_at_call 42; refine (inside_yes _ _ (by omega) (by omega)).mono ?_; rintro e w' ⟨rfl, rfl⟩)
    | (go_at_call 43; refine (HS _).mono ?_; rintro e w' ⟨rfl, n, rfl⟩))
  go_ret3
  exact ⟨ret_intss rfl (wrap64_bt x a) rfl, _, rfl⟩
theorem close_no (x : Nat) (a : Int) (w : World) (ha : a < 0 ∨ 64 ≤ a) :
    Calls Tryd.prog 21 #[.int .u64 x, .int .i64 a] w fun e w' => e = .returned (.tuple #[.int .u64 0, .int .i64 0, .int .i64 2]) ∧ w' = w := by
  go_enter Tryd.func21, Tryd.ntmps21
  go_wp2_with (first
    | (go_at_call 42; refine (inside_no _ _ ha).mono ?_; rintro e w' ⟨rfl, rfl⟩))
  go_ret3
  exact ⟨rfl, rfl⟩
set_option maxHeartbeats 1000000 in
theorem swap_any (x i j : Nat) (w : World) (hx : x < 18446744073709551616) (hi : i < 64) (hj : j < 64) :
    Calls Tryd.prog 23 #[.int .u64 x, .int .i64 i, .int .i64 j] w fun e w' => e = .returned (.tuple #[.int .u64 (swapN x i j), .int .i64 0]) ∧ ∃ n, w' = w.drewN n := by
  have hs := i_swap x i j hx hi hj
  have hb := i_bits x i j
  have H1 := fun w => bitAt_any x i w hx hi
  have H2 := fun w => bitAt_any x j w hx hj
  have l1 := bt_le x i
  have l2 := bt_le x j
  generalize bt x i ^^^ bt x j = D at hs hb
  generalize bt x i = A at hb H1 l1
  generalize bt x j = B at hb H2 l2
  go_enter Tryd.func23, Tryd.ntmps23
  go_wp2_with (first
    | (go_at_call 42; refine (inside_yes _ _ (by omega) (by omega)).mono ?_; rintro e w' ⟨rfl, rfl⟩)
    | (go_at_call 44; refine (H1 _).mono ?_; rintro e w' ⟨rfl, rfl⟩)
    | (go_at_call 44; refine (H2 _).mono ?_; rintro e w' ⟨rfl, rfl⟩))
  go_quiet (fail)
  go_wp2
  go_ret2
  exact ⟨rfl, _, rfl⟩
set_option maxHeartbeats 1000000 in
theorem swap_no (x : Nat) (i j : Int) (w : World) (h : (i < 0 ∨ 64 ≤ i) ∨ (j < 0 ∨ 64 ≤ j)) :
    Calls Tryd.prog 23 #[.int .u64 x, .int .i64 i, .int .i64 j] w fun e w' => e = .returned (.tuple #[.int .u64 0, .int .i64 2]) ∧ w' = w := by
  by_cases h1 : i < 0 ∨ 64 ≤ i
  · clear h
    go_enter Tryd.func23, Tryd.ntmps23
    go_wp2_with (first
      | (go_at_call 42; refine (inside_no _ _ h1).mono ?_; rintro e w' ⟨rfl, rfl⟩))
    go_ret2
    exact ⟨rfl, rfl⟩
  · have h2 : j < 0 ∨ 64 ≤ j := by omega
    have h3 : 0 ≤ i := by omega
    have h4 : i < 64 := by omega
    clear h h1
    go_enter Tryd.func23, Tryd.ntmps23
    go_wp2_with (first
      | (go_at_call 42; refine (inside_no _ _ h2).mono ?_; rintro e w' ⟨rfl, rfl⟩)
      | (go_at_call 42; refine (inside_yes _ _ h3 h4).mono ?_; rintro e w' ⟨rfl, rfl⟩))
    go_ret2
    exact ⟨rfl, rfl⟩
theorem open_no (x : Nat) (a b : Int) (w : World) (h : (a < 0 ∨ 64 ≤ a) ∨ (b < 0 ∨ 1 < b)) :
    Calls Tryd.prog 25 #[.int .u64 x, .int .i64 a, .int .i64 b] w fun e w' => e = .returned (.tuple #[.int .u64 0, .int .i64 2]) ∧ w' = w := by
  by_cases h1 : a < 0 ∨ 64 ≤ a
  · clear h
    go_enter Tryd.func25, Tryd.ntmps25
    go_wp2_with (first
      | (go_at_call 42; refine (inside_no _ _ h1).mono ?_; rintro e w' ⟨rfl, rfl⟩))
    all_goals go_ret2
    all_goals exact ⟨rfl, rfl⟩
  · have h2 : (b != 0) = true := by simp; omega
    have h2' : (b != 1) = true := by simp; omega
    have h3 : 0 ≤ a := by omega
    have h4 : a < 64 := by omega
    clear h h1
    go_enter Tryd.func25, Tryd.ntmps25
    go_wp2_with (first
      | (go_at_call 42; refine (inside_yes _ _ h3 h4).mono ?_; rintro e w' ⟨rfl, rfl⟩))
    all_goals go_ret2
    all_goals exact ⟨rfl, rfl⟩
theorem open_long (x a b : Nat) (w : World) (hx : x < 18446744073709551616) (ha : a < 64) (hb : b ≤ 1) (hl : 9223372036854775808 ≤ x) :
    Calls Tryd.prog 25 #[.int .u64 x, .int .i64 a, .int .i64 b] w fun e w' => e = .returned (.tuple #[.int .u64 0, .int .i64 1]) ∧ w' = w := by
  have h1 : bt x 63 = 1 := by rw [bt_div]; omega
  have H1 := fun w => bitAt_any x 63 w hx (by omega)
  rw [h1] at H1
  clear h1
  have hb' : b = 0 ∨ b = 1 := by omega
  rcases hb' with rfl | rfl
  all_goals
    go_enter Tryd.func25, Tryd.ntmps25
    go_wp2_with (first
      | (go_at_call 42; refine (inside_yes _ _ (by omega) (by omega)).mono ?_; rintro e w' ⟨rfl, rfl⟩)
      | (go_at_call 44; refine (H1 _).mono ?_; rintro e w' ⟨rfl, rfl⟩))
    go_ret2
    exact ⟨rfl, rfl⟩
set_option maxHeartbeats 1000000 in
theorem open_any (x a b : Nat) (w : World) (hx : x < 9223372036854775808) (ha : a < 64) (hb : b ≤ 1) :
    Calls Tryd.prog 25 #[.int .u64 x, .int .i64 a, .int .i64 b] w fun e w' => e = .returned (.tuple #[.int .u64 (openN x a b), .int .i64 0]) ∧ ∃ n, w' = w.drewN n := by
  have h1 : bt x 63 = 0 := by rw [bt_div]; omega
  have hx' : x < 18446744073709551616 := by omega
  have H1 := fun w => bitAt_any x 63 w hx' (by omega)
  rw [h1] at H1
  clear h1
  have hc := i_open x a b hx ha hb
  have hd : x / 2 ^ a < 18446744073709551616 := lt_div a hx'
  have hm : x % 2 ^ a < 18446744073709551616 := Nat.lt_of_le_of_lt (Nat.mod_le _ _) hx'
  have HS := fun w => split_any x a w hx' ha
  generalize x / 2 ^ a = A at hc hd HS
  generalize x % 2 ^ a = B at hc hm HS
  have hb' : b = 0 ∨ b = 1 := by omega
  have HC : Hid _ := hc
  clear hc
  rcases hb' with rfl | rfl
  all_goals
    go_enter Tryd.func25, Tryd.ntmps25
    go_wp2_with (first
      | (go_at_call 42; refine (inside_yes _ _ (by omega) (by omega)).mono ?_; rintro e w' ⟨rfl, rfl⟩)
      | (go_at_call 44; refine (H1 _).mono ?_; rintro e w' ⟨rfl, rfl⟩)
      | (go_at_call 43; refine (HS _).mono ?_; rintro e w' ⟨rfl, n, rfl⟩))
    go_quiet (fail)
    go_wp2
    go_ret2
    exact ⟨ret_ints (by have := HC.out; simpa [show IntKind.u64.wrap 0 = 0 by decide] using this) rfl, _, (drewN_two _ _ _)⟩
end Go.Proofs.YtpheplcmooljhaaDoor
