/-
  Small functions: a bit of a number, numbers below a power, parities.
-/
import Derived.Test.YtinkdonaedoojaaK0
import Derived.Test.YtinkdonaedoojaaBMath2
namespace Go.Proofs.Ytinkdonaedoojaa
open Go.RowKit

theorem hid {p : Prop} (h : p) : Hid p := h
theorem ret_int {k : IntKind} {a b : Int} (h : a = b) : Ending.returned (.int k a) = .returned (.int k b) := by rw [h]
theorem ret_bool {a b : Bool} (h : a = b) : Ending.returned (.bool a) = .returned (.bool b) := by rw [h]
theorem has_any (x j : Nat) (w : World) (hx : x < 18446744073709551616) (hj : j < 64) :
    Calls Try.prog 41 #[.int .u64 x, .int .i64 j] w fun e w' => e = .returned (.bool (x.testBit j)) ∧ w' = w := by
  go_enter Try.func41, Try.ntmps41
  go_wp2
  go_ret
  refine ⟨ret_bool ?_, rfl⟩
  rw [i_bit x j hx]
  by_cases h : x.testBit j = true
  · rw [bt_one.2 h, h]; rfl
  · have h' : x.testBit j = false := by simpa using h
    rw [bt_zero.2 h', h']; rfl
theorem shr_zero (x n : Nat) : ((x : Int) / 2 ^ n == 0) = decide (x < 2 ^ n) := by
  rw [div_pow]
  have e : (x / 2 ^ n = 0) ↔ x < 2 ^ n := Nat.div_eq_zero_iff_lt (Nat.two_pow_pos n)
  by_cases h : x < 2 ^ n
  · rw [decide_eq_true h, e.2 h]; rfl
  · rw [decide_eq_false h]
    have h2 : ¬ x / 2 ^ n = 0 := fun h' => h (e.1 h')
    simp only [beq_eq_false_iff_ne, ne_eq]
    omega
theorem fits_any (x n : Nat) (w : World) (hx : x < 18446744073709551616) (hn : n ≤ 64) :
    Calls Try.prog 26 #[.int .u64 x, .int .i64 n] w fun e w' => e = .returned (.bool (decide (x < 2 ^ n))) ∧ w' = w := by
  by_cases h : n < 64
  · clear hn
    go_enter Try.func26, Try.ntmps26
    go_wp2
    go_ret
    exact ⟨ret_bool (shr_zero x n), rfl⟩
  · obtain rfl : n = 64 := by omega
    rw [decide_eq_true (show x < 2 ^ 64 from hx)]
    show Calls Try.prog 26 #[.int .u64 x, .int .i64 64] w _
    go_enter Try.func26, Try.ntmps26
    go_wp2
    go_ret
    refine ⟨ret_bool ?_, rfl⟩
    have e : (x : Int) / 18446744073709551616 = 0 := by omega
    rw [e]; rfl
theorem below_any (x n : Nat) (w : World) (hx : x < 18446744073709551616) (hn : n ≤ 64) :
    Calls Try.prog 27 #[.int .u64 x, .int .i64 n] w fun e w' => e = .returned (.bool (decide (x < 2 ^ n))) ∧ w' = w := by
  by_cases h : n < 64
  · clear hn
    have h1 : ¬ (n : Int) = 64 := by omega
    go_enter Try.func27, Try.ntmps27
    go_wp2
    go_ret
    refine ⟨ret_bool ?_, rfl⟩
    rw [shr_zero, show ((n : Int) == 64) = false by simpa using h1]
    rfl
  · obtain rfl : n = 64 := by omega
    rw [decide_eq_true (show x < 2 ^ 64 from hx)]
    clear hx
    show Calls Try.prog 27 #[.int .u64 x, .int .i64 64] w _
    go_enter Try.func27, Try.ntmps27
    go_wp2
    go_ret
    exact ⟨rfl, rfl⟩

theorem s1_cast (x : Nat) (hx : x < 18446744073709551616) : IntKind.u64.wrap (bits .and .u64 ((x : Int) / 2) 6148914691236517205 + bits .and .u64 (x : Int) 6148914691236517205) = (sw1 x : Int) ∧ sw1 x < 18446744073709551616 := by
  have e1 : ((x : Int) / 2) = ((x / 2 : Nat) : Int) := by simp
  have h1 : x / 2 &&& 6148914691236517205 ≤ 6148914691236517205 := Nat.and_le_right
  have h2 : x &&& 6148914691236517205 ≤ 6148914691236517205 := Nat.and_le_right
  rw [e1, show (6148914691236517205 : Int) = ((6148914691236517205 : Nat) : Int) from rfl, u64_and_nat _ _ (by omega) (by omega), u64_and_nat _ _ (by omega) (by omega), IntKind.wrap_u64]
  unfold sw1
  omega
theorem s2_cast (x : Nat) (hx : x < 18446744073709551616) : IntKind.u64.wrap (bits .and .u64 ((x : Int) / 4) 3689348814741910323 + bits .and .u64 (x : Int) 3689348814741910323) = (sw2 x : Int) ∧ sw2 x < 18446744073709551616 := by
  have e1 : ((x : Int) / 4) = ((x / 4 : Nat) : Int) := by simp
  have h1 : x / 4 &&& 3689348814741910323 ≤ 3689348814741910323 := Nat.and_le_right
  have h2 : x &&& 3689348814741910323 ≤ 3689348814741910323 := Nat.and_le_right
  rw [e1, show (3689348814741910323 : Int) = ((3689348814741910323 : Nat) : Int) from rfl, u64_and_nat _ _ (by omega) (by omega), u64_and_nat _ _ (by omega) (by omega), IntKind.wrap_u64]
  unfold sw2
  omega
theorem s3_cast (x : Nat) (hx : x ≤ 7378697629483820646) : bits .and .u64 (IntKind.u64.wrap ((x : Int) / 16 + (x : Int))) 1085102592571150095 = (sw3 x : Int) := by
  have e1 : IntKind.u64.wrap ((x : Int) / 16 + (x : Int)) = ((x / 16 + x : Nat) : Int) := by rw [IntKind.wrap_u64]; omega
  rw [e1, show (1085102592571150095 : Int) = ((1085102592571150095 : Nat) : Int) from rfl, u64_and_nat _ _ (by omega) (by omega)]
  rfl
theorem sw2_le (x : Nat) : sw2 x ≤ 7378697629483820646 := by
  have h1 : x / 4 &&& 3689348814741910323 ≤ 3689348814741910323 := Nat.and_le_right
  have h2 : x &&& 3689348814741910323 ≤ 3689348814741910323 := Nat.and_le_right
  unfold sw2; omega
theorem and127 (n : Nat) (h : n < 9223372036854775808) : bits .and .i64 (n : Int) 127 = ((n % 128 : Nat) : Int) := by
  have h1 : (BitVec.ofInt 64 (n : Int)).toNat = n := ofInt_u64 n (by omega)
  have h2 : (BitVec.ofInt 64 (127 : Int)).toNat = 127 := by decide
  have h3 : n &&& 127 = n % 128 := Nat.and_two_pow_sub_one_eq_mod n 7
  show IntKind.i64.wrap ((BitVec.ofInt 64 (n : Int) &&& BitVec.ofInt 64 127).toNat : Int) = _
  rw [BitVec.toNat_and, h1, h2, h3]
  simp [IntKind.wrap, IntKind.signed, IntKind.bits]
  omega

theorem ones_any (x : Nat) (w : World) (hx : x < 18446744073709551616) :
    Calls Try.prog 49 #[.int .u64 x] w fun e w' => e = .returned (.int .i64 (pop 64 x)) ∧ w' = w := by
  go_enter Try.func49, Try.ntmps49
  go_wp2
  go_ret
  refine ⟨ret_int ?_, rfl⟩
  obtain ⟨c1, c2, c3⟩ := count_is x hx
  obtain ⟨e1, l1⟩ := s1_cast x hx
  obtain ⟨e2, l2⟩ := s2_cast (sw1 x) l1
  have e3 := s3_cast (sw2 (sw1 x)) (sw2_le _)
  rw [e1, e2, e3]
  have e4 : IntKind.u64.wrap ((sw3 (sw2 (sw1 x)) : Int) + (sw3 (sw2 (sw1 x)) : Int) / 256) = ((sw x + sw x / 256 : Nat) : Int) := by
    rw [IntKind.wrap_u64]; unfold sw at *; omega
  rw [e4]
  have e5 : IntKind.u64.wrap (((sw x + sw x / 256 : Nat) : Int) + ((sw x + sw x / 256 : Nat) : Int) / 65536) = ((sw x + sw x / 256 + (sw x + sw x / 256) / 65536 : Nat) : Int) := by
    rw [IntKind.wrap_u64]; omega
  rw [e5]
  have e6 : IntKind.u64.wrap (((sw x + sw x / 256 + (sw x + sw x / 256) / 65536 : Nat) : Int) + ((sw x + sw x / 256 + (sw x + sw x / 256) / 65536 : Nat) : Int) / 4294967296) = (sum8 (sw x) : Int) := by
    rw [IntKind.wrap_u64]; unfold sum8 at *; omega
  rw [e6, wrap64_small (by omega) (by omega), and127 _ c2, c1]


theorem count_any (x : Nat) (w : World) (hx : x < 18446744073709551616) :
    Calls Try.prog 42 #[.int .u64 x] w fun e w' => e = .returned (.int .i64 (pop 64 x)) ∧ w' = w := by
  go_enter Try.func42, Try.ntmps42
  go_wp2_with (go_at_call 49; refine (ones_any _ _ hx).mono ?_; rintro e w' ⟨rfl, rfl⟩)
  go_ret
  exact ⟨rfl, rfl⟩
theorem and1 (n : Nat) (h : n < 9223372036854775808) : bits .and .i64 (n : Int) 1 = ((n % 2 : Nat) : Int) := by
  have h1 : (BitVec.ofInt 64 (n : Int)).toNat = n := ofInt_u64 n (by omega)
  have h2 : (BitVec.ofInt 64 (1 : Int)).toNat = 1 := by decide
  have h3 : n &&& 1 = n % 2 := Nat.and_one_is_mod n
  show IntKind.i64.wrap ((BitVec.ofInt 64 (n : Int) &&& BitVec.ofInt 64 1).toNat : Int) = _
  rw [BitVec.toNat_and, h1, h2, h3]
  simp [IntKind.wrap, IntKind.signed, IntKind.bits]
  omega
/-- The parity of the bits. -/
def parN (k x : Nat) : Nat := pop k x % 2
abbrev par (x : Nat) : Nat := parN 64 x
theorem par_le (x : Nat) : par x ≤ 1 := by unfold par parN; omega
theorem parN_le (k x : Nat) : parN k x ≤ 1 := by unfold parN; omega
theorem parity_any (x : Nat) (w : World) (hx : x < 18446744073709551616) :
    Calls Try.prog 31 #[.int .u64 x] w fun e w' => e = .returned (.int .i64 (par x : Nat)) ∧ w' = w := by
  have hp := pop_le 64 x
  go_enter Try.func31, Try.ntmps31
  go_wp2_with (go_at_call 42; refine (count_any _ _ hx).mono ?_; rintro e w' ⟨rfl, rfl⟩)
  go_ret
  exact ⟨ret_int (and1 _ (by omega)), rfl⟩
theorem pop_succ (n x : Nat) : pop (n + 1) x = pop n x + bt x n := by
  rw [pop_add n 1 x]
  have h : pop 1 (x / 2 ^ n) = x / 2 ^ n % 2 := by simp [pop, bt_div]
  rw [h, bt_div]
theorem odd_any (x : Nat) (w : World) (hx : x < 18446744073709551616) :
    Calls Try.prog 30 #[.int .u64 x] w fun e w' => e = .returned (.int .u64 (par x : Nat)) ∧ w' = w := by
  go_enter Try.func30, Try.ntmps30
  go_wp2
  go_loop [3, 4] (fun p i => ∃ k : Nat, k ≤ 64 ∧ i = .int .i64 k ∧ p = .int .u64 (parN k x : Nat)) (fun _ i => 64 - (intOf i).toNat)
  case atStart => exact ⟨0, by omega, rfl, rfl⟩
  case round =>
    obtain ⟨k, hk, rfl, rfl⟩ := hrel
    by_cases hlt : k < 64
    · have e : bits .xor .u64 (parN k x : Int) (bits .and .u64 ((x : Int) / 2 ^ k) 1) = (parN (k + 1) x : Int) := by
        have hb := bt_le x k
        have hp := parN_le k x
        rw [i_bit x k hx, i_xor _ _ (by omega) (by omega)]
        unfold parN at *
        rw [pop_succ]
        rcases (show bt x k = 0 ∨ bt x k = 1 by omega) with h | h <;> rcases (show pop k x % 2 = 0 ∨ pop k x % 2 = 1 by omega) with g | g <;> rw [h, g] <;> simp <;> omega
      have HE := hid e
      clear e
      go_wp2
      go_round
      case rel => exact ⟨k + 1, by omega, by go_num, by rw [HE.out]⟩
      case measure => simp [intOf]; omega
    · obtain rfl : k = 64 := by omega
      go_wp2
      go_ret
      exact ⟨rfl, rfl⟩
end Go.Proofs.Ytinkdonaedoojaa
