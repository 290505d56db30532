/-
  What the small functions answer: of package bits, of math/bits, and of the law's own reference.
-/
import Derived.Test.YtoddbaljnlhhaaaRows
import Derived.Test.YtoddbaljnlhhaaaXF
import Derived.WalkKit
import Derived.BigQuiet
import Derived.Deep.QuietTactic
namespace Go.Proofs.Ytoddbaljnlhhaaa.BL
open Go.RowKit

theorem ret_int {k : IntKind} {a b : Int} (h : a = b) : Ending.returned (.int k a) = .returned (.int k b) := by rw [h]
theorem ret_ints {k l : IntKind} {a b c d : Int} (h : a = b) (g : c = d) : Ending.returned (.tuple #[.int k a, .int l c]) = .returned (.tuple #[.int k b, .int l d]) := by rw [h, g]
theorem ret_intss {k l m : IntKind} {a b c d e f : Int} (h : a = b) (g : c = d) (i : e = f) : Ending.returned (.tuple #[.int k a, .int l c, .int m e]) = .returned (.tuple #[.int k b, .int l d, .int m f]) := by rw [h, g, i]

/-- The call answers v, whatever the world, and leaves the world but for the draws of an order. -/
structure Ret (f : Nat) (args : Array Value) (v : Value) : Prop where
  calls : ∀ w, Calls Try.prog f args w fun e w' => e = .returned v ∧ ∃ n, w' = w.drewN n

theorem bitAt_any (x j : Nat) (w : World) (hx : x < 18446744073709551616) (hj : j < 64) :
    Calls Try.prog 105 #[.int .u64 x, .int .i64 j] w fun e w' => e = .returned (.int .u64 (bt x j)) ∧ w' = w := by
  go_enter Try.func105, Try.ntmps105
  go_wp2
  go_ret
  exact ⟨ret_int (i_bit x j hx), rfl⟩

theorem inside_yes (p : Int) (w : World) (h0 : 0 ≤ p) (h1 : p < 64) :
    Calls Try.prog 109 #[.int .i64 p] w fun e w' => e = .returned (.bool true) ∧ w' = w := by
  go_enter Try.func109, Try.ntmps109
  go_wp2
  go_ret
  exact ⟨rfl, rfl⟩
theorem inside_no (p : Int) (w : World) (h : p < 0 ∨ 64 ≤ p) :
    Calls Try.prog 109 #[.int .i64 p] w fun e w' => e = .returned (.bool false) ∧ w' = w := by
  by_cases h0 : 0 ≤ p
  · have h1 : ¬ p < 64 := by omega
    clear h
    go_enter Try.func109, Try.ntmps109
    go_wp2
    go_ret
    exact ⟨rfl, rfl⟩
  · clear h
    go_enter Try.func109, Try.ntmps109
    go_wp2
    go_ret
    exact ⟨rfl, rfl⟩

theorem s1_cast (x : Nat) (hx : x < 18446744073709551616) : IntKind.u64.wrap (bits .and .u64 ((x : Int) / 2) 6148914691236517205 + bits .and .u64 (x : Int) 6148914691236517205) = (sw1 x : Int) ∧ sw1 x < 18446744073709551616 := by
  have e1 : ((x : Int) / 2) = ((x / 2 : Nat) : Int) := by simp
  have h1 : x / 2 &&& 6148914691236517205 ≤ 6148914691236517205 := Nat.and_le_right
  have h2 : x &&& 6148914691236517205 ≤ 6148914691236517205 := Nat.and_le_right
  rw [e1, show (6148914691236517205 : Int) = ((6148914691236517205 : Nat) : Int) from rfl, u64_and_nat _ _ (by omega) (by omega), u64_and_nat _ _ (by omega) (by omega), IntKind.wrap_u64]
  unfold sw1
  omega
theorem s2_cast (x : Nat) (hx : x < 18446744073709551616) : IntKind.u64.wrap (bits .and .u64 ((x : Int) / 4) 3689348814741910323 + bits .and .u64 (x : Int) 3689348814741910323) = (sw2 x : Int) ∧ sw2 x < 18446744073709551616 := by
  have e1 : ((x : Int) / 4) = ((x / 4 : Nat) : Int) := by simp
  have h1 : x / 4 &&& 3689348814741910323 ≤ 3689348814741910323 := Nat.and_le_right
  have h2 : x &&& 3689348814741910323 ≤ 3689348814741910323 := Nat.and_le_right
  rw [e1, show (3689348814741910323 : Int) = ((3689348814741910323 : Nat) : Int) from rfl, u64_and_nat _ _ (by omega) (by omega), u64_and_nat _ _ (by omega) (by omega), IntKind.wrap_u64]
  unfold sw2
  omega
theorem s3_cast (x : Nat) (hx : x ≤ 7378697629483820646) : bits .and .u64 (IntKind.u64.wrap ((x : Int) / 16 + (x : Int))) 1085102592571150095 = (sw3 x : Int) := by
  have e1 : IntKind.u64.wrap ((x : Int) / 16 + (x : Int)) = ((x / 16 + x : Nat) : Int) := by rw [IntKind.wrap_u64]; omega
  rw [e1, show (1085102592571150095 : Int) = ((1085102592571150095 : Nat) : Int) from rfl, u64_and_nat _ _ (by omega) (by omega)]
  rfl
theorem sw2_le (x : Nat) : sw2 x ≤ 7378697629483820646 := by
  have h1 : x / 4 &&& 3689348814741910323 ≤ 3689348814741910323 := Nat.and_le_right
  have h2 : x &&& 3689348814741910323 ≤ 3689348814741910323 := Nat.and_le_right
  unfold sw2; omega
theorem and127 (n : Nat) (h : n < 9223372036854775808) : bits .and .i64 (n : Int) 127 = ((n % 128 : Nat) : Int) := by
  have h1 : (BitVec.ofInt 64 (n : Int)).toNat = n := ofInt_u64 n (by omega)
  have h2 : (BitVec.ofInt 64 (127 : Int)).toNat = 127 := by decide
  have h3 : n &&& 127 = n % 128 := Nat.and_two_pow_sub_one_eq_mod n 7
  show IntKind.i64.wrap ((BitVec.ofInt 64 (n : Int) &&& BitVec.ofInt 64 127).toNat : Int) = _
  rw [BitVec.toNat_and, h1, h2, h3]
  simp [IntKind.wrap, IntKind.signed, IntKind.bits]
  omega

theorem ones_any (x : Nat) (w : World) (hx : x < 18446744073709551616) :
    Calls Try.prog 83 #[.int .u64 x] w fun e w' => e = .returned (.int .i64 (pop 64 x)) ∧ w' = w := by
  go_enter Try.func83, Try.ntmps83
  go_wp2
  go_ret
  refine ⟨ret_int ?_, rfl⟩
  obtain ⟨c1, c2, c3⟩ := count_is x hx
  obtain ⟨e1, l1⟩ := s1_cast x hx
  obtain ⟨e2, l2⟩ := s2_cast (sw1 x) l1
  have e3 := s3_cast (sw2 (sw1 x)) (sw2_le _)
  rw [e1, e2, e3]
  have e4 : IntKind.u64.wrap ((sw3 (sw2 (sw1 x)) : Int) + (sw3 (sw2 (sw1 x)) : Int) / 256) = ((sw x + sw x / 256 : Nat) : Int) := by
    rw [IntKind.wrap_u64]; unfold sw at *; omega
  rw [e4]
  have e5 : IntKind.u64.wrap (((sw x + sw x / 256 : Nat) : Int) + ((sw x + sw x / 256 : Nat) : Int) / 65536) = ((sw x + sw x / 256 + (sw x + sw x / 256) / 65536 : Nat) : Int) := by
    rw [IntKind.wrap_u64]; omega
  rw [e5]
  have e6 : IntKind.u64.wrap (((sw x + sw x / 256 + (sw x + sw x / 256) / 65536 : Nat) : Int) + ((sw x + sw x / 256 + (sw x + sw x / 256) / 65536 : Nat) : Int) / 4294967296) = (sum8 (sw x) : Int) := by
    rw [IntKind.wrap_u64]; unfold sum8 at *; omega
  rw [e6, wrap64_small (by omega) (by omega), and127 _ c2, c1]

theorem count_any (x : Nat) (w : World) (hx : x < 18446744073709551616) :
    Calls Try.prog 59 #[.int .u64 x] w fun e w' => e = .returned (.int .i64 (pop 64 x)) ∧ w' = w := by
  go_enter Try.func59, Try.ntmps59
  go_wp2_with (go_at_call 83; refine (ones_any _ _ hx).mono ?_; rintro e w' ⟨rfl, rfl⟩)
  go_ret
  exact ⟨rfl, rfl⟩

end Go.Proofs.Ytoddbaljnlhhaaa.BL
