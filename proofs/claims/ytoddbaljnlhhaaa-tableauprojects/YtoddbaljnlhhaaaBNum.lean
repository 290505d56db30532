/-
  What Ungray, Close, Open, Swap and Low answer, and the reference's of the same names.
-/
import Derived.Test.YtoddbaljnlhhaaaBSmall
import Derived.Test.YtoddbaljnlhhaaaXF
namespace Go.Proofs.Ytoddbaljnlhhaaa.BL
open Go.RowKit

theorem drewN_two (w : World) (n m : Nat) : (w.drewN n).drewN m = w.drewN (n + m) := by
  exact World.drewN_drewN w n m
theorem i_shx1 (x : Nat) (hx : x < 18446744073709551616) : bits .xor .u64 (x : Int) ((x : Int) / 2) = (shx 1 x : Int) := by have := i_shx 1 x hx; simpa using this
theorem i_shx2 (x : Nat) (hx : x < 18446744073709551616) : bits .xor .u64 (x : Int) ((x : Int) / 4) = (shx 2 x : Int) := by have := i_shx 2 x hx; simpa using this
theorem i_shx4 (x : Nat) (hx : x < 18446744073709551616) : bits .xor .u64 (x : Int) ((x : Int) / 16) = (shx 4 x : Int) := by have := i_shx 4 x hx; simpa using this
theorem i_shx8 (x : Nat) (hx : x < 18446744073709551616) : bits .xor .u64 (x : Int) ((x : Int) / 256) = (shx 8 x : Int) := by have := i_shx 8 x hx; simpa using this
theorem i_shx16 (x : Nat) (hx : x < 18446744073709551616) : bits .xor .u64 (x : Int) ((x : Int) / 65536) = (shx 16 x : Int) := by have := i_shx 16 x hx; simpa using this
theorem i_shx32 (x : Nat) (hx : x < 18446744073709551616) : bits .xor .u64 (x : Int) ((x : Int) / 4294967296) = (shx 32 x : Int) := by have := i_shx 32 x hx; simpa using this

theorem and1 (n : Nat) (h : n < 9223372036854775808) : bits .and .i64 (n : Int) 1 = ((n % 2 : Nat) : Int) := by
  have h1 : (BitVec.ofInt 64 (n : Int)).toNat = n := ofInt_u64 n (by omega)
  have h2 : (BitVec.ofInt 64 (1 : Int)).toNat = 1 := by decide
  have h3 : n &&& 1 = n % 2 := Nat.and_one_is_mod n
  show IntKind.i64.wrap ((BitVec.ofInt 64 (n : Int) &&& BitVec.ofInt 64 1).toNat : Int) = _
  rw [BitVec.toNat_and, h1, h2, h3]
  simp [IntKind.wrap, IntKind.signed, IntKind.bits]
  omega

theorem parity_any (x : Nat) (w : World) (hx : x < 18446744073709551616) :
    Calls Try.prog 92 #[.int .u64 x] w fun e w' => e = .returned (.int .i64 ((pop 64 x % 2 : Nat) : Int)) ∧ w' = w := by
  have hp := pop_le 64 x
  go_enter Try.func92, Try.ntmps92
  go_wp2_with (go_at_call 59; refine (count_any _ _ hx).mono ?_; rintro e w' ⟨rfl, rfl⟩)
  go_ret
  exact ⟨ret_int (and1 _ (by omega)), rfl⟩

end Go.Proofs.Ytoddbaljnlhhaaa.BL
