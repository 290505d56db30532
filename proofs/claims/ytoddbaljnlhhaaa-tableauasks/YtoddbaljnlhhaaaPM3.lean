/-
  Plain mathematics of Pauli strings: what a product's phase is, the laws of the group, weights. Of no program.
-/
import Derived.Test.YtoddbaljnlhhaaaPMath2
namespace Go.Proofs.Ytoddbaljnlhhaaa.PL
open Go.RowKit

theorem bt_and (a b i : Nat) : bt (a &&& b) i = bt a i * bt b i := by
  unfold bt; rw [Nat.testBit_and]; cases a.testBit i <;> cases b.testBit i <;> rfl
theorem bt01 (x i : Nat) : bt x i = 0 ∨ bt x i = 1 := by have := bt_le x i; omega
theorem and_lt {a b : Nat} (ha : a < 18446744073709551616) : a &&& b < 18446744073709551616 := Nat.lt_of_le_of_lt Nat.and_le_left ha

/-- Sums over the lowest bits, place by place. -/
theorem pop_rel4 (n a b c d : Nat) (h : ∀ i, (bt a i + bt b i) % 2 = (bt c i + bt d i) % 2) : (pop n a + pop n b) % 2 = (pop n c + pop n d) % 2 := by
  induction n with
  | zero => rfl
  | succ n ih => have := h n; simp only [pop]; omega
theorem pop_le_add (n a b c : Nat) (h : ∀ i, bt a i ≤ bt b i + bt c i) : pop n a ≤ pop n b + pop n c := by
  induction n with
  | zero => simp [pop]
  | succ n ih => have := h n; simp only [pop]; omega
theorem pop_parity (n a b c : Nat) (h : ∀ i, bt a i % 2 = (bt b i + bt c i) % 2) : pop n a % 2 = (pop n b + pop n c) % 2 := by
  induction n with
  | zero => rfl
  | succ n ih => have := h n; simp only [pop]; omega
theorem pop_up {x n : Nat} (hx : x < 2 ^ n) : ∀ m, n ≤ m → pop m x = pop n x := by
  intro m hm
  induction m with
  | zero => have : n = 0 := by omega
            subst this; rfl
  | succ m ih =>
    by_cases h : n = m + 1
    · subst h; rfl
    · simp only [pop]
      rw [ih (by omega)]
      have : bt x m = 0 := bt_zero.2 (Nat.testBit_lt_two_pow (Nat.lt_of_lt_of_le hx (Nat.pow_le_pow_right (by decide) (by omega))))
      omega
theorem pop_le64 {x n : Nat} (hx : x < 2 ^ n) (hn : n ≤ 64) : pop 64 x ≤ n := by rw [pop_up hx 64 hn]; exact pop_le n x
theorem pow_le64 {n : Nat} (hn : n ≤ 64) : 2 ^ n ≤ 18446744073709551616 := Nat.pow_le_pow_right (n := 2) (by decide) hn
theorem lt64 {x n : Nat} (hx : x < 2 ^ n) (hn : n ≤ 64) : x < 18446744073709551616 := Nat.lt_of_lt_of_le hx (pow_le64 hn)

/-- The product's phase. -/
def mulF (x z f x' z' f' : Nat) : Nat :=
  (f + pop 64 (x &&& z) + f' + pop 64 (x' &&& z') + 2 * pop 64 (z &&& x') + 3 * pop 64 ((x ^^^ x') &&& (z ^^^ z'))) % 4
theorem mulF_lt (x z f x' z' f' : Nat) : mulF x z f x' z' f' < 4 := Nat.mod_lt _ (by decide)

theorem mulF_assoc (x z f x' z' f' x2 z2 f2 : Nat) :
    mulF (x ^^^ x') (z ^^^ z') (mulF x z f x' z' f') x2 z2 f2 = mulF x z f (x' ^^^ x2) (z' ^^^ z2) (mulF x' z' f' x2 z2 f2) := by
  unfold mulF
  have h := pop_rel4 64 (z &&& x') ((z ^^^ z') &&& x2) (z' &&& x2) (z &&& (x' ^^^ x2)) (fun i => by
    rw [bt_and, bt_and, bt_and, bt_and, bt_xor, bt_xor]
    rcases bt01 z i with e1 | e1 <;> rcases bt01 z' i with e2 | e2 <;> rcases bt01 x' i with e3 | e3 <;> rcases bt01 x2 i with e4 | e4 <;> rw [e1, e2, e3, e4])
  rw [Nat.xor_assoc x, Nat.xor_assoc z]
  omega
theorem mulF_eye (x z f : Nat) (hf : f < 4) : mulF 0 0 0 x z f = f := by
  unfold mulF
  rw [Nat.zero_and, Nat.zero_and, Nat.zero_xor, Nat.zero_xor, pop_zero]; omega
theorem mulF_eye' (x z f : Nat) (hf : f < 4) : mulF x z f 0 0 0 = f := by
  unfold mulF
  rw [Nat.zero_and, Nat.and_zero, Nat.xor_zero, Nat.xor_zero, pop_zero]; omega
theorem mulF_back (x z f : Nat) (hf : f < 4) : mulF x z f x z ((4 - f) % 4) = 0 := by
  unfold mulF
  rw [Nat.xor_self, Nat.xor_self, Nat.and_self, pop_zero, Nat.and_comm z x]; omega
theorem mulF_back' (x z f : Nat) (hf : f < 4) : mulF x z ((4 - f) % 4) x z f = 0 := by
  unfold mulF
  rw [Nat.xor_self, Nat.xor_self, Nat.and_self, pop_zero, Nat.and_comm z x]; omega
/-- How often they don't commute, modulo 2. -/
def comB (x z x' z' : Nat) : Nat := pop 64 ((x &&& z') ^^^ (z &&& x')) % 2
theorem comB_is (x z x' z' : Nat) : comB x z x' z' = (pop 64 (x &&& z') + pop 64 (z &&& x')) % 2 := by
  unfold comB
  exact pop_parity 64 _ _ _ (fun i => by rw [bt_xor]; omega)
theorem mulF_turn (x z f x' z' f' : Nat) : mulF x z f x' z' f' = (mulF x' z' f' x z f + 2 * comB x z x' z') % 4 := by
  unfold mulF
  rw [comB_is, Nat.xor_comm x' x, Nat.xor_comm z' z, Nat.and_comm z' x]
  omega
theorem mulF_comm_iff (x z f x' z' f' : Nat) : mulF x z f x' z' f' = mulF x' z' f' x z f ↔ comB x z x' z' = 0 := by
  rw [mulF_turn x z f]
  have := mulF_lt x' z' f' x z f
  have : comB x z x' z' < 2 := Nat.mod_lt _ (by decide)
  omega
/-- The weight. -/
def wgt (x z : Nat) : Nat := pop 64 (x ||| z)
theorem bt_or' (a b i : Nat) : bt (a ||| b) i = max (bt a i) (bt b i) := bt_or a b i
theorem wgt_mul (x z x' z' : Nat) : wgt (x ^^^ x') (z ^^^ z') ≤ wgt x z + wgt x' z' := by
  unfold wgt
  refine pop_le_add 64 _ _ _ fun i => ?_
  rw [bt_or, bt_or, bt_or, bt_xor, bt_xor]
  rcases bt01 x i with e1 | e1 <;> rcases bt01 z i with e2 | e2 <;> rcases bt01 x' i with e3 | e3 <;> rcases bt01 z' i with e4 | e4 <;> rw [e1, e2, e3, e4] <;> decide
theorem wgt_mul' (x z x' z' : Nat) : wgt x z ≤ wgt (x ^^^ x') (z ^^^ z') + wgt x' z' := by
  have h := wgt_mul (x ^^^ x') (z ^^^ z') x' z'
  rwa [Nat.xor_assoc, Nat.xor_self, Nat.xor_zero, Nat.xor_assoc, Nat.xor_self, Nat.xor_zero] at h
theorem or_ltn {x z n : Nat} (hx : x < 2 ^ n) (hz : z < 2 ^ n) : x ||| z < 2 ^ n := Nat.or_lt_two_pow hx hz
theorem xor_ltn {x z n : Nat} (hx : x < 2 ^ n) (hz : z < 2 ^ n) : x ^^^ z < 2 ^ n := Nat.xor_lt_two_pow hx hz
theorem wgt_le {x z n : Nat} (hx : x < 2 ^ n) (hz : z < 2 ^ n) (hn : n ≤ 64) : wgt x z ≤ n := pop_le64 (or_ltn hx hz) hn

/-! ### Whole numbers of the machine -/
theorem i_and (a b : Nat) (ha : a < 18446744073709551616) (hb : b < 18446744073709551616) : bits .and .u64 (a : Int) (b : Int) = ((a &&& b : Nat) : Int) := u64_and_nat a b ha hb
theorem and3 (n : Int) : bits .and .i64 n 3 = n % 4 := by
  show IntKind.i64.wrap ((BitVec.ofInt 64 n &&& BitVec.ofInt 64 3).toNat : Int) = _
  have h1 : (BitVec.ofInt 64 n).toNat = (n % 18446744073709551616).toNat := by simp [BitVec.toNat_ofInt]
  have h3 : ∀ k : Nat, k &&& 3 = k % 4 := fun k => Nat.and_two_pow_sub_one_eq_mod k 2
  rw [BitVec.toNat_and, h1, show (BitVec.ofInt 64 3).toNat = 3 from rfl, h3]
  simp [IntKind.wrap, IntKind.signed, IntKind.bits]
  omega

end Go.Proofs.Ytoddbaljnlhhaaa.PL
