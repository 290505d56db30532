/-
  The order of roots (P5.3, P5.4). Plain mathematics.
-/
import Derived.Test.YtalaacfoaelipaaDoorS4
namespace Go.Proofs.YtalaacfoaelipaaDoor
open Go.RowKit

theorem sgn_pos {x : Int} (h : 0 < x) : sgn x = 1 := by unfold sgn; rw [if_neg (by omega), if_neg (by omega)]
theorem sgn_neg {x : Int} (h : x < 0) : sgn x = -1 := by unfold sgn; rw [if_pos h]
theorem sgn_mul (x y : Int) : sgn (x * y) = sgn x * sgn y := by
  rcases Int.lt_trichotomy x 0 with h1 | rfl | h1 <;> rcases Int.lt_trichotomy y 0 with h2 | rfl | h2
  · rw [sgn_neg h1, sgn_neg h2, sgn_pos (Int.mul_pos_of_neg_of_neg h1 h2)]; rfl
  · rw [Int.mul_zero, sgn_neg h1]; rfl
  · rw [sgn_neg h1, sgn_pos h2, sgn_neg (Int.mul_neg_of_neg_of_pos h1 h2)]; rfl
  · rw [Int.zero_mul, sgn_neg h2]; rfl
  · rfl
  · rw [Int.zero_mul, sgn_pos h2]; rfl
  · rw [sgn_pos h1, sgn_neg h2, sgn_neg (Int.mul_neg_of_pos_of_neg h1 h2)]; rfl
  · rw [Int.mul_zero, sgn_pos h1]; rfl
  · rw [sgn_pos h1, sgn_pos h2, sgn_pos (Int.mul_pos h1 h2)]; rfl
theorem sgn_scale (x t : Int) (ht : 0 < t) : sgn (x * t) = sgn x := by rw [sgn_mul, sgn_pos ht, Int.mul_one]
/-- By the norm: where p^2 is above 2 q^2, p's sign; else q's. -/
theorem signS_norm (p q : Int) : signS p q = if q * q * 2 < p * p then sgn p else sgn q := by
  unfold signS
  split
  · split
    · rfl
    · assumption
  · rfl
theorem signS_scale (p q : Int) (n : Nat) : signS (p * 2 ^ n) (q * 2 ^ n) = signS p q := by
  have ht := pow_pos' n
  have key : q * 2 ^ n * (q * 2 ^ n) * 2 < p * 2 ^ n * (p * 2 ^ n) ↔ q * q * 2 < p * p := by
    rw [mul4, mul4, Int.mul_right_comm]
    have hT : 0 < (2 : Int) ^ n * 2 ^ n := Int.mul_pos ht ht
    constructor
    · intro h; exact Int.lt_of_mul_lt_mul_right h (Int.le_of_lt hT)
    · intro h; exact Int.mul_lt_mul_of_pos_right h hT
  rw [signS_norm, signS_norm, sgn_scale _ _ ht, sgn_scale _ _ ht]
  by_cases h : q * q * 2 < p * p
  · rw [if_pos h, if_pos (key.2 h)]
  · rw [if_neg h, if_neg (fun g => h (key.1 g))]
theorem msn (x : Int) : 0 ≤ x * x := by
  rcases Int.lt_or_le x 0 with h | h
  · exact Int.le_of_lt (Int.mul_pos_of_neg_of_neg h h)
  · exact Int.mul_nonneg h h
theorem sgn_add {x y : Int} (h : y * y < x * x) : sgn (x + y) = sgn x := by
  rcases Int.lt_trichotomy x 0 with h1 | rfl | h1
  · rw [sgn_neg h1, sgn_neg]
    rcases Int.lt_or_le y 0 with h2 | h2
    · omega
    · have := sq_lt h2 (show 0 ≤ -x by omega) (by rw [Int.neg_mul_neg]; exact h); omega
  · have := msn y
    omega
  · rw [sgn_pos h1, sgn_pos]
    rcases Int.lt_or_le y 0 with h2 | h2
    · have := sq_lt (show 0 ≤ -y by omega) (show 0 ≤ x by omega) (by rw [Int.neg_mul_neg]; exact h); omega
    · omega
theorem sq_mul_lt {a b c d : Int} (ha : 0 ≤ a) (hc : 0 ≤ c) (h1 : a < b) (h2 : c < d) : a * c < b * d :=
  Int.lt_of_le_of_lt (Int.mul_le_mul_of_nonneg_right (Int.le_of_lt h1) hc) (Int.mul_lt_mul_of_pos_left h2 (by omega))
/-- The sign of a product. -/
theorem signS_mul (p q r s : Int) : signS (p * r + q * s * 2) (p * s + q * r) = signS p q * signS r s := by
  have npp := msn p
  have nqq := msn q
  have nrr := msn r
  have nss := msn s
  by_cases hq : p = 0 ∧ q = 0
  · obtain ⟨rfl, rfl⟩ := hq
    simp only [Int.zero_mul, Int.zero_add]
    rw [show signS 0 0 = 0 from rfl, Int.zero_mul]
  by_cases hs : r = 0 ∧ s = 0
  · obtain ⟨rfl, rfl⟩ := hs
    simp only [Int.mul_zero, Int.zero_mul, Int.zero_add]
    rw [show signS 0 0 = 0 from rfl, Int.mul_zero]
  have i1 : p * p ≠ q * q * 2 := by
    by_cases h0 : q = 0
    · subst h0; intro h; exact hq ⟨(Int.mul_eq_zero.1 (show p * p = 0 by simpa using h)).elim id id, rfl⟩
    · exact irr h0
  have i2 : r * r ≠ s * s * 2 := by
    by_cases h0 : s = 0
    · subst h0; intro h; exact hs ⟨(Int.mul_eq_zero.1 (show r * r = 0 by simpa using h)).elim id id, rfl⟩
    · exact irr h0
  -- the norm of the product
  have N : (p * r + q * s * 2) * (p * r + q * s * 2) - (p * s + q * r) * (p * s + q * r) * 2 = (p * p - q * q * 2) * (r * r - s * s * 2) := by
    simp only [Int.mul_add, Int.add_mul, Int.mul_sub, Int.mul_assoc, Int.mul_comm, Int.mul_left_comm]
    omega
  have e1 : p * r * (p * r) = p * p * (r * r) := mul4 p r
  have e2 : q * s * 2 * (q * s * 2) = (q * q * 2) * (s * s * 2) := by
    rw [mul4, mul4]
    generalize q * q = x
    generalize s * s = y
    rw [Int.mul_assoc x 2, Int.mul_left_comm 2 y 2, ← Int.mul_assoc x y]
  have e3 : p * s * (p * s) = p * p * (s * s) := mul4 p s
  have e4 : q * r * (q * r) = q * q * (r * r) := mul4 q r
  have x3 : p * p * (s * s * 2) = p * p * (s * s) * 2 := (Int.mul_assoc _ _ _).symm
  have x4 : q * q * 2 * (r * r) = q * q * (r * r) * 2 := Int.mul_right_comm _ _ _
  rw [signS_norm, signS_norm p q, signS_norm r s]
  by_cases h1 : q * q * 2 < p * p <;> by_cases h2 : s * s * 2 < r * r
  · rw [if_pos h1, if_pos h2]
    have hN : 0 < (p * p - q * q * 2) * (r * r - s * s * 2) := Int.mul_pos (by omega) (by omega)
    rw [if_pos (by omega), sgn_add (by rw [e1, e2]; exact sq_mul_lt (by omega) (by omega) h1 h2), sgn_mul]
  · rw [if_pos h1, if_neg h2]
    have hN : (p * p - q * q * 2) * (r * r - s * s * 2) < 0 := Int.mul_neg_of_pos_of_neg (by omega) (by omega)
    have hl : q * q * 2 * (r * r) < p * p * (s * s * 2) := sq_mul_lt (by omega) (by omega) h1 (by omega)
    rw [if_neg (by omega), sgn_add (by rw [e3, e4]; omega), sgn_mul]
  · rw [if_neg h1, if_pos h2]
    have hN : (p * p - q * q * 2) * (r * r - s * s * 2) < 0 := Int.mul_neg_of_neg_of_pos (by omega) (by omega)
    have hl : p * p * (s * s * 2) < q * q * 2 * (r * r) := sq_mul_lt (by omega) (by omega) (by omega) h2
    rw [if_neg (by omega), Int.add_comm, sgn_add (by rw [e3, e4]; omega), sgn_mul]
  · rw [if_neg h1, if_neg h2]
    have hN : 0 < (p * p - q * q * 2) * (r * r - s * s * 2) := Int.mul_pos_of_neg_of_neg (by omega) (by omega)
    rw [if_pos (by omega), Int.add_comm, sgn_add (by rw [e1, e2]; exact sq_mul_lt (by omega) (by omega) (by omega) (by omega)), sgn_mul, sgn_mul]
    rw [show sgn 2 = 1 from rfl, Int.mul_one]

/-- A root's value, as one whole number. -/
def L (a b : Int) (c : Nat) : Int := V a c * dD + V b c * eE
theorem V_bound {a : Int} {c : Nat} (ha : -9007199254740991 ≤ a ∧ a ≤ 9007199254740991) : -23945242826029513411849172299223580994042798784118784 < V a c ∧ V a c < 23945242826029513411849172299223580994042798784118784 := by
  unfold V
  have h1 : (2 : Int) ^ (120 - c) ≤ 1329227995784915872903807060280344576 := by
    have : (2 : Nat) ^ (120 - c) ≤ 2 ^ 120 := Nat.pow_le_pow_right (by omega) (by omega)
    have h2 : ((2 ^ (120 - c) : Nat) : Int) = 2 ^ (120 - c) := by simp
    have h3 : (2 : Nat) ^ 120 = 1329227995784915872903807060280344576 := rfl
    rw [← h2]; omega
  have h0 := pow_pos' (120 - c)
  generalize (2 : Int) ^ (120 - c) = t at *
  have u1 := Int.mul_le_mul ha.2 h1 (by omega) (by omega)
  have u2 := Int.mul_le_mul (show -a ≤ 9007199254740991 by omega) h1 (by omega) (by omega)
  rw [Int.neg_mul] at u2
  omega
theorem sign_L {a b c : Int} (h : isRoot a b c) : signS a b = sgn (L a b c.toNat) := by
  have b1 := V_bound (c := c.toNat) h.1
  have b2 := V_bound (c := c.toNat) h.2.1
  have e : signS (V a c.toNat) (V b c.toNat) = signS a b := by unfold V; exact signS_scale a b _
  rw [← e, signS_lin _ _ (by omega) (by omega)]
  rfl
/-- What Compare tells of two roots. -/
def cmpR (a b c d e f : Int) : Int :=
  signS (sumP a (-d) (max c.toNat f.toNat) c.toNat f.toNat) (sumP b (-e) (max c.toNat f.toNat) c.toNat f.toNat)
theorem cmp_L {a b c d e f : Int} (h1 : isRoot a b c) (h2 : isRoot d e f) : cmpR a b c d e f = sgn (L a b c.toNat - L d e f.toNat) := by
  have hc := h1.2.2.1
  have hf := h2.2.2.1
  have b1 := V_bound (c := c.toNat) h1.1
  have b2 := V_bound (c := c.toNat) h1.2.1
  have b3 := V_bound (c := f.toNat) h2.1
  have b4 := V_bound (c := f.toNat) h2.2.1
  have v1 := V_sum a (-d) (max c.toNat f.toNat) c.toNat f.toNat (by omega) (by omega) (by omega)
  have v2 := V_sum b (-e) (max c.toNat f.toNat) c.toNat f.toNat (by omega) (by omega) (by omega)
  rw [V_neg] at v1 v2
  unfold cmpR
  generalize sumP a (-d) (max c.toNat f.toNat) c.toNat f.toNat = S at *
  generalize sumP b (-e) (max c.toNat f.toNat) c.toNat f.toNat = T at *
  have e' : signS (V S (max c.toNat f.toNat)) (V T (max c.toNat f.toNat)) = signS S T := by unfold V; exact signS_scale S T _
  rw [← e', signS_lin _ _ (by omega) (by omega), v1, v2]
  unfold L
  congr 1
  rw [Int.add_mul, Int.add_mul, Int.neg_mul, Int.neg_mul]
  omega
end Go.Proofs.YtalaacfoaelipaaDoor
