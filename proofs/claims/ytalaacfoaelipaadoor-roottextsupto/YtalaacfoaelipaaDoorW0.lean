/-
  Whole numbers of 128 bits in two words: plain mathematics.
-/
import Derived.WalkKit
import Derived.Laws.Bits64b
namespace Go.Proofs.YtalaacfoaelipaaDoor
open Go.RowKit

/-- The high word and the low word of a whole number, in two's complement. -/
def hiW (v : Int) : Int := v / 18446744073709551616 % 18446744073709551616
def loW (v : Int) : Int := v % 18446744073709551616
theorem hiW_b (v : Int) : 0 ≤ hiW v ∧ hiW v < 18446744073709551616 := by unfold hiW; omega
theorem loW_b (v : Int) : 0 ≤ loW v ∧ loW v < 18446744073709551616 := by unfold loW; omega
/-- Within 128 bits. -/
def In128 (v : Int) : Prop := -170141183460469231731687303715884105728 ≤ v ∧ v < 170141183460469231731687303715884105728
theorem w_eq {a b : Int} (h1 : hiW a = hiW b) (h2 : loW a = loW b) (ha : In128 a) (hb : In128 b) : a = b := by
  unfold In128 hiW loW at *; omega

theorem m_of (n : Int) (h0 : -9223372036854775808 ≤ n) (h1 : n ≤ 9223372036854775807) :
    IntKind.u64.wrap (n / 9223372036854775808) = hiW n ∧ IntKind.u64.wrap n = loW n := by
  unfold hiW loW; rw [IntKind.wrap_u64, IntKind.wrap_u64]; omega
theorem m_plus (a b : Int) : (loW a + loW b) % 18446744073709551616 = loW (a + b) ∧ (hiW a + hiW b + (loW a + loW b) / 18446744073709551616) % 18446744073709551616 = hiW (a + b) := by
  unfold hiW loW; omega
def bor (x y : Int) : Int := if x < y then 1 else 0
theorem m_neg (a : Int) : (18446744073709551616 - loW a) % 18446744073709551616 = loW (-a) ∧ (18446744073709551616 - hiW a - bor 0 (loW a)) % 18446744073709551616 = hiW (-a) := by
  unfold hiW loW bor; split <;> omega

theorem or_join (x y n : Nat) (hy : y < 2 ^ n) : 2 ^ n * x ||| y = 2 ^ n * x + y := (Nat.two_pow_add_eq_or_of_lt hy x).symm
theorem or_join' (h y t : Int) (n : Nat) (ht : t = 2 ^ n) (x : Int) (hx : h = t * x) (hx0 : 0 ≤ x) (hh : h < 18446744073709551616) (hy0 : 0 ≤ y) (hy : y < t) (hy' : y < 18446744073709551616) :
    bits .or .u64 h y = h + y := by
  obtain ⟨X, rfl⟩ := Int.eq_ofNat_of_zero_le hx0
  obtain ⟨Y, rfl⟩ := Int.eq_ofNat_of_zero_le hy0
  have e : h = ((2 ^ n * X : Nat) : Int) := by rw [hx, ht]; simp
  subst ht
  have hY : Y < 2 ^ n := by exact_mod_cast hy
  rw [e]
  rw [e] at hh
  rw [bits_or_u64_nat _ _ (by omega) (by omega), or_join X Y n hY]
  simp

theorem pow_split (n : Nat) (hn : n ≤ 64) : (2 : Int) ^ n * 2 ^ (64 - n) = 18446744073709551616 := by
  rw [← Int.pow_add, show n + (64 - n) = 64 by omega]; rfl
theorem pow_pos' (n : Nat) : (0 : Int) < 2 ^ n := Int.pow_pos (by omega)

/-- The high word of a number t-fold; t s = 2^64. -/
theorem m_up (a : Int) (n : Nat) (hn : n ≤ 64) :
    bits .or .u64 (IntKind.u64.wrap (hiW a * 2 ^ n)) (loW a / 2 ^ (64 - n)) = hiW (a * 2 ^ n) ∧ IntKind.u64.wrap (loW a * 2 ^ n) = loW (a * 2 ^ n) := by
  have hp := pow_split n hn
  have ht := pow_pos' n
  have hs := pow_pos' (64 - n)
  rw [IntKind.wrap_u64, IntKind.wrap_u64]
  have hl := loW_b a
  have hh := hiW_b a
  generalize hT : (2 : Int) ^ n = t at *
  generalize (2 : Int) ^ (64 - n) = s at *
  have e1 : loW a / s < t := by
    apply Int.ediv_lt_of_lt_mul hs
    rw [hp]; exact hl.2
  have e0 : 0 ≤ loW a / s := Int.ediv_nonneg hl.1 (by omega)
  have d1 : hiW a * t % 18446744073709551616 = t * (hiW a % s) := by
    rw [← hp, Int.mul_comm (hiW a) t, Int.mul_emod_mul_of_pos _ _ ht]
  constructor
  · have b1 : t * (hiW a % s) < 18446744073709551616 := by rw [← d1]; exact Int.emod_lt_of_pos _ (by omega)
    have m1 := Int.emod_nonneg (hiW a) (Int.ne_of_gt hs)
    have mle : t ≤ 18446744073709551616 := by
      have := Int.mul_le_mul_of_nonneg_left (show 1 ≤ s by omega) (Int.le_of_lt ht)
      rwa [Int.mul_one, hp] at this
    rw [d1, or_join' _ _ t n hT.symm (hiW a % s) rfl m1 b1 e0 e1 (by omega)]
    -- the high word of the product
    have a1 : a = 18446744073709551616 * (a / 18446744073709551616) + loW a := by unfold loW; omega
    have q1 : a * t / 18446744073709551616 = a / 18446744073709551616 * t + loW a / s := by
      have : a * t = loW a * t + 18446744073709551616 * (a / 18446744073709551616 * t) := by
        conv => lhs; rw [a1]
        rw [Int.add_mul, Int.mul_assoc]; omega
      rw [this, Int.add_mul_ediv_left _ _ (by omega)]
      have : loW a * t / 18446744073709551616 = loW a / s := by
        rw [← hp, Int.mul_comm (loW a) t, Int.mul_ediv_mul_of_pos _ _ ht]
      omega
    have hw : hiW (a * t) = (a / 18446744073709551616 * t + loW a / s) % 18446744073709551616 := by unfold hiW; rw [q1]
    rw [hw]
    have q2 : a / 18446744073709551616 * t % 18446744073709551616 = t * (hiW a % s) := by
      rw [← d1]; unfold hiW
      rw [Int.mul_emod (a / 18446744073709551616 % 18446744073709551616) t, Int.emod_emod_of_dvd _ (Int.dvd_refl _), ← Int.mul_emod]
    rw [Int.add_emod, q2]
    have b2 : t * (hiW a % s) + loW a / s < 18446744073709551616 := by
      have : hiW a % s ≤ s - 1 := by have := Int.emod_lt_of_pos (hiW a) hs; omega
      have := Int.mul_le_mul_of_nonneg_left this (Int.le_of_lt ht)
      rw [Int.mul_sub, hp] at this
      omega
    have b0 : 0 ≤ t * (hiW a % s) := Int.mul_nonneg (by omega) m1
    rw [Int.emod_eq_of_lt e0 (by omega), Int.emod_eq_of_lt (by omega) b2]
  · unfold loW
    rw [Int.mul_emod (a % 18446744073709551616) t, Int.emod_emod_of_dvd _ (Int.dvd_refl _), ← Int.mul_emod]

/-- The words of a number over t. -/
theorem m_down (a : Int) (n : Nat) (hn : n ≤ 64) (ha : In128 a) :
    IntKind.u64.wrap (wrap64 (hiW a) / 2 ^ n) = hiW (a / 2 ^ n) ∧ bits .or .u64 (IntKind.u64.wrap (hiW a * 2 ^ (64 - n))) (loW a / 2 ^ n) = loW (a / 2 ^ n) := by
  have hp := pow_split n hn
  have ht := pow_pos' n
  have hs := pow_pos' (64 - n)
  have hl := loW_b a
  have hh := hiW_b a
  have hwr : wrap64 (hiW a) = a / 18446744073709551616 := by
    unfold In128 at ha; unfold hiW wrap64; omega
  rw [IntKind.wrap_u64, IntKind.wrap_u64, hwr]
  generalize (2 : Int) ^ n = t at *
  generalize hS : (2 : Int) ^ (64 - n) = s at *
  constructor
  · unfold hiW
    rw [Int.ediv_ediv_of_nonneg (by omega), Int.ediv_ediv_of_nonneg (by omega), Int.mul_comm]
  · have hp' : s * t = 18446744073709551616 := by rw [Int.mul_comm]; exact hp
    have e1 : loW a / t < s := by
      apply Int.ediv_lt_of_lt_mul ht
      rw [hp']; exact hl.2
    have e0 : 0 ≤ loW a / t := Int.ediv_nonneg hl.1 (by omega)
    have d1 : hiW a * s % 18446744073709551616 = s * (hiW a % t) := by
      rw [← hp', Int.mul_comm (hiW a) s, Int.mul_emod_mul_of_pos _ _ hs]
    have b1 : s * (hiW a % t) < 18446744073709551616 := by rw [← d1]; exact Int.emod_lt_of_pos _ (by omega)
    have m1 := Int.emod_nonneg (hiW a) (Int.ne_of_gt ht)
    have mle : s ≤ 18446744073709551616 := by
      have := Int.mul_le_mul_of_nonneg_left (show 1 ≤ t by omega) (Int.le_of_lt hs)
      rwa [Int.mul_one, hp'] at this
    rw [d1, or_join' _ _ s (64 - n) hS.symm (hiW a % t) rfl m1 b1 e0 e1 (by omega)]
    have a1 : a = 18446744073709551616 * (a / 18446744073709551616) + loW a := by unfold loW; omega
    have q1 : a / t = a / 18446744073709551616 * s + loW a / t := by
      have : a = loW a + t * (a / 18446744073709551616 * s) := by
        conv => lhs; rw [a1]
        rw [Int.mul_comm (a / 18446744073709551616) s, ← Int.mul_assoc, hp]; omega
      conv => lhs; rw [this]
      rw [Int.add_mul_ediv_left _ _ (by omega)]
      omega
    have hw : loW (a / t) = (a / 18446744073709551616 * s + loW a / t) % 18446744073709551616 := by unfold loW; rw [q1]; rfl
    rw [hw]
    have q2 : a / 18446744073709551616 * s % 18446744073709551616 = s * (hiW a % t) := by
      rw [← d1]; unfold hiW
      rw [Int.mul_emod (a / 18446744073709551616 % 18446744073709551616) s, Int.emod_emod_of_dvd _ (Int.dvd_refl _), ← Int.mul_emod]
    rw [Int.add_emod, q2]
    have b2 : s * (hiW a % t) + loW a / t < 18446744073709551616 := by
      have : hiW a % t ≤ t - 1 := by have := Int.emod_lt_of_pos (hiW a) ht; omega
      have := Int.mul_le_mul_of_nonneg_left this (Int.le_of_lt hs)
      rw [Int.mul_sub, hp'] at this
      omega
    have b0 : 0 ≤ s * (hiW a % t) := Int.mul_nonneg (by omega) m1
    rw [Int.emod_eq_of_lt e0 (by omega), Int.emod_eq_of_lt (by omega) b2]
end Go.Proofs.YtalaacfoaelipaaDoor
