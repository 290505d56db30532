/-
  The sign of p + q times the square root of 2, read off one whole number. Plain mathematics.
-/
import Derived.Test.YtalaacfoaelipaaDoorG4
import Derived.Test.YtalaacfoaelipaaDoorS3
namespace Go.Proofs.YtalaacfoaelipaaDoor
open Go.RowKit

/-- 2^410, and the greatest whole number below 2^410 times the square root of 2. -/
def dD : Int := 2644223875160994395807661232131084159313618731857124877138595181097623164945245383300756841758861139390364848100093433217024
def eE : Int := 3739497266203420043702972134815641303709881530461280852976618800332177172796555349176689859742883508108711858238329898902850
theorem de_facts : 0 < dD ∧ 0 < eE ∧ eE * eE ≤ 2 * (dD * dD) ∧ 2 * (dD * dD) < (eE + 1) * (eE + 1) ∧ 2 * eE + 1 ≤ 4 * dD ∧ 4 * (1606938044258990275541962092341162602522202993782792835301376 * 1606938044258990275541962092341162602522202993782792835301376) < dD := by decide +kernel
theorem sq_lt {x y : Int} (hx : 0 ≤ x) (hy : 0 ≤ y) (h : x * x < y * y) : x < y := by
  rcases Int.lt_or_le x y with h1 | h1
  · exact h1
  · have := Int.mul_le_mul h1 h1 hy hx
    omega
theorem mul4 (a b : Int) : a * b * (a * b) = a * a * (b * b) := by
  rw [Int.mul_assoc, Int.mul_left_comm b a b, ← Int.mul_assoc]
/-- Where p^2 is above 2 v^2. -/
theorem lin_gt {p v : Int} (hp : 0 < p) (hv : 0 ≤ v) (h : v * v * 2 < p * p) : v * eE < p * dD := by
  obtain ⟨d0, e0, f1, f2, f3, f4⟩ := de_facts
  refine sq_lt (Int.mul_nonneg hv (by omega)) (Int.mul_nonneg (by omega) (by omega)) ?_
  rw [mul4, mul4]
  have h1 : v * v * (eE * eE) ≤ v * v * (2 * (dD * dD)) := Int.mul_le_mul_of_nonneg_left f1 (Int.mul_nonneg hv hv)
  have h2 : v * v * (2 * (dD * dD)) = v * v * 2 * (dD * dD) := (Int.mul_assoc _ _ _).symm
  have h3 : v * v * 2 * (dD * dD) < p * p * (dD * dD) := Int.mul_lt_mul_of_pos_right h (Int.mul_pos d0 d0)
  omega
/-- Where p^2 is below 2 v^2. -/
theorem lin_lt {p v : Int} (hp : 0 ≤ p) (hv : 0 < v) (hb : v < 1606938044258990275541962092341162602522202993782792835301376) (h : p * p < v * v * 2) : p * dD < v * eE := by
  obtain ⟨d0, e0, f1, f2, f3, f4⟩ := de_facts
  refine sq_lt (Int.mul_nonneg hp (by omega)) (Int.mul_nonneg (by omega) (by omega)) ?_
  rw [mul4, mul4]
  have hvv : 0 < v * v := Int.mul_pos hv hv
  have hvb : v * v ≤ 1606938044258990275541962092341162602522202993782792835301376 * 1606938044258990275541962092341162602522202993782792835301376 := Int.mul_le_mul (by omega) (by omega) (by omega) (by omega)
  have hdd : 0 < dD * dD := Int.mul_pos d0 d0
  -- p^2 D^2 ≤ 2 v^2 D^2 - D^2
  have h1 : p * p * (dD * dD) ≤ (v * v * 2 - 1) * (dD * dD) := Int.mul_le_mul_of_nonneg_right (by omega) (by omega)
  rw [Int.sub_mul, Int.one_mul] at h1
  have h6 : v * v * 2 * (dD * dD) = v * v * (2 * (dD * dD)) := Int.mul_assoc _ _ _
  -- v^2 E^2 ≥ 2 v^2 D^2 - v^2 (2 E + 1) + v^2
  have e1 : (eE + 1) * (eE + 1) = eE * eE + (2 * eE + 1) := by rw [Int.add_mul, Int.mul_add]; omega
  have h2 : v * v * (2 * (dD * dD)) ≤ v * v * (eE * eE + (2 * eE + 1)) := Int.mul_le_mul_of_nonneg_left (by omega) (by omega)
  rw [Int.mul_add] at h2
  have h3 : v * v * (2 * eE + 1) ≤ v * v * (4 * dD) := Int.mul_le_mul_of_nonneg_left f3 (by omega)
  have h4 : v * v * (4 * dD) = 4 * (v * v) * dD := by rw [← Int.mul_assoc, Int.mul_comm (v * v) 4]
  have h5 : 4 * (v * v) * dD < dD * dD := Int.mul_lt_mul_of_pos_right (by omega) d0
  omega
/-- The square root of 2 is no fraction. -/
theorem irr_nat : ∀ (n p q : Nat), q ≤ n → p * p = q * q * 2 → q = 0
  | 0, _, q, hq, _ => by omega
  | n + 1, p, q, hq, h => by
    have hp : p % 2 = 0 := by
      have h1 : (p * p) % 2 = 0 := by omega
      rcases (show p % 2 = 0 ∨ p % 2 = 1 by omega) with h2 | h2
      · exact h2
      · rw [Nat.mul_mod, h2] at h1; simp at h1
    obtain ⟨p', rfl⟩ : ∃ p', p = 2 * p' := ⟨p / 2, by omega⟩
    have h3 : q * q = p' * p' * 2 := by
      have e : 2 * p' * (2 * p') = 4 * (p' * p') := by rw [Nat.mul_mul_mul_comm]
      omega
    have hq2 : q % 2 = 0 := by
      have h1 : (q * q) % 2 = 0 := by omega
      rcases (show q % 2 = 0 ∨ q % 2 = 1 by omega) with h2 | h2
      · exact h2
      · rw [Nat.mul_mod, h2] at h1; simp at h1
    obtain ⟨q', rfl⟩ : ∃ q', q = 2 * q' := ⟨q / 2, by omega⟩
    have h4 : p' * p' = q' * q' * 2 := by
      have e : 2 * q' * (2 * q') = 4 * (q' * q') := by rw [Nat.mul_mul_mul_comm]
      omega
    by_cases h0 : q' = 0
    · omega
    · have := irr_nat n p' q' (by omega) h4
      omega
theorem irr {p q : Int} (hq : q ≠ 0) : p * p ≠ q * q * 2 := fun h => by
  have h1 : p.natAbs * p.natAbs = q.natAbs * q.natAbs * 2 := by
    have a := Int.natAbs_mul_self (a := p)
    have b := Int.natAbs_mul_self (a := q)
    omega
  have := irr_nat q.natAbs p.natAbs q.natAbs (Nat.le_refl _) h1
  omega
theorem signS_lin (p q : Int) (hp : -1606938044258990275541962092341162602522202993782792835301376 < p ∧ p < 1606938044258990275541962092341162602522202993782792835301376) (hq : -1606938044258990275541962092341162602522202993782792835301376 < q ∧ q < 1606938044258990275541962092341162602522202993782792835301376) : signS p q = sgn (p * dD + q * eE) := by
  obtain ⟨d0, e0, _⟩ := de_facts
  have s1 : ∀ x : Int, 0 < x → sgn x = 1 := fun x h => by unfold sgn; rw [if_neg (by omega), if_neg (by omega)]
  have s2 : ∀ x : Int, x < 0 → sgn x = -1 := fun x h => by unfold sgn; rw [if_pos h]
  have s3 : sgn 0 = 0 := rfl
  have pp : ∀ x y : Int, 0 < x → 0 < y → 0 < x * y := fun x y => Int.mul_pos
  have pn : ∀ x y : Int, x < 0 → 0 < y → x * y < 0 := fun x y a b => Int.mul_neg_of_neg_of_pos a b
  unfold signS
  rcases Int.lt_trichotomy p 0 with h1 | h1 | h1 <;> rcases Int.lt_trichotomy q 0 with h2 | h2 | h2
  · rw [if_pos (by rw [s2 p h1, s2 q h2]), s2 p h1, s2]
    have := pn p dD h1 d0; have := pn q eE h2 e0; omega
  · subst h2
    have hpp : 0 < p * p := Int.mul_pos_of_neg_of_neg h1 h1
    rw [if_neg (by rw [s2 p h1, s3]; omega), if_pos (by omega), s2 p h1, s2]
    have := pn p dD h1 d0; omega
  · rw [if_neg (by rw [s2 p h1, s1 q h2]; omega)]
    by_cases h : q * q * 2 < p * p
    · rw [if_pos h, s2 p h1, s2]
      have := lin_gt (p := -p) (v := q) (by omega) (by omega) (by rw [Int.neg_mul_neg]; exact h)
      rw [Int.neg_mul] at this; omega
    · rw [if_neg h, s1 q h2, s1]
      by_cases he : p * p = q * q * 2
      · exact absurd he (irr (by omega))
      · have := lin_lt (p := -p) (v := q) (by omega) (by omega) (by omega) (by rw [Int.neg_mul_neg]; omega)
        rw [Int.neg_mul] at this; omega
  · subst h1
    have hqq : 0 < q * q := Int.mul_pos_of_neg_of_neg h2 h2
    rw [if_neg (by rw [s3, s2 q h2]; omega), if_neg (by omega), s2 q h2, s2]
    have := pn q eE h2 e0; omega
  · subst h1 h2; rfl
  · subst h1
    have hqq : 0 < q * q := Int.mul_pos h2 h2
    rw [if_neg (by rw [s3, s1 q h2]; omega), if_neg (by omega), s1 q h2, s1]
    have := pp q eE h2 e0; omega
  · rw [if_neg (by rw [s1 p h1, s2 q h2]; omega)]
    by_cases h : q * q * 2 < p * p
    · rw [if_pos h, s1 p h1, s1]
      have := lin_gt (p := p) (v := -q) h1 (by omega) (by rw [Int.neg_mul_neg]; exact h)
      rw [Int.neg_mul] at this; omega
    · rw [if_neg h, s2 q h2, s2]
      by_cases he : p * p = q * q * 2
      · exact absurd he (irr (by omega))
      · have := lin_lt (p := p) (v := -q) (by omega) (by omega) (by omega) (by rw [Int.neg_mul_neg]; omega)
        rw [Int.neg_mul] at this; omega
  · subst h2
    have hpp : 0 < p * p := Int.mul_pos h1 h1
    rw [if_neg (by rw [s1 p h1, s3]; omega), if_pos (by omega), s1 p h1, s1]
    have := pp p dD h1 d0; omega
  · rw [if_pos (by rw [s1 p h1, s1 q h2]), s1 p h1, s1]
    have := pp p dD h1 d0; have := pp q eE h2 e0; omega
end Go.Proofs.YtalaacfoaelipaaDoor
