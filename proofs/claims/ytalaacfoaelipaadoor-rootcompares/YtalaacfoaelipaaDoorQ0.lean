/-
  Digits: sums, differences, products, which is greater. Plain mathematics.
-/
import Derived.Test.YtalaacfoaelipaaDoorR0
namespace Go.Proofs.YtalaacfoaelipaaDoor

theorem pow_cut (B c : Nat) : B * (c % 65536) + B * 65536 * (c / 65536) = B * c := by
  rw [Nat.mul_assoc, ← Nat.mul_add, Nat.mod_add_div]
/-- One round of a sum. -/
theorem plus_step (la lb l : List Nat) (cr : Nat) (h : nv l + 65536 ^ l.length * cr = nv (la.take l.length) + nv (lb.take l.length)) :
    nv (l ++ [(cr + gd la l.length + gd lb l.length) % 65536]) + 65536 ^ (l.length + 1) * ((cr + gd la l.length + gd lb l.length) / 65536) = nv (la.take (l.length + 1)) + nv (lb.take (l.length + 1)) := by
  rw [nv_snoc, nv_take_succ, nv_take_succ, Nat.pow_succ]
  have e := pow_cut (65536 ^ l.length) (cr + gd la l.length + gd lb l.length)
  rw [Nat.mul_add, Nat.mul_add] at e
  generalize 65536 ^ l.length * ((cr + gd la l.length + gd lb l.length) % 65536) = t1 at *
  generalize 65536 ^ l.length * 65536 * ((cr + gd la l.length + gd lb l.length) / 65536) = t2 at *
  omega
/-- One round of a difference: x the digit before it is made one, b whether it was below nought. -/
theorem minus_step (la lb l : List Nat) (br d b : Nat) (h : nv l + nv (lb.take l.length) + 65536 ^ l.length * br = nv (la.take l.length) + 65536 ^ l.length * br + 65536 ^ l.length * br)
    (hd : d + gd lb l.length + br = gd la l.length + 65536 * b) :
    nv (l ++ [d]) + nv (lb.take (l.length + 1)) + 65536 ^ (l.length + 1) * b = nv (la.take (l.length + 1)) + 65536 ^ (l.length + 1) * b + 65536 ^ (l.length + 1) * b := by
  rw [nv_snoc, nv_take_succ, nv_take_succ, Nat.pow_succ]
  have e : 65536 ^ l.length * (d + gd lb l.length + br) = 65536 ^ l.length * (gd la l.length + 65536 * b) := by rw [hd]
  rw [Nat.mul_add, Nat.mul_add, Nat.mul_add, ← Nat.mul_assoc] at e
  omega
theorem minus_end (la lb l : List Nat) (br : Nat) (hl : l.length = la.length) (hlb : lb.length ≤ la.length) (hd : Dg l) (hle : nv lb ≤ nv la)
    (h : nv l + nv (lb.take l.length) + 65536 ^ l.length * br = nv (la.take l.length) + 65536 ^ l.length * br + 65536 ^ l.length * br) : nv l = nv la - nv lb := by
  rw [nv_take_all (by omega), nv_take_all (by omega)] at h
  have h1 := nv_lt hd
  cases br with
  | zero => omega
  | succ b =>
    have : 65536 ^ l.length * 1 ≤ 65536 ^ l.length * (b + 1) := Nat.mul_le_mul_left _ (by omega)
    omega
/-- A longer number is greater. -/
theorem len_lt {la lb : List Nat} (ha : Dg la) (hb : Nm lb) (h : la.length < lb.length) : nv la < nv lb := by
  have h1 := nv_lt ha
  have h2 := nm_le hb (by intro e; rw [e] at h; simp at h)
  have h3 : 65536 ^ la.length ≤ 65536 ^ (lb.length - 1) := Nat.pow_le_pow_right (by decide) (by omega)
  omega
theorem digit_lt {la lb : List Nat} (ha : Dg la) (hl : la.length = lb.length) (m : Nat) (hm : m < la.length) (he : nv (la.drop (m + 1)) = nv (lb.drop (m + 1))) (h : gd la m < gd lb m) : nv la < nv lb := by
  have h1 := nv_split la m (by omega)
  have h2 := nv_split lb m (by omega)
  rw [nv_drop la m hm] at h1
  rw [nv_drop lb m (by omega), ← he] at h2
  have h3 := nv_lt (ha.take m)
  rw [List.length_take, Nat.min_eq_left (by omega)] at h3
  generalize nv (la.drop (m + 1)) = H at *
  have h4 : 65536 ^ m * (gd la m + 65536 * H + 1) ≤ 65536 ^ m * (gd lb m + 65536 * H) := Nat.mul_le_mul_left _ (by omega)
  rw [Nat.mul_add, Nat.mul_one] at h4
  omega
/-- How two numbers compare. -/
def cmpN (x y : Nat) : Int := if x < y then -1 else if y < x then 1 else 0

/-- One round of a product's inner loop. -/
theorem times_step (D d lb : List Nat) (ai i k cr : Nat) (hk : i + k < d.length)
    (h : nv d + 65536 ^ (i + k) * cr = nv D + 65536 ^ i * (ai * nv (lb.take k))) :
    nv (d.set (i + k) ((cr + gd d (i + k) + ai * gd lb k) % 65536)) + 65536 ^ (i + (k + 1)) * ((cr + gd d (i + k) + ai * gd lb k) / 65536) = nv D + 65536 ^ i * (ai * nv (lb.take (k + 1))) := by
  have h1 := nv_set d (i + k) ((cr + gd d (i + k) + ai * gd lb k) % 65536) hk
  have e := pow_cut (65536 ^ (i + k)) (cr + gd d (i + k) + ai * gd lb k)
  rw [show i + (k + 1) = i + k + 1 by omega, Nat.pow_succ, nv_take_succ, Nat.mul_add ai, Nat.mul_add]
  have e2 : 65536 ^ i * (ai * (65536 ^ k * gd lb k)) = 65536 ^ (i + k) * (ai * gd lb k) := by
    rw [Nat.pow_add, Nat.mul_left_comm ai, Nat.mul_assoc]
  rw [e2]
  rw [Nat.mul_add, Nat.mul_add] at e
  generalize 65536 ^ (i + k) * ((cr + gd d (i + k) + ai * gd lb k) % 65536) = t1 at *
  generalize 65536 ^ (i + k) * 65536 * ((cr + gd d (i + k) + ai * gd lb k) / 65536) = t2 at *
  omega
theorem times_carry (cr x a b : Nat) (h1 : cr < 65536) (h2 : x < 65536) (h3 : a < 65536) (h4 : b < 65536) : (cr + x + a * b) / 65536 < 65536 ∧ cr + x + a * b < 9223372036854775807 ∧ a * b < 9223372036854775807 := by
  have : a * b ≤ 65535 * 65535 := Nat.mul_le_mul (by omega) (by omega)
  omega
/-- How far the inner loop goes. -/
theorem times_far (D d lb : List Nat) (ai i k cr : Nat) (hb : Dg lb) (ha : ai < 65536) (hD : nv D < 65536 ^ (i + lb.length)) (hcr : 0 < cr)
    (h : nv d + 65536 ^ (i + k) * cr = nv D + 65536 ^ i * (ai * nv (lb.take k))) : k ≤ lb.length := by
  have h1 := nv_lt hb
  have h2 : nv (lb.take k) ≤ nv lb := by
    rcases Nat.lt_or_ge k lb.length with hk | hk
    · have := nv_split lb k (by omega); omega
    · rw [nv_take_all hk]; omega
  have h3 : ai * nv (lb.take k) ≤ 65535 * (65536 ^ lb.length - 1) := Nat.mul_le_mul (by omega) (by omega)
  have h4 : 65536 ^ i * (ai * nv (lb.take k)) ≤ 65536 ^ i * (65535 * (65536 ^ lb.length - 1)) := Nat.mul_le_mul_left _ h3
  have h5 : 65536 ^ i * (65535 * (65536 ^ lb.length - 1)) + 65536 ^ i * 65535 = 65536 ^ (i + lb.length) * 65535 := by
    rw [← Nat.mul_add, Nat.pow_add, Nat.mul_assoc]
    congr 1
    have : 0 < 65536 ^ lb.length := Nat.pow_pos (by decide)
    omega
  have h6 : 65536 ^ (i + k) * cr < 65536 ^ (i + lb.length + 1) := by
    rw [Nat.pow_succ 65536 (i + lb.length)]
    omega
  have h7 : 65536 ^ (i + k) * 1 ≤ 65536 ^ (i + k) * cr := Nat.mul_le_mul_left _ hcr
  have := (Nat.pow_lt_pow_iff_right (show 1 < 65536 by decide)).1 (show 65536 ^ (i + k) < 65536 ^ (i + lb.length + 1) by omega)
  omega
/-- One round of a product's outer loop. -/
theorem times_round (D d la lb : List Nat) (i : Nat) (hD : nv D = nv (la.take i) * nv lb) (h : nv d = nv D + 65536 ^ i * (gd la i * nv lb)) : nv d = nv (la.take (i + 1)) * nv lb := by
  rw [h, hD, nv_take_succ, Nat.add_mul, Nat.mul_assoc]
theorem times_bound (la lb : List Nat) (i : Nat) (ha : Dg la) (hb : Dg lb) (hi : i ≤ la.length) : nv (la.take i) * nv lb < 65536 ^ (i + lb.length) := by
  have h1 := nv_lt (ha.take i)
  rw [List.length_take, Nat.min_eq_left hi] at h1
  have h2 := nv_lt hb
  rw [Nat.pow_add]
  exact Nat.mul_lt_mul_of_lt_of_le h1 (Nat.le_of_lt h2) (Nat.pow_pos (by decide))
end Go.Proofs.YtalaacfoaelipaaDoor
