/-
  Roots as whole numbers: the one form, how often both parts can be halved. Plain mathematics.
-/
import Derived.Test.YtalaacfoaelipaaDoorW0
import Derived.Lib.TrailingZeros
namespace Go.Proofs.YtalaacfoaelipaaDoor
open Go.RowKit

/-- What a call tells: the parts, the power, the error. -/
structure Rt where
  p : Int
  q : Int
  k : Int
  e : Int

/-- How often both can be halved, k times at most. -/
def hv : Nat → Int → Int → Nat
  | 0, _, _ => 0
  | k + 1, p, q => if p % 2 = 0 ∧ q % 2 = 0 then hv k (p / 2) (q / 2) + 1 else 0

/-- The bound of a part. -/
def inP (n : Int) : Bool := decide (-9007199254740991 ≤ n ∧ n ≤ 9007199254740991)
theorem inP_iff (n : Int) : inP n = true ↔ -9007199254740991 ≤ n ∧ n ≤ 9007199254740991 := by unfold inP; simp
theorem inP_no (n : Int) : inP n = false ↔ n < -9007199254740991 ∨ 9007199254740991 < n := by unfold inP; simp; omega

/-- The root of a value, or the error 3. -/
def one (p q : Int) (k : Nat) : Rt :=
  if p = 0 ∧ q = 0 then ⟨0, 0, 0, 0⟩
  else if inP (p / 2 ^ hv k p q) = true ∧ inP (q / 2 ^ hv k p q) = true ∧ k - hv k p q ≤ 60 then ⟨p / 2 ^ hv k p q, q / 2 ^ hv k p q, ((k - hv k p q : Nat) : Int), 0⟩
  else ⟨0, 0, 0, 3⟩

/-- A root in its one form. -/
def isRoot (p q k : Int) : Prop :=
  (-9007199254740991 ≤ p ∧ p ≤ 9007199254740991) ∧ (-9007199254740991 ≤ q ∧ q ≤ 9007199254740991) ∧ (0 ≤ k ∧ k ≤ 60) ∧ (k = 0 ∨ p % 2 = 1 ∨ q % 2 = 1)

theorem dv_succ (n : Nat) (p : Int) : (2 : Int) ^ (n + 1) ∣ p ↔ p % 2 = 0 ∧ (2 : Int) ^ n ∣ p / 2 := by
  constructor
  · rintro ⟨c, hc⟩
    rw [Int.pow_succ, Int.mul_right_comm] at hc
    have : p / 2 = 2 ^ n * c := by generalize (2 : Int) ^ n * c = t at *; omega
    exact ⟨by generalize (2 : Int) ^ n * c = t at *; omega, c, this⟩
  · rintro ⟨h0, c, hc⟩
    refine ⟨c, ?_⟩
    rw [Int.pow_succ, Int.mul_right_comm]
    generalize (2 : Int) ^ n * c = t at *; omega
theorem hv_le : ∀ (k : Nat) (p q : Int), hv k p q ≤ k
  | 0, _, _ => Nat.le_refl _
  | k + 1, p, q => by
    unfold hv; split
    · have := hv_le k (p / 2) (q / 2); omega
    · omega
theorem hv_dvd : ∀ (k : Nat) (p q : Int), (2 : Int) ^ hv k p q ∣ p ∧ (2 : Int) ^ hv k p q ∣ q
  | 0, p, q => by simp [hv]
  | k + 1, p, q => by
    unfold hv; split
    · rename_i h
      have := hv_dvd k (p / 2) (q / 2)
      exact ⟨(dv_succ _ _).2 ⟨h.1, this.1⟩, (dv_succ _ _).2 ⟨h.2, this.2⟩⟩
    · simp
theorem hv_most : ∀ (k : Nat) (p q : Int), hv k p q = k ∨ ¬ ((2 : Int) ^ (hv k p q + 1) ∣ p ∧ (2 : Int) ^ (hv k p q + 1) ∣ q)
  | 0, p, q => by simp [hv]
  | k + 1, p, q => by
    unfold hv; split
    · rename_i h
      rcases hv_most k (p / 2) (q / 2) with h1 | h1
      · left; omega
      · right
        rintro ⟨a, b⟩
        exact h1 ⟨((dv_succ _ _).1 a).2, ((dv_succ _ _).1 b).2⟩
    · rename_i h
      right
      rintro ⟨a, b⟩
      exact h ⟨((dv_succ _ _).1 a).1, ((dv_succ _ _).1 b).1⟩
theorem hv_eq : ∀ (k n : Nat) (p q : Int), n ≤ k → (2 : Int) ^ n ∣ p → (2 : Int) ^ n ∣ q → (n = k ∨ ¬ ((2 : Int) ^ (n + 1) ∣ p ∧ (2 : Int) ^ (n + 1) ∣ q)) → hv k p q = n
  | 0, n, _, _, hn, _, _, _ => by unfold hv; omega
  | k + 1, n, p, q, hn, hp, hq, hm => by
    unfold hv
    cases n with
    | zero =>
      rw [if_neg]
      rintro ⟨a, b⟩
      rcases hm with h | h
      · omega
      · exact h ⟨(dv_succ _ _).2 ⟨a, by simp⟩, (dv_succ _ _).2 ⟨b, by simp⟩⟩
    | succ n =>
      obtain ⟨a, a'⟩ := (dv_succ _ _).1 hp
      obtain ⟨b, b'⟩ := (dv_succ _ _).1 hq
      rw [if_pos ⟨a, b⟩, hv_eq k n (p / 2) (q / 2) (by omega) a' b']
      rcases hm with h | h
      · left; omega
      · right
        rintro ⟨c, d⟩
        exact h ⟨(dv_succ _ _).2 ⟨a, c⟩, (dv_succ _ _).2 ⟨b, d⟩⟩

theorem dvd_lo (n : Nat) (hn : n ≤ 64) (p : Int) : (2 : Int) ^ n ∣ p ↔ (2 : Int) ^ n ∣ loW p := by
  have h : (2 : Int) ^ n ∣ 18446744073709551616 := ⟨2 ^ (64 - n), (pow_split n hn).symm⟩
  unfold loW
  exact (Int.dvd_emod_sub_self (x := p) (m := 18446744073709551616)).elim fun c hc => by
    constructor
    · intro hp
      have e : p % 18446744073709551616 = p + 18446744073709551616 * c := by omega
      rw [e]; exact Int.dvd_add hp (Int.dvd_mul_of_dvd_left h)
    · intro hp
      have e : p = p % 18446744073709551616 + 18446744073709551616 * (-c) := by rw [Int.mul_neg]; omega
      rw [e]; exact Int.dvd_add hp (Int.dvd_mul_of_dvd_left h)
/-- The low words' common noughts at the end. -/
def evn (p q : Int) : Nat := Lib.ctz 64 ((loW p).toNat ||| (loW q).toNat)
theorem or_dvd (n A B : Nat) : 2 ^ n ∣ (A ||| B) ↔ 2 ^ n ∣ A ∧ 2 ^ n ∣ B := by
  rw [Nat.dvd_iff_mod_eq_zero, Nat.dvd_iff_mod_eq_zero, Nat.dvd_iff_mod_eq_zero, Nat.or_mod_two_pow, Nat.or_eq_zero_iff]
theorem lo_dvd (n : Nat) (hn : n ≤ 64) (p : Int) : (2 : Int) ^ n ∣ p ↔ 2 ^ n ∣ (loW p).toNat := by
  rw [dvd_lo n hn]
  have h0 := (loW_b p).1
  conv => lhs; rw [← Int.toNat_of_nonneg h0]
  exact_mod_cast Int.natCast_dvd_natCast (m := 2 ^ n) (n := (loW p).toNat)
theorem evn_dvd (p q : Int) (n : Nat) (hn : n ≤ 64) (h : n ≤ evn p q) : (2 : Int) ^ n ∣ p ∧ (2 : Int) ^ n ∣ q := by
  rw [lo_dvd n hn, lo_dvd n hn, ← or_dvd]
  unfold evn Lib.ctz at h
  split at h
  · rename_i h0; rw [h0]; exact Nat.dvd_zero _
  · rename_i h0
    have hl : (loW p).toNat ||| (loW q).toNat < 2 ^ 64 := Nat.or_lt_two_pow (by have := loW_b p; omega) (by have := loW_b q; omega)
    obtain ⟨m, hm, _⟩ := Lib.ctzFrom_spec 64 _ (Nat.pos_of_ne_zero h0) hl
    rw [hm]
    exact Nat.dvd_mul_right_of_dvd (Nat.pow_dvd_pow 2 h) _
theorem evn_not (p q : Int) (h : evn p q < 64) : ¬ ((2 : Int) ^ (evn p q + 1) ∣ p ∧ (2 : Int) ^ (evn p q + 1) ∣ q) := by
  rw [lo_dvd _ (by omega), lo_dvd _ (by omega), ← or_dvd]
  unfold evn Lib.ctz at *
  split at h
  · omega
  · rename_i h0
    rw [if_neg h0]
    have hl : (loW p).toNat ||| (loW q).toNat < 2 ^ 64 := Nat.or_lt_two_pow (by have := loW_b p; omega) (by have := loW_b q; omega)
    obtain ⟨m, hm, _⟩ := Lib.ctzFrom_spec 64 _ (Nat.pos_of_ne_zero h0) hl
    rintro ⟨c, hc⟩
    rw [Nat.pow_succ, Nat.mul_assoc] at hc
    generalize Lib.ctzFrom 64 ((loW p).toNat ||| (loW q).toNat) = z at *
    rw [hm] at hc
    have := Nat.eq_of_mul_eq_mul_left (Nat.two_pow_pos z) hc
    omega
/-- The code's way to count: the noughts at the end of the low words, or k. -/
theorem hv_evn (p q : Int) (k : Nat) (h : k ≤ 64 ∨ evn p q < 64) (h64 : evn p q ≤ 64) : hv k p q = min (evn p q) k := by
  have hd := evn_dvd p q (min (evn p q) k) (by omega) (by omega)
  refine hv_eq k _ p q (by omega) hd.1 hd.2 ?_
  by_cases hk : k ≤ evn p q
  · left; omega
  · right
    rw [show min (evn p q) k = evn p q by omega]
    exact evn_not p q (by omega)
theorem evn_le (p q : Int) : evn p q ≤ 64 := by
  unfold evn Lib.ctz
  split
  · omega
  · rename_i h0
    have hl : (loW p).toNat ||| (loW q).toNat < 2 ^ 64 := Nat.or_lt_two_pow (by have := loW_b p; omega) (by have := loW_b q; omega)
    obtain ⟨m, hm, h⟩ := Lib.ctzFrom_spec 64 _ (Nat.pos_of_ne_zero h0) hl
    omega
theorem evn_lt (p q : Int) (n : Nat) (hn : n ≤ 64) (h : ¬ ((2 : Int) ^ n ∣ p ∧ (2 : Int) ^ n ∣ q)) : evn p q < 64 := by
  rcases Nat.lt_or_ge (evn p q) 64 with h1 | h1
  · exact h1
  · exact absurd (evn_dvd p q n hn (by omega)) h
end Go.Proofs.YtalaacfoaelipaaDoor
