/-
  The one form hangs on the value alone. Plain mathematics.
-/
import Derived.Test.YtalaacfoaelipaaDoorS0
namespace Go.Proofs.YtalaacfoaelipaaDoor
open Go.RowKit

theorem hv_succ (k : Nat) (p q : Int) : hv (k + 1) p q = if p % 2 = 0 ∧ q % 2 = 0 then hv k (p / 2) (q / 2) + 1 else 0 := rfl
theorem hv_scale (k : Nat) (p q : Int) : ∀ n : Nat, hv (k + n) (p * 2 ^ n) (q * 2 ^ n) = hv k p q + n
  | 0 => by simp
  | n + 1 => by
    have e : ∀ x : Int, x * 2 ^ (n + 1) % 2 = 0 ∧ x * 2 ^ (n + 1) / 2 = x * 2 ^ n := fun x => by
      rw [Int.pow_succ, ← Int.mul_assoc]
      generalize x * 2 ^ n = t
      omega
    show hv ((k + n) + 1) _ _ = _
    rw [hv_succ, if_pos ⟨(e p).1, (e q).1⟩, (e p).2, (e q).2, hv_scale k p q n]
    omega
theorem mul_pow_zero (p : Int) (n : Nat) : p * 2 ^ n = 0 ↔ p = 0 := by
  have := pow_pos' n
  constructor
  · intro h
    rcases Int.mul_eq_zero.1 h with h | h
    · exact h
    · omega
  · intro h; rw [h, Int.zero_mul]
theorem div_scale (p : Int) (h n : Nat) : p * 2 ^ n / 2 ^ (h + n) = p / 2 ^ h := by
  rw [Int.pow_add, Int.mul_comm p, Int.mul_comm (2 ^ h), Int.mul_ediv_mul_of_pos _ _ (pow_pos' n)]
theorem one_scale (p q : Int) (k n : Nat) : one (p * 2 ^ n) (q * 2 ^ n) (k + n) = one p q k := by
  unfold one
  simp only [hv_scale, mul_pow_zero, div_scale]
  rw [show k + n - (hv k p q + n) = k - hv k p q by omega]
/-- Equal values have one root. -/
theorem one_eq {p q p' q' : Int} {k k' : Nat} (hp : p * 2 ^ k' = p' * 2 ^ k) (hq : q * 2 ^ k' = q' * 2 ^ k) : one p q k = one p' q' k' := by
  rw [← one_scale p q k k', ← one_scale p' q' k' k, hp, hq, Nat.add_comm]
/-- A root is its own one form. -/
theorem one_self {a b c : Int} (h : isRoot a b c) : one a b c.toNat = ⟨a, b, c, 0⟩ := by
  obtain ⟨ha, hb, hc, ho⟩ := h
  obtain ⟨c, rfl⟩ := Int.eq_ofNat_of_zero_le hc.1
  rw [Int.toNat_natCast]
  unfold one
  by_cases h0 : a = 0 ∧ b = 0
  · rw [if_pos h0]
    obtain ⟨rfl, rfl⟩ := h0
    have : c = 0 := by omega
    subst this
    rfl
  · rw [if_neg h0]
    have hh : hv c a b = 0 := by
      cases c with
      | zero => rfl
      | succ c => unfold hv; rw [if_neg (by omega)]
    rw [hh, Int.pow_zero, Int.ediv_one, Int.ediv_one, if_pos ⟨(inP_iff a).2 ha, (inP_iff b).2 hb, by omega⟩]
    simp
/-- What is told without an error is a root in its one form, of the same value. -/
theorem one_ok {p q : Int} {k : Nat} (h : (one p q k).e = 0) : isRoot (one p q k).p (one p q k).q (one p q k).k ∧ (one p q k).p * 2 ^ k = p * 2 ^ (one p q k).k.toNat ∧ (one p q k).q * 2 ^ k = q * 2 ^ (one p q k).k.toNat := by
  unfold one at *
  by_cases h0 : p = 0 ∧ q = 0
  · rw [if_pos h0]
    obtain ⟨rfl, rfl⟩ := h0
    refine ⟨?_, by simp, by simp⟩
    unfold isRoot; simp
  · rw [if_neg h0] at *
    by_cases hc : inP (p / 2 ^ hv k p q) = true ∧ inP (q / 2 ^ hv k p q) = true ∧ k - hv k p q ≤ 60
    · rw [if_pos hc] at *
      have hl := hv_le k p q
      obtain ⟨⟨x, hx⟩, ⟨y, hy⟩⟩ := hv_dvd k p q
      have hm := hv_most k p q
      generalize hv k p q = H at *
      have hp := pow_pos' H
      have ex : p / 2 ^ H = x := by
        conv => lhs; rw [hx]
        exact Int.mul_ediv_cancel_left _ (by omega)
      have ey : q / 2 ^ H = y := by
        conv => lhs; rw [hy]
        exact Int.mul_ediv_cancel_left _ (by omega)
      rw [ex, ey]
      rw [ex, ey] at hc
      have hk : (2 : Int) ^ k = 2 ^ H * 2 ^ (k - H) := by rw [← Int.pow_add]; congr 1; omega
      refine ⟨⟨(inP_iff _).1 hc.1, (inP_iff _).1 hc.2.1, by simp; omega, ?_⟩, ?_, ?_⟩
      · rcases hm with hm | hm
        · left; simp; omega
        · right
          simp only
          have n1 : ¬ (x % 2 = 0 ∧ y % 2 = 0) := by
            rintro ⟨a, b⟩
            refine hm ⟨?_, ?_⟩
            · refine ⟨x / 2, ?_⟩
              rw [Int.pow_succ, Int.mul_assoc, show 2 * (x / 2) = x by omega]
              exact hx
            · refine ⟨y / 2, ?_⟩
              rw [Int.pow_succ, Int.mul_assoc, show 2 * (y / 2) = y by omega]
              exact hy
          omega
      · simp only [Int.toNat_natCast]
        rw [hk, ← Int.mul_assoc, Int.mul_comm x, ← hx]
      · simp only [Int.toNat_natCast]
        rw [hk, ← Int.mul_assoc, Int.mul_comm y, ← hy]
    · rw [if_neg hc] at h
      simp at h
/-- The error is 0 or 3; with 3 the rest is nought. -/
theorem one_err (p q : Int) (k : Nat) : (one p q k).e = 0 ∨ one p q k = ⟨0, 0, 0, 3⟩ := by
  unfold one
  split
  · left; rfl
  · split
    · left; rfl
    · right; rfl
end Go.Proofs.YtalaacfoaelipaaDoor
