/-
  Sums, differences and products of roots: no order, no bracketing, products of sums. Plain mathematics.
-/
import Derived.Test.YtalaacfoaelipaaDoorS1
import Derived.Test.YtalaacfoaelipaaDoorW9
namespace Go.Proofs.YtalaacfoaelipaaDoor
open Go.RowKit

/-- A part over 2^k, in units of 2^-120. -/
def V (p : Int) (k : Nat) : Int := p * 2 ^ (120 - k)
theorem pow_cancel {x y : Int} (n : Nat) (h : x * 2 ^ n = y * 2 ^ n) : x = y := Int.eq_of_mul_eq_mul_right (by have := pow_pos' n; omega) h
theorem V_cross {p p' : Int} {k k' : Nat} (hk : k ≤ 120) (hk' : k' ≤ 120) (h : V p k = V p' k') : p * 2 ^ k' = p' * 2 ^ k := by
  unfold V at h
  refine pow_cancel 120 ?_
  have e1 : p * 2 ^ k' * 2 ^ 120 = p * 2 ^ (120 - k) * 2 ^ (k + k') := by
    rw [Int.mul_assoc, Int.mul_assoc, ← Int.pow_add, ← Int.pow_add]; congr 2; omega
  have e2 : p' * 2 ^ k * 2 ^ 120 = p' * 2 ^ (120 - k') * 2 ^ (k + k') := by
    rw [Int.mul_assoc, Int.mul_assoc, ← Int.pow_add, ← Int.pow_add]; congr 2; omega
  rw [e1, e2, h]
theorem V_of_cross {p p' : Int} {k k' : Nat} (hk : k ≤ 120) (hk' : k' ≤ 120) (h : p * 2 ^ k' = p' * 2 ^ k) : V p k = V p' k' := by
  unfold V
  refine pow_cancel (k + k') ?_
  have e1 : p * 2 ^ (120 - k) * 2 ^ (k + k') = p * 2 ^ k' * 2 ^ 120 := by
    rw [Int.mul_assoc, Int.mul_assoc, ← Int.pow_add, ← Int.pow_add]; congr 2; omega
  have e2 : p' * 2 ^ (120 - k') * 2 ^ (k + k') = p' * 2 ^ k * 2 ^ 120 := by
    rw [Int.mul_assoc, Int.mul_assoc, ← Int.pow_add, ← Int.pow_add]; congr 2; omega
  rw [e1, e2, h]
theorem one_V {p q p' q' : Int} {k k' : Nat} (hk : k ≤ 120) (hk' : k' ≤ 120) (hp : V p k = V p' k') (hq : V q k = V q' k') : one p q k = one p' q' k' :=
  one_eq (V_cross hk hk' hp) (V_cross hk hk' hq)
theorem V_ok {p q : Int} {k : Nat} (hk : k ≤ 120) (h : (one p q k).e = 0) : isRoot (one p q k).p (one p q k).q (one p q k).k ∧ V (one p q k).p (one p q k).k.toNat = V p k ∧ V (one p q k).q (one p q k).k.toNat = V q k := by
  obtain ⟨hr, h1, h2⟩ := one_ok h
  have h60 : (one p q k).k.toNat ≤ 120 := by have := hr.2.2.1; omega
  exact ⟨hr, V_of_cross h60 hk h1, V_of_cross h60 hk h2⟩
theorem V_sum (a d : Int) (k c f : Nat) (hc : c ≤ k) (hf : f ≤ k) (hk : k ≤ 120) : V (sumP a d k c f) k = V a c + V d f := by
  unfold V sumP
  rw [Int.add_mul, Int.mul_assoc, Int.mul_assoc, ← Int.pow_add, ← Int.pow_add]
  congr 3 <;> omega
theorem V_mul (a d : Int) (c f : Nat) (h : c + f ≤ 120) : V (a * d) (c + f) * 2 ^ 120 = V a c * V d f := by
  unfold V
  have e : (2 : Int) ^ (120 - (c + f)) * 2 ^ 120 = 2 ^ (120 - c) * 2 ^ (120 - f) := by
    rw [← Int.pow_add, ← Int.pow_add]; congr 1; omega
  rw [Int.mul_assoc, e]
  generalize (2 : Int) ^ (120 - c) = x
  generalize (2 : Int) ^ (120 - f) = y
  rw [Int.mul_assoc, Int.mul_assoc, Int.mul_left_comm d x y]
theorem V_add (a b : Int) (k : Nat) : V (a + b) k = V a k + V b k := by unfold V; rw [Int.add_mul]
theorem V_neg (a : Int) (k : Nat) : V (-a) k = -V a k := by unfold V; rw [Int.neg_mul]
theorem V_two (a : Int) (k : Nat) : V (a * 2) k = V a k * 2 := by unfold V; rw [Int.mul_right_comm]

/-- What Add tells of two roots, by their values. -/
theorem add_char {a b c d e f : Int} (h1 : isRoot a b c) (h2 : isRoot d e f) : ∃ S T k, k ≤ 120 ∧ addR a b c d e f = one S T k ∧ V S k = V a c.toNat + V d f.toNat ∧ V T k = V b c.toNat + V e f.toNat := by
  have hc := h1.2.2.1
  have hf := h2.2.2.1
  refine ⟨_, _, max c.toNat f.toNat, by omega, by unfold addR; rw [if_pos ⟨h1, h2⟩], V_sum _ _ _ _ _ (by omega) (by omega) (by omega), V_sum _ _ _ _ _ (by omega) (by omega) (by omega)⟩
theorem sub_char {a b c d e f : Int} (h1 : isRoot a b c) (h2 : isRoot d e f) : ∃ S T k, k ≤ 120 ∧ subR a b c d e f = one S T k ∧ V S k = V a c.toNat - V d f.toNat ∧ V T k = V b c.toNat - V e f.toNat := by
  have hc := h1.2.2.1
  have hf := h2.2.2.1
  refine ⟨_, _, max c.toNat f.toNat, by omega, by unfold subR; rw [if_pos ⟨h1, h2⟩], ?_, ?_⟩
  · rw [V_sum _ _ _ _ _ (by omega) (by omega) (by omega), V_neg]; omega
  · rw [V_sum _ _ _ _ _ (by omega) (by omega) (by omega), V_neg]; omega
theorem mul_char {a b c d e f : Int} (h1 : isRoot a b c) (h2 : isRoot d e f) : ∃ S T k, k ≤ 120 ∧ mulR a b c d e f = one S T k ∧
    V S k * 2 ^ 120 = V a c.toNat * V d f.toNat + V b c.toNat * V e f.toNat * 2 ∧ V T k * 2 ^ 120 = V a c.toNat * V e f.toNat + V b c.toNat * V d f.toNat := by
  have hc := h1.2.2.1
  have hf := h2.2.2.1
  have hk : (c + f).toNat = c.toNat + f.toNat := by omega
  refine ⟨_, _, (c + f).toNat, by omega, by unfold mulR; rw [if_pos ⟨h1, h2⟩], ?_, ?_⟩
  · rw [hk, V_add, V_two, Int.add_mul, Int.mul_right_comm, V_mul _ _ _ _ (by omega), V_mul _ _ _ _ (by omega)]
  · rw [hk, V_add, Int.add_mul, V_mul _ _ _ _ (by omega), V_mul _ _ _ _ (by omega)]
theorem add_root {a b c d e f : Int} (h : (addR a b c d e f).e = 0) : isRoot a b c ∧ isRoot d e f := by
  unfold addR at h
  split at h
  · assumption
  · simp at h
theorem mul_root {a b c d e f : Int} (h : (mulR a b c d e f).e = 0) : isRoot a b c ∧ isRoot d e f := by
  unfold mulR at h
  split at h
  · assumption
  · simp at h

theorem add_comm' (a b c d e f : Int) : addR a b c d e f = addR d e f a b c := by
  by_cases h : isRoot a b c ∧ isRoot d e f
  · obtain ⟨S, T, k, hk, e1, h1, h2⟩ := add_char h.1 h.2
    obtain ⟨S', T', k', hk', e1', h1', h2'⟩ := add_char h.2 h.1
    rw [e1, e1']
    exact one_V hk hk' (by omega) (by omega)
  · unfold addR
    rw [if_neg h, if_neg (fun g => h ⟨g.2, g.1⟩)]
theorem mul_comm' (a b c d e f : Int) : mulR a b c d e f = mulR d e f a b c := by
  by_cases h : isRoot a b c ∧ isRoot d e f
  · obtain ⟨S, T, k, hk, e1, h1, h2⟩ := mul_char h.1 h.2
    obtain ⟨S', T', k', hk', e1', h1', h2'⟩ := mul_char h.2 h.1
    rw [e1, e1']
    refine one_V hk hk' (pow_cancel 120 ?_) (pow_cancel 120 ?_)
    · rw [h1, h1', Int.mul_comm (V d f.toNat), Int.mul_comm (V e f.toNat)]
    · rw [h2, h2', Int.mul_comm (V d f.toNat), Int.mul_comm (V e f.toNat), Int.add_comm]
  · unfold mulR
    rw [if_neg h, if_neg (fun g => h ⟨g.2, g.1⟩)]
theorem sub_back {a b c d e f : Int} (h : (addR a b c d e f).e = 0) : subR (addR a b c d e f).p (addR a b c d e f).q (addR a b c d e f).k d e f = ⟨a, b, c, 0⟩ := by
  obtain ⟨ra, rb⟩ := add_root h
  obtain ⟨S, T, k, hk, e1, h1, h2⟩ := add_char ra rb
  rw [e1] at h ⊢
  obtain ⟨rr, v1, v2⟩ := V_ok hk h
  obtain ⟨S', T', k', hk', e1', h1', h2'⟩ := sub_char rr rb
  rw [e1', ← one_self ra]
  exact one_V hk' (by have := ra.2.2.1; omega) (by omega) (by omega)
theorem sub_self {a b c : Int} (h : isRoot a b c) : subR a b c a b c = ⟨0, 0, 0, 0⟩ := by
  obtain ⟨S, T, k, hk, e1, h1, h2⟩ := sub_char h h
  rw [e1, show (⟨0, 0, 0, 0⟩ : Rt) = one 0 0 0 from rfl]
  exact one_V hk (by omega) (by unfold V at *; simp; omega) (by unfold V at *; simp; omega)
end Go.Proofs.YtalaacfoaelipaaDoor
