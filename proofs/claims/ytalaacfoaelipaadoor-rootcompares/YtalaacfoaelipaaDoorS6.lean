/-
  What P5.3 and P5.4 say of Compare and Sign. Plain mathematics.
-/
import Derived.Test.YtalaacfoaelipaaDoorS5
namespace Go.Proofs.YtalaacfoaelipaaDoor
open Go.RowKit

theorem signS_zero {p q : Int} (h : signS p q = 0) : p = 0 ∧ q = 0 := by
  unfold signS at h
  split at h
  · rename_i e
    rw [h] at e
    exact ⟨(sgn_zero p).1 h, (sgn_zero q).1 e.symm⟩
  · rename_i e
    split at h
    · rename_i g
      have hp := (sgn_zero p).1 h
      subst hp
      have := msn q
      omega
    · have hq := (sgn_zero q).1 h
      subst hq
      rename_i g
      refine ⟨?_, rfl⟩
      have := msn p
      have h0 : p * p = 0 := by omega
      exact (Int.mul_eq_zero.1 h0).elim id id
/-- One form, one value. -/
theorem root_eq {a b c d e f : Int} (h1 : isRoot a b c) (h2 : isRoot d e f) (hp : V a c.toNat = V d f.toNat) (hq : V b c.toNat = V e f.toNat) : a = d ∧ b = e ∧ c = f := by
  have h := one_V (by have := h1.2.2.1; omega) (by have := h2.2.2.1; omega) hp hq
  rw [one_self h1, one_self h2] at h
  injection h with x y z _
  exact ⟨x, y, z⟩
theorem cmp_zero {a b c d e f : Int} (h1 : isRoot a b c) (h2 : isRoot d e f) : cmpR a b c d e f = 0 ↔ a = d ∧ b = e ∧ c = f := by
  constructor
  · intro h
    have hc := h1.2.2.1
    have hf := h2.2.2.1
    have v1 := V_sum a (-d) (max c.toNat f.toNat) c.toNat f.toNat (by omega) (by omega) (by omega)
    have v2 := V_sum b (-e) (max c.toNat f.toNat) c.toNat f.toNat (by omega) (by omega) (by omega)
    rw [V_neg] at v1 v2
    obtain ⟨s0, t0⟩ := signS_zero h
    rw [s0] at v1
    rw [t0] at v2
    have z : ∀ k, V 0 k = 0 := fun k => by unfold V; rw [Int.zero_mul]
    rw [z] at v1 v2
    exact root_eq h1 h2 (by omega) (by omega)
  · rintro ⟨rfl, rfl, rfl⟩
    rw [cmp_L h1 h2, Int.sub_self]
    rfl
theorem sgn_sub (x y : Int) : sgn (x - y) = -sgn (y - x) := by
  rcases Int.lt_trichotomy x y with h | rfl | h
  · rw [sgn_neg (by omega), sgn_pos (by omega)]
  · rw [Int.sub_self]; rfl
  · rw [sgn_pos (by omega), sgn_neg (by omega)]; rfl
theorem cmp_turn {a b c d e f : Int} (h1 : isRoot a b c) (h2 : isRoot d e f) : cmpR a b c d e f = -cmpR d e f a b c := by
  rw [cmp_L h1 h2, cmp_L h2 h1]; exact sgn_sub _ _
theorem sgn_ge {x : Int} : 0 ≤ sgn x ↔ 0 ≤ x := by
  rcases Int.lt_trichotomy x 0 with h | rfl | h
  · rw [sgn_neg h]; omega
  · simp [sgn]
  · rw [sgn_pos h]; omega
theorem sgn_le {x : Int} : sgn x ≤ 0 ↔ x ≤ 0 := by
  rcases Int.lt_trichotomy x 0 with h | rfl | h
  · rw [sgn_neg h]; omega
  · simp [sgn]
  · rw [sgn_pos h]; omega
theorem cmp_trans {a1 a2 a3 b1 b2 b3 c1 c2 c3 : Int} (ha : isRoot a1 a2 a3) (hb : isRoot b1 b2 b3) (hc : isRoot c1 c2 c3) :
    (0 ≤ cmpR a1 a2 a3 b1 b2 b3 → 0 ≤ cmpR b1 b2 b3 c1 c2 c3 → 0 ≤ cmpR a1 a2 a3 c1 c2 c3) ∧ (cmpR a1 a2 a3 b1 b2 b3 ≤ 0 → cmpR b1 b2 b3 c1 c2 c3 ≤ 0 → cmpR a1 a2 a3 c1 c2 c3 ≤ 0) := by
  rw [cmp_L ha hb, cmp_L hb hc, cmp_L ha hc, sgn_ge, sgn_ge, sgn_ge, sgn_le, sgn_le, sgn_le]
  omega
theorem nought_root : isRoot 0 0 0 := by unfold isRoot; omega
theorem cmp_nought {a b c : Int} (h : isRoot a b c) : cmpR a b c 0 0 0 = signS a b := by
  rw [cmp_L h nought_root, sign_L h]
  congr 1
  unfold L V
  simp
theorem sub_root {a b c d e f : Int} (h : (subR a b c d e f).e = 0) : isRoot a b c ∧ isRoot d e f := by
  unfold subR at h
  split at h
  · assumption
  · simp at h
theorem sub_sign {a b c d e f : Int} (h : (subR a b c d e f).e = 0) : isRoot (subR a b c d e f).p (subR a b c d e f).q (subR a b c d e f).k ∧ signS (subR a b c d e f).p (subR a b c d e f).q = cmpR a b c d e f := by
  obtain ⟨ra, rb⟩ := sub_root h
  obtain ⟨S, T, k, hk, e1, h1, h2⟩ := sub_char ra rb
  rw [cmp_L ra rb]
  rw [e1] at h ⊢
  obtain ⟨rr, v1, v2⟩ := V_ok hk h
  refine ⟨rr, ?_⟩
  rw [sign_L rr]
  congr 1
  unfold L
  rw [v1, v2, h1, h2, Int.sub_mul, Int.sub_mul]
  omega
theorem mul_sign {a b c d e f : Int} (h : (mulR a b c d e f).e = 0) : isRoot (mulR a b c d e f).p (mulR a b c d e f).q (mulR a b c d e f).k ∧ signS (mulR a b c d e f).p (mulR a b c d e f).q = signS a b * signS d e := by
  obtain ⟨rr, v1, v2⟩ := mul_val h
  refine ⟨rr, ?_⟩
  have e0 : ∀ (p q : Int) (k : Nat), signS (V p k) (V q k) = signS p q := fun p q k => by unfold V; exact signS_scale p q _
  rw [← e0 (mulR a b c d e f).p (mulR a b c d e f).q (mulR a b c d e f).k.toNat, ← signS_scale _ _ 120, v1, v2, signS_mul, e0, e0]
end Go.Proofs.YtalaacfoaelipaaDoor
