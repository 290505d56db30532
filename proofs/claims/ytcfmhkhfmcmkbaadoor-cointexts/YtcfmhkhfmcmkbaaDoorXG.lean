/-
  Put together of: S1 S2 S3 S4 S5 S6 Awake G6 C0 C1 CB C2.
-/
import Derived.Test.YtcfmhkhfmcmkbaaDoorXA
import Derived.Test.YtcfmhkhfmcmkbaaDoorXE
import Derived.Test.YtcfmhkhfmcmkbaaDoorXF
import Derived.Lib.Builder
namespace Go.Proofs.YtcfmhkhfmcmkbaaDoor
open Go.RowKit

theorem hv_succ (k : Nat) (p q : Int) : hv (k + 1) p q = if p % 2 = 0 ∧ q % 2 = 0 then hv k (p / 2) (q / 2) + 1 else 0 := rfl
theorem hv_scale (k : Nat) (p q : Int) : ∀ n : Nat, hv (k + n) (p * 2 ^ n) (q * 2 ^ n) = hv k p q + n
  | 0 => by simp
  | n + 1 => by
    have e : ∀ x : Int, x * 2 ^ (n + 1) % 2 = 0 ∧ x * 2 ^ (n + 1) / 2 = x * 2 ^ n := fun x => by
      rw [Int.pow_succ, ← Int.mul_assoc]
      generalize x * 2 ^ n = t
      omega
    show hv ((k + n) + 1) _ _ = _
    rw [hv_succ, if_pos ⟨(e p).1, (e q).1⟩, (e p).2, (e q).2, hv_scale k p q n]
    omega
theorem mul_pow_zero (p : Int) (n : Nat) : p * 2 ^ n = 0 ↔ p = 0 := by
  have := pow_pos' n
  constructor
  · intro h
    rcases Int.mul_eq_zero.1 h with h | h
    · exact h
    · omega
  · intro h; rw [h, Int.zero_mul]
theorem div_scale (p : Int) (h n : Nat) : p * 2 ^ n / 2 ^ (h + n) = p / 2 ^ h := by
  rw [Int.pow_add, Int.mul_comm p, Int.mul_comm (2 ^ h), Int.mul_ediv_mul_of_pos _ _ (pow_pos' n)]
theorem one_scale (p q : Int) (k n : Nat) : one (p * 2 ^ n) (q * 2 ^ n) (k + n) = one p q k := by
  unfold one
  simp only [hv_scale, mul_pow_zero, div_scale]
  rw [show k + n - (hv k p q + n) = k - hv k p q by omega]
/-- Equal values have one root. -/
theorem one_eq {p q p' q' : Int} {k k' : Nat} (hp : p * 2 ^ k' = p' * 2 ^ k) (hq : q * 2 ^ k' = q' * 2 ^ k) : one p q k = one p' q' k' := by
  rw [← one_scale p q k k', ← one_scale p' q' k' k, hp, hq, Nat.add_comm]
/-- A root is its own one form. -/
theorem one_self {a b c : Int} (h : isRoot a b c) : one a b c.toNat = ⟨a, b, c, 0⟩ := by
  obtain ⟨ha, hb, hc, ho⟩ := h
  obtain ⟨c, rfl⟩ := Int.eq_ofNat_of_zero_le hc.1
  rw [Int.toNat_natCast]
  unfold one
  by_cases h0 : a = 0 ∧ b = 0
  · rw [if_pos h0]
    obtain ⟨rfl, rfl⟩ := h0
    have : c = 0 := by omega
    subst this
    rfl
  · rw [if_neg h0]
    have hh : hv c a b = 0 := by
      cases c with
      | zero => rfl
      | succ c => unfold hv; rw [if_neg (by omega)]
    rw [hh, Int.pow_zero, Int.ediv_one, Int.ediv_one, if_pos ⟨(inP_iff a).2 ha, (inP_iff b).2 hb, by omega⟩]
    simp
/-- What is told without an error is a root in its one form, of the same value. -/
theorem one_ok {p q : Int} {k : Nat} (h : (one p q k).e = 0) : isRoot (one p q k).p (one p q k).q (one p q k).k ∧ (one p q k).p * 2 ^ k = p * 2 ^ (one p q k).k.toNat ∧ (one p q k).q * 2 ^ k = q * 2 ^ (one p q k).k.toNat := by
  unfold one at *
  by_cases h0 : p = 0 ∧ q = 0
  · rw [if_pos h0]
    obtain ⟨rfl, rfl⟩ := h0
    refine ⟨?_, by simp, by simp⟩
    unfold isRoot; simp
  · rw [if_neg h0] at *
    by_cases hc : inP (p / 2 ^ hv k p q) = true ∧ inP (q / 2 ^ hv k p q) = true ∧ k - hv k p q ≤ 60
    · rw [if_pos hc] at *
      have hl := hv_le k p q
      obtain ⟨⟨x, hx⟩, ⟨y, hy⟩⟩ := hv_dvd k p q
      have hm := hv_most k p q
      generalize hv k p q = H at *
      have hp := pow_pos' H
      have ex : p / 2 ^ H = x := by
        conv => lhs; rw [hx]
        exact Int.mul_ediv_cancel_left _ (by omega)
      have ey : q / 2 ^ H = y := by
        conv => lhs; rw [hy]
        exact Int.mul_ediv_cancel_left _ (by omega)
      rw [ex, ey]
      rw [ex, ey] at hc
      have hk : (2 : Int) ^ k = 2 ^ H * 2 ^ (k - H) := by rw [← Int.pow_add]; congr 1; omega
      refine ⟨⟨(inP_iff _).1 hc.1, (inP_iff _).1 hc.2.1, by simp; omega, ?_⟩, ?_, ?_⟩
      · rcases hm with hm | hm
        · left; simp; omega
        · right
          simp only
          have n1 : ¬ (x % 2 = 0 ∧ y % 2 = 0) := by
            rintro ⟨a, b⟩
            refine hm ⟨?_, ?_⟩
            · refine ⟨x / 2, ?_⟩
              rw [Int.pow_succ, Int.mul_assoc, show 2 * (x / 2) = x by omega]
              exact hx
            · refine ⟨y / 2, ?_⟩
              rw [Int.pow_succ, Int.mul_assoc, show 2 * (y / 2) = y by omega]
              exact hy
          omega
      · simp only [Int.toNat_natCast]
        rw [hk, ← Int.mul_assoc, Int.mul_comm x, ← hx]
      · simp only [Int.toNat_natCast]
        rw [hk, ← Int.mul_assoc, Int.mul_comm y, ← hy]
    · rw [if_neg hc] at h
      simp at h
/-- The error is 0 or 3; with 3 the rest is nought. -/
theorem one_err (p q : Int) (k : Nat) : (one p q k).e = 0 ∨ one p q k = ⟨0, 0, 0, 3⟩ := by
  unfold one
  split
  · left; rfl
  · split
    · left; rfl
    · right; rfl
end Go.Proofs.YtcfmhkhfmcmkbaaDoor
namespace Go.Proofs.YtcfmhkhfmcmkbaaDoor
open Go.RowKit

/-- A part over 2^k, in units of 2^-120. -/
def V (p : Int) (k : Nat) : Int := p * 2 ^ (120 - k)
theorem pow_cancel {x y : Int} (n : Nat) (h : x * 2 ^ n = y * 2 ^ n) : x = y := Int.eq_of_mul_eq_mul_right (by have := pow_pos' n; omega) h
theorem V_cross {p p' : Int} {k k' : Nat} (hk : k ≤ 120) (hk' : k' ≤ 120) (h : V p k = V p' k') : p * 2 ^ k' = p' * 2 ^ k := by
  unfold V at h
  refine pow_cancel 120 ?_
  have e1 : p * 2 ^ k' * 2 ^ 120 = p * 2 ^ (120 - k) * 2 ^ (k + k') := by
    rw [Int.mul_assoc, Int.mul_assoc, ← Int.pow_add, ← Int.pow_add]; congr 2; omega
  have e2 : p' * 2 ^ k * 2 ^ 120 = p' * 2 ^ (120 - k') * 2 ^ (k + k') := by
    rw [Int.mul_assoc, Int.mul_assoc, ← Int.pow_add, ← Int.pow_add]; congr 2; omega
  rw [e1, e2, h]
theorem V_of_cross {p p' : Int} {k k' : Nat} (hk : k ≤ 120) (hk' : k' ≤ 120) (h : p * 2 ^ k' = p' * 2 ^ k) : V p k = V p' k' := by
  unfold V
  refine pow_cancel (k + k') ?_
  have e1 : p * 2 ^ (120 - k) * 2 ^ (k + k') = p * 2 ^ k' * 2 ^ 120 := by
    rw [Int.mul_assoc, Int.mul_assoc, ← Int.pow_add, ← Int.pow_add]; congr 2; omega
  have e2 : p' * 2 ^ (120 - k') * 2 ^ (k + k') = p' * 2 ^ k * 2 ^ 120 := by
    rw [Int.mul_assoc, Int.mul_assoc, ← Int.pow_add, ← Int.pow_add]; congr 2; omega
  rw [e1, e2, h]
theorem one_V {p q p' q' : Int} {k k' : Nat} (hk : k ≤ 120) (hk' : k' ≤ 120) (hp : V p k = V p' k') (hq : V q k = V q' k') : one p q k = one p' q' k' :=
  one_eq (V_cross hk hk' hp) (V_cross hk hk' hq)
theorem V_ok {p q : Int} {k : Nat} (hk : k ≤ 120) (h : (one p q k).e = 0) : isRoot (one p q k).p (one p q k).q (one p q k).k ∧ V (one p q k).p (one p q k).k.toNat = V p k ∧ V (one p q k).q (one p q k).k.toNat = V q k := by
  obtain ⟨hr, h1, h2⟩ := one_ok h
  have h60 : (one p q k).k.toNat ≤ 120 := by have := hr.2.2.1; omega
  exact ⟨hr, V_of_cross h60 hk h1, V_of_cross h60 hk h2⟩
theorem V_sum (a d : Int) (k c f : Nat) (hc : c ≤ k) (hf : f ≤ k) (hk : k ≤ 120) : V (sumP a d k c f) k = V a c + V d f := by
  unfold V sumP
  rw [Int.add_mul, Int.mul_assoc, Int.mul_assoc, ← Int.pow_add, ← Int.pow_add]
  congr 3 <;> omega
theorem V_mul (a d : Int) (c f : Nat) (h : c + f ≤ 120) : V (a * d) (c + f) * 2 ^ 120 = V a c * V d f := by
  unfold V
  have e : (2 : Int) ^ (120 - (c + f)) * 2 ^ 120 = 2 ^ (120 - c) * 2 ^ (120 - f) := by
    rw [← Int.pow_add, ← Int.pow_add]; congr 1; omega
  rw [Int.mul_assoc, e]
  generalize (2 : Int) ^ (120 - c) = x
  generalize (2 : Int) ^ (120 - f) = y
  rw [Int.mul_assoc, Int.mul_assoc, Int.mul_left_comm d x y]
theorem V_add (a b : Int) (k : Nat) : V (a + b) k = V a k + V b k := by unfold V; rw [Int.add_mul]
theorem V_neg (a : Int) (k : Nat) : V (-a) k = -V a k := by unfold V; rw [Int.neg_mul]
theorem V_two (a : Int) (k : Nat) : V (a * 2) k = V a k * 2 := by unfold V; rw [Int.mul_right_comm]

/-- What Add tells of two roots, by their values. -/
theorem add_char {a b c d e f : Int} (h1 : isRoot a b c) (h2 : isRoot d e f) : ∃ S T k, k ≤ 120 ∧ addR a b c d e f = one S T k ∧ V S k = V a c.toNat + V d f.toNat ∧ V T k = V b c.toNat + V e f.toNat := by
  have hc := h1.2.2.1
  have hf := h2.2.2.1
  refine ⟨_, _, max c.toNat f.toNat, by omega, by unfold addR; rw [if_pos ⟨h1, h2⟩], V_sum _ _ _ _ _ (by omega) (by omega) (by omega), V_sum _ _ _ _ _ (by omega) (by omega) (by omega)⟩
theorem sub_char {a b c d e f : Int} (h1 : isRoot a b c) (h2 : isRoot d e f) : ∃ S T k, k ≤ 120 ∧ subR a b c d e f = one S T k ∧ V S k = V a c.toNat - V d f.toNat ∧ V T k = V b c.toNat - V e f.toNat := by
  have hc := h1.2.2.1
  have hf := h2.2.2.1
  refine ⟨_, _, max c.toNat f.toNat, by omega, by unfold subR; rw [if_pos ⟨h1, h2⟩], ?_, ?_⟩
  · rw [V_sum _ _ _ _ _ (by omega) (by omega) (by omega), V_neg]; omega
  · rw [V_sum _ _ _ _ _ (by omega) (by omega) (by omega), V_neg]; omega
theorem mul_char {a b c d e f : Int} (h1 : isRoot a b c) (h2 : isRoot d e f) : ∃ S T k, k ≤ 120 ∧ mulR a b c d e f = one S T k ∧
    V S k * 2 ^ 120 = V a c.toNat * V d f.toNat + V b c.toNat * V e f.toNat * 2 ∧ V T k * 2 ^ 120 = V a c.toNat * V e f.toNat + V b c.toNat * V d f.toNat := by
  have hc := h1.2.2.1
  have hf := h2.2.2.1
  have hk : (c + f).toNat = c.toNat + f.toNat := by omega
  refine ⟨_, _, (c + f).toNat, by omega, by unfold mulR; rw [if_pos ⟨h1, h2⟩], ?_, ?_⟩
  · rw [hk, V_add, V_two, Int.add_mul, Int.mul_right_comm, V_mul _ _ _ _ (by omega), V_mul _ _ _ _ (by omega)]
  · rw [hk, V_add, Int.add_mul, V_mul _ _ _ _ (by omega), V_mul _ _ _ _ (by omega)]
theorem add_root {a b c d e f : Int} (h : (addR a b c d e f).e = 0) : isRoot a b c ∧ isRoot d e f := by
  unfold addR at h
  split at h
  · assumption
  · simp at h
theorem mul_root {a b c d e f : Int} (h : (mulR a b c d e f).e = 0) : isRoot a b c ∧ isRoot d e f := by
  unfold mulR at h
  split at h
  · assumption
  · simp at h

theorem add_comm' (a b c d e f : Int) : addR a b c d e f = addR d e f a b c := by
  by_cases h : isRoot a b c ∧ isRoot d e f
  · obtain ⟨S, T, k, hk, e1, h1, h2⟩ := add_char h.1 h.2
    obtain ⟨S', T', k', hk', e1', h1', h2'⟩ := add_char h.2 h.1
    rw [e1, e1']
    exact one_V hk hk' (by omega) (by omega)
  · unfold addR
    rw [if_neg h, if_neg (fun g => h ⟨g.2, g.1⟩)]
theorem mul_comm' (a b c d e f : Int) : mulR a b c d e f = mulR d e f a b c := by
  by_cases h : isRoot a b c ∧ isRoot d e f
  · obtain ⟨S, T, k, hk, e1, h1, h2⟩ := mul_char h.1 h.2
    obtain ⟨S', T', k', hk', e1', h1', h2'⟩ := mul_char h.2 h.1
    rw [e1, e1']
    refine one_V hk hk' (pow_cancel 120 ?_) (pow_cancel 120 ?_)
    · rw [h1, h1', Int.mul_comm (V d f.toNat), Int.mul_comm (V e f.toNat)]
    · rw [h2, h2', Int.mul_comm (V d f.toNat), Int.mul_comm (V e f.toNat), Int.add_comm]
  · unfold mulR
    rw [if_neg h, if_neg (fun g => h ⟨g.2, g.1⟩)]
theorem sub_back {a b c d e f : Int} (h : (addR a b c d e f).e = 0) : subR (addR a b c d e f).p (addR a b c d e f).q (addR a b c d e f).k d e f = ⟨a, b, c, 0⟩ := by
  obtain ⟨ra, rb⟩ := add_root h
  obtain ⟨S, T, k, hk, e1, h1, h2⟩ := add_char ra rb
  rw [e1] at h ⊢
  obtain ⟨rr, v1, v2⟩ := V_ok hk h
  obtain ⟨S', T', k', hk', e1', h1', h2'⟩ := sub_char rr rb
  rw [e1', ← one_self ra]
  exact one_V hk' (by have := ra.2.2.1; omega) (by omega) (by omega)
theorem sub_self {a b c : Int} (h : isRoot a b c) : subR a b c a b c = ⟨0, 0, 0, 0⟩ := by
  obtain ⟨S, T, k, hk, e1, h1, h2⟩ := sub_char h h
  rw [e1, show (⟨0, 0, 0, 0⟩ : Rt) = one 0 0 0 from rfl]
  exact one_V hk (by omega) (by unfold V at *; simp; omega) (by unfold V at *; simp; omega)
end Go.Proofs.YtcfmhkhfmcmkbaaDoor
namespace Go.Proofs.YtcfmhkhfmcmkbaaDoor
open Go.RowKit

/-- What is told, as a root, has the value that it is told of. -/
theorem add_val {a b c d e f : Int} (h : (addR a b c d e f).e = 0) : isRoot (addR a b c d e f).p (addR a b c d e f).q (addR a b c d e f).k ∧
    V (addR a b c d e f).p (addR a b c d e f).k.toNat = V a c.toNat + V d f.toNat ∧ V (addR a b c d e f).q (addR a b c d e f).k.toNat = V b c.toNat + V e f.toNat := by
  obtain ⟨ra, rb⟩ := add_root h
  obtain ⟨S, T, k, hk, e1, h1, h2⟩ := add_char ra rb
  rw [e1] at h ⊢
  obtain ⟨rr, v1, v2⟩ := V_ok hk h
  exact ⟨rr, by omega, by omega⟩
theorem mul_val {a b c d e f : Int} (h : (mulR a b c d e f).e = 0) : isRoot (mulR a b c d e f).p (mulR a b c d e f).q (mulR a b c d e f).k ∧
    V (mulR a b c d e f).p (mulR a b c d e f).k.toNat * 2 ^ 120 = V a c.toNat * V d f.toNat + V b c.toNat * V e f.toNat * 2 ∧ V (mulR a b c d e f).q (mulR a b c d e f).k.toNat * 2 ^ 120 = V a c.toNat * V e f.toNat + V b c.toNat * V d f.toNat := by
  obtain ⟨ra, rb⟩ := mul_root h
  obtain ⟨S, T, k, hk, e1, h1, h2⟩ := mul_char ra rb
  rw [e1] at h ⊢
  obtain ⟨rr, v1, v2⟩ := V_ok hk h
  exact ⟨rr, by rw [v1]; exact h1, by rw [v2]; exact h2⟩
theorem add_assoc' {a1 a2 a3 b1 b2 b3 c1 c2 c3 : Int} (h : (addR a1 a2 a3 b1 b2 b3).e = 0) (g : (addR b1 b2 b3 c1 c2 c3).e = 0) :
    addR (addR a1 a2 a3 b1 b2 b3).p (addR a1 a2 a3 b1 b2 b3).q (addR a1 a2 a3 b1 b2 b3).k c1 c2 c3 = addR a1 a2 a3 (addR b1 b2 b3 c1 c2 c3).p (addR b1 b2 b3 c1 c2 c3).q (addR b1 b2 b3 c1 c2 c3).k := by
  obtain ⟨ra, rb⟩ := add_root h
  obtain ⟨_, rc⟩ := add_root g
  obtain ⟨r1, v1, v2⟩ := add_val h
  obtain ⟨r2, u1, u2⟩ := add_val g
  obtain ⟨S, T, k, hk, e1, h1, h2⟩ := add_char r1 rc
  obtain ⟨S', T', k', hk', e1', h1', h2'⟩ := add_char ra r2
  rw [e1, e1']
  exact one_V hk hk' (by omega) (by omega)
theorem mul_assoc' {a1 a2 a3 b1 b2 b3 c1 c2 c3 : Int} (h : (mulR a1 a2 a3 b1 b2 b3).e = 0) (g : (mulR b1 b2 b3 c1 c2 c3).e = 0) :
    mulR (mulR a1 a2 a3 b1 b2 b3).p (mulR a1 a2 a3 b1 b2 b3).q (mulR a1 a2 a3 b1 b2 b3).k c1 c2 c3 = mulR a1 a2 a3 (mulR b1 b2 b3 c1 c2 c3).p (mulR b1 b2 b3 c1 c2 c3).q (mulR b1 b2 b3 c1 c2 c3).k := by
  obtain ⟨ra, rb⟩ := mul_root h
  obtain ⟨_, rc⟩ := mul_root g
  obtain ⟨r1, v1, v2⟩ := mul_val h
  obtain ⟨r2, u1, u2⟩ := mul_val g
  obtain ⟨S, T, k, hk, e1, h1, h2⟩ := mul_char r1 rc
  obtain ⟨S', T', k', hk', e1', h1', h2'⟩ := mul_char ra r2
  rw [e1, e1']
  generalize V (mulR a1 a2 a3 b1 b2 b3).p (mulR a1 a2 a3 b1 b2 b3).k.toNat = M1 at *
  generalize V (mulR a1 a2 a3 b1 b2 b3).q (mulR a1 a2 a3 b1 b2 b3).k.toNat = M2 at *
  generalize V (mulR b1 b2 b3 c1 c2 c3).p (mulR b1 b2 b3 c1 c2 c3).k.toNat = N1 at *
  generalize V (mulR b1 b2 b3 c1 c2 c3).q (mulR b1 b2 b3 c1 c2 c3).k.toNat = N2 at *
  generalize V a1 a3.toNat = A1 at *
  generalize V a2 a3.toNat = A2 at *
  generalize V b1 b3.toNat = B1 at *
  generalize V b2 b3.toNat = B2 at *
  generalize V c1 c3.toNat = C1 at *
  generalize V c2 c3.toNat = C2 at *
  generalize hP : (2 : Int) ^ 120 = P at *
  have p1 : V S k * P * P = V S' k' * P * P := by
    have x1 : V S k * P * P = (M1 * P) * C1 + (M2 * P) * C2 * 2 := by
      rw [h1, Int.add_mul]
      congr 1
      · rw [Int.mul_right_comm]
      · rw [Int.mul_right_comm, Int.mul_right_comm M2]
    have x2 : V S' k' * P * P = A1 * (N1 * P) + A2 * (N2 * P) * 2 := by
      rw [h1', Int.add_mul]
      congr 1
      · rw [Int.mul_assoc]
      · rw [Int.mul_right_comm, Int.mul_assoc A2]
    rw [x1, x2, v1, v2, u1, u2]
    simp only [Int.mul_add, Int.add_mul, Int.mul_assoc, Int.mul_comm, Int.mul_left_comm]
    omega
  have p2 : V T k * P * P = V T' k' * P * P := by
    have x1 : V T k * P * P = (M1 * P) * C2 + (M2 * P) * C1 := by
      rw [h2, Int.add_mul]
      congr 1
      · rw [Int.mul_right_comm]
      · rw [Int.mul_right_comm]
    have x2 : V T' k' * P * P = A1 * (N2 * P) + A2 * (N1 * P) := by
      rw [h2', Int.add_mul]
      congr 1
      · rw [Int.mul_assoc]
      · rw [Int.mul_assoc]
    rw [x1, x2, v1, v2, u1, u2]
    simp only [Int.mul_add, Int.mul_assoc, Int.mul_comm, Int.mul_left_comm]
    omega
  subst hP
  exact one_V hk hk' (pow_cancel 120 (pow_cancel 120 p1)) (pow_cancel 120 (pow_cancel 120 p2))
theorem mul_add' {a1 a2 a3 b1 b2 b3 c1 c2 c3 : Int} (i : (addR b1 b2 b3 c1 c2 c3).e = 0) (g : (mulR a1 a2 a3 b1 b2 b3).e = 0) (k : (mulR a1 a2 a3 c1 c2 c3).e = 0) :
    mulR a1 a2 a3 (addR b1 b2 b3 c1 c2 c3).p (addR b1 b2 b3 c1 c2 c3).q (addR b1 b2 b3 c1 c2 c3).k =
    addR (mulR a1 a2 a3 b1 b2 b3).p (mulR a1 a2 a3 b1 b2 b3).q (mulR a1 a2 a3 b1 b2 b3).k (mulR a1 a2 a3 c1 c2 c3).p (mulR a1 a2 a3 c1 c2 c3).q (mulR a1 a2 a3 c1 c2 c3).k := by
  obtain ⟨ra, rb⟩ := mul_root g
  obtain ⟨_, rc⟩ := mul_root k
  obtain ⟨r1, v1, v2⟩ := add_val i
  obtain ⟨r2, u1, u2⟩ := mul_val g
  obtain ⟨r3, t1, t2⟩ := mul_val k
  obtain ⟨S, T, k, hk, e1, h1, h2⟩ := mul_char ra r1
  obtain ⟨S', T', k', hk', e1', h1', h2'⟩ := add_char r2 r3
  rw [e1, e1']
  refine one_V hk hk' (pow_cancel 120 ?_) (pow_cancel 120 ?_)
  · rw [h1, h1', v1, v2, Int.add_mul (V (mulR a1 a2 a3 b1 b2 b3).p _), u1, t1]
    simp only [Int.mul_add, Int.add_mul]
    omega
  · rw [h2, h2', v1, v2, Int.add_mul (V (mulR a1 a2 a3 b1 b2 b3).q _), u2, t2]
    simp only [Int.mul_add]
    omega
end Go.Proofs.YtcfmhkhfmcmkbaaDoor
namespace Go.Proofs.YtcfmhkhfmcmkbaaDoor
open Go.RowKit

/-- 2^410, and the greatest whole number below 2^410 times the square root of 2. -/
def dD : Int := 2644223875160994395807661232131084159313618731857124877138595181097623164945245383300756841758861139390364848100093433217024
def eE : Int := 3739497266203420043702972134815641303709881530461280852976618800332177172796555349176689859742883508108711858238329898902850
theorem de_facts : 0 < dD ∧ 0 < eE ∧ eE * eE ≤ 2 * (dD * dD) ∧ 2 * (dD * dD) < (eE + 1) * (eE + 1) ∧ 2 * eE + 1 ≤ 4 * dD ∧ 4 * (1606938044258990275541962092341162602522202993782792835301376 * 1606938044258990275541962092341162602522202993782792835301376) < dD := by decide +kernel
theorem sq_lt {x y : Int} (hx : 0 ≤ x) (hy : 0 ≤ y) (h : x * x < y * y) : x < y := by
  rcases Int.lt_or_le x y with h1 | h1
  · exact h1
  · have := Int.mul_le_mul h1 h1 hy hx
    omega
theorem mul4 (a b : Int) : a * b * (a * b) = a * a * (b * b) := by
  rw [Int.mul_assoc, Int.mul_left_comm b a b, ← Int.mul_assoc]
/-- Where p^2 is above 2 v^2. -/
theorem lin_gt {p v : Int} (hp : 0 < p) (hv : 0 ≤ v) (h : v * v * 2 < p * p) : v * eE < p * dD := by
  obtain ⟨d0, e0, f1, f2, f3, f4⟩ := de_facts
  refine sq_lt (Int.mul_nonneg hv (by omega)) (Int.mul_nonneg (by omega) (by omega)) ?_
  rw [mul4, mul4]
  have h1 : v * v * (eE * eE) ≤ v * v * (2 * (dD * dD)) := Int.mul_le_mul_of_nonneg_left f1 (Int.mul_nonneg hv hv)
  have h2 : v * v * (2 * (dD * dD)) = v * v * 2 * (dD * dD) := (Int.mul_assoc _ _ _).symm
  have h3 : v * v * 2 * (dD * dD) < p * p * (dD * dD) := Int.mul_lt_mul_of_pos_right h (Int.mul_pos d0 d0)
  omega
/-- Where p^2 is below 2 v^2. -/
theorem lin_lt {p v : Int} (hp : 0 ≤ p) (hv : 0 < v) (hb : v < 1606938044258990275541962092341162602522202993782792835301376) (h : p * p < v * v * 2) : p * dD < v * eE := by
  obtain ⟨d0, e0, f1, f2, f3, f4⟩ := de_facts
  refine sq_lt (Int.mul_nonneg hp (by omega)) (Int.mul_nonneg (by omega) (by omega)) ?_
  rw [mul4, mul4]
  have hvv : 0 < v * v := Int.mul_pos hv hv
  have hvb : v * v ≤ 1606938044258990275541962092341162602522202993782792835301376 * 1606938044258990275541962092341162602522202993782792835301376 := Int.mul_le_mul (by omega) (by omega) (by omega) (by omega)
  have hdd : 0 < dD * dD := Int.mul_pos d0 d0
  -- p^2 D^2 ≤ 2 v^2 D^2 - D^2
  have h1 : p * p * (dD * dD) ≤ (v * v * 2 - 1) * (dD * dD) := Int.mul_le_mul_of_nonneg_right (by omega) (by omega)
  rw [Int.sub_mul, Int.one_mul] at h1
  have h6 : v * v * 2 * (dD * dD) = v * v * (2 * (dD * dD)) := Int.mul_assoc _ _ _
  -- v^2 E^2 ≥ 2 v^2 D^2 - v^2 (2 E + 1) + v^2
  have e1 : (eE + 1) * (eE + 1) = eE * eE + (2 * eE + 1) := by rw [Int.add_mul, Int.mul_add]; omega
  have h2 : v * v * (2 * (dD * dD)) ≤ v * v * (eE * eE + (2 * eE + 1)) := Int.mul_le_mul_of_nonneg_left (by omega) (by omega)
  rw [Int.mul_add] at h2
  have h3 : v * v * (2 * eE + 1) ≤ v * v * (4 * dD) := Int.mul_le_mul_of_nonneg_left f3 (by omega)
  have h4 : v * v * (4 * dD) = 4 * (v * v) * dD := by rw [← Int.mul_assoc, Int.mul_comm (v * v) 4]
  have h5 : 4 * (v * v) * dD < dD * dD := Int.mul_lt_mul_of_pos_right (by omega) d0
  omega
/-- The square root of 2 is no fraction. -/
theorem irr_nat : ∀ (n p q : Nat), q ≤ n → p * p = q * q * 2 → q = 0
  | 0, _, q, hq, _ => by omega
  | n + 1, p, q, hq, h => by
    have hp : p % 2 = 0 := by
      have h1 : (p * p) % 2 = 0 := by omega
      rcases (show p % 2 = 0 ∨ p % 2 = 1 by omega) with h2 | h2
      · exact h2
      · rw [Nat.mul_mod, h2] at h1; simp at h1
    obtain ⟨p', rfl⟩ : ∃ p', p = 2 * p' := ⟨p / 2, by omega⟩
    have h3 : q * q = p' * p' * 2 := by
      have e : 2 * p' * (2 * p') = 4 * (p' * p') := by rw [Nat.mul_mul_mul_comm]
      omega
    have hq2 : q % 2 = 0 := by
      have h1 : (q * q) % 2 = 0 := by omega
      rcases (show q % 2 = 0 ∨ q % 2 = 1 by omega) with h2 | h2
      · exact h2
      · rw [Nat.mul_mod, h2] at h1; simp at h1
    obtain ⟨q', rfl⟩ : ∃ q', q = 2 * q' := ⟨q / 2, by omega⟩
    have h4 : p' * p' = q' * q' * 2 := by
      have e : 2 * q' * (2 * q') = 4 * (q' * q') := by rw [Nat.mul_mul_mul_comm]
      omega
    by_cases h0 : q' = 0
    · omega
    · have := irr_nat n p' q' (by omega) h4
      omega
theorem irr {p q : Int} (hq : q ≠ 0) : p * p ≠ q * q * 2 := fun h => by
  have h1 : p.natAbs * p.natAbs = q.natAbs * q.natAbs * 2 := by
    have a := Int.natAbs_mul_self (a := p)
    have b := Int.natAbs_mul_self (a := q)
    omega
  have := irr_nat q.natAbs p.natAbs q.natAbs (Nat.le_refl _) h1
  omega
theorem signS_lin (p q : Int) (hp : -1606938044258990275541962092341162602522202993782792835301376 < p ∧ p < 1606938044258990275541962092341162602522202993782792835301376) (hq : -1606938044258990275541962092341162602522202993782792835301376 < q ∧ q < 1606938044258990275541962092341162602522202993782792835301376) : signS p q = sgn (p * dD + q * eE) := by
  obtain ⟨d0, e0, _⟩ := de_facts
  have s1 : ∀ x : Int, 0 < x → sgn x = 1 := fun x h => by unfold sgn; rw [if_neg (by omega), if_neg (by omega)]
  have s2 : ∀ x : Int, x < 0 → sgn x = -1 := fun x h => by unfold sgn; rw [if_pos h]
  have s3 : sgn 0 = 0 := rfl
  have pp : ∀ x y : Int, 0 < x → 0 < y → 0 < x * y := fun x y => Int.mul_pos
  have pn : ∀ x y : Int, x < 0 → 0 < y → x * y < 0 := fun x y a b => Int.mul_neg_of_neg_of_pos a b
  unfold signS
  rcases Int.lt_trichotomy p 0 with h1 | h1 | h1 <;> rcases Int.lt_trichotomy q 0 with h2 | h2 | h2
  · rw [if_pos (by rw [s2 p h1, s2 q h2]), s2 p h1, s2]
    have := pn p dD h1 d0; have := pn q eE h2 e0; omega
  · subst h2
    have hpp : 0 < p * p := Int.mul_pos_of_neg_of_neg h1 h1
    rw [if_neg (by rw [s2 p h1, s3]; omega), if_pos (by omega), s2 p h1, s2]
    have := pn p dD h1 d0; omega
  · rw [if_neg (by rw [s2 p h1, s1 q h2]; omega)]
    by_cases h : q * q * 2 < p * p
    · rw [if_pos h, s2 p h1, s2]
      have := lin_gt (p := -p) (v := q) (by omega) (by omega) (by rw [Int.neg_mul_neg]; exact h)
      rw [Int.neg_mul] at this; omega
    · rw [if_neg h, s1 q h2, s1]
      by_cases he : p * p = q * q * 2
      · exact absurd he (irr (by omega))
      · have := lin_lt (p := -p) (v := q) (by omega) (by omega) (by omega) (by rw [Int.neg_mul_neg]; omega)
        rw [Int.neg_mul] at this; omega
  · subst h1
    have hqq : 0 < q * q := Int.mul_pos_of_neg_of_neg h2 h2
    rw [if_neg (by rw [s3, s2 q h2]; omega), if_neg (by omega), s2 q h2, s2]
    have := pn q eE h2 e0; omega
  · subst h1 h2; rfl
  · subst h1
    have hqq : 0 < q * q := Int.mul_pos h2 h2
    rw [if_neg (by rw [s3, s1 q h2]; omega), if_neg (by omega), s1 q h2, s1]
    have := pp q eE h2 e0; omega
  · rw [if_neg (by rw [s1 p h1, s2 q h2]; omega)]
    by_cases h : q * q * 2 < p * p
    · rw [if_pos h, s1 p h1, s1]
      have := lin_gt (p := p) (v := -q) h1 (by omega) (by rw [Int.neg_mul_neg]; exact h)
      rw [Int.neg_mul] at this; omega
    · rw [if_neg h, s2 q h2, s2]
      by_cases he : p * p = q * q * 2
      · exact absurd he (irr (by omega))
      · have := lin_lt (p := p) (v := -q) (by omega) (by omega) (by omega) (by rw [Int.neg_mul_neg]; omega)
        rw [Int.neg_mul] at this; omega
  · subst h2
    have hpp : 0 < p * p := Int.mul_pos h1 h1
    rw [if_neg (by rw [s1 p h1, s3]; omega), if_pos (by omega), s1 p h1, s1]
    have := pp p dD h1 d0; omega
  · rw [if_pos (by rw [s1 p h1, s1 q h2]), s1 p h1, s1]
    have := pp p dD h1 d0; have := pp q eE h2 e0; omega
end Go.Proofs.YtcfmhkhfmcmkbaaDoor
namespace Go.Proofs.YtcfmhkhfmcmkbaaDoor
open Go.RowKit

theorem sgn_pos {x : Int} (h : 0 < x) : sgn x = 1 := by unfold sgn; rw [if_neg (by omega), if_neg (by omega)]
theorem sgn_neg {x : Int} (h : x < 0) : sgn x = -1 := by unfold sgn; rw [if_pos h]
theorem sgn_mul (x y : Int) : sgn (x * y) = sgn x * sgn y := by
  rcases Int.lt_trichotomy x 0 with h1 | rfl | h1 <;> rcases Int.lt_trichotomy y 0 with h2 | rfl | h2
  · rw [sgn_neg h1, sgn_neg h2, sgn_pos (Int.mul_pos_of_neg_of_neg h1 h2)]; rfl
  · rw [Int.mul_zero, sgn_neg h1]; rfl
  · rw [sgn_neg h1, sgn_pos h2, sgn_neg (Int.mul_neg_of_neg_of_pos h1 h2)]; rfl
  · rw [Int.zero_mul, sgn_neg h2]; rfl
  · rfl
  · rw [Int.zero_mul, sgn_pos h2]; rfl
  · rw [sgn_pos h1, sgn_neg h2, sgn_neg (Int.mul_neg_of_pos_of_neg h1 h2)]; rfl
  · rw [Int.mul_zero, sgn_pos h1]; rfl
  · rw [sgn_pos h1, sgn_pos h2, sgn_pos (Int.mul_pos h1 h2)]; rfl
theorem sgn_scale (x t : Int) (ht : 0 < t) : sgn (x * t) = sgn x := by rw [sgn_mul, sgn_pos ht, Int.mul_one]
/-- By the norm: where p^2 is above 2 q^2, p's sign; else q's. -/
theorem signS_norm (p q : Int) : signS p q = if q * q * 2 < p * p then sgn p else sgn q := by
  unfold signS
  split
  · split
    · rfl
    · assumption
  · rfl
theorem signS_scale (p q : Int) (n : Nat) : signS (p * 2 ^ n) (q * 2 ^ n) = signS p q := by
  have ht := pow_pos' n
  have key : q * 2 ^ n * (q * 2 ^ n) * 2 < p * 2 ^ n * (p * 2 ^ n) ↔ q * q * 2 < p * p := by
    rw [mul4, mul4, Int.mul_right_comm]
    have hT : 0 < (2 : Int) ^ n * 2 ^ n := Int.mul_pos ht ht
    constructor
    · intro h; exact Int.lt_of_mul_lt_mul_right h (Int.le_of_lt hT)
    · intro h; exact Int.mul_lt_mul_of_pos_right h hT
  rw [signS_norm, signS_norm, sgn_scale _ _ ht, sgn_scale _ _ ht]
  by_cases h : q * q * 2 < p * p
  · rw [if_pos h, if_pos (key.2 h)]
  · rw [if_neg h, if_neg (fun g => h (key.1 g))]
theorem msn (x : Int) : 0 ≤ x * x := by
  rcases Int.lt_or_le x 0 with h | h
  · exact Int.le_of_lt (Int.mul_pos_of_neg_of_neg h h)
  · exact Int.mul_nonneg h h
theorem sgn_add {x y : Int} (h : y * y < x * x) : sgn (x + y) = sgn x := by
  rcases Int.lt_trichotomy x 0 with h1 | rfl | h1
  · rw [sgn_neg h1, sgn_neg]
    rcases Int.lt_or_le y 0 with h2 | h2
    · omega
    · have := sq_lt h2 (show 0 ≤ -x by omega) (by rw [Int.neg_mul_neg]; exact h); omega
  · have := msn y
    omega
  · rw [sgn_pos h1, sgn_pos]
    rcases Int.lt_or_le y 0 with h2 | h2
    · have := sq_lt (show 0 ≤ -y by omega) (show 0 ≤ x by omega) (by rw [Int.neg_mul_neg]; exact h); omega
    · omega
theorem sq_mul_lt {a b c d : Int} (ha : 0 ≤ a) (hc : 0 ≤ c) (h1 : a < b) (h2 : c < d) : a * c < b * d :=
  Int.lt_of_le_of_lt (Int.mul_le_mul_of_nonneg_right (Int.le_of_lt h1) hc) (Int.mul_lt_mul_of_pos_left h2 (by omega))
/-- The sign of a product. -/
theorem signS_mul (p q r s : Int) : signS (p * r + q * s * 2) (p * s + q * r) = signS p q * signS r s := by
  have npp := msn p
  have nqq := msn q
  have nrr := msn r
  have nss := msn s
  by_cases hq : p = 0 ∧ q = 0
  · obtain ⟨rfl, rfl⟩ := hq
    simp only [Int.zero_mul, Int.zero_add]
    rw [show signS 0 0 = 0 from rfl, Int.zero_mul]
  by_cases hs : r = 0 ∧ s = 0
  · obtain ⟨rfl, rfl⟩ := hs
    simp only [Int.mul_zero, Int.zero_mul, Int.zero_add]
    rw [show signS 0 0 = 0 from rfl, Int.mul_zero]
  have i1 : p * p ≠ q * q * 2 := by
    by_cases h0 : q = 0
    · subst h0; intro h; exact hq ⟨(Int.mul_eq_zero.1 (show p * p = 0 by simpa using h)).elim id id, rfl⟩
    · exact irr h0
  have i2 : r * r ≠ s * s * 2 := by
    by_cases h0 : s = 0
    · subst h0; intro h; exact hs ⟨(Int.mul_eq_zero.1 (show r * r = 0 by simpa using h)).elim id id, rfl⟩
    · exact irr h0
  -- the norm of the product
  have N : (p * r + q * s * 2) * (p * r + q * s * 2) - (p * s + q * r) * (p * s + q * r) * 2 = (p * p - q * q * 2) * (r * r - s * s * 2) := by
    simp only [Int.mul_add, Int.add_mul, Int.mul_sub, Int.mul_assoc, Int.mul_comm, Int.mul_left_comm]
    omega
  have e1 : p * r * (p * r) = p * p * (r * r) := mul4 p r
  have e2 : q * s * 2 * (q * s * 2) = (q * q * 2) * (s * s * 2) := by
    rw [mul4, mul4]
    generalize q * q = x
    generalize s * s = y
    rw [Int.mul_assoc x 2, Int.mul_left_comm 2 y 2, ← Int.mul_assoc x y]
  have e3 : p * s * (p * s) = p * p * (s * s) := mul4 p s
  have e4 : q * r * (q * r) = q * q * (r * r) := mul4 q r
  have x3 : p * p * (s * s * 2) = p * p * (s * s) * 2 := (Int.mul_assoc _ _ _).symm
  have x4 : q * q * 2 * (r * r) = q * q * (r * r) * 2 := Int.mul_right_comm _ _ _
  rw [signS_norm, signS_norm p q, signS_norm r s]
  by_cases h1 : q * q * 2 < p * p <;> by_cases h2 : s * s * 2 < r * r
  · rw [if_pos h1, if_pos h2]
    have hN : 0 < (p * p - q * q * 2) * (r * r - s * s * 2) := Int.mul_pos (by omega) (by omega)
    rw [if_pos (by omega), sgn_add (by rw [e1, e2]; exact sq_mul_lt (by omega) (by omega) h1 h2), sgn_mul]
  · rw [if_pos h1, if_neg h2]
    have hN : (p * p - q * q * 2) * (r * r - s * s * 2) < 0 := Int.mul_neg_of_pos_of_neg (by omega) (by omega)
    have hl : q * q * 2 * (r * r) < p * p * (s * s * 2) := sq_mul_lt (by omega) (by omega) h1 (by omega)
    rw [if_neg (by omega), sgn_add (by rw [e3, e4]; omega), sgn_mul]
  · rw [if_neg h1, if_pos h2]
    have hN : (p * p - q * q * 2) * (r * r - s * s * 2) < 0 := Int.mul_neg_of_neg_of_pos (by omega) (by omega)
    have hl : p * p * (s * s * 2) < q * q * 2 * (r * r) := sq_mul_lt (by omega) (by omega) (by omega) h2
    rw [if_neg (by omega), Int.add_comm, sgn_add (by rw [e3, e4]; omega), sgn_mul]
  · rw [if_neg h1, if_neg h2]
    have hN : 0 < (p * p - q * q * 2) * (r * r - s * s * 2) := Int.mul_pos_of_neg_of_neg (by omega) (by omega)
    rw [if_pos (by omega), Int.add_comm, sgn_add (by rw [e1, e2]; exact sq_mul_lt (by omega) (by omega) (by omega) (by omega)), sgn_mul, sgn_mul]
    rw [show sgn 2 = 1 from rfl, Int.mul_one]

/-- A root's value, as one whole number. -/
def L (a b : Int) (c : Nat) : Int := V a c * dD + V b c * eE
theorem V_bound {a : Int} {c : Nat} (ha : -9007199254740991 ≤ a ∧ a ≤ 9007199254740991) : -23945242826029513411849172299223580994042798784118784 < V a c ∧ V a c < 23945242826029513411849172299223580994042798784118784 := by
  unfold V
  have h1 : (2 : Int) ^ (120 - c) ≤ 1329227995784915872903807060280344576 := by
    have : (2 : Nat) ^ (120 - c) ≤ 2 ^ 120 := Nat.pow_le_pow_right (by omega) (by omega)
    have h2 : ((2 ^ (120 - c) : Nat) : Int) = 2 ^ (120 - c) := by simp
    have h3 : (2 : Nat) ^ 120 = 1329227995784915872903807060280344576 := rfl
    rw [← h2]; omega
  have h0 := pow_pos' (120 - c)
  generalize (2 : Int) ^ (120 - c) = t at *
  have u1 := Int.mul_le_mul ha.2 h1 (by omega) (by omega)
  have u2 := Int.mul_le_mul (show -a ≤ 9007199254740991 by omega) h1 (by omega) (by omega)
  rw [Int.neg_mul] at u2
  omega
theorem sign_L {a b c : Int} (h : isRoot a b c) : signS a b = sgn (L a b c.toNat) := by
  have b1 := V_bound (c := c.toNat) h.1
  have b2 := V_bound (c := c.toNat) h.2.1
  have e : signS (V a c.toNat) (V b c.toNat) = signS a b := by unfold V; exact signS_scale a b _
  rw [← e, signS_lin _ _ (by omega) (by omega)]
  rfl
/-- What Compare tells of two roots. -/
def cmpR (a b c d e f : Int) : Int :=
  signS (sumP a (-d) (max c.toNat f.toNat) c.toNat f.toNat) (sumP b (-e) (max c.toNat f.toNat) c.toNat f.toNat)
theorem cmp_L {a b c d e f : Int} (h1 : isRoot a b c) (h2 : isRoot d e f) : cmpR a b c d e f = sgn (L a b c.toNat - L d e f.toNat) := by
  have hc := h1.2.2.1
  have hf := h2.2.2.1
  have b1 := V_bound (c := c.toNat) h1.1
  have b2 := V_bound (c := c.toNat) h1.2.1
  have b3 := V_bound (c := f.toNat) h2.1
  have b4 := V_bound (c := f.toNat) h2.2.1
  have v1 := V_sum a (-d) (max c.toNat f.toNat) c.toNat f.toNat (by omega) (by omega) (by omega)
  have v2 := V_sum b (-e) (max c.toNat f.toNat) c.toNat f.toNat (by omega) (by omega) (by omega)
  rw [V_neg] at v1 v2
  unfold cmpR
  generalize sumP a (-d) (max c.toNat f.toNat) c.toNat f.toNat = S at *
  generalize sumP b (-e) (max c.toNat f.toNat) c.toNat f.toNat = T at *
  have e' : signS (V S (max c.toNat f.toNat)) (V T (max c.toNat f.toNat)) = signS S T := by unfold V; exact signS_scale S T _
  rw [← e', signS_lin _ _ (by omega) (by omega), v1, v2]
  unfold L
  congr 1
  rw [Int.add_mul, Int.add_mul, Int.neg_mul, Int.neg_mul]
  omega
end Go.Proofs.YtcfmhkhfmcmkbaaDoor
namespace Go.Proofs.YtcfmhkhfmcmkbaaDoor
open Go.RowKit

theorem signS_zero {p q : Int} (h : signS p q = 0) : p = 0 ∧ q = 0 := by
  unfold signS at h
  split at h
  · rename_i e
    rw [h] at e
    exact ⟨(sgn_zero p).1 h, (sgn_zero q).1 e.symm⟩
  · rename_i e
    split at h
    · rename_i g
      have hp := (sgn_zero p).1 h
      subst hp
      have := msn q
      omega
    · have hq := (sgn_zero q).1 h
      subst hq
      rename_i g
      refine ⟨?_, rfl⟩
      have := msn p
      have h0 : p * p = 0 := by omega
      exact (Int.mul_eq_zero.1 h0).elim id id
/-- One form, one value. -/
theorem root_eq {a b c d e f : Int} (h1 : isRoot a b c) (h2 : isRoot d e f) (hp : V a c.toNat = V d f.toNat) (hq : V b c.toNat = V e f.toNat) : a = d ∧ b = e ∧ c = f := by
  have h := one_V (by have := h1.2.2.1; omega) (by have := h2.2.2.1; omega) hp hq
  rw [one_self h1, one_self h2] at h
  injection h with x y z _
  exact ⟨x, y, z⟩
theorem cmp_zero {a b c d e f : Int} (h1 : isRoot a b c) (h2 : isRoot d e f) : cmpR a b c d e f = 0 ↔ a = d ∧ b = e ∧ c = f := by
  constructor
  · intro h
    have hc := h1.2.2.1
    have hf := h2.2.2.1
    have v1 := V_sum a (-d) (max c.toNat f.toNat) c.toNat f.toNat (by omega) (by omega) (by omega)
    have v2 := V_sum b (-e) (max c.toNat f.toNat) c.toNat f.toNat (by omega) (by omega) (by omega)
    rw [V_neg] at v1 v2
    obtain ⟨s0, t0⟩ := signS_zero h
    rw [s0] at v1
    rw [t0] at v2
    have z : ∀ k, V 0 k = 0 := fun k => by unfold V; rw [Int.zero_mul]
    rw [z] at v1 v2
    exact root_eq h1 h2 (by omega) (by omega)
  · rintro ⟨rfl, rfl, rfl⟩
    rw [cmp_L h1 h2, Int.sub_self]
    rfl
theorem sgn_sub (x y : Int) : sgn (x - y) = -sgn (y - x) := by
  rcases Int.lt_trichotomy x y with h | rfl | h
  · rw [sgn_neg (by omega), sgn_pos (by omega)]
  · rw [Int.sub_self]; rfl
  · rw [sgn_pos (by omega), sgn_neg (by omega)]; rfl
theorem cmp_turn {a b c d e f : Int} (h1 : isRoot a b c) (h2 : isRoot d e f) : cmpR a b c d e f = -cmpR d e f a b c := by
  rw [cmp_L h1 h2, cmp_L h2 h1]; exact sgn_sub _ _
theorem sgn_ge {x : Int} : 0 ≤ sgn x ↔ 0 ≤ x := by
  rcases Int.lt_trichotomy x 0 with h | rfl | h
  · rw [sgn_neg h]; omega
  · simp [sgn]
  · rw [sgn_pos h]; omega
theorem sgn_le {x : Int} : sgn x ≤ 0 ↔ x ≤ 0 := by
  rcases Int.lt_trichotomy x 0 with h | rfl | h
  · rw [sgn_neg h]; omega
  · simp [sgn]
  · rw [sgn_pos h]; omega
theorem cmp_trans {a1 a2 a3 b1 b2 b3 c1 c2 c3 : Int} (ha : isRoot a1 a2 a3) (hb : isRoot b1 b2 b3) (hc : isRoot c1 c2 c3) :
    (0 ≤ cmpR a1 a2 a3 b1 b2 b3 → 0 ≤ cmpR b1 b2 b3 c1 c2 c3 → 0 ≤ cmpR a1 a2 a3 c1 c2 c3) ∧ (cmpR a1 a2 a3 b1 b2 b3 ≤ 0 → cmpR b1 b2 b3 c1 c2 c3 ≤ 0 → cmpR a1 a2 a3 c1 c2 c3 ≤ 0) := by
  rw [cmp_L ha hb, cmp_L hb hc, cmp_L ha hc, sgn_ge, sgn_ge, sgn_ge, sgn_le, sgn_le, sgn_le]
  omega
theorem nought_root : isRoot 0 0 0 := by unfold isRoot; omega
theorem cmp_nought {a b c : Int} (h : isRoot a b c) : cmpR a b c 0 0 0 = signS a b := by
  rw [cmp_L h nought_root, sign_L h]
  congr 1
  unfold L V
  simp
theorem sub_root {a b c d e f : Int} (h : (subR a b c d e f).e = 0) : isRoot a b c ∧ isRoot d e f := by
  unfold subR at h
  split at h
  · assumption
  · simp at h
theorem sub_sign {a b c d e f : Int} (h : (subR a b c d e f).e = 0) : isRoot (subR a b c d e f).p (subR a b c d e f).q (subR a b c d e f).k ∧ signS (subR a b c d e f).p (subR a b c d e f).q = cmpR a b c d e f := by
  obtain ⟨ra, rb⟩ := sub_root h
  obtain ⟨S, T, k, hk, e1, h1, h2⟩ := sub_char ra rb
  rw [cmp_L ra rb]
  rw [e1] at h ⊢
  obtain ⟨rr, v1, v2⟩ := V_ok hk h
  refine ⟨rr, ?_⟩
  rw [sign_L rr]
  congr 1
  unfold L
  rw [v1, v2, h1, h2, Int.sub_mul, Int.sub_mul]
  omega
theorem mul_sign {a b c d e f : Int} (h : (mulR a b c d e f).e = 0) : isRoot (mulR a b c d e f).p (mulR a b c d e f).q (mulR a b c d e f).k ∧ signS (mulR a b c d e f).p (mulR a b c d e f).q = signS a b * signS d e := by
  obtain ⟨rr, v1, v2⟩ := mul_val h
  refine ⟨rr, ?_⟩
  have e0 : ∀ (p q : Int) (k : Nat), signS (V p k) (V q k) = signS p q := fun p q k => by unfold V; exact signS_scale p q _
  rw [← e0 (mulR a b c d e f).p (mulR a b c d e f).q (mulR a b c d e f).k.toNat, ← signS_scale _ _ 120, v1, v2, signS_mul, e0, e0]
end Go.Proofs.YtcfmhkhfmcmkbaaDoor
namespace Go.Proofs.YtcfmhkhfmcmkbaaDoor
open Go.RowKit Go.Sort

theorem below_grow (w : World) (k : Nat) (os : Array Obj) : Below w.heap.size w (grow (w.drewN k) os) :=
  ⟨rfl, rfl, rfl, by simp [grow], fun i hi => by simp [grow, Array.getElem?_append, hi]⟩
end Go.Proofs.YtcfmhkhfmcmkbaaDoor
namespace Go.Proofs.YtcfmhkhfmcmkbaaDoor
open Go.RowKit Go.Sort

theorem sum_lt (a d : Int) (k c f : Nat) (hk : k ≤ 60) (ha : -9007199254740991 ≤ a ∧ a ≤ 9007199254740991) (hd : -9007199254740991 ≤ d ∧ d ≤ 9007199254740991) :
    -85070591730234615865843651857942052864 < sumP a d k c f ∧ sumP a d k c f < 85070591730234615865843651857942052864 := by
  have p : ∀ n : Nat, n ≤ 60 → (2 : Int) ^ n ≤ 1152921504606846976 := fun n hn => by
    have : (2 : Nat) ^ n ≤ 2 ^ 60 := Nat.pow_le_pow_right (by omega) hn
    have h2 : ((2 ^ n : Nat) : Int) = 2 ^ n := by simp
    have h3 : (2 : Nat) ^ 60 = 1152921504606846976 := rfl
    rw [← h2]; omega
  have m : ∀ (x : Int) (n : Nat), n ≤ 60 → -9007199254740991 ≤ x ∧ x ≤ 9007199254740991 → -10384593717069654320312270131228016 ≤ x * 2 ^ n ∧ x * 2 ^ n ≤ 10384593717069654320312270131228016 := fun x n hn hx => by
    have h1 := p n hn
    have h0 := pow_pos' n
    generalize (2 : Int) ^ n = t at *
    have u1 := Int.mul_le_mul hx.2 h1 (by omega) (by omega)
    have u2 := Int.mul_le_mul (show -x ≤ 9007199254740991 by omega) h1 (by omega) (by omega)
    rw [Int.neg_mul] at u2
    omega
  have h1 := m a (k - c) (by omega) ha
  have h2 := m d (k - f) (by omega) hd
  unfold sumP
  omega
theorem compare_yes (a b c d e f : Int) (w : World) (h1 : isRoot a b c) (h2 : isRoot d e f) :
    Calls Tryd.prog 62 #[rv a b c, rv d e f] w fun x w' => x = .returned (.tuple #[.int .i64 (cmpR a b c d e f), .int .i64 0]) ∧ Below w.heap.size w w' := by
  have C := fun w => both_yes a b c d e f w h1 h2
  obtain ⟨ha, hb, hc', _⟩ := h1
  obtain ⟨hd, he, hf', _⟩ := h2
  obtain ⟨c, rfl⟩ := Int.eq_ofNat_of_zero_le hc'.1
  obtain ⟨f, rfl⟩ := Int.eq_ofNat_of_zero_le hf'.1
  unfold cmpR
  rw [Int.toNat_natCast, Int.toNat_natCast]
  exact compare_yes_core a b c d e f (-d) (-e) _ _ ((max c f : Nat) : Int) _ w C (fun w => negative_rt d e f w hd he)
    (fun w => sum_any a b (-d) (-e) c f (max c f) w (by omega) (by omega) (by omega) ha hb (by omega) (by omega))
    (fun w => signOf_any _ _ w (sum_lt a (-d) _ c f (by omega) ha (by omega)) (sum_lt b (-e) _ c f (by omega) hb (by omega)))
theorem compare_no (a b c d e f : Int) (w : World) (h : ¬ (isRoot a b c ∧ isRoot d e f)) :
    Calls Tryd.prog 62 #[rv a b c, rv d e f] w fun x w' => x = .returned (.tuple #[.int .i64 0, .int .i64 2]) ∧ Below w.heap.size w w' := by
  have C := fun w => both_no a b c d e f w h
  clear h
  go_enter Tryd.func62, Tryd.ntmps62
  go_wp2_with (first
    | (go_at_call 28; (with_reducible refine (C _).mono ?_); rintro e w1 ⟨rfl, hB⟩; obtain ⟨hc, hf⟩ := bcell hB))
  go_ret2
  exact ⟨rfl, btr (bal (bal (Below.refl w.heap.size w) _) _) hB⟩

end Go.Proofs.YtcfmhkhfmcmkbaaDoor
namespace Go.Proofs.YtcfmhkhfmcmkbaaDoor
open Go.RowKit

/-- A root's weight as a whole number. -/
def wt (a b c : Int) : Int := L a b c.toNat
theorem wt_mul (n a b c : Int) : wt (n * a) (n * b) c = n * wt a b c := by
  unfold wt L V
  rw [Int.mul_add, Int.mul_assoc n a, Int.mul_assoc n b, Int.mul_assoc n, Int.mul_assoc n]
theorem wt_zero : wt 0 0 0 = 0 := by unfold wt L V; simp
theorem sgn_lt {x : Int} : sgn x < 0 ↔ x < 0 := by unfold sgn; split <;> (try split) <;> omega
theorem sgn_gt {x : Int} : 0 < sgn x ↔ 0 < x := by unfold sgn; split <;> (try split) <;> omega
theorem less_iff {a b c d e f : Int} (h1 : isRoot a b c) (h2 : isRoot d e f) : cmpR a b c d e f < 0 ↔ wt a b c < wt d e f := by
  rw [cmp_L h1 h2, sgn_lt]
  unfold wt
  omega
theorem more_iff {a b c d e f : Int} (h1 : isRoot a b c) (h2 : isRoot d e f) : 0 < cmpR a b c d e f ↔ wt d e f < wt a b c := by
  rw [cmp_L h1 h2, sgn_gt]
  unfold wt
  omega
theorem sign_iff {a b c : Int} (h : isRoot a b c) : signS a b < 0 ↔ wt a b c < 0 := by
  rw [sign_L h, sgn_lt]
  rfl
theorem root0 : isRoot 0 0 0 := ⟨by omega, by omega, by omega, .inl rfl⟩
theorem div_b {p : Int} (h : -9007199254740991 ≤ p ∧ p ≤ 9007199254740991) (n : Nat) : -9007199254740991 ≤ p / 2 ^ n ∧ p / 2 ^ n ≤ 9007199254740991 := by
  have ht := pow_pos' n
  generalize (2 : Int) ^ n = t at *
  constructor
  · refine Int.le_ediv_of_mul_le ht ?_
    have : (9007199254740991 : Int) * 1 ≤ 9007199254740991 * t := Int.mul_le_mul_of_nonneg_left (by omega) (by omega)
    rw [Int.neg_mul]
    omega
  · have : p / t ≤ 9007199254740991 := by
      refine Int.ediv_le_of_le_mul ht ?_
      have : (9007199254740991 : Int) * 1 ≤ 9007199254740991 * t := Int.mul_le_mul_of_nonneg_left (by omega) (by omega)
      omega
    exact this
theorem one_fit {p q : Int} {k : Nat} (hp : -9007199254740991 ≤ p ∧ p ≤ 9007199254740991) (hq : -9007199254740991 ≤ q ∧ q ≤ 9007199254740991) (hk : k ≤ 60) : (one p q k).e = 0 := by
  unfold one
  split
  · rfl
  · rw [if_pos ⟨(inP_iff _).2 (div_b hp _), (inP_iff _).2 (div_b hq _), by omega⟩]
/-- A root, scaled. -/
def scR (n a b c : Int) : Rt := makeR (n * a) (n * b) c
theorem scR_ok {n a b c : Int} (hr : isRoot a b c) (hp : -9007199254740991 ≤ n * a ∧ n * a ≤ 9007199254740991) (hq : -9007199254740991 ≤ n * b ∧ n * b ≤ 9007199254740991) :
    (scR n a b c).e = 0 ∧ isRoot (scR n a b c).p (scR n a b c).q (scR n a b c).k ∧ wt (scR n a b c).p (scR n a b c).q (scR n a b c).k = n * wt a b c := by
  have hc := hr.2.2.1
  have e : scR n a b c = one (n * a) (n * b) c.toNat := by unfold scR makeR; rw [if_neg (by omega)]
  rw [e]
  have h0 := one_fit hp hq (k := c.toNat) (by omega)
  obtain ⟨h1, h2, h3⟩ := V_ok (by omega) h0
  refine ⟨h0, h1, ?_⟩
  rw [← wt_mul]
  unfold wt L
  rw [h2, h3]
/-- Parts that may be doubled n times. -/
def mst (n : Nat) : Int := ((9007199254740991 / 2 ^ n : Nat) : Int)
def fitB (n : Nat) (a b : Int) : Bool := decide ((-mst n ≤ a ∧ a ≤ mst n) ∧ (-mst n ≤ b ∧ b ≤ mst n))
theorem mst_mul (n : Nat) : mst n * 2 ^ n ≤ 9007199254740991 := by
  unfold mst
  have h := Nat.div_mul_le_self 9007199254740991 (2 ^ n)
  have e : (((9007199254740991 / 2 ^ n * 2 ^ n : Nat)) : Int) = ((9007199254740991 / 2 ^ n : Nat) : Int) * 2 ^ n := by simp
  omega
theorem mst_nn (n : Nat) : 0 ≤ mst n := Int.natCast_nonneg _
theorem fit_mul {n : Nat} {a m : Int} (h : -mst n ≤ a ∧ a ≤ mst n) (hm : 0 ≤ m ∧ m ≤ 2 ^ n) : -9007199254740991 ≤ m * a ∧ m * a ≤ 9007199254740991 := by
  have h1 := mst_mul n
  have h2 := mst_nn n
  have h3 : m * a ≤ 2 ^ n * mst n := Int.le_trans (Int.mul_le_mul_of_nonneg_left h.2 hm.1) (Int.mul_le_mul_of_nonneg_right hm.2 h2)
  have h4 : m * (-a) ≤ 2 ^ n * mst n := Int.le_trans (Int.mul_le_mul_of_nonneg_left (by omega) hm.1) (Int.mul_le_mul_of_nonneg_right hm.2 h2)
  rw [Int.mul_neg] at h4
  rw [Int.mul_comm (2 ^ n) (mst n)] at h3 h4
  omega
/-- What coins of this length are refused for. -/
def flt (n : Nat) (o1 o2 o3 a1 a2 a3 : Int) : Nat :=
  haveI := decRoot o1 o2 o3
  haveI := decRoot a1 a2 a3
  if ¬ isRoot o1 o2 o3 then 2 else if ¬ isRoot a1 a2 a3 then 2 else if a1 = 0 ∧ a2 = 0 ∧ a3 = 0 then 131
  else if wt a1 a2 a3 < 0 ∨ wt o1 o2 o3 < 0 ∨ wt a1 a2 a3 < wt o1 o2 o3 then 2 else if fitB n o1 o2 = true ∧ fitB n a1 a2 = true then 0 else 3
structure FltOk (n : Nat) (o1 o2 o3 a1 a2 a3 : Int) : Prop where
  ro : isRoot o1 o2 o3
  ra : isRoot a1 a2 a3
  nz : ¬ (a1 = 0 ∧ a2 = 0 ∧ a3 = 0)
  pa : 0 ≤ wt a1 a2 a3
  po : 0 ≤ wt o1 o2 o3
  le : wt o1 o2 o3 ≤ wt a1 a2 a3
  fo : (-mst n ≤ o1 ∧ o1 ≤ mst n) ∧ (-mst n ≤ o2 ∧ o2 ≤ mst n)
  fa : (-mst n ≤ a1 ∧ a1 ≤ mst n) ∧ (-mst n ≤ a2 ∧ a2 ≤ mst n)
theorem flt_ok {n : Nat} {o1 o2 o3 a1 a2 a3 : Int} (h : flt n o1 o2 o3 a1 a2 a3 = 0) : FltOk n o1 o2 o3 a1 a2 a3 := by
  unfold flt at h
  split at h
  · cases h
  · rename_i h1
    split at h
    · cases h
    · rename_i h2
      split at h
      · cases h
      · rename_i h3
        split at h
        · cases h
        · rename_i h4
          split at h
          · rename_i h5
            refine ⟨Classical.byContradiction h1, Classical.byContradiction h2, h3, by omega, by omega, by omega, of_decide_eq_true h5.1, of_decide_eq_true h5.2⟩
          · cases h
/-- What a coin tells. -/
def tells (m : Int) (n : Nat) (o1 o2 o3 a1 a2 a3 : Int) : Bool := decide (m * wt a1 a2 a3 < 2 ^ n * wt o1 o2 o3)
end Go.Proofs.YtcfmhkhfmcmkbaaDoor
namespace Go.Proofs.YtcfmhkhfmcmkbaaDoor
open Go.RowKit

theorem fits_yes (n : Nat) (w : World) (h : n ≤ 16) : Calls Tryd.prog 23 #[.int .i64 (n : Nat)] w fun e w' => e = .returned (.bool true) ∧ w' = w := by
  have h0 : (0 : Int) ≤ (n : Nat) := by omega
  have h1 : ((n : Nat) : Int) ≤ 16 := by omega
  go_enter Tryd.func23, Tryd.ntmps23
  go_wp2
  go_ret
  exact ⟨rfl, rfl⟩
theorem fits_no (n : Int) (w : World) (h : n < 0 ∨ 16 < n) : Calls Tryd.prog 23 #[.int .i64 n] w fun e w' => e = .returned (.bool false) ∧ w' = w := by
  rcases h with h | h
  · have h0 : ¬ (0 : Int) ≤ n := by omega
    go_enter Tryd.func23, Tryd.ntmps23
    go_wp2
    go_ret
    exact ⟨rfl, rfl⟩
  · have h0 : (0 : Int) ≤ n := by omega
    have h1 : ¬ n ≤ 16 := by omega
    go_enter Tryd.func23, Tryd.ntmps23
    go_wp2
    go_ret
    exact ⟨rfl, rfl⟩
theorem pow_cases (n : Nat) (h : n ≤ 16) : IntKind.u64.wrap (2 ^ n) = (2 : Int) ^ n ∧ (1 : Int) ≤ 2 ^ n ∧ (2 : Int) ^ n ≤ 65536 := by
  have : n = 0 ∨ n = 1 ∨ n = 2 ∨ n = 3 ∨ n = 4 ∨ n = 5 ∨ n = 6 ∨ n = 7 ∨ n = 8 ∨ n = 9 ∨ n = 10 ∨ n = 11 ∨ n = 12 ∨ n = 13 ∨ n = 14 ∨ n = 15 ∨ n = 16 := by omega
  rcases this with rfl | rfl | rfl | rfl | rfl | rfl | rfl | rfl | rfl | rfl | rfl | rfl | rfl | rfl | rfl | rfl | rfl <;> exact ⟨by decide, by decide, by decide⟩
theorem coins_any (n : Nat) (w : World) (h : n ≤ 16) : Calls Tryd.prog 24 #[.int .i64 (n : Nat)] w fun e w' => e = .returned (.int .u64 (2 ^ n)) ∧ w' = w := by
  have h0 : ¬ ((n : Nat) : Int) < 0 := by omega
  have e := (pow_cases n h).1
  go_enter Tryd.func24, Tryd.ntmps24
  go_wp2
  go_ret
  exact ⟨rfl, rfl⟩
abbrev cv (m l : Int) : Value := .agg #[.int .u64 m, .int .i64 l]
def isCoin (m l : Int) : Prop := (0 ≤ l ∧ l ≤ 16) ∧ m < 2 ^ l.toNat
set_option maxHeartbeats 400000 in
theorem coin_yes (m : Int) (n : Nat) (w : World) (h : n ≤ 16) (hm : m < 2 ^ n) : Calls Tryd.prog 10 #[cv m (n : Nat)] w fun e w' => e = .returned (.int .i64 0) ∧ Below w.heap.size w w' := by
  have F := fun w => fits_yes n w h
  have C := fun w => coins_any n w h
  have h2 : ¬ (2 : Int) ^ n ≤ m := by omega
  go_enter Tryd.func10, Tryd.ntmps10
  go_wp2
  go_quiet (first | (go_at_call 23; exact Calls.quiet_of_same (F _)) | (go_at_call 24; exact Calls.quiet_of_same (C _)))
  go_wp2
  go_ret
  exact ⟨rfl, below_drewN (bal (Below.refl _ _) _) _⟩
set_option maxHeartbeats 400000 in
theorem coin_no (m l : Int) (w : World) (hl : -9223372036854775808 ≤ l ∧ l ≤ 9223372036854775807) (h : ¬ isCoin m l) : Calls Tryd.prog 10 #[cv m l] w fun e w' => e = .returned (.int .i64 2) ∧ Below w.heap.size w w' := by
  by_cases h1 : 0 ≤ l ∧ l ≤ 16
  · obtain ⟨n, rfl⟩ := Int.eq_ofNat_of_zero_le h1.1
    have F := fun w => fits_yes n w (by omega)
    have C := fun w => coins_any n w (by omega)
    have h2 : (2 : Int) ^ n ≤ m := by
      unfold isCoin at h
      rw [Int.toNat_natCast] at h
      omega
    clear h h1
    go_enter Tryd.func10, Tryd.ntmps10
    go_wp2
    go_quiet (first | (go_at_call 23; exact Calls.quiet_of_same (F _)) | (go_at_call 24; exact Calls.quiet_of_same (C _)))
    go_wp2
    go_ret
    exact ⟨rfl, below_drewN (bal (Below.refl _ _) _) _⟩
  · have F := fun w => fits_no l w (by omega)
    clear h h1
    go_enter Tryd.func10, Tryd.ntmps10
    go_wp2
    go_quiet (first | (go_at_call 23; exact Calls.quiet_of_same (F _)))
    go_wp2
    go_ret
    exact ⟨rfl, below_drewN (bal (Below.refl _ _) _) _⟩
end Go.Proofs.YtcfmhkhfmcmkbaaDoor
namespace Go.Proofs.YtcfmhkhfmcmkbaaDoor
open Go.RowKit

/-- A block and all that it holds. -/
abbrev BK (W : World) (b : Nat) (cs : Array Value) (T : TypeId) : Prop := W.heap[b]? = some (.cells cs T (0, 0))
theorem BK.lt {W : World} {b : Nat} {cs : Array Value} {T : TypeId} (h : BK W b cs T) : b < W.heap.size := (Array.getElem?_eq_some_iff.1 h).1
theorem BK.set {W : World} {b : Nat} {cs : Array Value} {T : TypeId} (h : BK W b cs T) (k : Nat) (v : Value) : BK (W.setCell ⟨b, k, none⟩ v) b (cs.setIfInBounds k v) T := by
  unfold BK at *
  simp [World.setCell, Array.getElem?_modify, h]
theorem BK.far {W : World} {b c : Nat} {cs : Array Value} {T : TypeId} (h : BK W b cs T) (hne : c ≠ b) (k : Nat) (v : Value) : BK (W.setCell ⟨c, k, none⟩ v) b cs T := by
  unfold BK at *
  simp [World.setCell, Array.getElem?_modify, hne, h]
theorem BK.alloc {W : World} {b : Nat} {cs : Array Value} {T : TypeId} (h : BK W b cs T) (o : Obj) : BK (W.alloc o) b cs T := (Lib.alloc_old W o b h.lt).trans h
theorem BK.cell {W : World} {b : Nat} {cs : Array Value} {T : TypeId} (h : BK W b cs T) (k : Nat) : W.cell? ⟨b, k, none⟩ = cs[k]? := Lib.cell_of_heap h k
theorem BK.free {W : World} {b : Nat} {cs : Array Value} {T : TypeId} (h : BK W b cs T) (k : Nat) : W.frozen? ⟨b, k, none⟩ = false := Lib.frozen_of_heap h k
theorem bk_new (W : World) (cs : Array Value) (T : TypeId) : BK (W.alloc (.cells cs T)) W.heap.size cs T := heap_alloc_new W _
theorem bk_at {W : World} {b : Nat} (cs : Array Value) (T : TypeId) (h : b = W.heap.size) : BK (W.alloc (.cells cs T)) b cs T := by subst h; exact heap_alloc_new W _
theorem BK.drew {W : World} {b : Nat} {cs : Array Value} {T : TypeId} (h : BK W b cs T) : BK W.drew b cs T := h
theorem BK.drewN {W : World} {b : Nat} {cs : Array Value} {T : TypeId} (h : BK W b cs T) (n : Nat) : BK (W.drewN n) b cs T := h
theorem BK.on {V W : World} {b : Nat} {cs : Array Value} {T : TypeId} (h : BK V b cs T) (g : Below V.heap.size V W) : BK W b cs T := (g.block _ h.lt).trans h
theorem two_box {w w1 : World} {cs ds : Array Value} {T U : TypeId} (h : Below ((w.alloc (.cells cs T)).alloc (.cells ds U)).heap.size ((w.alloc (.cells cs T)).alloc (.cells ds U)) w1) : BK w1 w.heap.size cs T ∧ BK w1 (w.heap.size + 1) ds U :=
  ⟨((bk_new w cs T).alloc _).on h, (bk_at ds U (by simp)).on h⟩
theorem three_box {w w1 : World} {cs ds es : Array Value} {T U V : TypeId} (h : Below (((w.alloc (.cells cs T)).alloc (.cells ds U)).alloc (.cells es V)).heap.size (((w.alloc (.cells cs T)).alloc (.cells ds U)).alloc (.cells es V)) w1) : BK w1 w.heap.size cs T ∧ BK w1 (w.heap.size + 1) ds U ∧ BK w1 (w.heap.size + 1 + 1) es V :=
  ⟨(((bk_new w cs T).alloc _).alloc _).on h, ((bk_at ds U (by simp)).alloc _).on h, (bk_at es V (by simp)).on h⟩
abbrev rc (a b c : Int) : Array Value := #[.int .i64 a, .int .i64 b, .int .i64 c]
end Go.Proofs.YtcfmhkhfmcmkbaaDoor
namespace Go.Proofs.YtcfmhkhfmcmkbaaDoor
open Go.RowKit

set_option maxHeartbeats 400000 in
theorem less_any (a b c d e f : Int) (w : World) (h1 : isRoot a b c) (h2 : isRoot d e f) :
    Calls Tryd.prog 39 #[rv a b c, rv d e f] w fun x w' => x = .returned (.bool (decide (wt a b c < wt d e f))) ∧ Below w.heap.size w w' := by
  have C := fun w => compare_yes a b c d e f w h1 h2
  have key := less_iff h1 h2
  generalize cmpR a b c d e f = r at *
  generalize wt a b c = x1 at *
  generalize wt d e f = x2 at *
  clear h1 h2
  go_enter Tryd.func39, Tryd.ntmps39
  go_wp2_with (go_at_call 62; (with_reducible refine (C _).mono ?_); rintro e w1 ⟨rfl, hB⟩)
  go_ret
  refine ⟨?_, btr (bal (bal (Below.refl _ _) _) _) hB⟩
  simp
abbrev rvR (r : Rt) : Value := rv r.p r.q r.k
set_option maxHeartbeats 400000 in
theorem sctimes_any (m a b c : Int) (w : World) (hT : Tab w) (hm : 0 ≤ m ∧ m ≤ 65536) (hr : isRoot a b c) (hp : -9007199254740991 ≤ m * a ∧ m * a ≤ 9007199254740991) (hq : -9007199254740991 ≤ m * b ∧ m * b ≤ 9007199254740991) :
    Calls Tryd.prog 38 #[.int .u64 m, rv a b c] w fun x w' => x = .returned (rvR (scR m a b c)) ∧ Below w.heap.size w w' := by
  have hc := hr.2.2.1
  have M : ∀ w, Tab w → Calls Tryd.prog 61 #[.int .i64 (m * a), .int .i64 (m * b), .int .i64 c] w fun e w' => e = .returned (rtV (scR m a b c)) ∧ Below w.heap.size w w' := fun w h => make_any (m * a) (m * b) c w h (by omega) (by omega) (by omega)
  have HT : Hid (∀ w', Below w.heap.size w w' → Tab w') := fun w' h => hT.below h
  clear hr hc hT
  generalize scR m a b c = r at *
  go_enter Tryd.func38, Tryd.ntmps38
  go_wp2_with (go_at_call 61; (with_reducible refine (M _ (HT.out _ (bal (bal (Below.refl _ _) _) _))).mono ?_); rintro e w1 ⟨rfl, hB⟩; obtain ⟨_, B2⟩ := two_box hB; have c1 : ∀ j, w1.cell? ⟨w.heap.size + 1, j, none⟩ = _ := B2.cell; have f1 : ∀ j, w1.frozen? ⟨w.heap.size + 1, j, none⟩ = _ := B2.free; have l1 := B2.lt)
  exact bodyPost_ret (v := rvR r) (by simp [*, results, Tryd.results38, go_sem]) rfl ⟨rfl, bal (bset (bset (bset (btr (bal (bal (Below.refl w.heap.size w) _) _) hB) _ _ _ (by omega)) _ _ _ (by omega)) _ _ _ (by omega)) _⟩
theorem keep22 {w w' : World} {a b c d e f : Int} (h : Below ((w.alloc (.cells #[.int .i64 a, .int .i64 b, .int .i64 c] 24)).alloc (.cells #[.int .i64 d, .int .i64 e, .int .i64 f] 24)).heap.size ((w.alloc (.cells #[.int .i64 a, .int .i64 b, .int .i64 c] 24)).alloc (.cells #[.int .i64 d, .int .i64 e, .int .i64 f] 24)) w') :
    Below ((w.alloc (.cells #[.int .i64 a, .int .i64 b, .int .i64 c] 24)).alloc (.cells #[.int .i64 d, .int .i64 e, .int .i64 f] 24)).heap.size ((w.alloc (.cells #[.int .i64 a, .int .i64 b, .int .i64 c] 24)).alloc (.cells #[.int .i64 d, .int .i64 e, .int .i64 f] 24)) w' ∧ w'.cell? ⟨w.heap.size, 0, none⟩ = some (.int .i64 a) ∧ w'.cell? ⟨w.heap.size, 1, none⟩ = some (.int .i64 b) ∧ w'.cell? ⟨w.heap.size, 2, none⟩ = some (.int .i64 c) ∧ w'.cell? ⟨w.heap.size + 1, 0, none⟩ = some (.int .i64 d) ∧ w'.cell? ⟨w.heap.size + 1, 1, none⟩ = some (.int .i64 e) ∧ w'.cell? ⟨w.heap.size + 1, 2, none⟩ = some (.int .i64 f) := by
  obtain ⟨b1, b2⟩ := two_box h
  exact ⟨h, b1.cell 0, b1.cell 1, b1.cell 2, b2.cell 0, b2.cell 1, b2.cell 2⟩
set_option maxHeartbeats 400000 in
theorem below_any (m a b c d e f : Int) (w : World) (hT : Tab w) (hm : 0 ≤ m ∧ m ≤ 65536) (hr : isRoot a b c) (hp : -9007199254740991 ≤ m * a ∧ m * a ≤ 9007199254740991) (hq : -9007199254740991 ≤ m * b ∧ m * b ≤ 9007199254740991) (h2 : isRoot d e f) :
    Calls Tryd.prog 22 #[.int .u64 m, rv a b c, rv d e f] w fun x w' => x = .returned (.bool (decide (m * wt a b c < wt d e f))) ∧ Below w.heap.size w w' := by
  have T := fun w h => sctimes_any m a b c w h hm hr hp hq
  obtain ⟨_, h3, h4⟩ := scR_ok hr hp hq
  have L := fun w => less_any _ _ _ d e f w h3 h2
  rw [h4] at L
  have HT : Hid (∀ w', Below w.heap.size w w' → Tab w') := fun w' h => hT.below h
  clear h3 h4 hT hp hq hr h2 hm
  generalize scR m a b c = r at *
  generalize decide (m * wt a b c < wt d e f) = z at *
  have l0 : w.heap.size < w.heap.size + 1 + 1 := by omega
  go_enter Tryd.func22, Tryd.ntmps22
  go_wp2
  go_region_held3 (fun w' => Below ((w.alloc (.cells #[.int .i64 a, .int .i64 b, .int .i64 c] 24)).alloc (.cells #[.int .i64 d, .int .i64 e, .int .i64 f] 24)).heap.size ((w.alloc (.cells #[.int .i64 a, .int .i64 b, .int .i64 c] 24)).alloc (.cells #[.int .i64 d, .int .i64 e, .int .i64 f] 24)) w' ∧ w'.cell? ⟨w.heap.size, 0, none⟩ = some (.int .i64 a) ∧ w'.cell? ⟨w.heap.size, 1, none⟩ = some (.int .i64 b) ∧ w'.cell? ⟨w.heap.size, 2, none⟩ = some (.int .i64 c) ∧ w'.cell? ⟨w.heap.size + 1, 0, none⟩ = some (.int .i64 d) ∧ w'.cell? ⟨w.heap.size + 1, 1, none⟩ = some (.int .i64 e) ∧ w'.cell? ⟨w.heap.size + 1, 2, none⟩ = some (.int .i64 f)) ((refine keep22 ?_; first | exact Below.refl _ _ | exact below_drew (Below.refl _ _) | exact btr (And.left (by assumption)) hN))
    (first
      | (go_at_call 38; (with_reducible refine (T _ (HT.out _ (by first | exact bal (bal (Below.refl _ _) _) _ | exact below_drew (bal (bal (Below.refl _ _) _) _)))).mono ?_); rintro e w2 ⟨rfl, hN⟩; have hK := btr (And.left (by assumption)) hN)
      | (go_at_call 39; (with_reducible refine (L _).mono ?_); rintro e w2 ⟨rfl, hN⟩; have hK := btr (And.left (by assumption)) hN))
  go_wp2
  go_ret
  exact ⟨rfl, btr (bal (bal (Below.refl _ _) _) _) hK⟩
end Go.Proofs.YtcfmhkhfmcmkbaaDoor
