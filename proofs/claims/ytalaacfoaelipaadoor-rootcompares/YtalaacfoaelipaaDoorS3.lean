/-
  Bracketing of sums and products, products of sums. Plain mathematics.
-/
import Derived.Test.YtalaacfoaelipaaDoorS2
namespace Go.Proofs.YtalaacfoaelipaaDoor
open Go.RowKit

/-- What is told, as a root, has the value that it is told of. -/
theorem add_val {a b c d e f : Int} (h : (addR a b c d e f).e = 0) : isRoot (addR a b c d e f).p (addR a b c d e f).q (addR a b c d e f).k ∧
    V (addR a b c d e f).p (addR a b c d e f).k.toNat = V a c.toNat + V d f.toNat ∧ V (addR a b c d e f).q (addR a b c d e f).k.toNat = V b c.toNat + V e f.toNat := by
  obtain ⟨ra, rb⟩ := add_root h
  obtain ⟨S, T, k, hk, e1, h1, h2⟩ := add_char ra rb
  rw [e1] at h ⊢
  obtain ⟨rr, v1, v2⟩ := V_ok hk h
  exact ⟨rr, by omega, by omega⟩
theorem mul_val {a b c d e f : Int} (h : (mulR a b c d e f).e = 0) : isRoot (mulR a b c d e f).p (mulR a b c d e f).q (mulR a b c d e f).k ∧
    V (mulR a b c d e f).p (mulR a b c d e f).k.toNat * 2 ^ 120 = V a c.toNat * V d f.toNat + V b c.toNat * V e f.toNat * 2 ∧ V (mulR a b c d e f).q (mulR a b c d e f).k.toNat * 2 ^ 120 = V a c.toNat * V e f.toNat + V b c.toNat * V d f.toNat := by
  obtain ⟨ra, rb⟩ := mul_root h
  obtain ⟨S, T, k, hk, e1, h1, h2⟩ := mul_char ra rb
  rw [e1] at h ⊢
  obtain ⟨rr, v1, v2⟩ := V_ok hk h
  exact ⟨rr, by rw [v1]; exact h1, by rw [v2]; exact h2⟩
theorem add_assoc' {a1 a2 a3 b1 b2 b3 c1 c2 c3 : Int} (h : (addR a1 a2 a3 b1 b2 b3).e = 0) (g : (addR b1 b2 b3 c1 c2 c3).e = 0) :
    addR (addR a1 a2 a3 b1 b2 b3).p (addR a1 a2 a3 b1 b2 b3).q (addR a1 a2 a3 b1 b2 b3).k c1 c2 c3 = addR a1 a2 a3 (addR b1 b2 b3 c1 c2 c3).p (addR b1 b2 b3 c1 c2 c3).q (addR b1 b2 b3 c1 c2 c3).k := by
  obtain ⟨ra, rb⟩ := add_root h
  obtain ⟨_, rc⟩ := add_root g
  obtain ⟨r1, v1, v2⟩ := add_val h
  obtain ⟨r2, u1, u2⟩ := add_val g
  obtain ⟨S, T, k, hk, e1, h1, h2⟩ := add_char r1 rc
  obtain ⟨S', T', k', hk', e1', h1', h2'⟩ := add_char ra r2
  rw [e1, e1']
  exact one_V hk hk' (by omega) (by omega)
theorem mul_assoc' {a1 a2 a3 b1 b2 b3 c1 c2 c3 : Int} (h : (mulR a1 a2 a3 b1 b2 b3).e = 0) (g : (mulR b1 b2 b3 c1 c2 c3).e = 0) :
    mulR (mulR a1 a2 a3 b1 b2 b3).p (mulR a1 a2 a3 b1 b2 b3).q (mulR a1 a2 a3 b1 b2 b3).k c1 c2 c3 = mulR a1 a2 a3 (mulR b1 b2 b3 c1 c2 c3).p (mulR b1 b2 b3 c1 c2 c3).q (mulR b1 b2 b3 c1 c2 c3).k := by
  obtain ⟨ra, rb⟩ := mul_root h
  obtain ⟨_, rc⟩ := mul_root g
  obtain ⟨r1, v1, v2⟩ := mul_val h
  obtain ⟨r2, u1, u2⟩ := mul_val g
  obtain ⟨S, T, k, hk, e1, h1, h2⟩ := mul_char r1 rc
  obtain ⟨S', T', k', hk', e1', h1', h2'⟩ := mul_char ra r2
  rw [e1, e1']
  generalize V (mulR a1 a2 a3 b1 b2 b3).p (mulR a1 a2 a3 b1 b2 b3).k.toNat = M1 at *
  generalize V (mulR a1 a2 a3 b1 b2 b3).q (mulR a1 a2 a3 b1 b2 b3).k.toNat = M2 at *
  generalize V (mulR b1 b2 b3 c1 c2 c3).p (mulR b1 b2 b3 c1 c2 c3).k.toNat = N1 at *
  generalize V (mulR b1 b2 b3 c1 c2 c3).q (mulR b1 b2 b3 c1 c2 c3).k.toNat = N2 at *
  generalize V a1 a3.toNat = A1 at *
  generalize V a2 a3.toNat = A2 at *
  generalize V b1 b3.toNat = B1 at *
  generalize V b2 b3.toNat = B2 at *
  generalize V c1 c3.toNat = C1 at *
  generalize V c2 c3.toNat = C2 at *
  generalize hP : (2 : Int) ^ 120 = P at *
  have p1 : V S k * P * P = V S' k' * P * P := by
    have x1 : V S k * P * P = (M1 * P) * C1 + (M2 * P) * C2 * 2 := by
      rw [h1, Int.add_mul]
      congr 1
      · rw [Int.mul_right_comm]
      · rw [Int.mul_right_comm, Int.mul_right_comm M2]
    have x2 : V S' k' * P * P = A1 * (N1 * P) + A2 * (N2 * P) * 2 := by
      rw [h1', Int.add_mul]
      congr 1
      · rw [Int.mul_assoc]
      · rw [Int.mul_right_comm, Int.mul_assoc A2]
    rw [x1, x2, v1, v2, u1, u2]
    simp only [Int.mul_add, Int.add_mul, Int.mul_assoc, Int.mul_comm, Int.mul_left_comm]
    omega
  have p2 : V T k * P * P = V T' k' * P * P := by
    have x1 : V T k * P * P = (M1 * P) * C2 + (M2 * P) * C1 := by
      rw [h2, Int.add_mul]
      congr 1
      · rw [Int.mul_right_comm]
      · rw [Int.mul_right_comm]
    have x2 : V T' k' * P * P = A1 * (N2 * P) + A2 * (N1 * P) := by
      rw [h2', Int.add_mul]
      congr 1
      · rw [Int.mul_assoc]
      · rw [Int.mul_assoc]
    rw [x1, x2, v1, v2, u1, u2]
    simp only [Int.mul_add, Int.mul_assoc, Int.mul_comm, Int.mul_left_comm]
    omega
  subst hP
  exact one_V hk hk' (pow_cancel 120 (pow_cancel 120 p1)) (pow_cancel 120 (pow_cancel 120 p2))
theorem mul_add' {a1 a2 a3 b1 b2 b3 c1 c2 c3 : Int} (i : (addR b1 b2 b3 c1 c2 c3).e = 0) (g : (mulR a1 a2 a3 b1 b2 b3).e = 0) (k : (mulR a1 a2 a3 c1 c2 c3).e = 0) :
    mulR a1 a2 a3 (addR b1 b2 b3 c1 c2 c3).p (addR b1 b2 b3 c1 c2 c3).q (addR b1 b2 b3 c1 c2 c3).k =
    addR (mulR a1 a2 a3 b1 b2 b3).p (mulR a1 a2 a3 b1 b2 b3).q (mulR a1 a2 a3 b1 b2 b3).k (mulR a1 a2 a3 c1 c2 c3).p (mulR a1 a2 a3 c1 c2 c3).q (mulR a1 a2 a3 c1 c2 c3).k := by
  obtain ⟨ra, rb⟩ := mul_root g
  obtain ⟨_, rc⟩ := mul_root k
  obtain ⟨r1, v1, v2⟩ := add_val i
  obtain ⟨r2, u1, u2⟩ := mul_val g
  obtain ⟨r3, t1, t2⟩ := mul_val k
  obtain ⟨S, T, k, hk, e1, h1, h2⟩ := mul_char ra r1
  obtain ⟨S', T', k', hk', e1', h1', h2'⟩ := add_char r2 r3
  rw [e1, e1']
  refine one_V hk hk' (pow_cancel 120 ?_) (pow_cancel 120 ?_)
  · rw [h1, h1', v1, v2, Int.add_mul (V (mulR a1 a2 a3 b1 b2 b3).p _), u1, t1]
    simp only [Int.mul_add, Int.add_mul]
    omega
  · rw [h2, h2', v1, v2, Int.add_mul (V (mulR a1 a2 a3 b1 b2 b3).q _), u2, t2]
    simp only [Int.mul_add]
    omega
end Go.Proofs.YtalaacfoaelipaaDoor
