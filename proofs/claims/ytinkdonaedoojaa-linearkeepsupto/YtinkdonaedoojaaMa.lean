/-
  Plain mathematics of matrices of bits: sums, their bits. Of no program.
-/
import Derived.Test.YtinkdonaedoojaaA2
namespace Go.Proofs.Ytinkdonaedoojaa

/-- A sum of numbers. -/
def su (g : Nat → Nat) : Nat → Nat
  | 0 => 0
  | k + 1 => su g k + g k
theorem su_congr {g g' : Nat → Nat} : ∀ k, (∀ i, i < k → g i = g' i) → su g k = su g' k
  | 0, _ => rfl
  | k + 1, h => by rw [su, su, su_congr k (fun i hi => h i (by omega)), h k (by omega)]
theorem su_zero : ∀ k, su (fun _ => 0) k = 0
  | 0 => rfl
  | k + 1 => by rw [su, su_zero k]
theorem su_ext (g : Nat → Nat) (n : Nat) : ∀ k, n ≤ k → (∀ i, n ≤ i → i < k → g i = 0) → su g k = su g n
  | 0, h, _ => by have : n = 0 := by omega
                  rw [this]
  | k + 1, h, hz => by
    by_cases e : n = k + 1
    · rw [e]
    · rw [su, su_ext g n k (by omega) (fun i a b => hz i a (by omega)), hz k (by omega) (by omega)]; rfl
theorem pop_su (x : Nat) : ∀ k, pop k x = su (fun i => bt x i) k
  | 0 => rfl
  | k + 1 => by rw [pop_succ, su, pop_su x k]
theorem bt_and (a b i : Nat) : bt (a &&& b) i = bt a i * bt b i := by
  unfold bt; rw [Nat.testBit_and]
  cases a.testBit i <;> cases b.testBit i <;> rfl
theorem bt_sm (f : Nat → Nat) (x j : Nat) : ∀ k, bt (sm f x k) j = su (fun i => bt x i * bt (f i) j) k % 2
  | 0 => by unfold sm su; rw [bt_nought]
  | k + 1 => by
    unfold sm su
    have ih := bt_sm f x j k
    by_cases h : x.testBit k = true
    · rw [if_pos h, bt_xor, ih, bt_one.2 h, Nat.one_mul]; omega
    · have h' : x.testBit k = false := by simpa using h
      rw [h', if_neg (by simp), ih, bt_zero.2 h', Nat.zero_mul, Nat.add_zero]
end Go.Proofs.Ytinkdonaedoojaa
