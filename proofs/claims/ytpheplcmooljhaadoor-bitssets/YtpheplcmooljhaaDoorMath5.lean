/-
  Plain mathematics: how many numbers below 2^m have so many ones.
-/
import Derived.Test.YtpheplcmooljhaaDoorMath2
namespace Go.Proofs.YtpheplcmooljhaaDoor
open Go.RowKit

/-- The numbers below m with k ones, rising. -/
def ofP (k m : Nat) : List Nat := (List.range m).filter fun x => decide (pop 64 x = k)
theorem ofP_succ_yes {k m : Nat} (h : pop 64 m = k) : ofP k (m + 1) = ofP k m ++ [m] := by
  unfold ofP; rw [List.range_succ, List.filter_append]; simp [h]
theorem ofP_succ_no {k m : Nat} (h : ¬ pop 64 m = k) : ofP k (m + 1) = ofP k m := by
  unfold ofP; rw [List.range_succ, List.filter_append]; simp [h]
theorem ofP_len (k m : Nat) : (ofP k m).length ≤ m := by
  unfold ofP; have := List.length_filter_le (fun x => decide (pop 64 x = k)) (List.range m); simpa using this
theorem mem_ofP {k m x : Nat} : x ∈ ofP k m ↔ x < m ∧ pop 64 x = k := by
  unfold ofP; simp [List.mem_filter]
theorem ofP_sorted (k m : Nat) : (ofP k m).Pairwise (· < ·) := by
  unfold ofP; exact List.Pairwise.filter _ List.pairwise_lt_range
theorem ofP_lt {k m i j : Nat} (hj : j < (ofP k m).length) (hij : i < j) : (ofP k m)[i] < (ofP k m)[j] :=
  List.pairwise_iff_getElem.1 (ofP_sorted k m) i j (by omega) hj hij

theorem bt_addp {x m : Nat} (hx : x < 2 ^ m) (i : Nat) : bt (2 ^ m + x) i = if i = m then 1 else bt x i := by
  have h := bt_mulp 1 m x i hx
  rw [Nat.mul_one] at h
  rw [h]
  by_cases e : i < m
  · rw [if_pos e, if_neg (by omega)]
  · rw [if_neg e]
    by_cases g : i = m
    · subst g; rw [if_pos rfl, Nat.sub_self]; decide
    · rw [if_neg g]
      have h0 : bt x i = 0 := bt_zero.2 (Nat.testBit_lt_two_pow (Nat.lt_of_lt_of_le hx (Nat.pow_le_pow_right (by decide) (by omega))))
      rw [h0, bt_div, Nat.div_eq_of_lt (Nat.one_lt_two_pow (by omega))]
theorem pop_addp {x m : Nat} (hx : x < 2 ^ m) (n : Nat) : pop n (2 ^ m + x) = pop n x + if m < n then 1 else 0 := by
  induction n with
  | zero => simp [pop]
  | succ n ih =>
    simp only [pop]
    rw [ih, bt_addp hx]
    by_cases e : n = m
    · subst e
      have h0 : bt x n = 0 := bt_zero.2 (Nat.testBit_lt_two_pow hx)
      simp [h0]
    · rw [if_neg e]
      by_cases g : m < n
      · rw [if_pos g, if_pos (by omega)]; omega
      · rw [if_neg g, if_neg (by omega)]; omega
theorem pop_le_of {x m : Nat} (hx : x < 2 ^ m) : ∀ n, pop n x ≤ m := by
  intro n
  induction n with
  | zero => simp [pop]
  | succ n ih =>
    simp only [pop]
    by_cases h : n < m
    · have h1 := pop_le n x
      have := bt_le x n
      omega
    · have h0 : bt x n = 0 := bt_zero.2 (Nat.testBit_lt_two_pow (Nat.lt_of_lt_of_le hx (Nat.pow_le_pow_right (by decide) (by omega))))
      omega

/-- How many of the numbers below n are so. -/
def cntB (f : Nat → Bool) (n : Nat) : Nat := ((List.range n).filter f).length
theorem cntB_succ (f : Nat → Bool) (n : Nat) : cntB f (n + 1) = cntB f n + if f n then 1 else 0 := by
  unfold cntB; rw [List.range_succ, List.filter_append, List.length_append]
  by_cases h : f n <;> simp [h]
theorem cntB_congr {f g : Nat → Bool} {n : Nat} (h : ∀ x, x < n → f x = g x) : cntB f n = cntB g n := by
  induction n with
  | zero => rfl
  | succ n ih => rw [cntB_succ, cntB_succ, ih fun x hx => h x (by omega), h n (by omega)]
theorem cntB_add (f : Nat → Bool) (n m : Nat) : cntB f (n + m) = cntB f n + cntB (fun x => f (n + x)) m := by
  induction m with
  | zero => simp [cntB]
  | succ m ih => rw [← Nat.add_assoc, cntB_succ, ih, cntB_succ]; omega
theorem cntB_none {f : Nat → Bool} {n : Nat} (h : ∀ x, x < n → f x = false) : cntB f n = 0 := by
  induction n with
  | zero => rfl
  | succ n ih => rw [cntB_succ, ih fun x hx => h x (by omega), h n (by omega)]; rfl
theorem cntB_all {f : Nat → Bool} {n : Nat} (h : ∀ x, x < n → f x = true) : cntB f n = n := by
  induction n with
  | zero => rfl
  | succ n ih => rw [cntB_succ, ih fun x hx => h x (by omega), h n (by omega)]; rfl
theorem cntB_or {f g e : Nat → Bool} {n : Nat} (h : ∀ x, x < n → e x = (f x || g x)) (hd : ∀ x, x < n → ¬ (f x = true ∧ g x = true)) : cntB e n = cntB f n + cntB g n := by
  induction n with
  | zero => rfl
  | succ n ih =>
    rw [cntB_succ, cntB_succ, cntB_succ, ih (fun x hx => h x (by omega)) fun x hx => hd x (by omega), h n (by omega)]
    have := hd n (by omega)
    cases hf : f n <;> cases hg : g n <;> simp_all <;> omega

/-- How many numbers below 2^m have k ones. -/
def cnt (m k : Nat) : Nat := cntB (fun x => decide (pop 64 x = k)) (2 ^ m)
theorem cnt_ofP (m k : Nat) : (ofP k (2 ^ m)).length = cnt m k := rfl
theorem cnt_zero_k (m : Nat) (hm : m < 64) : cnt (m + 1) 0 = cnt m 0 := by
  unfold cnt
  rw [Nat.pow_succ, Nat.mul_two, cntB_add, cntB_none (f := fun x => decide (pop 64 (2 ^ m + x) = 0))]
  · rfl
  · intro x hx
    rw [pop_addp hx, if_pos hm]; simp
theorem cnt_succ (m k : Nat) (hm : m < 64) : cnt (m + 1) (k + 1) = cnt m (k + 1) + cnt m k := by
  unfold cnt
  rw [Nat.pow_succ, Nat.mul_two, cntB_add]
  congr 1
  apply cntB_congr
  intro x hx
  rw [pop_addp hx, if_pos hm]; simp
theorem cnt_high (m k : Nat) (h : m < k) : cnt m k = 0 := cntB_none fun x hx => by
  have := pop_le_of hx 64
  simp only [decide_eq_false_iff_not]; omega
theorem cnt_symm : ∀ m, m ≤ 64 → ∀ k, k ≤ m → cnt m k = cnt m (m - k)
  | 0, _, k, h => by
    obtain rfl : k = 0 := by omega
    rfl
  | m + 1, hm, k, h => by
    have ih := cnt_symm m (by omega)
    rcases (show k = 0 ∨ k = m + 1 ∨ (1 ≤ k ∧ k ≤ m) by omega) with rfl | rfl | ⟨h1, h2⟩
    · rw [Nat.sub_zero, cnt_zero_k m (by omega), cnt_succ m m (by omega), cnt_high m (m + 1) (by omega), ih 0 (by omega)]; simp
    · rw [Nat.sub_self, cnt_zero_k m (by omega), cnt_succ m m (by omega), cnt_high m (m + 1) (by omega), ih 0 (by omega)]; simp
    · obtain ⟨j, rfl⟩ : ∃ j, k = j + 1 := ⟨k - 1, by omega⟩
      rw [show m + 1 - (j + 1) = (m - (j + 1)) + 1 by omega, cnt_succ m j (by omega), cnt_succ m (m - (j + 1)) (by omega), ih (j + 1) h2, ih j (by omega), show m - (j + 1) + 1 = m - j by omega]
      omega
/-- How many numbers below 2^m have fewer than k ones. -/
def low (m k : Nat) : Nat := cntB (fun x => decide (pop 64 x < k)) (2 ^ m)
theorem low_zero' (m : Nat) : low m 0 = 0 := cntB_none fun x _ => by simp
theorem low_succ (m k : Nat) : low m (k + 1) = low m k + cnt m k := by
  unfold low cnt
  refine cntB_or (fun x _ => ?_) fun x _ => ?_
  · rw [Bool.eq_iff_iff]; simp; omega
  · simp; omega
theorem low_all (m : Nat) : low m (m + 1) = 2 ^ m := cntB_all fun x hx => by
  have := pop_le_of hx 64
  simp only [decide_eq_true_eq]; omega
end Go.Proofs.YtpheplcmooljhaaDoor
