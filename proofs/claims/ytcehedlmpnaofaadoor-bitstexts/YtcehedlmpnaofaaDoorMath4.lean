/-
  Plain mathematics of texts of noughts and ones.
-/
import Derived.Test.YtcehedlmpnaofaaDoorText
import Derived.Laws.Concat
namespace Go.Proofs.YtcehedlmpnaofaaDoor
open Go.RowKit

/-- The number that the first k digits write. -/
def prs (c : Nat → Nat) : Nat → Nat
  | 0 => 0
  | k + 1 => 2 * prs c k + c k
theorem prs_lt (c : Nat → Nat) (hc : ∀ i, c i ≤ 1) (k : Nat) : prs c k < 2 ^ k := by
  induction k with
  | zero => simp [prs]
  | succ k ih =>
    have := hc k
    simp only [prs]
    rw [Nat.pow_succ]
    omega
theorem bt_prs (c : Nat → Nat) (hc : ∀ i, c i ≤ 1) (k : Nat) : ∀ i, i < k → bt (prs c k) (k - 1 - i) = c i := by
  induction k with
  | zero => intro i h; omega
  | succ k ih =>
    intro i hi
    simp only [prs]
    rw [bt_two _ _ _ (hc k)]
    by_cases e : i = k
    · subst e; rw [if_pos (by omega)]
    · rw [if_neg (by omega), show k + 1 - 1 - i - 1 = k - 1 - i by omega]
      exact ih i (by omega)
theorem prs_of {c : Nat → Nat} (hc : ∀ i, c i ≤ 1) {x n : Nat} (hx : x < 2 ^ n) (h : ∀ i, i < n → bt x (n - 1 - i) = c i) : prs c n = x :=
  ext_bt fun j => by
    by_cases hj : j < n
    · have e : j = n - 1 - (n - 1 - j) := by omega
      rw [e, bt_prs c hc n (n - 1 - j) (by omega), h (n - 1 - j) (by omega)]
    · have lo : ∀ y, y < 2 ^ n → bt y j = 0 := fun y hy => bt_zero.2 (Nat.testBit_lt_two_pow (Nat.lt_of_lt_of_le hy (Nat.pow_le_pow_right (by decide) (by omega))))
      rw [lo _ (prs_lt c hc n), lo _ hx]
theorem i_push (x b : Nat) (hx : x < 9223372036854775808) (hb : b ≤ 1) : bits .or .u64 ((x : Int) * 2) (b : Int) = ((2 * x + b : Nat) : Int) := by
  have e : (x : Int) * 2 = ((2 * x : Nat) : Int) := by omega
  have h := or_mulp x 1 b (by simp; omega)
  rw [Nat.pow_one] at h
  rw [e, i_or _ _ (by omega) (by omega), h]

/-- Digit i of a text. -/
def dg (s : ByteArray) (i : Nat) : Nat := (s.data.toList.getD i 0).toNat % 2
theorem dg_le (s : ByteArray) (i : Nat) : dg s i ≤ 1 := by unfold dg; omega
theorem dg_at (s : ByteArray) (i : Nat) (h : i < s.size) : dg s i = s[i].toNat % 2 := by
  have h' : i < s.data.toList.length := h
  unfold dg
  rw [List.getD_eq_getElem?_getD, List.getElem?_eq_getElem h']
  rfl
/-- All bytes are noughts and ones. -/
def Good (s : ByteArray) : Prop := ∀ i (h : i < s.size), s[i].toNat = 48 ∨ s[i].toNat = 49
theorem txt_size (x n : Nat) : (ByteArray.mk (txtL x n).toArray).size = n := by
  show (txtL x n).toArray.size = n
  rw [List.size_toArray, txtL_len]
theorem txt_at (x n i : Nat) (h : i < (ByteArray.mk (txtL x n).toArray).size) : (ByteArray.mk (txtL x n).toArray)[i].toNat = 48 + bt x (n - 1 - i) := by
  have h' : i < (txtL x n).length := by rw [txtL_len]; rw [txt_size] at h; exact h
  have := txtL_at x n i h'
  have e : (ByteArray.mk (txtL x n).toArray)[i] = (txtL x n)[i] := rfl
  rw [e]
  omega
theorem txt_good (x n : Nat) : Good (ByteArray.mk (txtL x n).toArray) := fun i h => by
  have := txt_at x n i h
  have := bt_le x (n - 1 - i)
  omega
theorem txt_prs {x n : Nat} (hx : x < 2 ^ n) : prs (dg (ByteArray.mk (txtL x n).toArray)) n = x :=
  prs_of (dg_le _) hx fun i hi => by
    have h : i < (ByteArray.mk (txtL x n).toArray).size := by rw [txt_size]; exact hi
    rw [dg_at _ i h, txt_at]
    have := bt_le x (n - 1 - i)
    omega
theorem txt_back {s : ByteArray} (hg : Good s) : ByteArray.mk (txtL (prs (dg s) s.size) s.size).toArray = s := by
  have hl : txtL (prs (dg s) s.size) s.size = s.data.toList := by
    apply List.ext_getElem
    · rw [txtL_len]; rfl
    · intro i h1 h2
      have hi : i < s.size := by rw [txtL_len] at h1; exact h1
      apply UInt8.toNat_inj.1
      have h3 := txtL_at (prs (dg s) s.size) s.size i h1
      rw [bt_prs _ (dg_le s) _ i hi, dg_at s i hi] at h3
      have e : s.data.toList[i] = s[i] := rfl
      rw [e]
      rcases hg i hi with h | h <;> rw [h] at h3 ⊢ <;> omega
  rw [hl]
theorem take_txt (x n k : Nat) (hk : k < n) : (txtL x n).take (k + 1) = (txtL x n).take k ++ [UInt8.ofNat (48 + bt x (n - 1 - k))] := by
  rw [List.take_succ_eq_append_getElem (by rw [txtL_len]; exact hk)]
  simp [txtL]
end Go.Proofs.YtcehedlmpnaofaaDoor
