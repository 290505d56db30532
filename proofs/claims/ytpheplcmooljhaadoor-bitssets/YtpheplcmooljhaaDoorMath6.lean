/-
  Plain mathematics of the sets of a mask, rising.
-/
import Derived.Test.YtpheplcmooljhaaDoorMath3
namespace Go.Proofs.YtpheplcmooljhaaDoor
open Go.RowKit

theorem bt_half (x i : Nat) : bt x (i + 1) = bt (x / 2) i := by
  have h := bt_divp x 1 i
  rw [Nat.pow_one, Nat.add_comm] at h
  exact h.symm
theorem bt_low (x : Nat) : bt x 0 = x % 2 := by rw [bt_div]; simp
theorem bt_add_disj : ∀ i a b, (∀ j, bt a j + bt b j ≤ 1) → bt (a + b) i = bt a i + bt b i
  | 0, a, b, h => by
    have h0 := h 0
    rw [bt_low, bt_low] at h0
    rw [bt_low, bt_low, bt_low]; omega
  | i + 1, a, b, h => by
    have h0 := h 0
    rw [bt_low, bt_low] at h0
    rw [bt_half, bt_half a, bt_half b, show (a + b) / 2 = a / 2 + b / 2 by omega]
    exact bt_add_disj i _ _ fun j => by rw [← bt_half, ← bt_half]; exact h (j + 1)
/-- One more: the ones below the lowest nought become noughts, it becomes a one. -/
theorem bt_inc {x r : Nat} (h1 : ∀ i, i < r → bt x i = 1) (h0 : bt x r = 0) (i : Nat) : bt (x + 1) i = if i < r then 0 else if i = r then 1 else bt x i := by
  induction r generalizing x i with
  | zero =>
    rw [bt_low] at h0
    cases i with
    | zero => rw [bt_low]; simp; omega
    | succ i => rw [bt_half, bt_half x, show (x + 1) / 2 = x / 2 by omega]; simp
  | succ r ih =>
    have hx := h1 0 (by omega)
    rw [bt_low] at hx
    cases i with
    | zero => rw [bt_low]; simp; omega
    | succ i =>
      rw [bt_half, bt_half x, show (x + 1) / 2 = x / 2 + 1 by omega, ih (fun j hj => by rw [← bt_half]; exact h1 (j + 1) (by omega)) (by rw [← bt_half]; exact h0)]
      by_cases a : i < r
      · rw [if_pos a, if_pos (show i + 1 < r + 1 by omega)]
      · rw [if_neg a, if_neg (show ¬ i + 1 < r + 1 by omega)]
        by_cases b : i = r
        · rw [if_pos b, if_pos (show i + 1 = r + 1 by omega)]
        · rw [if_neg b, if_neg (show ¬ i + 1 = r + 1 by omega)]
theorem lowest_nought {k c : Nat} (h : k + 1 < 2 ^ c) : ∃ r, r < c ∧ (∀ i, i < r → bt k i = 1) ∧ bt k r = 0 := by
  induction c generalizing k with
  | zero => simp at h
  | succ c ih =>
    by_cases hk : k % 2 = 0
    · exact ⟨0, by omega, fun i hi => by omega, by rw [bt_low]; exact hk⟩
    · rw [Nat.pow_succ] at h
      obtain ⟨r, hr, h1, h0⟩ := ih (k := k / 2) (by omega)
      refine ⟨r + 1, by omega, fun i hi => ?_, by rw [bt_half]; exact h0⟩
      cases i with
      | zero => rw [bt_low]; omega
      | succ i => rw [bt_half]; exact h1 i (by omega)

/-- The places of the mask's ones below m, rising. -/
def plL (mask m : Nat) : List Nat := (List.range m).filter fun j => decide (bt mask j = 1)
theorem plL_yes {mask m : Nat} (h : bt mask m = 1) : plL mask (m + 1) = plL mask m ++ [m] := by
  unfold plL; rw [List.range_succ, List.filter_append]; simp [h]
theorem plL_no {mask m : Nat} (h : ¬ bt mask m = 1) : plL mask (m + 1) = plL mask m := by
  unfold plL; rw [List.range_succ, List.filter_append]; simp [h]
theorem plL_len (mask m : Nat) : (plL mask m).length ≤ m := by
  unfold plL; have := List.length_filter_le (fun j => decide (bt mask j = 1)) (List.range m); simpa using this
theorem mem_plL {mask m j : Nat} : j ∈ plL mask m ↔ j < m ∧ bt mask j = 1 := by
  unfold plL; simp [List.mem_filter]
theorem plL_sorted (mask m : Nat) : (plL mask m).Pairwise (· < ·) := by
  unfold plL; exact List.Pairwise.filter _ List.pairwise_lt_range
theorem plL_lt {mask m i j : Nat} (hj : j < (plL mask m).length) (hij : i < j) : (plL mask m)[i] < (plL mask m)[j] :=
  List.pairwise_iff_getElem.1 (plL_sorted mask m) i j (by omega) hj hij
/-- How many ones the mask has; its places. -/
def ones (mask : Nat) : Nat := (plL mask 64).length
def plF (mask i : Nat) : Int := ((plL mask 64).getD i 0 : Nat)
theorem plF_at {mask i : Nat} (h : i < ones mask) : plF mask i = ((plL mask 64)[i]'h : Nat) := by
  unfold plF; rw [List.getD_eq_getElem?_getD, List.getElem?_eq_getElem h]; rfl
theorem ones_le (mask : Nat) : ones mask ≤ 64 := plL_len mask 64
theorem plF_inc {mask i j : Nat} (hj : j < ones mask) (hij : i < j) : plF mask i < plF mask j := by
  rw [plF_at hj, plF_at (by omega)]
  have := plL_lt (mask := mask) (m := 64) hj hij
  omega
theorem plF_mem {mask i : Nat} (h : i < ones mask) : 0 ≤ plF mask i ∧ plF mask i < 64 ∧ bt mask (plF mask i).toNat = 1 := by
  rw [plF_at h]
  have := mem_plL.1 (List.getElem_mem (l := plL mask 64) h)
  refine ⟨by omega, by omega, ?_⟩
  simpa using this.2
theorem plF_all {mask j : Nat} (hm : mask < 18446744073709551616) (h : bt mask j = 1) : ∃ i, i < ones mask ∧ plF mask i = j := by
  have hj : j < 64 := by
    apply Decidable.byContradiction
    intro hc
    rw [bt_big hm (by omega)] at h
    omega
  obtain ⟨i, hi, e⟩ := List.getElem_of_mem (mem_plL.2 ⟨hj, h⟩)
  exact ⟨i, hi, by rw [plF_at hi, e]⟩
theorem plF_plc (mask : Nat) : Plc (plF mask) (ones mask) := fun i hi =>
  ⟨(plF_mem hi).1, (plF_mem hi).2.1, fun j hj e => by have := plF_inc hi hj; omega⟩

/-- Set number k of the mask. -/
def sbN (mask k : Nat) : Nat := putN k (plF mask) 0 (ones mask)
theorem bt_sb_at {mask k j : Nat} (hj : j < ones mask) : bt (sbN mask k) (plF mask j).toNat = bt k j := bt_put_at (plF_plc mask) hj
theorem bt_sb_off {mask k i : Nat} (h : bt mask i = 0) : bt (sbN mask k) i = 0 := by
  unfold sbN
  rw [bt_put_not fun j hj e => ?_, bt_nought]
  have := (plF_mem hj).2.2
  rw [e] at this
  omega
theorem sb_lt {mask : Nat} (k : Nat) (_hm : mask < 18446744073709551616) : sbN mask k < 18446744073709551616 := putN_lt (by omega) (plF_plc mask)
theorem sb_zero {mask : Nat} (hm : mask < 18446744073709551616) : sbN mask 0 = 0 := ext_bt fun i => by
  rw [bt_nought]
  rcases (show bt mask i = 0 ∨ bt mask i = 1 by have := bt_le mask i; omega) with h | h
  · exact bt_sb_off h
  · obtain ⟨j, hj, e⟩ := plF_all hm h
    have := bt_sb_at (k := 0) hj
    rw [e, Int.toNat_natCast, bt_nought] at this
    exact this
theorem sb_ne {mask k : Nat} (hk : k + 1 < 2 ^ ones mask) : sbN mask k ≠ mask := by
  obtain ⟨r, hr, _, h0⟩ := lowest_nought hk
  intro e
  have h1 := bt_sb_at (k := k) hr
  rw [e, (plF_mem hr).2.2, h0] at h1
  omega
theorem bt_full (c i : Nat) : bt (2 ^ c - 1) i = if i < c then 1 else 0 := by
  unfold bt; rw [Nat.testBit_two_pow_sub_one]; by_cases h : i < c <;> simp [h]
theorem sb_last {mask k : Nat} (hm : mask < 18446744073709551616) (hk : k + 1 = 2 ^ ones mask) : sbN mask k = mask := ext_bt fun i => by
  rcases (show bt mask i = 0 ∨ bt mask i = 1 by have := bt_le mask i; omega) with h | h
  · rw [h]; exact bt_sb_off h
  · obtain ⟨j, hj, e⟩ := plF_all hm h
    have := bt_sb_at (k := k) hj
    rw [e, Int.toNat_natCast, show k = 2 ^ ones mask - 1 by omega, bt_full, if_pos hj] at this
    rw [h]
    rw [show k = 2 ^ ones mask - 1 by omega]
    exact this
theorem bt_not {mask i : Nat} (hm : mask < 18446744073709551616) : bt (18446744073709551615 - mask) i = if i < 64 then 1 - bt mask i else 0 := by
  unfold bt
  have := Nat.testBit_two_pow_sub_succ (x := mask) (n := 64) hm i
  rw [show 2 ^ 64 - (mask + 1) = 18446744073709551615 - mask by omega] at this
  rw [this]
  by_cases h : i < 64
  · rw [if_pos h]; cases mask.testBit i <;> simp [h]
  · rw [if_neg h]; simp [h]
theorem bt_and (a c i : Nat) : bt (a &&& c) i = bt a i * bt c i := by
  unfold bt; rw [Nat.testBit_and]; cases a.testBit i <;> cases c.testBit i <;> rfl
theorem sb_next {mask k : Nat} (hm : mask < 18446744073709551616) (hk : k + 1 < 2 ^ ones mask) :
    (sbN mask k + (18446744073709551615 - mask) + 1) &&& mask = sbN mask (k + 1) ∧ sbN mask k + (18446744073709551615 - mask) + 1 < 18446744073709551616 := by
  obtain ⟨r, hr, h1, h0⟩ := lowest_nought hk
  have hq := plF_mem hr
  have hdis : ∀ j, bt (sbN mask k) j + bt (18446744073709551615 - mask) j ≤ 1 := by
    intro j
    rw [bt_not hm]
    have hb := bt_le (sbN mask k) j
    rcases (show bt mask j = 0 ∨ bt mask j = 1 by have := bt_le mask j; omega) with h | h
    · rw [bt_sb_off h]; split <;> omega
    · rw [h]; split <;> omega
  have ht : ∀ i, bt (sbN mask k + (18446744073709551615 - mask)) i = bt (sbN mask k) i + bt (18446744073709551615 - mask) i := fun i => bt_add_disj i _ _ hdis
  obtain ⟨q, hq'⟩ : ∃ q : Nat, plF mask r = q := ⟨(plF mask r).toNat, by omega⟩
  rw [hq', Int.toNat_natCast] at hq
  have hq64 : q < 64 := by omega
  have low1 : ∀ i, i < q → bt (sbN mask k + (18446744073709551615 - mask)) i = 1 := by
    intro i hi
    rw [ht, bt_not hm, if_pos (by omega)]
    rcases (show bt mask i = 0 ∨ bt mask i = 1 by have := bt_le mask i; omega) with h | h
    · rw [bt_sb_off h, h]
    · obtain ⟨j, hj, e⟩ := plF_all hm h
      have hjr : j < r := by
        apply Decidable.byContradiction
        intro hc
        rcases (show r = j ∨ r < j by omega) with h' | h'
        · rw [← h', hq'] at e; omega
        · have := plF_inc hj h'; omega
      have := bt_sb_at (k := k) hj
      rw [e, Int.toNat_natCast, h1 j hjr] at this
      rw [this, h]
  have nought : bt (sbN mask k + (18446744073709551615 - mask)) q = 0 := by
    have := bt_sb_at (k := k) hr
    rw [hq', Int.toNat_natCast, h0] at this
    rw [ht, this, bt_not hm, if_pos hq64, hq.2.2]
  have hinc := bt_inc low1 nought
  constructor
  · refine ext_bt fun i => ?_
    rw [bt_and, hinc]
    rcases (show bt mask i = 0 ∨ bt mask i = 1 by have := bt_le mask i; omega) with h | h
    · rw [h, bt_sb_off h, Nat.mul_zero]
    · rw [h, Nat.mul_one]
      obtain ⟨j, hj, e⟩ := plF_all hm h
      have hs1 := bt_sb_at (k := k + 1) hj
      have hs0 := bt_sb_at (k := k) hj
      rw [e, Int.toNat_natCast] at hs1 hs0
      rw [hs1, bt_inc h1 h0]
      rcases Nat.lt_trichotomy j r with hjr | hjr | hjr
      · have := plF_inc hr hjr
        rw [if_pos (by omega), if_pos hjr]
      · subst hjr
        rw [hq'] at e
        rw [if_neg (by omega), if_pos (by omega), if_neg (by omega), if_pos rfl]
      · have := plF_inc hj hjr
        rw [if_neg (by omega), if_neg (by omega), if_neg (by omega), if_neg (by omega), ht, hs0, bt_not hm, h]
        split <;> omega
  · refine lt_pow_of_bt (n := 64) fun i hi => ?_
    rw [hinc, if_neg (by omega), if_neg (by omega), ht, bt_not hm, if_neg (by omega), bt_big (sb_lt k hm) hi]
theorem i_next {mask k : Nat} (hm : mask < 18446744073709551616) (hk : k + 1 < 2 ^ ones mask) :
    bits .and .u64 (IntKind.u64.wrap ((sbN mask k : Int) - (mask : Int))) (mask : Int) = (sbN mask (k + 1) : Int) := by
  obtain ⟨h1, h2⟩ := sb_next hm hk
  have e : IntKind.u64.wrap ((sbN mask k : Int) - (mask : Int)) = ((sbN mask k + (18446744073709551615 - mask) + 1 : Nat) : Int) := by
    rw [IntKind.wrap_u64]
    omega
  rw [e, u64_and_nat _ _ h2 hm, h1]
end Go.Proofs.YtpheplcmooljhaaDoor
