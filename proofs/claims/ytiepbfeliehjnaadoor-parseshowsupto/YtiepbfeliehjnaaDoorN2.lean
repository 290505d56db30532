/-
  Plain mathematics of numbers: what strconv.ParseInt tells of digits. Of no program.
-/
import Derived.Test.YtiepbfeliehjnaaDoorN1
import Derived.Lib.ParseIntBTie
namespace Go.Proofs.YtiepbfeliehjnaaDoor

/-- Digits alone. -/
def Ds (l : List UInt8) : Prop := ∀ b ∈ l, 48 ≤ b.toNat ∧ b.toNat ≤ 57
theorem fold_ge : ∀ (l : List UInt8) (a : Nat), a ≤ l.foldl (fun a b => a * 10 + (b.toNat - 48)) a
  | [], a => Nat.le_refl _
  | b :: l, a => Nat.le_trans (by omega) (fold_ge l (a * 10 + (b.toNat - 48)))
theorem uint_ds : ∀ (l : List UInt8) (a : Nat), Ds l → a ≤ 18446744073709551615 → Lib.parseUintM 18446744073709551615 a l = if l.foldl (fun a b => a * 10 + (b.toNat - 48)) a ≤ 18446744073709551615 then .ok (l.foldl (fun a b => a * 10 + (b.toNat - 48)) a) else .range
  | [], a, _, ha => by rw [if_pos (show ([] : List UInt8).foldl (fun a b => a * 10 + (b.toNat - 48)) a ≤ _ from ha)]; rfl
  | b :: l, a, hd, ha => by
    have h1 := hd b (List.mem_cons_self)
    have h2 := fold_ge l (a * 10 + (b.toNat - 48))
    rw [List.foldl_cons]
    unfold Lib.parseUintM
    rw [if_pos h1]
    by_cases h3 : 1844674407370955162 ≤ a
    · rw [if_pos h3, if_neg (by omega)]
    · rw [if_neg h3]
      by_cases h4 : 18446744073709551615 < a * 10 + (b.toNat - 48)
      · rw [if_pos h4, if_neg (by omega)]
      · rw [if_neg h4]
        exact uint_ds l _ (fun c hc => hd c (List.mem_cons_of_mem _ hc)) (by omega)
theorem int_ds (l : List UInt8) (hd : Ds l) (hn : l ≠ []) : Lib.parseIntB 64 l = if valL l < 9223372036854775808 then .ok (valL l : Int) else .range := by
  cases l with
  | nil => exact absurd rfl hn
  | cons c r =>
    have hc := hd c List.mem_cons_self
    have hu : Lib.parseUintB 64 (c :: r) = if valL (c :: r) ≤ 18446744073709551615 then .ok (valL (c :: r)) else .range := by
      unfold Lib.parseUintB
      rw [if_neg hn, show (2 ^ 64 - 1 : Nat) = 18446744073709551615 from rfl]
      exact uint_ds (c :: r) 0 hd (by omega)
    rw [Lib.parseIntB_plain 64 c r (by omega) (by omega), hu]
    generalize valL (c :: r) = x
    by_cases h1 : x ≤ 18446744073709551615
    · rw [if_pos h1]
      show (if 2 ^ 63 ≤ x then Lib.NumEnd.range else .ok (x : Int)) = _
      by_cases h2 : x < 9223372036854775808
      · rw [if_neg (by omega), if_pos h2]
      · rw [if_pos (by omega), if_neg h2]
    · rw [if_neg h1, if_neg (by omega)]
      rfl
/-- A number's bytes are digits. -/
theorem nu_ds {s : ByteArray} (h : nuB s = true) : Ds s.data.toList ∧ s.data.toList ≠ [] := by
  unfold nuB at h
  obtain ⟨h1, h2⟩ : 0 < s.size ∧ run isD s 0 = s.size := by simpa using h
  have he := run_end isD6 (i := 0) (s := s) (by omega)
  rw [h2] at he
  have hz : s.data.toList.length = s.size := rfl
  refine ⟨fun b hb => ?_, fun e => by rw [e] at hz; simp at hz; omega⟩
  obtain ⟨k, hk, rfl⟩ := List.getElem_of_mem hb
  have := he.all k (by omega) (by rw [← hz]; exact hk)
  rw [cb_list, List.getElem?_eq_getElem hk] at this
  exact isD_p.1 this
end Go.Proofs.YtiepbfeliehjnaaDoor
