/-
  Put together of: JC.
-/
import Derived.Test.YtoddbaljnlhhaaaYC
import Derived.Test.YtoddbaljnlhhaaaYF
import Derived.BigRegion
namespace Go.Proofs.Ytoddbaljnlhhaaa
open Go.RowKit Go.Sort
open PL (pv PS bt)

/-- The first j rows turned, but for those at i and at L. -/
def mixI (f : Pr → Pr) (i L : Nat) (rs : List Pr) (j : Nat) : List Pr := rs.mapIdx fun k r => if k < j ∧ k ≠ i ∧ k ≠ L then f r else r
section
variable {f : Pr → Pr} {i L : Nat} {rs : List Pr}
theorem mixI_len (j : Nat) : (mixI f i L rs j).length = rs.length := by unfold mixI; simp
theorem mixI_get (j k : Nat) : (mixI f i L rs j)[k]? = rs[k]?.map fun r => if k < j ∧ k ≠ i ∧ k ≠ L then f r else r := by unfold mixI; rw [List.getElem?_mapIdx]
theorem mixI_zero : mixI f i L rs 0 = rs := List.ext_getElem? fun k => by
  rw [mixI_get]
  cases rs[k]? with
  | none => rfl
  | some r => simp
theorem mixI_at {j : Nat} (h : j < rs.length) : (mixI f i L rs j)[j]? = some rs[j] := by
  rw [mixI_get, List.getElem?_eq_getElem h]
  simp
theorem mixI_skip {j : Nat} (h : j = i ∨ j = L) : mixI f i L rs (j + 1) = mixI f i L rs j := List.ext_getElem? fun k => by
  rw [mixI_get, mixI_get]
  congr 1
  funext r
  by_cases e : k = j
  · subst e
    rw [if_neg (by omega), if_neg (by omega)]
  · by_cases g : k < j
    · simp only [show k < j + 1 by omega, g]
    · simp only [show ¬ k < j + 1 by omega, g]
theorem mixI_same {j : Nat} (h : j < rs.length) (he : f rs[j] = rs[j]) : mixI f i L rs (j + 1) = mixI f i L rs j := List.ext_getElem? fun k => by
  rw [mixI_get, mixI_get]
  by_cases e : k = j
  · subst e
    rw [List.getElem?_eq_getElem h]
    simp only [Option.map_some]
    rw [he]
    simp
  · congr 1
    funext r
    by_cases g : k < j
    · simp only [show k < j + 1 by omega, g]
    · simp only [show ¬ k < j + 1 by omega, g]
theorem mixI_set {j : Nat} (h : j < rs.length) (hi : j ≠ i) (hL : j ≠ L) : (mixI f i L rs j).set j (f rs[j]) = mixI f i L rs (j + 1) := List.ext_getElem? fun k => by
  rw [List.getElem?_set, mixI_get, mixI_get, mixI_len]
  by_cases e : j = k
  · subst e
    rw [if_pos rfl, if_pos h, List.getElem?_eq_getElem h]
    simp only [Option.map_some]
    rw [if_pos ⟨by omega, hi, hL⟩]
  · rw [if_neg e]
    congr 1
    funext r
    by_cases g : k < j
    · simp only [show k < j + 1 by omega, g]
    · simp only [show ¬ k < j + 1 by omega, g]
theorem mixI_end {p z : Pr} : ((mixI f i L rs rs.length).set i p).set L z = ((rs.map f).set i p).set L z := List.ext_getElem? fun k => by
  simp only [List.getElem?_set, List.length_set, mixI_len, List.length_map, mixI_get, List.getElem?_map]
  by_cases e : L = k
  · rw [if_pos e, if_pos e]
  · rw [if_neg e, if_neg e]
    by_cases g : i = k
    · rw [if_pos g, if_pos g]
    · rw [if_neg g, if_neg g]
      by_cases hk : k < rs.length
      · congr 1
        funext r
        rw [if_pos ⟨hk, fun x => g x.symm, fun x => e x.symm⟩]
      · rw [List.getElem?_eq_none (by omega)]
        rfl
end
/-- What the rows ahead of the first that flips the qubit are. -/
theorem ff_rows {N q i : Nat} {rs : List Pr} (hl : rs.length = 2 * N) (hi : i = ffN q (rs.drop N)) (hiN : i < N) : (∀ k (h : N + k < rs.length), k < i → flp q rs[N + k] = false) ∧ ∀ h : N + i < rs.length, flp q rs[N + i] = true := by
  constructor
  · intro k h hk
    have h1 : k < (rs.drop N).length := by rw [List.length_drop]; omega
    have := ffN_not q (rs.drop N) k h1 (by omega)
    rwa [List.getElem_drop] at this
  · intro h
    have h1 : ffN q (rs.drop N) < (rs.drop N).length := by rw [List.length_drop]; omega
    have := ffN_at q (rs.drop N) h1
    rw [List.getElem_drop] at this
    subst hi
    exact this
end Go.Proofs.Ytoddbaljnlhhaaa
