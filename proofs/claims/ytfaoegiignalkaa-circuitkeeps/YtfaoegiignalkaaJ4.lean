/-
  The reference's Then.
-/
import Derived.Test.YtfaoegiignalkaaJ2
namespace Go.Proofs.Ytfaoegiignalkaa
open Go.RowKit Go.Shelf

/-- Two circuits, one behind the other. -/
abbrev both (c d : Ci) : Ci := ⟨c.q, c.b, c.ops ++ d.ops⟩
def thE (c d : Ci) : Nat := if (lk c).2.2 ≠ 0 then (lk c).2.2 else if (lk d).2.2 ≠ 0 then (lk d).2.2 else if c.q ≠ d.q ∨ c.b ≠ d.b then 2 else (lk (both c d)).2.2
def thR (c d : Ci) : Ci := if thE c d = 0 then both c d else noCi
theorem opw_append : ∀ (os : List Oq) (vs : List (Option Addr × Nat)) (os' : List Oq) (vs' : List (Option Addr × Nat)), os.length = vs.length → opw (os ++ os') (vs ++ vs') = opw os vs ++ opw os' vs'
  | [], [], _, _, _ => rfl
  | [], _ :: _, _, _, h => by cases h
  | _ :: _, [], _, _, h => by cases h
  | r0 :: rs, v0 :: vs, os', vs', h => by
    show opc r0 v0.1 v0.2 ++ opw (rs ++ os') (vs ++ vs') = opc r0 v0.1 v0.2 ++ opw rs vs ++ opw os' vs'
    rw [opw_append rs vs os' vs' (by simpa using h), List.append_assoc]
theorem opw_one : ∀ (os : List Oq) (vs : List (Option Addr × Nat)), ∀ u ∈ opw os vs, u.oneCell' = true
  | [], _, u, h => by cases h
  | _ :: _, [], u, h => by cases h
  | r0 :: rs, v0 :: vs, u, h => by
    rcases List.mem_append.1 h with h | h
    · exact one_op r0 v0.1 v0.2 u h
    · exact opw_one rs vs u h
/-- Operations put behind operations: all rows are owned still. -/
theorem OO.join {W W' : World} {B : Nat} {v v' x : Value} {os os' : List Oq} {vs vs' : List (Option Addr × Nat)} (h : OO W B v os vs) (h2 : OO W B x os' vs') (hg : W.grownBy W' v.ownBlock) (ho : W'.ownsRow B 57 7 v' (os.length + os'.length) (opw os vs ++ opw os' vs')) : OO W' B v' (os ++ os') (vs ++ vs') := by
  have key : ∀ {x : Value} {n xs}, W.ownsRow B 3 1 x n xs → W'.ownsRow B 3 1 x n xs := fun hx => own_kept hx hg (fun g e e2 => by
    obtain ⟨cs, h⟩ := own_ty h.own e2.symm
    exact own_ne hx (b := g) h (by decide) g e rfl)
  have hl := h.len
  have hl2 := h2.len
  refine ⟨by simp [hl, hl2], by rw [opw_append _ _ _ _ hl, List.length_append]; exact ho, fun k hk hk' => ?_, fun k hk => ?_⟩
  · by_cases e : k < os.length
    · rw [List.getElem_append_left (by omega), List.getElem_append_left e]
      exact key (h.qs k e (by omega))
    · rw [List.getElem_append_right (by omega), List.getElem_append_right (by omega)]
      simp only [List.length_append] at hk hk'
      have := h2.qs (k - os.length) (by omega) (by omega)
      simp only [← hl]
      exact key this
  · by_cases e : k < os.length
    · rw [List.getElem_append_left e]; exact h.fit k e
    · rw [List.getElem_append_right (by omega)]
      exact h2.fit _ _
end Go.Proofs.Ytfaoegiignalkaa
