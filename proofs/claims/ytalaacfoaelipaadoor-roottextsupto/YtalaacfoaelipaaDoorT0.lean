/-
  A region that draws its order, by an invariant over what has come up.
-/
import Derived.Still
import Derived.WalkKit
namespace Go.Proofs.YtalaacfoaelipaaDoor
open Go.RowKit

theorem count_set_true : ∀ (bs : List Bool) (i : Nat), bs[i]? = some false → (bs.set i true).count false + 1 = bs.count false
  | [], i, h => by simp at h
  | b :: bs, 0, h => by
    simp at h; subst h; simp
  | b :: bs, i + 1, h => by
    have := count_set_true bs i (by simpa using h)
    cases b <;> simp <;> omega
theorem wp_region_inv {P : Program} {id : Nat} {Q : Exit → Act → World → Prop} {a : Act} {w : World} {l : List Oper} (hm : P.follows .mixedOrders = true)
    (I : List Bool → Act → World → Prop) (h0 : I (List.replicate l.length false) a { w with drawn := w.drawn + 1 })
    (hs : ∀ (bs : List Bool) (a : Act) (w : World) (i : Nat), bs.length = l.length → I bs a w → i ∈ Region.ready .any l.toArray bs.toArray → wpOp P l.toArray Q i (I (bs.set i true)) a w)
    (he : ∀ (bs : List Bool) (a : Act) (w : World), bs.length = l.length → I bs a w → Region.ready .any l.toArray bs.toArray = [] → Q .normal a w) : (Code.region id l.toArray true).wp P Q a w := by
  have key : ∀ (fuel : Nat) (bs : List Bool) (a : Act) (w : World), bs.length = l.length → bs.count false ≤ fuel → I bs a w → wpAny P .any l.toArray Q fuel bs.toArray a w := by
    intro fuel
    induction fuel with
    | zero =>
      intro bs a w hl hc hI
      have hr : Region.ready .any l.toArray bs.toArray = [] := by
        cases h : Region.ready .any l.toArray bs.toArray with
        | nil => rfl
        | cons i rest =>
          have hi : i ∈ Region.ready .any l.toArray bs.toArray := by rw [h]; simp
          have h1 := (mem_ready.1 hi).1
          have h2 : bs[i]? = some false := by
            rcases Nat.lt_or_ge i bs.length with h' | h'
            · simp [h'] at h1; simp [h', h1]
            · simp [h'] at h1
          have := count_set_true bs i h2
          omega
      exact ⟨hr, he bs a w hl hI hr⟩
    | succ fuel ih =>
      intro bs a w hl hc hI
      refine ⟨fun h => he bs a w hl hI h, fun i hi => ?_⟩
      have h1 := (mem_ready.1 hi).1
      have h2 : bs[i]? = some false := by
        rcases Nat.lt_or_ge i bs.length with h' | h'
        · simp [h'] at h1; simp [h', h1]
        · simp [h'] at h1
      have h3 := count_set_true bs i h2
      have e : bs.toArray.setIfInBounds i true = (bs.set i true).toArray := by simp
      rw [e]
      exact wpOp_mono (fun a' w' h => ih (bs.set i true) a' w' (by simpa using hl) (by omega) h) (hs bs a w i hl hI hi)
  refine wp_region_any hm ?_
  have := key l.length (List.replicate l.length false) a _ (by simp) (by simp) h0
  simpa using this
end Go.Proofs.YtalaacfoaelipaaDoor
