/-
  A list of ints as an argument: what a walk may ask of it.
-/
import Derived.Test.YtcehedlmpnaofaaDoorLaid
namespace Go.Proofs.YtcehedlmpnaofaaDoor
open Go.ChangeShapes Go.WideShapes Go.ChangeAt Go.RowKit

theorem Tryd.cells3 : Tryd.prog.cellsOf 3 = 1 := by kernel_rfl
theorem row_of_trod {H : Type} {enc : TypeId × Value → H} {W : World} {base : Nat} {v : Value} {d : DataW H} {p : List MemPlace}
    (hval : Value.okWide Tryd.prog W .any base 36 v) (h : DataW.Trod enc Tryd.prog W 0 (fun _ => true) true 36 v d p) :
    ∃ (a : Option Addr) (n cap : Nat) (f : Nat → Int), v = .slice a n cap ∧ n ≤ cap ∧ cap ≤ 9223372036854775807 ∧ (∀ i, (Lit.int .i64 (f i)).wf = true) ∧ Row a f n W := by
  obtain ⟨a0, len, cap, rfl⟩ := okWide_slice Tryd.underlying36 hval
  obtain ⟨fuel, hf⟩ := h
  rcases open_ints Tryd.underlying36 Tryd.underlying3 Tryd.cells3 hf with ⟨hcs, _⟩ | ⟨a, len', cap', zs, hcs, _, hl, hm, hz, _, hcell, hwz⟩
  · simp [Value.cells] at hcs
    obtain ⟨rfl, rfl, rfl⟩ := hcs
    exact ⟨_, _, _, fun _ => 0, rfl, by omega, by omega, fun _ => (by decide : (Lit.int .i64 0).wf = true), ⟨fun i hi => by omega⟩⟩
  · simp [Value.cells] at hcs
    obtain ⟨rfl, rfl, rfl⟩ := hcs
    simp only [if_true] at hz
    unfold maxLen at hm
    refine ⟨_, _, _, fun i => zs.getD i 0, rfl, hl, by omega, fun i => ?_, ⟨fun i hi => ?_⟩⟩
    · by_cases hi : i < zs.length
      · have : zs.getD i 0 ∈ zs := by simp [List.getD, hi]
        exact hwz _ this
      · simp [List.getD, hi]; decide
    · obtain ⟨b, off, rfl, hc⟩ := ints_at hcell (by omega)
      exact ⟨b, off, rfl, hc i (by omega)⟩
end Go.Proofs.YtcehedlmpnaofaaDoor
