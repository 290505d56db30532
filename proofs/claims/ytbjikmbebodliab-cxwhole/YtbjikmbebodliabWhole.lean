/-
  Proved: for every list of six int32 the law CxWhole (promise P1.3: of whole parts products are exact, Go's own but for noughts' signs, and of small ones they hang on no bracketing) answers true, and the list reads afterwards as it read before. No condition.
-/
import Derived.Test.YtbjikmbebodliabRows
import Derived.Test.YtbjikmbebodliabWalk
import Derived.ProofKit
import Derived.OpenShut
import Derived.Carry
namespace Go.Proofs.Ytbjikmbebodliab
open Go.ChangeShapes Go.WideShapes Go.ChangeAt Go.RowKit

theorem Try.own : ownKnob Try.prog.godebug = none := by kernel_rfl
theorem Try.laidOut : laidOutB Try.prog = true := by kernel_rfl
theorem Try.cells21 : Try.prog.cellsOf 21 = 1 := by kernel_rfl
theorem Try.cells22 : Try.prog.cellsOf 22 = 6 := by kernel_rfl

theorem list6 {α : Type} (l : List α) (h : (⟨l⟩ : Array α).size = 6) : ∃ a b c d e f, l = [a, b, c, d, e, f] := by
  match l, h with
  | [a, b, c, d, e, f], _ => exact ⟨a, b, c, d, e, f, rfl⟩

theorem int_at {H : Type} {enc : TypeId × Value → H} {W : World} {fuel : Nat} {l : List Value} {x : DataW H × List MemPlace} (h : DataW.trod enc Try.prog W 0 (fun _ => true) true fuel 22 l = some x)
    (i : Nat) (hi : i < 6) (c : Value) (hc : (l.drop i).take 1 = [c]) : ∃ n, c = .int .i32 n := by
  obtain ⟨xs, m, _, _, _, hl, hel⟩ := DataW.trod_array Try.underlying22 h
  have h1 := hel i hi
  rw [Try.cells21, Nat.mul_one, hc, List.getElem?_eq_getElem (by omega)] at h1
  obtain ⟨n, e0, _, _⟩ := DataW.trod_int Try.underlying21 h1
  simp at e0
  exact ⟨n, e0⟩

set_option maxHeartbeats 400000 in
set_option maxRecDepth 100000 in
theorem whole_lifted (os : Os) (started : os.Started) (H : Type) (enc : TypeId × Value → H) :
    ReturnsInHanded {} Try.checked os 3 .any (Rows.cxWholeSpec.pre6 enc Try.prog Try.f3 Rows.cxWholeRow.domain false) (Rows.cxWholeSpec.post enc Try.prog Try.f3 false true false false) := by
  refine returnsInHanded_of_change (C := Try.checked) Try.own started (by kernel_rfl) Try.func3
    (ChangeSpec.witness6 (enc := enc) (C := Try.checked) false ⟨#[], #[.agg #[.int .i32 0, .int .i32 0, .int .i32 0, .int .i32 0, .int .i32 0, .int .i32 0]], []⟩ 8 (by kernel_rfl) (by kernel_rfl) (by kernel_rfl) (by kernel_rfl)) ?_
  intro W base args ds gs before hval0 hW _ _
  have hval : ∀ (j : Nat) t v, Try.f3.params[j]? = some t → args[j]? = some v → Value.okWide Try.prog W .any base t v := hval0
  have hW' := hW
  obtain ⟨p, q, hA0, hV, rfl, _, _⟩ := hW
  have hA : DataW.TrodAll enc Try.prog W 0 (fun _ => true) true Try.f3.params.toList args.toList ds p := hA0
  rw [Try.params3] at hA hval
  obtain ⟨v0, d0, rfl, rfl, h0⟩ := trodAll_one hA
  obtain ⟨rfl, rfl⟩ := trodVars_none hV
  obtain ⟨cs, rfl, hsz, _⟩ : ∃ cs, v0 = .agg cs ∧ cs.size = Try.prog.cellsOf 22 ∧ Row.okWide Try.prog W .any base 22 cs := by
    have := hval 0 22 v0 rfl rfl
    simpa [Value.okWide, Try.underlying22] using this
  rw [Try.cells22] at hsz
  obtain ⟨l⟩ := cs
  obtain ⟨c0, c1, c2, c3, c4, c5, rfl⟩ := list6 l hsz
  have h0k := h0
  obtain ⟨fuel, hf⟩ := h0
  obtain ⟨x0, rfl⟩ := int_at hf 0 (by decide) c0 rfl
  obtain ⟨x1, rfl⟩ := int_at hf 1 (by decide) c1 rfl
  obtain ⟨x2, rfl⟩ := int_at hf 2 (by decide) c2 rfl
  obtain ⟨x3, rfl⟩ := int_at hf 3 (by decide) c3 rfl
  obtain ⟨x4, rfl⟩ := int_at hf 4 (by decide) c4 rfl
  obtain ⟨x5, rfl⟩ := int_at hf 5 (by decide) c5 rfl
  clear hA0 hval0
  simp only [List.append_nil] at hW'
  have hlt : ∀ x ∈ p, x.block < W.heap.size := fun x hx => by simpa using hW'.lt x hx
  refine (whole_any x0 x1 x2 x3 x4 x5 W).mono fun e W' ⟨he, hB⟩ => ?_
  subst he
  refine ⟨_, rfl, _, _, _, [], p, [], hW', ?_, ?_, rfl, hB.frame _, fun h => by cases h⟩
  · exact trodAll_mk1 (shut_bool Try.underlying4 true)
  · exact trodAll_mk1 (Below.trod Try.laidOut (by kernel_rfl) (of_decide_eq_true (by kernel_rfl)) h0k hB hlt)

theorem whole_holds : Rows.CxWholeSaid :=
  OpenClaim.holds_of_wide 3 Try.f3 rfl rfl rfl rfl rfl rfl rfl ⟨rfl, rfl, rfl, rfl, rfl⟩ rfl rfl rfl rfl rfl (by kernel_rfl) Try.func3 (by kernel_rfl)
    (of_decide_eq_true (by kernel_rfl)) (by unfold Func.isWrapper; first | (rw [if_pos (by decide +kernel)]; kernel_rfl) | (rw [if_neg (by decide +kernel)]; exact ⟨rfl, rfl⟩))
    (fun os started H enc _ => whole_lifted os started H enc)

#print axioms whole_holds
end Go.Proofs.Ytbjikmbebodliab
