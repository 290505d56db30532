/-
  The reference's Parse of what is no root's text: the error 22.
-/
import Derived.Test.YtalaacfoaelipaaDoorV9
namespace Go.Proofs.YtalaacfoaelipaaDoor
open Go.RowKit Go.Sort

theorem other_text (a b : ByteArray) (h : b ≠ a) : (a.toList == b.toList) = false := by
  refine beq_eq_false_iff_ne.2 fun e => h ?_
  rw [Go.ByteArray.toList_eq, Go.ByteArray.toList_eq] at e
  exact ByteArray.ext (Array.toList_inj.1 e.symm)

theorem rparse_none (s : ByteArray) (w : World) (hs : s.size ≤ 4294967280) (h : ∀ p q k, isRoot p q k → s ≠ ⟨(textL p q k).toArray⟩) :
    Calls Tryd.prog 28 #[.string s] w fun e w' => e = .returned (.tuple #[rv 0 0 0, .int .i64 22]) ∧ Below w.heap.size w w' := by
  refine rparse_bad s w hs fun p q k w => ?_
  by_cases hr : isRoot p q k
  · exact (rtext_yes p q k w hr).mono fun _ _ ⟨he, hB⟩ => ⟨⟨_, 0, he, .inr ⟨rfl, other_text _ _ (h p q k hr)⟩⟩, hB⟩
  · exact (rtext_no p q k w hr).mono fun _ _ ⟨he, hB⟩ => ⟨⟨_, 2, he, .inl rfl⟩, hB⟩

end Go.Proofs.YtalaacfoaelipaaDoor
