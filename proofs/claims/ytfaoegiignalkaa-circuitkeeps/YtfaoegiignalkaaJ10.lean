/-
  Then of the code, whole.
-/
import Derived.Test.YtfaoegiignalkaaJ9
namespace Go.Proofs.Ytfaoegiignalkaa
open Go.RowKit Go.Shelf

theorem then_any (c d : Ci) (a1 a2 : Option Addr) (c1 c2 : Nat) (A1 A2 : Nat → Option Addr) (C1 C2 : Nat → Nat) (w : World) (H1 : OS w a1 c1 c.ops A1 C1) (H2 : OS w a2 c2 d.ops A2 C2) :
    Calls Try.prog 21 #[civ c a1 c1, civ d a2 c2] w fun e w' => ThR c d w e w' := by
  by_cases h : (lk c).2.2 ≠ 0 ∨ (lk d).2.2 ≠ 0 ∨ c.q ≠ d.q ∨ c.b ≠ d.b
  · exact then_no c d a1 a2 c1 c2 A1 A2 C1 C2 w H1 H2 h
  · simp only [not_or, Decidable.not_not] at h
    exact then_yes c d a1 a2 c1 c2 A1 A2 C1 C2 w H1 H2 h.1 h.2.1 h.2.2.1 h.2.2.2
end Go.Proofs.Ytfaoegiignalkaa
