/-
  The law LinearSynth, for every matrix.
-/
import Derived.Test.YtinkdonaedoojaaS6
namespace Go.Proofs.Ytinkdonaedoojaa
open Go.RowKit

theorem lsynth_all (N : Int) (n : Nat) (a : Option Addr) (c : Nat) (f : Nat → Nat) (w : World) (H : RR w a n f) :
    Calls Try.prog 5 #[lv N a n c] w fun e w' => e = .returned (.bool true) ∧ Below w.heap.size w w' := by
  by_cases hg : Gd N n f
  · have e := hg.2.2.1
    subst e
    cases hb : syB n f n
    · exact lsynth_no n a c f w H hg hb
    · exact lsynth_yes n a c f w H hg hb
  · exact lsynth_bad N n a c f w H hg
end Go.Proofs.Ytinkdonaedoojaa
