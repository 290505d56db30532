/-
  The law LinearKeeps, for every two matrices of which the first has at most 1048576 rows.
-/
import Derived.Test.YtinkdonaedoojaaN3
namespace Go.Proofs.Ytinkdonaedoojaa
open Go.RowKit

theorem keeps_all (N N' : Int) (n n' : Nat) (f f' : Nat → Nat) (a a' : Option Addr) (c c' : Nat) (w : World) (RA : RR w a n f) (RB : RR w a' n' f') (hn : n ≤ 1048576) :
    Calls Try.prog 7 #[lv N a n c, lv N' a' n' c'] w fun e w' => e = .returned (.bool true) ∧ Below w.heap.size w w' := by
  obtain ⟨k, Ek, C1, D1⟩ := rank_k N n f
  obtain ⟨Mm, mm, Fm, Em, C2, D2⟩ := mul_k N N' n n' f f'
  obtain ⟨Mi, mi, Fi, Ei, C3, D3⟩ := inv_k N n f
  obtain ⟨Ms, ls, Es, C4, hl, HF⟩ := syn_k N n f
  exact keeps_any N N' n n' f f' a a' c c' w RA RB hn k Ek C1 D1 Mm mm Fm Em C2 D2 Mi mi Fi Ei C3 D3 Ms ls Es C4 hl HF
end Go.Proofs.Ytinkdonaedoojaa
