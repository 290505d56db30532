/-
  Put together of: J4.
-/
import Derived.Test.YtoddbaljnlhhaabXL
import Derived.Test.YtoddbaljnlhhaabXM
import Derived.Test.YtoddbaljnlhhaabYA
namespace Go.Proofs.Ytoddbaljnlhhaab
open Go.RowKit Go.Sort
open PL (pv PS bt)

/-- What Zero tells. -/
def zrT (n : Int) : Tb × Int := if 0 ≤ n ∧ n ≤ 64 then (⟨n, zUp n.toNat 2⟩, 0) else (⟨0, []⟩, 2)
theorem zero_any (n : Int) (w : World) : Calls Try.prog 10 #[.int .i64 n] w fun e w' => ∃ v, e = .returned (.tuple #[.agg #[.int .i64 (zrT n).1.n, v], .int .i64 (zrT n).2]) ∧ OT w' w.heap.size v (zrT n).1.rows ∧ Below w.heap.size w w' := by
  unfold zrT
  by_cases h : 0 ≤ n ∧ n ≤ 64
  · rw [if_pos h]
    obtain ⟨N, rfl⟩ := Int.eq_ofNat_of_zero_le h.1
    exact zero_yes N w (by omega)
  · rw [if_neg h]
    exact (zero_no n w h).mono fun e w' ⟨h1, h2⟩ => ⟨_, h1, OT.nil _ _, h2⟩
end Go.Proofs.Ytoddbaljnlhhaab
