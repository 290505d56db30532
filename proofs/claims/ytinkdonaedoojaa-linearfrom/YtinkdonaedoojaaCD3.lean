/-
  Clean and Clifford of the code; the reference's Check.
-/
import Derived.Test.YtinkdonaedoojaaCD2
import Derived.Test.YtinkdonaedoojaaCC4
namespace Go.Proofs.Ytinkdonaedoojaa.CL
open Go.RowKit Go.Sort

def clnB (c : Ci) : Bool := ((lk c).2.2 == 0) && c.ops.all fun o => (o.k == 1) && !o.f
def cfdB (c : Ci) : Bool := ((lk c).2.2 == 0) && c.ops.all fun o => !(o.k == 1) || gcl o.n
theorem all_at {l : List Oq} {p : Oq → Bool} (k : Nat) (h : k < l.length) (hp : p l[k] = false) : l.all p = false := by
  rw [List.all_eq_false]
  exact ⟨l[k], List.getElem_mem h, by rw [hp]; decide⟩
theorem all_all {l : List Oq} {p : Oq → Bool} (h : ∀ k (h : k < l.length), p l[k] = true) : l.all p = true := by
  rw [List.all_eq_true]
  intro x hx
  obtain ⟨k, hk, rfl⟩ := List.getElem_of_mem hx
  exact h k hk
end Go.Proofs.Ytinkdonaedoojaa.CL
