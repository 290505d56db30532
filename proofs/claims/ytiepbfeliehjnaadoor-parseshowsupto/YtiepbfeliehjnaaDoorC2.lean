/-
  fit of the reference.
-/
import Derived.Test.YtiepbfeliehjnaaDoorC1
namespace Go.Proofs.YtiepbfeliehjnaaDoor
open Go.RowKit Go.Sort

/-- A row that is right by itself. -/
def rowB (r : Rw) : Bool := (shp r.kind).isSome && fitB r ((shp r.kind).getD shNone) && decide (0 ≤ r.rows) && (((shp r.kind).getD shNone).body || decide (r.rows = 0))
theorem all_none {p q : Ar → Bool} {l : List Ar} (n : Int) (hn : n = 0) : ((decide (n = -1) || decide ((l.length : Int) = n)) && l.all p) = ((decide (n < 0) || decide ((l.length : Int) = n)) && l.all q) := by
  subst hn
  cases l with
  | nil => rfl
  | cons a l =>
    have h : decide (((a :: l).length : Int) = 0) = false := decide_eq_false (by rw [List.length_cons]; omega)
    rw [h]
    rfl
theorem rowB_qubits (nm : ByteArray) (ag : List Ar) (nu ro pl : Int) : rowB ⟨wQubits, nm, ag, nu, ro, pl⟩ = (plnN nm && numOk nu && (decide (0 ≤ ro) && decide (ro = 0)) && ((decide ((0 : Int) < 0) || decide ((ag.length : Int) = 0)) && ag.all (argOk true))) := by
  have e : shp wQubits = some shDecl := rfl
  unfold rowB
  rw [e]
  show (true && (plnN nm && numOk nu && (decide ((0 : Int) = -1) || decide ((ag.length : Int) = 0)) && ag.all (argOk false)) && decide (0 ≤ ro) && (false || decide (ro = 0))) = _
  have h := all_none (p := argOk false) (q := argOk true) (l := ag) 0 rfl
  rw [← h]
  generalize plnN nm = b1
  generalize numOk nu = b2
  generalize decide (0 ≤ ro) = b3
  generalize decide (ro = 0) = b4
  generalize (decide ((0 : Int) = -1) || decide ((ag.length : Int) = 0)) = b5
  generalize ag.all (argOk false) = b6
  cases b1 <;> cases b2 <;> cases b3 <;> cases b4 <;> cases b5 <;> cases b6 <;> rfl
theorem rowB_bits (nm : ByteArray) (ag : List Ar) (nu ro pl : Int) : rowB ⟨wBits, nm, ag, nu, ro, pl⟩ = (plnN nm && numOk nu && (decide (0 ≤ ro) && decide (ro = 0)) && ((decide ((0 : Int) < 0) || decide ((ag.length : Int) = 0)) && ag.all (argOk true))) := by
  have e : shp wBits = some shDecl := rfl
  unfold rowB
  rw [e]
  show (true && (plnN nm && numOk nu && (decide ((0 : Int) = -1) || decide ((ag.length : Int) = 0)) && ag.all (argOk false)) && decide (0 ≤ ro) && (false || decide (ro = 0))) = _
  have h := all_none (p := argOk false) (q := argOk true) (l := ag) 0 rfl
  rw [← h]
  generalize plnN nm = b1
  generalize numOk nu = b2
  generalize decide (0 ≤ ro) = b3
  generalize decide (ro = 0) = b4
  generalize (decide ((0 : Int) = -1) || decide ((ag.length : Int) = 0)) = b5
  generalize ag.all (argOk false) = b6
  cases b1 <;> cases b2 <;> cases b3 <;> cases b4 <;> cases b5 <;> cases b6 <;> rfl
theorem rowB_gate (nm : ByteArray) (ag : List Ar) (nu ro pl : Int) : rowB ⟨wGate, nm, ag, nu, ro, pl⟩ = (plnN nm && decide (nu = 0) && (decide (0 ≤ ro)) && ((decide (((-1) : Int) < 0) || decide ((ag.length : Int) = (-1))) && ag.all (argOk false))) := by
  have e : shp wGate = some shGate := rfl
  unfold rowB
  rw [e]
  show (true && (plnN nm && decide (nu = 0) && (decide (((-1) : Int) = -1) || decide ((ag.length : Int) = (-1))) && ag.all (argOk false)) && decide (0 ≤ ro) && (true || decide (ro = 0))) = _
  generalize plnN nm = b1
  generalize decide (nu = 0) = b2
  generalize decide (0 ≤ ro) = b3
  generalize decide (ro = 0) = b4
  generalize ag.all (argOk false) = b6
  cases b1 <;> cases b2 <;> cases b3 <;> cases b4 <;> cases b6 <;> rfl
theorem rowB_repeat (nm : ByteArray) (ag : List Ar) (nu ro pl : Int) : rowB ⟨wRepeat, nm, ag, nu, ro, pl⟩ = (decide (nm = ⟨#[]⟩) && numOk nu && (decide (0 ≤ ro)) && ((decide ((0 : Int) < 0) || decide ((ag.length : Int) = 0)) && ag.all (argOk true))) := by
  have e : shp wRepeat = some shRepeat := rfl
  unfold rowB
  rw [e]
  show (true && (decide (nm = ⟨#[]⟩) && numOk nu && (decide ((0 : Int) = -1) || decide ((ag.length : Int) = 0)) && ag.all (argOk false)) && decide (0 ≤ ro) && (true || decide (ro = 0))) = _
  have h := all_none (p := argOk false) (q := argOk true) (l := ag) 0 rfl
  rw [← h]
  generalize decide (nm = ⟨#[]⟩) = b1
  generalize numOk nu = b2
  generalize decide (0 ≤ ro) = b3
  generalize decide (ro = 0) = b4
  generalize (decide ((0 : Int) = -1) || decide ((ag.length : Int) = 0)) = b5
  generalize ag.all (argOk false) = b6
  cases b1 <;> cases b2 <;> cases b3 <;> cases b4 <;> cases b5 <;> cases b6 <;> rfl
theorem rowB_if (nm : ByteArray) (ag : List Ar) (nu ro pl : Int) : rowB ⟨wIf, nm, ag, nu, ro, pl⟩ = (plnN nm && numOk nu && (decide (0 ≤ ro)) && ((decide ((0 : Int) < 0) || decide ((ag.length : Int) = 0)) && ag.all (argOk true))) := by
  have e : shp wIf = some shIf := rfl
  unfold rowB
  rw [e]
  show (true && (plnN nm && numOk nu && (decide ((0 : Int) = -1) || decide ((ag.length : Int) = 0)) && ag.all (argOk false)) && decide (0 ≤ ro) && (true || decide (ro = 0))) = _
  have h := all_none (p := argOk false) (q := argOk true) (l := ag) 0 rfl
  rw [← h]
  generalize plnN nm = b1
  generalize numOk nu = b2
  generalize decide (0 ≤ ro) = b3
  generalize decide (ro = 0) = b4
  generalize (decide ((0 : Int) = -1) || decide ((ag.length : Int) = 0)) = b5
  generalize ag.all (argOk false) = b6
  cases b1 <;> cases b2 <;> cases b3 <;> cases b4 <;> cases b5 <;> cases b6 <;> rfl
theorem rowB_measure (nm : ByteArray) (ag : List Ar) (nu ro pl : Int) : rowB ⟨wMeasure, nm, ag, nu, ro, pl⟩ = (decide (nm = ⟨#[]⟩) && decide (nu = 0) && (decide (0 ≤ ro) && decide (ro = 0)) && ((decide ((2 : Int) < 0) || decide ((ag.length : Int) = 2)) && ag.all (argOk true))) := by
  have e : shp wMeasure = some shMeasure := rfl
  unfold rowB
  rw [e]
  show (true && (decide (nm = ⟨#[]⟩) && decide (nu = 0) && (decide ((2 : Int) = -1) || decide ((ag.length : Int) = 2)) && ag.all (argOk true)) && decide (0 ≤ ro) && (false || decide (ro = 0))) = _
  generalize decide (nm = ⟨#[]⟩) = b1
  generalize decide (nu = 0) = b2
  generalize decide (0 ≤ ro) = b3
  generalize decide (ro = 0) = b4
  rw [show decide ((2 : Int) = -1) = false by decide, show decide ((2 : Int) < 0) = false by decide]
  generalize decide ((ag.length : Int) = 2) = b5
  generalize ag.all (argOk true) = b6
  cases b1 <;> cases b2 <;> cases b3 <;> cases b4 <;> cases b5 <;> cases b6 <;> rfl
theorem rowB_reset (nm : ByteArray) (ag : List Ar) (nu ro pl : Int) : rowB ⟨wReset, nm, ag, nu, ro, pl⟩ = (decide (nm = ⟨#[]⟩) && decide (nu = 0) && (decide (0 ≤ ro) && decide (ro = 0)) && ((decide ((1 : Int) < 0) || decide ((ag.length : Int) = 1)) && ag.all (argOk true))) := by
  have e : shp wReset = some shReset := rfl
  unfold rowB
  rw [e]
  show (true && (decide (nm = ⟨#[]⟩) && decide (nu = 0) && (decide ((1 : Int) = -1) || decide ((ag.length : Int) = 1)) && ag.all (argOk true)) && decide (0 ≤ ro) && (false || decide (ro = 0))) = _
  generalize decide (nm = ⟨#[]⟩) = b1
  generalize decide (nu = 0) = b2
  generalize decide (0 ≤ ro) = b3
  generalize decide (ro = 0) = b4
  rw [show decide ((1 : Int) = -1) = false by decide, show decide ((1 : Int) < 0) = false by decide]
  generalize decide ((ag.length : Int) = 1) = b5
  generalize ag.all (argOk true) = b6
  cases b1 <;> cases b2 <;> cases b3 <;> cases b4 <;> cases b5 <;> cases b6 <;> rfl
theorem rowB_use (nm : ByteArray) (ag : List Ar) (nu ro pl : Int) : rowB ⟨wUse, nm, ag, nu, ro, pl⟩ = (plnN nm && decide (nu = 0) && (decide (0 ≤ ro) && decide (ro = 0)) && ((decide (((-1) : Int) < 0) || decide ((ag.length : Int) = (-1))) && ag.all (argOk true))) := by
  have e : shp wUse = some shUse := rfl
  unfold rowB
  rw [e]
  show (true && (plnN nm && decide (nu = 0) && (decide (((-1) : Int) = -1) || decide ((ag.length : Int) = (-1))) && ag.all (argOk true)) && decide (0 ≤ ro) && (false || decide (ro = 0))) = _
  generalize plnN nm = b1
  generalize decide (nu = 0) = b2
  generalize decide (0 ≤ ro) = b3
  generalize decide (ro = 0) = b4
  generalize ag.all (argOk true) = b6
  cases b1 <;> cases b2 <;> cases b3 <;> cases b4 <;> cases b6 <;> rfl
end Go.Proofs.YtiepbfeliehjnaaDoor
