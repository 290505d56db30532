/-
  What the law GateEntries counts: plain facts of the twenty-five matrices, by reckoning.
-/
import Derived.Test.YtjmgcgjmaemgdaaM7
namespace Go.Proofs.Ytjmgcgjmaemgdaa
open Go.RowKit Go.Sort

def kk : Option (Nat × Int) → Int
  | none => 0
  | some (_, h) => h
/-- How many entries of column y stand above row x. -/
def atS (i y x : Nat) : Nat := ((List.range x).filter fun x' => (ec i x' y).isSome).length
/-- The halvings of the columns before y and of column y above row x. -/
def hsS (i y x : Nat) : Int := ((List.range y).map fun y' => ((List.range (2 ^ qOf i)).map fun x' => kk (ec i x' y')).sum).sum + ((List.range x).map fun x' => kk (ec i x' y)).sum
/-- Is all that was met on the diagonal? -/
def ssS (i y x : Nat) : Bool := ((List.range y).all fun y' => (List.range (2 ^ qOf i)).all fun x' => (ec i x' y').isNone || x' == y') && ((List.range x).all fun x' => (ec i x' y).isNone || x' == y)
def okSome (i y x m : Nat) (h : Int) : Bool :=
  decide (m < 8) && decide (0 ≤ h) && decide (h ≤ hOf i) && decide (h ≤ 1) && decide (atS i y x < (ens i y).length) && decide (enR (ens i y) (atS i y x) = x) && decide (mo (enP (ens i y) (atS i y x)) = m) && decide (enH (ens i y) (atS i y x) = h)
    && decide (atS i y (x + 1) = atS i y x + 1) && decide (hsS i y (x + 1) = hsS i y x + h) && (ssS i y (x + 1) == (ssS i y x && x == y))
def okNone (i y x : Nat) : Bool := decide (atS i y (x + 1) = atS i y x) && decide (hsS i y (x + 1) = hsS i y x) && (ssS i y (x + 1) == ssS i y x)
def okAt (i y x : Nat) : Bool := (match ec i x y with | none => okNone i y x | some (m, h) => okSome i y x m h) && decide (0 ≤ hsS i y x) && decide (hsS i y x ≤ 64) && decide (atS i y x ≤ 8)
def okCol (i y : Nat) : Bool := decide (1 ≤ (ens i y).length) && decide ((ens i y).length ≤ 2) && decide (((ens i y).length : Int) ≤ 1 + hOf i) && decide (atS i y (2 ^ qOf i) = (ens i y).length) && decide (hsS i y (2 ^ qOf i) = hsS i (y + 1) 0) && (ssS i y (2 ^ qOf i) == ssS i (y + 1) 0)
def okGate (i : Nat) : Bool := (decide (0 < hsS i (2 ^ qOf i) 0) == decide (hOf i = 1)) && (ssS i (2 ^ qOf i) 0 == dOf i) && decide (0 ≤ hOf i) && decide (hOf i ≤ 1) && decide (qOf i = 1 ∨ qOf i = 2 ∨ qOf i = 3)
  && (List.range (2 ^ qOf i)).all fun y => okCol i y && (List.range (2 ^ qOf i)).all fun x => okAt i y x
set_option maxRecDepth 1000000 in
theorem ok_all : ∀ i : Fin 25, okGate i = true := by decide +kernel
structure SomeAt (i y x m : Nat) (h : Int) : Prop where
  m8 : m < 8
  h0 : 0 ≤ h
  hh : h ≤ hOf i
  h1 : h ≤ 1
  at_ : atS i y x < (ens i y).length
  row : enR (ens i y) (atS i y x) = x
  pw : mo (enP (ens i y) (atS i y x)) = m
  hf : enH (ens i y) (atS i y x) = h
  nat : atS i y (x + 1) = atS i y x + 1
  nhs : hsS i y (x + 1) = hsS i y x + h
  nss : ssS i y (x + 1) = (ssS i y x && x == y)
structure NoneAt (i y x : Nat) : Prop where
  nat : atS i y (x + 1) = atS i y x
  nhs : hsS i y (x + 1) = hsS i y x
  nss : ssS i y (x + 1) = ssS i y x
structure ColOk (i y : Nat) : Prop where
  l1 : 1 ≤ (ens i y).length
  l2 : (ens i y).length ≤ 2
  lh : ((ens i y).length : Int) ≤ 1 + hOf i
  nat : atS i y (2 ^ qOf i) = (ens i y).length
  nhs : hsS i y (2 ^ qOf i) = hsS i (y + 1) 0
  nss : ssS i y (2 ^ qOf i) = ssS i (y + 1) 0
structure GateOk (i : Nat) : Prop where
  fin : decide (0 < hsS i (2 ^ qOf i) 0) = decide (hOf i = 1)
  dia : ssS i (2 ^ qOf i) 0 = dOf i
  h0 : 0 ≤ hOf i
  h1 : hOf i ≤ 1
  q : qOf i = 1 ∨ qOf i = 2 ∨ qOf i = 3
  col : ∀ y, y < 2 ^ qOf i → ColOk i y
  cell : ∀ y x, y < 2 ^ qOf i → x < 2 ^ qOf i → (0 ≤ hsS i y x ∧ hsS i y x ≤ 64 ∧ atS i y x ≤ 8) ∧ ((∃ m h, ec i x y = some (m, h) ∧ SomeAt i y x m h) ∨ (ec i x y = none ∧ NoneAt i y x))
theorem gate_ok (i : Nat) (hi : i < 25) : GateOk i := by
  have h := ok_all ⟨i, hi⟩
  simp only [okGate, Bool.and_eq_true, List.all_eq_true, List.mem_range, decide_eq_true_eq, beq_iff_eq] at h
  obtain ⟨⟨⟨⟨⟨h1, h2⟩, h3⟩, h4⟩, h5⟩, h6⟩ := h
  refine ⟨h1, h2, h3, h4, h5, fun y hy => ?_, fun y x hy hx => ?_⟩
  · have g := (h6 y hy).1
    simp only [okCol, Bool.and_eq_true, decide_eq_true_eq, beq_iff_eq] at g
    obtain ⟨⟨⟨⟨⟨a, b⟩, c⟩, d⟩, e⟩, f⟩ := g
    exact ⟨a, b, c, d, e, f⟩
  · have g := (h6 y hy).2 x hx
    simp only [okAt, Bool.and_eq_true, decide_eq_true_eq] at g
    obtain ⟨⟨⟨a, b⟩, c⟩, d⟩ := g
    refine ⟨⟨b, c, d⟩, ?_⟩
    cases e : ec i x y with
    | none =>
      rw [e] at a
      simp only [okNone, Bool.and_eq_true, decide_eq_true_eq, beq_iff_eq] at a
      exact .inr ⟨rfl, a.1.1, a.1.2, a.2⟩
    | some v =>
      obtain ⟨m, hh⟩ := v
      rw [e] at a
      simp only [okSome, Bool.and_eq_true, decide_eq_true_eq, beq_iff_eq] at a
      obtain ⟨⟨⟨⟨⟨⟨⟨⟨⟨⟨a1, a2⟩, a3⟩, a4⟩, a5⟩, a6⟩, a7⟩, a8⟩, a9⟩, a10⟩, a11⟩ := a
      exact .inl ⟨m, hh, rfl, a1, a2, a3, a4, a5, a6, a7, a8, a9, a10, a11⟩
end Go.Proofs.Ytjmgcgjmaemgdaa
