/-
  Put together of: D1.
-/
import Derived.Test.YtoddbaljnlhhaabXO
namespace Go.Proofs.Ytoddbaljnlhhaab.PL
open Go.RowKit

/-- Clifford's gates: how many qubits, and what X and Z of each become. -/
def cgl : List (List UInt8 × Nat × List T3) := [
  ([105], 1, [(1, 0, 0), (0, 1, 0)]),
  ([119], 1, [(1, 0, 0), (0, 1, 0)]),
  ([119, 100, 103], 1, [(1, 0, 0), (0, 1, 0)]),
  ([120], 1, [(1, 0, 0), (0, 1, 2)]),
  ([121], 1, [(1, 0, 2), (0, 1, 2)]),
  ([122], 1, [(1, 0, 2), (0, 1, 0)]),
  ([104], 1, [(0, 1, 0), (1, 0, 0)]),
  ([115], 1, [(1, 1, 0), (0, 1, 0)]),
  ([115, 100, 103], 1, [(1, 1, 2), (0, 1, 0)]),
  ([118], 1, [(1, 0, 0), (1, 1, 2)]),
  ([118, 100, 103], 1, [(1, 0, 0), (1, 1, 0)]),
  ([99, 120], 2, [(3, 0, 0), (2, 0, 0), (0, 1, 0), (0, 3, 0)]),
  ([99, 121], 2, [(3, 2, 0), (2, 1, 0), (0, 1, 0), (0, 3, 0)]),
  ([99, 122], 2, [(1, 2, 0), (2, 1, 0), (0, 1, 0), (0, 2, 0)]),
  ([115, 119, 97, 112], 2, [(2, 0, 0), (1, 0, 0), (0, 2, 0), (0, 1, 0)]),
  ([105, 115, 119, 97, 112], 2, [(2, 3, 0), (1, 3, 0), (0, 2, 0), (0, 1, 0)]),
  ([105, 115, 119, 97, 112, 100, 103], 2, [(2, 3, 2), (1, 3, 2), (0, 2, 0), (0, 1, 0)])]
def cgI (i : Nat) : List UInt8 × Nat × List T3 := cgl.getD i ([], 0, [])
def cgT (i : Nat) : Nat → T3 := fun j => (cgI i).2.2.getD j (0, 0, 0)
abbrev cgk (i : Nat) : Nat := (cgI i).2.1
/-- Which takes which back. -/
def cgB (i : Nat) : Nat := [0, 2, 1, 3, 4, 5, 6, 8, 7, 10, 9, 11, 12, 13, 14, 16, 15].getD i 0
theorem cgk_is : ∀ i, i < 17 → (cgk i = 1 ∨ cgk i = 2) ∧ cgB i < 17 ∧ cgk (cgB i) = cgk i ∧ cgB (cgB i) = i := by decide
theorem pop4 {w : Nat} (h : w < 4) : pop 64 w = pop 2 w := pop_up (n := 2) h 64 (by decide)
def phi2 (x z x' z' : Nat) : Nat := pop 2 (x &&& z) + pop 2 (x' &&& z') + 2 * pop 2 (z &&& x') + 3 * pop 2 ((x ^^^ x') &&& (z ^^^ z'))
theorem and4 {a b : Nat} (ha : a < 4) : a &&& b < 4 := Nat.lt_of_le_of_lt Nat.and_le_left ha
theorem xor4 {a b : Nat} (ha : a < 4) (hb : b < 4) : a ^^^ b < 4 := Nat.xor_lt_two_pow (n := 2) ha hb
theorem phi_2 {x z x' z' : Nat} (h1 : x < 4) (h2 : z < 4) (h3 : x' < 4) (_ : z' < 4) : phi x z x' z' = phi2 x z x' z' := by
  unfold phi phi2
  rw [pop4 (and4 h1), pop4 (and4 h3), pop4 (and4 h2), pop4 (and4 (xor4 h1 h3))]
/-- The part's turns, computed. -/
def lm2 (a t : T3) : T3 := (a.1 ^^^ t.1, a.2.1 ^^^ t.2.1, (a.2.2 + t.2.2 + phi2 a.1 a.2.1 t.1 t.2.1) % 4)
def lstep2 (T : Nat → T3) (k x z j : Nat) (a : T3) : T3 :=
  if bt z j = 1 then lm2 (if bt x j = 1 then lm2 a (T j) else a) (T (k + j)) else if bt x j = 1 then lm2 a (T j) else a
def lrun2 (T : Nat → T3) (k x z : Nat) (a : T3) : Nat → T3
  | 0 => a
  | j + 1 => lstep2 T k x z j (lrun2 T k x z a j)
def lt2 (T : Nat → T3) (k x z f : Nat) : T3 := lrun2 T k x z (0, 0, (f + pop 2 (x &&& z)) % 4) k
def Sm (a : T3) : Prop := a.1 < 4 ∧ a.2.1 < 4
theorem lm_2 {a t : T3} (ha : Sm a) (ht : Sm t) : lm a t = lm2 a t ∧ Sm (lm2 a t) := by
  refine ⟨?_, xor4 ha.1 ht.1, xor4 ha.2 ht.2⟩
  unfold lm lm2
  rw [mulF_phi, phi_2 ha.1 ha.2 ht.1 ht.2]
theorem lstep_2 {T : Nat → T3} (hT : ∀ j, Sm (T j)) (k x z j : Nat) {a : T3} (ha : Sm a) : lstep T k x z j a = lstep2 T k x z j a ∧ Sm (lstep2 T k x z j a) := by
  unfold lstep lstep2
  split
  · split
    · obtain ⟨e1, s1⟩ := lm_2 ha (hT j)
      rw [e1]
      exact lm_2 s1 (hT (k + j))
    · exact lm_2 ha (hT (k + j))
  · split
    · exact lm_2 ha (hT j)
    · exact ⟨rfl, ha⟩
theorem lrun_2 {T : Nat → T3} (hT : ∀ j, Sm (T j)) (k x z : Nat) {a : T3} (ha : Sm a) : ∀ j, lrun T k x z a j = lrun2 T k x z a j ∧ Sm (lrun2 T k x z a j)
  | 0 => ⟨rfl, ha⟩
  | j + 1 => by
    obtain ⟨e, s⟩ := lrun_2 hT k x z ha j
    show lstep T k x z j (lrun T k x z a j) = lstep2 T k x z j (lrun2 T k x z a j) ∧ _
    rw [e]
    exact lstep_2 hT k x z j s
theorem lt_2 {T : Nat → T3} (hT : ∀ j, Sm (T j)) (k : Nat) {x : Nat} (z f : Nat) (hx : x < 4) : lt T k x z f = lt2 T k x z f ∧ Sm (lt2 T k x z f) := by
  unfold lt lt2
  rw [pop4 (and4 hx)]
  exact lrun_2 hT k x z ⟨by show 0 < 4; omega, by show 0 < 4; omega⟩ k
theorem cgT_sm (i : Nat) (hi : i < 17) : ∀ j, Sm (cgT i j) := fun j => by
  have h : ∀ i, i < 17 → ∀ j, j < 4 → (cgT i j).1 < 4 ∧ (cgT i j).2.1 < 4 := by decide
  by_cases hj : j < 4
  · exact h i hi j hj
  · have h2 : ∀ i, i < 17 → (cgI i).2.2.length ≤ 4 := by decide
    have h3 := h2 i hi
    unfold cgT
    rw [List.getD_eq_getElem?_getD, List.getElem?_eq_none (by omega)]
    exact ⟨by decide, by decide⟩
theorem two_pow4 {i x : Nat} (hi : i < 17) (hx : x < 2 ^ cgk i) : x < 4 := by
  rcases (cgk_is i hi).1 with h | h <;> rw [h] at hx <;> omega
def homB (T : Nat → T3) (k : Nat) : Bool :=
  (List.range (2 ^ k)).all fun x => (List.range (2 ^ k)).all fun z =>
    let A := lt2 T k x z 0
    (decide (A.1 < 2 ^ k) && decide (A.2.1 < 2 ^ k) && A.2.2 % 2 == 0) && (List.range (2 ^ k)).all fun x' => (List.range (2 ^ k)).all fun z' =>
      let B := lt2 T k x' z' 0
      let C := lt2 T k (x ^^^ x') (z ^^^ z') 0
      C.1 == A.1 ^^^ B.1 && (C.2.1 == A.2.1 ^^^ B.2.1 && (C.2.2 + phi2 x z x' z') % 4 == (A.2.2 + B.2.2 + phi2 A.1 A.2.1 B.1 B.2.1) % 4)
theorem homB_all : ∀ i, i < 17 → homB (cgT i) (cgk i) = true := by decide +kernel
def backB (T U : Nat → T3) (k : Nat) : Bool :=
  (List.range (2 ^ k)).all fun x => (List.range (2 ^ k)).all fun z =>
    let A := lt2 T k x z 0
    lt2 U k A.1 A.2.1 A.2.2 == (x, z, 0)
theorem backB_all : ∀ i, i < 17 → backB (cgT i) (cgT (cgB i)) (cgk i) = true := by decide +kernel
theorem all_range {n : Nat} {f : Nat → Bool} (h : (List.range n).all f = true) {x : Nat} (hx : x < n) : f x = true := List.all_eq_true.1 h x (List.mem_range.2 hx)
theorem cg_hom (i : Nat) (hi : i < 17) : Hom (cgT i) (cgk i) := by
  have hS := cgT_sm i hi
  have H := homB_all i hi
  have h4 : ∀ x, x < 2 ^ cgk i → x < 4 := fun x => two_pow4 hi
  unfold homB at H
  refine ⟨fun x z x' z' hx hz hx' hz' => ?_, fun x z hx hz => ?_⟩
  · have h := all_range (all_range H hx) hz
    simp only [Bool.and_eq_true, beq_iff_eq, decide_eq_true_eq] at h
    have h := all_range (all_range h.2 hx') hz'
    simp only [Bool.and_eq_true, beq_iff_eq] at h
    obtain ⟨e1, s1⟩ := lt_2 hS (cgk i) z 0 (h4 x hx)
    obtain ⟨e2, s2⟩ := lt_2 hS (cgk i) z' 0 (h4 x' hx')
    obtain ⟨e3, s3⟩ := lt_2 hS (cgk i) (z ^^^ z') 0 (xor4 (h4 x hx) (h4 x' hx'))
    rw [e1, e2, e3, phi_2 (h4 x hx) (h4 z hz) (h4 x' hx') (h4 z' hz'), phi_2 s1.1 s1.2 s2.1 s2.2]
    exact h
  · have h := all_range (all_range H hx) hz
    simp only [Bool.and_eq_true, beq_iff_eq, decide_eq_true_eq] at h
    obtain ⟨e1, s1⟩ := lt_2 hS (cgk i) z 0 (h4 x hx)
    rw [e1]
    exact ⟨h.1.1.1, h.1.1.2, h.1.2⟩
theorem cg_back (i : Nat) (hi : i < 17) : Back (cgT i) (cgT (cgB i)) (cgk i) := by
  have hS := cgT_sm i hi
  have hS' := cgT_sm (cgB i) (cgk_is i hi).2.1
  have H := backB_all i hi
  have h4 : ∀ x, x < 2 ^ cgk i → x < 4 := fun x => two_pow4 hi
  intro x z hx hz
  have h := all_range (all_range H hx) hz
  simp only [beq_iff_eq] at h
  obtain ⟨e1, s1⟩ := lt_2 hS (cgk i) z 0 (h4 x hx)
  rw [e1, (lt_2 hS' (cgk i) _ _ s1.1).1]
  exact h
end Go.Proofs.Ytoddbaljnlhhaab.PL
