/-
  The matrix that a circuit's operations tell.
-/
import Derived.Test.YtinkdonaedoojaaF1
import Derived.Test.YtinkdonaedoojaaCD2
namespace Go.Proofs.Ytinkdonaedoojaa
open Go.RowKit

/-- A gate that the matrix can tell; its qubits; what it does to the rows. -/
def kB (o : CL.Oq) : Bool := (o.k == 1) && !o.f && ((o.n.toList == [99, 120]) || (o.n.toList == [115, 119, 97, 112]))
def qa (o : CL.Oq) : Nat := (o.qs.getD 0 0).toNat
def qb (o : CL.Oq) : Nat := (o.qs.getD 1 0).toNat
def tn (o : CL.Oq) (f : Nat → Nat) : Nat → Nat := if (o.n.toList == [99, 120]) = true then up f (qb o) (f (qb o) ^^^ f (qa o)) else swp f (qa o) (qb o)
def frF : List CL.Oq → (Nat → Nat) → Option (Nat → Nat)
  | [], f => some f
  | o :: l, f => if kB o = true then frF l (tn o f) else none
theorem fr_drop {l : List CL.Oq} {k : Nat} {f : Nat → Nat} (hk : k < l.length) : frF (l.drop k) f = if kB l[k] = true then frF (l.drop (k + 1)) (tn l[k] f) else none := by
  rw [List.drop_eq_getElem_cons hk]
  rfl
/-- The matrix and the error that a circuit tells. -/
def frG (q : Int) : Option (Nat → Nat) → Int × Nat × (Nat → Nat) × Int
  | none => (0, 0, fun _ => 0, 120)
  | some f => (q, q.toNat, f, 0)
def frE (E : Nat) : Int × Nat × (Nat → Nat) × Int := (0, 0, fun _ => 0, (E : Int))
def frR (c : CL.Ci) : Int × Nat × (Nat → Nat) × Int := if (CL.lk c).2.2 ≠ 0 then frE (CL.lk c).2.2 else frG c.q (frF c.ops (fun i => 2 ^ i))
theorem nm_of {s : ByteArray} {l : List UInt8} (h : (s.toList == l) = true) : s = ⟨l.toArray⟩ := by
  have h2 : s.toList = l := by simpa using h
  rw [ByteArray.toList_eq] at h2
  obtain ⟨⟨d⟩⟩ := s
  have h3 : d = l := h2
  rw [h3]
theorem kb_name {o : CL.Oq} (h : kB o = true) : o.k = 1 ∧ o.f = false ∧ (o.n = cxN ∨ ((o.n.toList == [99, 120]) = false ∧ o.n = swN)) := by
  unfold kB at h
  simp only [Bool.and_eq_true] at h
  obtain ⟨⟨h1, h2⟩, h3⟩ := h
  refine ⟨by simpa using h1, by simpa using h2, ?_⟩
  cases e : (o.n.toList == [99, 120])
  · rw [e, Bool.false_or] at h3
    exact .inr ⟨rfl, nm_of h3⟩
  · exact .inl (nm_of e)
structure Tw (o : CL.Oq) (n : Nat) : Prop where
  qs : o.qs = [(qa o : Int), (qb o : Int)]
  a : qa o < n
  b : qb o < n
theorem tw_of {o : CL.Oq} {q : Int} {b : Nat} (h : CL.opE o q b (CL.opN o) = 0) (hk : kB o = true) : Tw o q.toNat := by
  obtain ⟨h1, h2, h3⟩ := kb_name hk
  have hN : CL.opN o = 2 := by
    unfold CL.opN
    rw [if_pos h1]
    rcases h3 with e | ⟨_, e⟩
    · rw [e]; decide +kernel
    · rw [e]; decide +kernel
  rw [hN] at h
  unfold CL.opE at h
  by_cases c1 : CL.rfB o = false ∨ CL.rcB o b = false
  · rw [if_pos c1] at h; omega
  rw [if_neg c1, if_neg (by decide)] at h
  by_cases c2 : o.qs.length ≠ 2
  · rw [if_pos c2] at h; omega
  rw [if_neg c2] at h
  by_cases c3 : CL.rnB o q b = false
  · rw [if_pos c3] at h; omega
  have c4 : CL.rnB o q b = true := by simpa using c3
  have c5 : CL.inB q o.qs = true := by
    unfold CL.rnB at c4
    rw [Bool.and_eq_true] at c4
    exact c4.1
  have c6 : o.qs.length = 2 := by omega
  match hq : o.qs, c6 with
  | [x, y], _ =>
    rw [hq] at c5
    unfold CL.inB at c5
    simp at c5
    have ea : qa o = x.toNat := by unfold qa; rw [hq]; rfl
    have eb : qb o = y.toNat := by unfold qb; rw [hq]; rfl
    exact ⟨by rw [hq, ea, eb, Int.toNat_of_nonneg c5.1.1, Int.toNat_of_nonneg c5.2.1], by rw [ea]; omega, by rw [eb]; omega⟩
theorem lkF_ok {q : Int} {b : Nat} : ∀ (l : List CL.Oq) (k h : Nat), (CL.lkF q b l k h).2.2 = 0 → ∀ o ∈ l, CL.opE o q b (CL.opN o) = 0
  | [], _, _, _, o, ho => by cases ho
  | p :: l, k, h, e, o, ho => by
    unfold CL.lkF at e
    by_cases c1 : CL.opE p q b (CL.opN p) ≠ 0
    · rw [if_pos c1] at e; exact absurd e c1
    rw [if_neg c1] at e
    by_cases c2 : 36 < h + CL.opH p
    · rw [if_pos c2] at e; simp at e
    rw [if_neg c2] at e
    rcases List.mem_cons.1 ho with rfl | ho
    · omega
    · exact lkF_ok l _ _ e o ho
/-- What Check tells of a circuit without a fault. -/
theorem lk_ok {c : CL.Ci} (h : (CL.lk c).2.2 = 0) : 0 ≤ c.q ∧ c.q ≤ 64 ∧ ∀ o ∈ c.ops, kB o = true → Tw o c.q.toNat := by
  unfold CL.lk at h
  by_cases c1 : CL.badB c = true
  · rw [if_pos c1] at h; simp at h
  rw [if_neg c1] at h
  by_cases c2 : 4096 < c.ops.length
  · rw [if_pos c2] at h; simp at h
  rw [if_neg c2] at h
  have c3 : ¬ CL.badC c := fun g => c1 ((CL.bad_iff c).2 g)
  unfold CL.badC at c3
  exact ⟨by omega, by omega, fun o ho hk => tw_of (lkF_ok _ _ _ h o ho) hk⟩
theorem tn_cx {o : CL.Oq} (h : o.n = cxN) (f : Nat → Nat) : tn o f = up f (qb o) (f (qb o) ^^^ f (qa o)) := by
  unfold tn
  rw [if_pos (by rw [h]; decide +kernel)]
theorem tn_sw {o : CL.Oq} (h : (o.n.toList == [99, 120]) = false) (f : Nat → Nat) : tn o f = swp f (qa o) (qb o) := by
  unfold tn
  rw [if_neg (by rw [h]; decide)]
/-- One operation. -/
theorem turn_any (n g cr : Nat) (f : Nat → Nat) (o : CL.Oq) (a : Option Addr) (c : Nat) (w : World) (H : OR w g n f) (hq : CL.QS w a c o.qs) (hk : kB o = true) (ht : Tw o n) :
    Calls Try.prog 36 #[.slice (some ⟨g, 0, none⟩) n cr, CL.opv o a c] w fun e w' => e = .returned (.bool true) ∧ OR w' g n (tn o f) ∧ G2 g g w w' := by
  obtain ⟨h1, h2, h3⟩ := kb_name hk
  have hl : o.qs.length = 2 := by rw [ht.qs]; rfl
  obtain ⟨bq, oq, rfl, r⟩ := hq.at_ 0 (by omega)
  have r0 := r.c 0 (by omega)
  have r1 := r.c 1 (by omega)
  have e0 : o.qs[0]'(by omega) = (qa o : Int) := by
    have := congrArg (fun l => l.getD 0 0) ht.qs
    simpa [List.getD, List.getElem?_eq_getElem (show 0 < o.qs.length by omega)] using this
  have e1 : o.qs[1]'(by omega) = (qb o : Int) := by
    have := congrArg (fun l => l.getD 1 0) ht.qs
    simpa [List.getD, List.getElem?_eq_getElem (show 1 < o.qs.length by omega)] using this
  rw [e0, Nat.add_zero] at r0
  rw [e1] at r1
  show Calls Try.prog 36 #[.slice (some ⟨g, 0, none⟩) n cr, .agg (ocs o.k o.n (some ⟨bq, oq, none⟩) o.qs.length c o.b o.f o.m o.v)] w _
  rw [hl, h1, h2]
  rcases h3 with e | ⟨e, e2⟩
  · rw [tn_cx e, e]
    exact turn_cx n g cr bq oq c (qa o) (qb o) f o.b o.m o.v w H r0 r1 r.lt ht.a ht.b
  · rw [tn_sw e, e2]
    exact turn_sw n g cr bq oq c (qa o) (qb o) f o.b o.m o.v w H r0 r1 r.lt ht.a ht.b
theorem turn_none (o : CL.Oq) (a : Option Addr) (c : Nat) (v0 : Value) (w : World) (hk : ¬ kB o = true) :
    Calls Try.prog 36 #[v0, CL.opv o a c] w fun e w' => e = .returned (.bool false) ∧ Below w.heap.size w w' := by
  refine turn_no o.k o.n a o.qs.length c o.b o.f o.m o.v v0 w ?_
  unfold kB at hk
  by_cases c1 : o.k = 1
  · cases hf : o.f
    · right; right
      rw [c1, hf] at hk
      simp at hk
      refine ⟨?_, ?_⟩ <;> simp [hk]
    · right; left; rfl
  · left; simpa using c1
end Go.Proofs.Ytinkdonaedoojaa
