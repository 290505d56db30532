/-
  Rows that are handed in, opened.
-/
import Derived.Test.YtiepbfeliehjnaaDoorB6
import Derived.ProofKit
import Derived.OpenShut
import Derived.Carry
import Derived.ChangeMaps5
import Derived.Deep.Strs
import Derived.Deep.Fields
namespace Go.Proofs.YtiepbfeliehjnaaDoor
open Go.ChangeShapes Go.WideShapes Go.ChangeAt Go.ChangeMaps Go.RowKit Go.Sort

theorem Tryd.cells45 : Tryd.prog.cellsOf 45 = 6 := by kernel_rfl
theorem Tryd.cells61 : Tryd.prog.cellsOf 61 = 2 := by kernel_rfl
section
variable {H : Type} {enc : TypeId × Value → H} {W : World}
theorem trod_fields {ts : TypeId} {fs : Array Field} {fuel : Nat} {cs : List Value} {x : DataW H × List MemPlace} (hs : Tryd.prog.underlying ts = some (.struct fs))
    (hone : ∀ (i : Nat) (f : Field), fs[i]? = some f → f.offset = i ∧ Tryd.prog.cellsOf f.type = 1) (hC : Tryd.prog.cellsOf ts = fs.size) (h : DataW.trod enc Tryd.prog W 0 (fun _ => true) true fuel ts cs = some x) :
    cs.length = fs.size ∧ ∃ (n : Nat) (Y : Nat → DataW H × List MemPlace), ∀ (i : Nat) (f : Field), fs[i]? = some f → DataW.trod enc Tryd.prog W 0 (fun _ => true) true n f.type [cs.getD i undef] = some (Y i) := by
  obtain ⟨xs, n, _, rfl, hlen, hxl, hf⟩ := DataW.trod_struct hs h
  rw [hC] at hlen
  refine ⟨hlen, n, fun i => xs.getD i (.nil, []), fun i f hi => ?_⟩
  have hlt : i < fs.size := (Array.getElem?_eq_some_iff.1 hi).1
  obtain ⟨ho, hc1⟩ := hone i f hi
  have g := hf i f hi
  rw [ho, hc1, Go.Deep.take1_drop cs i undef (by omega), List.getElem?_eq_getElem (by omega)] at g
  rw [g]
  simp [List.getD, List.getElem?_eq_getElem (show i < xs.length by omega)]
theorem arg_of_trod {fuel : Nat} {cs : List Value} {x : DataW H × List MemPlace} (h : DataW.trod enc Tryd.prog W 0 (fun _ => true) true fuel 61 cs = some x) :
    ∃ t : Ar, cs = arc t ∧ t.n.size ≤ 9223372036854775807 := by
  obtain ⟨hlen, n, Y, hY⟩ := trod_fields Tryd.underlying61 (Go.Deep.hone_of (by kernel_rfl)) Tryd.cells61 h
  match cs, hlen with
  | [v0, v1], _ =>
    obtain ⟨x0, e0, _, hz⟩ := DataW.trod_string Tryd.underlying9 (hY 0 _ rfl)
    obtain ⟨x1, e1, _, _⟩ := DataW.trod_int Tryd.underlying3 (hY 1 _ rfl)
    simp at e0 e1
    subst e0 e1
    exact ⟨⟨x0, x1⟩, rfl, hz⟩
theorem args_of_trod {fuel : Nat} {cs : List Value} {x : DataW H × List MemPlace} (h : DataW.trod enc Tryd.prog W 0 (fun _ => true) true fuel 43 cs = some x) :
    ∃ (v : Value) (l : List Ar), cs = [v] ∧ SA W v l ∧ l.length ≤ 9223372036854775807 ∧ ∀ a ∈ l, a.n.size ≤ 9223372036854775807 := by
  rcases Go.Deep.open_slice Tryd.underlying43 h with ⟨rfl, _⟩ | ⟨a, len, cap, m, n, D, Pl, rfl, _, hl, hm, hmm, hx, hcell⟩
  · exact ⟨_, [], rfl, ⟨none, 0, rfl, Nat.le_refl _, fun k hk => absurd hk (Nat.not_lt_zero _)⟩, Nat.zero_le _, fun a ha => by cases ha⟩
  · simp only [if_true] at hmm
    unfold maxLen at hm
    rw [Tryd.cells61] at hcell
    have each : ∀ i, i < len → ∃ t : Ar, (∀ j, j < 2 → W.cell? (a.add (i * 2 + j)) = (arc t)[j]?) ∧ t.n.size ≤ 9223372036854775807 := by
      intro i hi
      obtain ⟨cs', h1, h2⟩ := hcell i (by omega)
      obtain ⟨_, hlen, hc⟩ := World.cells?_some h1
      obtain ⟨t, rfl, hf⟩ := arg_of_trod h2
      refine ⟨t, fun j hj => ?_, hf⟩
      have e0 := hc j hj
      rw [Go.Deep.add_add] at e0
      exact e0
    haveI : Inhabited Ar := ⟨⟨⟨#[]⟩, 0⟩⟩
    obtain ⟨T, hT⟩ := Go.Deep.choose_lt each
    have hln : ((List.range len).map T).length = len := by simp
    refine ⟨_, (List.range len).map T, rfl, ⟨some a, cap, by rw [hln], by omega, fun k hk => ?_⟩, by omega, fun x hx => ?_⟩
    · rw [hln] at hk
      obtain ⟨b, off, spot⟩ := a
      have h00 := (hT 0 (by omega)).1 0 (by omega)
      have hspot : spot = none := by simpa [Addr.add] using World.cell?_spot h00
      subst hspot
      have get : ∀ j d, j < len → d < 2 → W.cell? ⟨b, off + (j * 2 + d), none⟩ = (arc (T j))[d]? := fun j d hj hd => by
        have := (hT j hj).1 d hd
        rwa [add_plain] at this
      refine ⟨b, off, rfl, fun j hj => ?_, fun j hj => ?_, ?_⟩
      · rw [hln] at hj; have := get j 0 hj (by omega); simpa [Nat.add_assoc] using this
      · rw [hln] at hj; have := get j 1 hj (by omega); simpa [Nat.add_assoc] using this
      · exact World.block_lt_of_cell? W _ (get 0 0 (by omega) (by omega))
    · obtain ⟨i, hi, rfl⟩ := List.mem_map.1 hx
      exact (hT i (by simpa using hi)).2
theorem row_of_trod {fuel : Nat} {cs : List Value} {x : DataW H × List MemPlace} (h : DataW.trod enc Tryd.prog W 0 (fun _ => true) true fuel 45 cs = some x) :
    ∃ t : Rw × Value, cs = rwc t.1 t.2 ∧ SA W t.2 t.1.args ∧ t.1.name.size ≤ 9223372036854775807 ∧ t.1.args.length ≤ 9223372036854775807 ∧ ∀ a ∈ t.1.args, a.n.size ≤ 9223372036854775807 := by
  obtain ⟨hlen, n, Y, hY⟩ := trod_fields Tryd.underlying45 (Go.Deep.hone_of (by kernel_rfl)) Tryd.cells45 h
  match cs, hlen with
  | [v0, v1, v2, v3, v4, v5], _ =>
    obtain ⟨x0, e0, _, _⟩ := DataW.trod_string Tryd.underlying9 (hY 0 _ rfl)
    obtain ⟨x1, e1, _, hz⟩ := DataW.trod_string Tryd.underlying9 (hY 1 _ rfl)
    obtain ⟨v, l, e2, hq, hl, hlz⟩ := args_of_trod (hY 2 _ rfl)
    obtain ⟨x3, e3, _, _⟩ := DataW.trod_int Tryd.underlying3 (hY 3 _ rfl)
    obtain ⟨x4, e4, _, _⟩ := DataW.trod_int Tryd.underlying3 (hY 4 _ rfl)
    obtain ⟨x5, e5, _, _⟩ := DataW.trod_int Tryd.underlying3 (hY 5 _ rfl)
    simp at e0 e1 e2 e3 e4 e5
    subst e0 e1 e2 e3 e4 e5
    exact ⟨⟨⟨x0, x1, l, x3, x4, x5⟩, v2⟩, rfl, hq, hz, hl, hlz⟩
set_option maxRecDepth 100000 in
theorem rows_of_trod {base : Nat} {v : Value} {d : DataW H} {p : List MemPlace} (hval : Value.okWide Tryd.prog W .any base 23 v) (h : DataW.Trod enc Tryd.prog W 0 (fun _ => true) true 23 v d p) :
    ∃ rs : List Rw, SR W v rs ∧ rs.length ≤ 9223372036854775807 ∧ Szs rs := by
  obtain ⟨a0, len, cap, rfl⟩ := okWide_slice Tryd.underlying23 hval
  obtain ⟨fuel, hf⟩ := h
  rcases Go.Deep.open_slice Tryd.underlying23 hf with ⟨hcs, hx⟩ | ⟨a, len', cap', m, n, D, Pl, hcs, _, hl, hm, hmm, hx, hcell⟩
  · simp [Value.cells] at hcs
    obtain ⟨rfl, rfl, rfl⟩ := hcs
    exact ⟨[], ⟨none, 0, [], rfl, Nat.le_refl _, rfl, fun k hk => absurd hk (Nat.not_lt_zero _), fun k hk => absurd hk (Nat.not_lt_zero _)⟩, Nat.zero_le _, fun r hr => by cases hr⟩
  · simp [Value.cells] at hcs
    obtain ⟨rfl, rfl, rfl⟩ := hcs
    simp only [if_true] at hmm
    unfold maxLen at hm
    rw [Tryd.cells45] at hcell
    have each : ∀ i, i < len → ∃ t : Rw × Value, (∀ j, j < 6 → W.cell? (a.add (i * 6 + j)) = (rwc t.1 t.2)[j]?) ∧ SA W t.2 t.1.args ∧ t.1.name.size ≤ 9223372036854775807 ∧ t.1.args.length ≤ 9223372036854775807 ∧ ∀ a ∈ t.1.args, a.n.size ≤ 9223372036854775807 := by
      intro i hi
      obtain ⟨cs', h1, h2⟩ := hcell i (by omega)
      obtain ⟨_, hlen, hc⟩ := World.cells?_some h1
      obtain ⟨t, rfl, hf⟩ := row_of_trod h2
      refine ⟨t, fun j hj => ?_, hf⟩
      have e0 := hc j hj
      rw [Go.Deep.add_add] at e0
      exact e0
    haveI : Inhabited (Rw × Value) := ⟨⟨⟨⟨#[]⟩, ⟨#[]⟩, [], 0, 0, 0⟩, undef⟩⟩
    obtain ⟨T, hT⟩ := Go.Deep.choose_lt each
    have hln : ((List.range len).map fun i => (T i).1).length = len := by simp
    refine ⟨(List.range len).map fun i => (T i).1, ⟨some a, cap, (List.range len).map fun i => (T i).2, by rw [hln], by omega, by simp, fun k hk hk' => ?_, fun k hk => ?_⟩, by omega, fun r hr => ?_⟩
    · rw [hln] at hk
      simpa using (hT k hk).2.1
    · rw [hln] at hk
      obtain ⟨b, off, spot⟩ := a
      have h00 := (hT 0 (by omega)).1 0 (by omega)
      have hspot : spot = none := by simpa [Addr.add] using World.cell?_spot h00
      subst hspot
      have get : ∀ j d, j < len → d < 6 → W.cell? ⟨b, off + (j * 6 + d), none⟩ = (rwc (T j).1 (T j).2)[d]? := fun j d hj hd => by
        have := (hT j hj).1 d hd
        rwa [add_plain] at this
      refine ⟨b, off, rfl, fun j hj => ?_, fun j hj => ?_, fun j hj hj' => ?_, fun j hj => ?_, fun j hj => ?_, fun j hj => ?_, ?_⟩
      · rw [hln] at hj; have := get j 0 hj (by omega); simpa [Nat.add_assoc] using this
      · rw [hln] at hj; have := get j 1 hj (by omega); simpa [Nat.add_assoc] using this
      · rw [hln] at hj; have := get j 2 hj (by omega); simpa [Nat.add_assoc] using this
      · rw [hln] at hj; have := get j 3 hj (by omega); simpa [Nat.add_assoc] using this
      · rw [hln] at hj; have := get j 4 hj (by omega); simpa [Nat.add_assoc] using this
      · rw [hln] at hj; have := get j 5 hj (by omega); simpa [Nat.add_assoc] using this
      · exact World.block_lt_of_cell? W _ (get 0 0 (by omega) (by omega))
    · obtain ⟨i, hi, rfl⟩ := List.mem_map.1 hr
      exact (hT i (by simpa using hi)).2.2
end
end Go.Proofs.YtiepbfeliehjnaaDoor
