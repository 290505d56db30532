/-
  Circuits that are handed in, opened.
-/
import Derived.Test.YtinkdonaedoojaaRow0
import Derived.Test.YtinkdonaedoojaaCB1
namespace Go.Proofs.Ytinkdonaedoojaa.CL
open Go.ChangeShapes Go.WideShapes Go.ChangeAt Go.ChangeMaps Go.RowKit Go.Sort

theorem Try.cells58 : Try.prog.cellsOf 58 = 7 := by kernel_rfl
theorem Try.cells50 : Try.prog.cellsOf 50 = 3 := by kernel_rfl
theorem Try.cells3 : Try.prog.cellsOf 3 = 1 := by kernel_rfl
section
variable {H : Type} {enc : TypeId × Value → H} {W : World}
theorem ints_of_trod {fuel : Nat} {cs : List Value} {x : DataW H × List MemPlace} (h : DataW.trod enc Try.prog W 0 (fun _ => true) true fuel 56 cs = some x) :
    ∃ (a : Option Addr) (c : Nat) (l : List Int), cs = [.slice a l.length c] ∧ QS W a c l ∧ l.length ≤ 9223372036854775807 := by
  rcases open_ints Try.underlying56 Try.underlying3 Try.cells3 h with ⟨rfl, _⟩ | ⟨a, len, cap, zs, rfl, _, hl, hm, hz, _, hc, _⟩
  · exact ⟨none, 0, [], rfl, ⟨Nat.le_refl _, fun k hk => absurd hk (Nat.not_lt_zero _)⟩, Nat.zero_le _⟩
  · simp only [if_true] at hz
    unfold maxLen at hm
    have hlen : (zs.take len).length = len := by rw [List.length_take]; omega
    refine ⟨some a, cap, zs.take len, by rw [hlen], ⟨by omega, fun k hk => ?_⟩, by omega⟩
    obtain ⟨b, off, spot⟩ := a
    have hspot : spot = none := by simpa [Addr.add] using World.cell?_spot (hc 0 (by omega))
    subst hspot
    refine ⟨b, off, rfl, fun j hj => ?_, ?_⟩
    · have := hc j (by omega)
      rw [add_plain] at this
      rw [this, List.getElem_take]
      simp [List.getD, List.getElem?_eq_getElem (show j < zs.length by omega)]
    · have := World.block_lt_of_cell? W _ (hc 0 (by omega))
      rw [add_plain] at this
      exact this
theorem op_of_trod {fuel : Nat} {cs : List Value} {x : DataW H × List MemPlace} (h : DataW.trod enc Try.prog W 0 (fun _ => true) true fuel 58 cs = some x) :
    ∃ t : Oq × Option Addr × Nat, cs = opc t.1 t.2.1 t.2.2 ∧ QS W t.2.1 t.2.2 t.1.qs ∧ Fit t.1 := by
  obtain ⟨hlen, n, Y, hY⟩ := trod_fields Try.underlying58 (Go.Deep.hone_of (by kernel_rfl)) Try.cells58 h
  match cs, hlen with
  | [v0, v1, v2, v3, v4, v5, v6], _ =>
    obtain ⟨x0, e0, _, _⟩ := DataW.trod_int Try.underlying3 (hY 0 _ rfl)
    obtain ⟨x1, e1, _, _⟩ := DataW.trod_string Try.underlying9 (hY 1 _ rfl)
    obtain ⟨a, c, l, e2, hq, hl⟩ := ints_of_trod (hY 2 _ rfl)
    obtain ⟨x3, e3, _, _⟩ := DataW.trod_int Try.underlying3 (hY 3 _ rfl)
    obtain ⟨x4, e4, _⟩ := DataW.trod_bool Try.underlying4 (hY 4 _ rfl)
    obtain ⟨x5, e5, _, w5⟩ := DataW.trod_int Try.underlying25 (hY 5 _ rfl)
    obtain ⟨x6, e6, _, w6⟩ := DataW.trod_int Try.underlying25 (hY 6 _ rfl)
    simp at e0 e1 e2 e3 e4 e5 e6
    subst e0 e1 e2 e3 e4 e5 e6
    exact ⟨⟨⟨x0, x1, l, x3, x4, x5, x6⟩, a, c⟩, rfl, hq, (wf_u64 w5).1, (wf_u64 w5).2, (wf_u64 w6).1, (wf_u64 w6).2, hl⟩
theorem ops_of_trod {fuel : Nat} {cs : List Value} {x : DataW H × List MemPlace} (h : DataW.trod enc Try.prog W 0 (fun _ => true) true fuel 48 cs = some x) :
    ∃ (a : Option Addr) (c : Nat) (os : List Oq) (A : Nat → Option Addr) (C : Nat → Nat), cs = [.slice a os.length c] ∧ OS W a c os A C := by
  rcases Go.Deep.open_slice Try.underlying48 h with ⟨rfl, _⟩ | ⟨a, len, cap, m, n, D, Pl, rfl, _, hl, hm, hmm, hx, hcell⟩
  · exact ⟨none, 0, [], fun _ => none, fun _ => 0, rfl, Nat.le_refl _, fun k hk => absurd hk (Nat.not_lt_zero _), fun k hk => absurd hk (Nat.not_lt_zero _), fun k hk => absurd hk (Nat.not_lt_zero _), Nat.zero_le _⟩
  · simp only [if_true] at hmm
    unfold maxLen at hm
    rw [Try.cells58] at hcell
    have each : ∀ i, i < len → ∃ t : Oq × Option Addr × Nat, (∀ j, j < 7 → W.cell? (a.add (i * 7 + j)) = (opc t.1 t.2.1 t.2.2)[j]?) ∧ QS W t.2.1 t.2.2 t.1.qs ∧ Fit t.1 := by
      intro i hi
      obtain ⟨cs', h1, h2⟩ := hcell i (by omega)
      obtain ⟨_, hlen, hc⟩ := World.cells?_some h1
      obtain ⟨t, rfl, hq, hf⟩ := op_of_trod h2
      refine ⟨t, fun j hj => ?_, hq, hf⟩
      have e0 := hc j hj
      rw [Go.Deep.add_add] at e0
      exact e0
    haveI : Inhabited (Oq × Option Addr × Nat) := ⟨⟨⟨0, ⟨#[]⟩, [], 0, false, 0, 0⟩, none, 0⟩⟩
    obtain ⟨T, hT⟩ := Go.Deep.choose_lt each
    have hln : ((List.range len).map fun i => (T i).1).length = len := by simp
    refine ⟨some a, cap, (List.range len).map fun i => (T i).1, fun i => (T i).2.1, fun i => (T i).2.2, by rw [hln], by omega, fun k hk => ?_, fun k hk => ?_, fun k hk => ?_, by omega⟩
    · rw [hln] at hk
      simpa using (hT k hk).2.1
    · rw [hln] at hk
      obtain ⟨b, off, spot⟩ := a
      have h00 := (hT 0 (by omega)).1 0 (by omega)
      have hspot : spot = none := by simpa [Addr.add] using World.cell?_spot h00
      subst hspot
      have get : ∀ j d, j < len → d < 7 → W.cell? ⟨b, off + (j * 7 + d), none⟩ = (opc (T j).1 (T j).2.1 (T j).2.2)[d]? := fun j d hj hd => by
        have := (hT j hj).1 d hd
        rwa [add_plain] at this
      refine ⟨b, off, rfl, fun j hj => ?_, fun j hj => ?_, fun j hj => ?_, fun j hj => ?_, fun j hj => ?_, fun j hj => ?_, fun j hj => ?_, ?_⟩
      · rw [hln] at hj; have := get j 0 hj (by omega); simpa [Nat.add_assoc] using this
      · rw [hln] at hj; have := get j 1 hj (by omega); simpa [Nat.add_assoc] using this
      · rw [hln] at hj; have := get j 2 hj (by omega); simpa [Nat.add_assoc] using this
      · rw [hln] at hj; have := get j 3 hj (by omega); simpa [Nat.add_assoc] using this
      · rw [hln] at hj; have := get j 4 hj (by omega); simpa [Nat.add_assoc] using this
      · rw [hln] at hj; have := get j 5 hj (by omega); simpa [Nat.add_assoc] using this
      · rw [hln] at hj; have := get j 6 hj (by omega); simpa [Nat.add_assoc] using this
      · have := World.block_lt_of_cell? W _ (get 0 0 (by omega) (by omega))
        exact this
    · rw [hln] at hk
      simpa using (hT k hk).2.2
set_option maxRecDepth 100000 in
theorem circ_of_trod {base : Nat} {v : Value} {d : DataW H} {p : List MemPlace} (hval : Value.okWide Try.prog W .any base 50 v) (h : DataW.Trod enc Try.prog W 0 (fun _ => true) true 50 v d p) :
    ∃ (c : Ci) (a : Option Addr) (cp : Nat) (A : Nat → Option Addr) (C : Nat → Nat), v = civ c a cp ∧ OS W a cp c.ops A C := by
  obtain ⟨cs, rfl, hsz⟩ := okWide_struct Try.underlying50 hval
  obtain ⟨fuel, hf⟩ := h
  obtain ⟨hlen, n, Y, hY⟩ := trod_fields Try.underlying50 (Go.Deep.hone_of (by kernel_rfl)) Try.cells50 hf
  obtain ⟨cs⟩ := cs
  match cs, hlen with
  | [v0, v1, v2], _ =>
    obtain ⟨x0, e0, _, _⟩ := DataW.trod_int Try.underlying3 (hY 0 _ rfl)
    obtain ⟨x1, e1, _, _⟩ := DataW.trod_int Try.underlying3 (hY 1 _ rfl)
    obtain ⟨a, c, os, A, C, e2, hO⟩ := ops_of_trod (hY 2 _ rfl)
    simp [Value.cells] at e0 e1 e2
    subst e0 e1 e2
    exact ⟨⟨x0, x1, os⟩, a, c, A, C, rfl, hO⟩
end
end Go.Proofs.Ytinkdonaedoojaa.CL
