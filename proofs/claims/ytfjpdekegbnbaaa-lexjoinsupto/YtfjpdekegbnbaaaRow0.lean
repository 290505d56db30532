/-
  A list of tokens that is handed in, opened.
-/
import Derived.Test.YtfjpdekegbnbaaaC2
import Derived.ProofKit
import Derived.OpenShut
import Derived.Carry
import Derived.ChangeMaps5
import Derived.Deep.Strs
namespace Go.Proofs.Ytfjpdekegbnbaaa
open Go.ChangeShapes Go.WideShapes Go.ChangeAt Go.ChangeMaps Go.RowKit Go.Sort

theorem Try.laidOut : laidOutB Try.prog = true := by kernel_rfl
theorem Try.cells31 : Try.prog.cellsOf 31 = 3 := by kernel_rfl
theorem Try.cells3 : Try.prog.cellsOf 3 = 1 := by kernel_rfl
theorem Try.cells9 : Try.prog.cellsOf 9 = 1 := by kernel_rfl
theorem toks_of_trod {H : Type} {enc : TypeId × Value → H} {W : World} {base : Nat} {v : Value} {d : DataW H} {p : List MemPlace}
    (hval : Value.okWide Try.prog W .any base 23 v) (h : DataW.Trod enc Try.prog W 0 (fun _ => true) true 23 v d p) :
    ∃ l : List Tk, SF W v l ∧ l.length ≤ 9223372036854775807 ∧ ∀ k (h : k < l.length), l[k].t.size ≤ 9223372036854775807 := by
  obtain ⟨a0, len, cap, rfl⟩ := okWide_slice Try.underlying23 hval
  obtain ⟨fuel, hf⟩ := h
  rcases Go.Deep.open_slice Try.underlying23 hf with ⟨hcs, hx⟩ | ⟨a, len', cap', m, n, D, Pl, hcs, _, hl, hm, hmm, hx, hcell⟩
  · simp [Value.cells] at hcs
    obtain ⟨rfl, rfl, rfl⟩ := hcs
    exact ⟨[], ⟨none, 0, rfl, Nat.le_refl _, fun k hk => absurd hk (Nat.not_lt_zero _)⟩, Nat.zero_le _, fun k hk => absurd hk (Nat.not_lt_zero _)⟩
  · simp [Value.cells] at hcs
    obtain ⟨rfl, rfl, rfl⟩ := hcs
    simp only [if_true] at hmm
    unfold maxLen at hm
    rw [Try.cells31] at hcell
    have each : ∀ i, i < len → ∃ t : Tk, W.cell? (a.add (i * 3)) = some (.int .i64 t.k) ∧ W.cell? (a.add (i * 3 + 1)) = some (.string t.t) ∧ W.cell? (a.add (i * 3 + 2)) = some (.int .i64 t.p) ∧ t.t.size ≤ 9223372036854775807 := by
      intro i hi
      obtain ⟨cs', h1, h2⟩ := hcell i (by omega)
      obtain ⟨_, hlen, hc⟩ := World.cells?_some h1
      obtain ⟨y0, y1, y2, n', _, _, g0, g1, g2⟩ := Go.Deep.trod_struct3 Try.underlying31 h2
      match cs', hlen with
      | [v0, v1, v2], _ =>
        simp [Try.cells3, Try.cells9] at g0 g1 g2
        obtain ⟨x, ex, _, _⟩ := DataW.trod_int Try.underlying3 g0
        obtain ⟨z, ez, _, hz⟩ := DataW.trod_string Try.underlying9 g1
        obtain ⟨y, ey, _, _⟩ := DataW.trod_int Try.underlying3 g2
        simp at ex ez ey
        subst ex ez ey
        have e0 := hc 0 (by omega)
        have e1 := hc 1 (by omega)
        have e2 := hc 2 (by omega)
        rw [Go.Deep.add_add] at e0 e1 e2
        exact ⟨⟨x, z, y⟩, by simpa using e0, by simpa using e1, by simpa using e2, hz⟩
    haveI : Inhabited Tk := ⟨⟨0, ⟨#[]⟩, 0⟩⟩
    obtain ⟨T, hT⟩ := Go.Deep.choose_lt each
    refine ⟨(List.range len).map T, ⟨some a, cap, by simp, by simpa using hl, fun k hk => ?_⟩, by simp; omega, fun k hk => ?_⟩
    · have hk' : k < len := by simpa using hk
      obtain ⟨b, off, spot⟩ := a
      have hspot : spot = none := by simpa [Addr.add] using World.cell?_spot (hT 0 (by omega)).1
      subst hspot
      refine ⟨b, off, rfl, fun j hj => ?_, fun j hj => ?_, fun j hj => ?_, ?_⟩
      · have := (hT j (by simpa using hj)).1; rw [add_plain] at this; simpa using this
      · have := (hT j (by simpa using hj)).2.1; rw [add_plain] at this; simpa [Nat.add_assoc] using this
      · have := (hT j (by simpa using hj)).2.2.1; rw [add_plain] at this; simpa [Nat.add_assoc] using this
      · have := World.block_lt_of_cell? W _ (hT k hk').1
        rw [add_plain] at this
        exact this
    · have := (hT k (by simpa using hk)).2.2.2
      simpa using this
end Go.Proofs.Ytfjpdekegbnbaaa
