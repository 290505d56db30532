/-
  Matrices that are handed in, opened.
-/
import Derived.Test.YtinkdonaedoojaaA1
import Derived.ProofKit
import Derived.OpenShut
import Derived.Carry
import Derived.ChangeMaps5
import Derived.Deep.Strs
import Derived.Deep.Fields
namespace Go.Proofs.Ytinkdonaedoojaa
open Go.ChangeShapes Go.WideShapes Go.ChangeAt Go.ChangeMaps Go.RowKit Go.Sort

theorem Try.laidOut : laidOutB Try.prog = true := by kernel_rfl
theorem Try.cells24 : Try.prog.cellsOf 24 = 2 := by kernel_rfl
theorem Try.cells25 : Try.prog.cellsOf 25 = 1 := by kernel_rfl
theorem wf_u64 {x : Int} (h : (Lit.int .u64 x).wf = true) : 0 ≤ x ∧ x ≤ 18446744073709551615 := by
  have h2 : (decide (IntKind.u64.min ≤ x) && decide (x ≤ IntKind.u64.max)) = true := h
  rw [show IntKind.u64.min = 0 by decide, show IntKind.u64.max = 18446744073709551615 by decide, Bool.and_eq_true, decide_eq_true_iff, decide_eq_true_iff] at h2
  exact h2
section
variable {H : Type} {enc : TypeId × Value → H} {W : World}
theorem trod_fields {ts : TypeId} {fs : Array Field} {fuel : Nat} {cs : List Value} {x : DataW H × List MemPlace} (hs : Try.prog.underlying ts = some (.struct fs))
    (hone : ∀ (i : Nat) (f : Field), fs[i]? = some f → f.offset = i ∧ Try.prog.cellsOf f.type = 1) (hC : Try.prog.cellsOf ts = fs.size) (h : DataW.trod enc Try.prog W 0 (fun _ => true) true fuel ts cs = some x) :
    cs.length = fs.size ∧ ∃ (n : Nat) (Y : Nat → DataW H × List MemPlace), ∀ (i : Nat) (f : Field), fs[i]? = some f → DataW.trod enc Try.prog W 0 (fun _ => true) true n f.type [cs.getD i undef] = some (Y i) := by
  obtain ⟨xs, n, _, rfl, hlen, hxl, hf⟩ := DataW.trod_struct hs h
  rw [hC] at hlen
  refine ⟨hlen, n, fun i => xs.getD i (.nil, []), fun i f hi => ?_⟩
  have hlt : i < fs.size := (Array.getElem?_eq_some_iff.1 hi).1
  obtain ⟨ho, hc1⟩ := hone i f hi
  have g := hf i f hi
  rw [ho, hc1, Go.Deep.take1_drop cs i undef (by omega), List.getElem?_eq_getElem (by omega)] at g
  rw [g]
  simp [List.getD, List.getElem?_eq_getElem (show i < xs.length by omega)]
theorem nums_of_trod {fuel : Nat} {cs : List Value} {x : DataW H × List MemPlace} (h : DataW.trod enc Try.prog W 0 (fun _ => true) true fuel 22 cs = some x) :
    ∃ (a : Option Addr) (c n : Nat) (f : Nat → Nat), cs = [.slice a n c] ∧ RR W a n f ∧ n ≤ c ∧ c ≤ 9223372036854775807 := by
  rcases open_ints Try.underlying22 Try.underlying25 Try.cells25 h with ⟨rfl, _⟩ | ⟨a, len, cap, zs, rfl, _, hl, hm, hz, _, hc, hw⟩
  · exact ⟨none, 0, 0, fun _ => 0, rfl, ⟨fun i hi => absurd hi (Nat.not_lt_zero _), fun i hi => absurd hi (Nat.not_lt_zero _), Nat.zero_le _⟩, Nat.le_refl _, by omega⟩
  · simp only [if_true] at hz
    unfold maxLen at hm
    have hb : ∀ i, i < zs.length → 0 ≤ zs.getD i 0 ∧ zs.getD i 0 ≤ 18446744073709551615 := fun i hi => by
      have := wf_u64 (hw zs[i] (List.getElem_mem hi))
      simpa [List.getD, List.getElem?_eq_getElem hi] using this
    refine ⟨some a, cap, len, fun i => (zs.getD i 0).toNat, rfl, ⟨fun i hi => ?_, fun i hi => ?_, by omega⟩, by omega, by omega⟩
    · obtain ⟨b, off, spot⟩ := a
      have hspot : spot = none := by simpa [Addr.add] using World.cell?_spot (hc 0 (by omega))
      subst hspot
      have h1 := hc i (by omega)
      rw [add_plain] at h1
      refine ⟨b, off, rfl, ?_, World.block_lt_of_cell? W _ h1⟩
      rw [h1]
      have := (hb i (by omega)).1
      rw [Int.toNat_of_nonneg this]
    · have := hb i (by omega)
      show (zs.getD i 0).toNat < _
      omega
theorem lin_of_cells {fuel : Nat} {cs : List Value} {x : DataW H × List MemPlace} (h : DataW.trod enc Try.prog W 0 (fun _ => true) true fuel 24 cs = some x) :
    ∃ (N : Int) (a : Option Addr) (n c : Nat) (f : Nat → Nat), cs = [.int .i64 N, .slice a n c] ∧ RR W a n f ∧ n ≤ c ∧ c ≤ 9223372036854775807 := by
  obtain ⟨hlen, n, Y, hY⟩ := trod_fields Try.underlying24 (Go.Deep.hone_of (by kernel_rfl)) Try.cells24 h
  match cs, hlen with
  | [v0, v1], _ =>
    obtain ⟨x0, e0, _, _⟩ := DataW.trod_int Try.underlying3 (hY 0 _ rfl)
    obtain ⟨a, c, n, f, e1, hO⟩ := nums_of_trod (hY 1 _ rfl)
    simp at e0 e1
    subst e0 e1
    exact ⟨x0, a, n, c, f, rfl, hO⟩
set_option maxRecDepth 100000 in
theorem lin_of_trod {base : Nat} {v : Value} {d : DataW H} {p : List MemPlace} (hval : Value.okWide Try.prog W .any base 24 v) (h : DataW.Trod enc Try.prog W 0 (fun _ => true) true 24 v d p) :
    ∃ (N : Int) (a : Option Addr) (n c : Nat) (f : Nat → Nat), v = lv N a n c ∧ RR W a n f ∧ n ≤ c ∧ c ≤ 9223372036854775807 := by
  obtain ⟨cs, rfl, hsz⟩ := okWide_struct Try.underlying24 hval
  obtain ⟨fuel, hf⟩ := h
  obtain ⟨N, a, n, c, f, e, hO⟩ := lin_of_cells hf
  obtain ⟨cs⟩ := cs
  simp [Value.cells] at e
  subst e
  exact ⟨N, a, n, c, f, rfl, hO⟩
end
end Go.Proofs.Ytinkdonaedoojaa
