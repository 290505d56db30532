/-
  Put together of: Row1.
-/
import Derived.Test.YtoddbaljnlhhaabXH
import Derived.Test.YtoddbaljnlhhaabXT
import Derived.ProofKit
import Derived.OpenShut
import Derived.Carry
import Derived.ChangeMaps5
import Derived.Deep.Strs
import Derived.Deep.Fields
namespace Go.Proofs.Ytoddbaljnlhhaab
open Go.ChangeShapes Go.WideShapes Go.ChangeAt Go.ChangeMaps Go.RowKit Go.Sort
open PL (pv)

theorem Try.laidOut1 : laidOutB Try.prog = true := by kernel_rfl
theorem Try.cells27r : Try.prog.cellsOf 29 = 4 := by kernel_rfl
theorem Try.cells24r : Try.prog.cellsOf 24 = 2 := by kernel_rfl
theorem Try.cells3r : Try.prog.cellsOf 3 = 1 := by kernel_rfl
theorem wf_u64r {x : Int} (h : (Lit.int .u64 x).wf = true) : 0 ≤ x ∧ x ≤ 18446744073709551615 := by
  have h2 : (decide (IntKind.u64.min ≤ x) && decide (x ≤ IntKind.u64.max)) = true := h
  rw [show IntKind.u64.min = 0 by decide, show IntKind.u64.max = 18446744073709551615 by decide, Bool.and_eq_true, decide_eq_true_iff, decide_eq_true_iff] at h2
  exact h2
section
variable {H : Type} {enc : TypeId × Value → H} {W : World}
theorem trod_fieldsr {ts : TypeId} {fs : Array Field} {fuel : Nat} {cs : List Value} {x : DataW H × List MemPlace} (hs : Try.prog.underlying ts = some (.struct fs))
    (hone : ∀ (i : Nat) (f : Field), fs[i]? = some f → f.offset = i ∧ Try.prog.cellsOf f.type = 1) (hC : Try.prog.cellsOf ts = fs.size) (h : DataW.trod enc Try.prog W 0 (fun _ => true) true fuel ts cs = some x) :
    cs.length = fs.size ∧ ∃ (n : Nat) (Y : Nat → DataW H × List MemPlace), ∀ (i : Nat) (f : Field), fs[i]? = some f → DataW.trod enc Try.prog W 0 (fun _ => true) true n f.type [cs.getD i undef] = some (Y i) := by
  obtain ⟨xs, n, _, rfl, hlen, hxl, hf⟩ := DataW.trod_struct hs h
  rw [hC] at hlen
  refine ⟨hlen, n, fun i => xs.getD i (.nil, []), fun i f hi => ?_⟩
  have hlt : i < fs.size := (Array.getElem?_eq_some_iff.1 hi).1
  obtain ⟨ho, hc1⟩ := hone i f hi
  have g := hf i f hi
  rw [ho, hc1, Go.Deep.take1_drop cs i undef (by omega), List.getElem?_eq_getElem (by omega)] at g
  rw [g]
  simp [List.getD, List.getElem?_eq_getElem (show i < xs.length by omega)]
theorem ints_of_trod {fuel : Nat} {cs : List Value} {x : DataW H × List MemPlace} (h : DataW.trod enc Try.prog W 0 (fun _ => true) true fuel 25 cs = some x) :
    ∃ (a : Option Addr) (c m : Nat) (q : Nat → Int), cs = [.slice a m c] ∧ BL.Row a q m W ∧ m ≤ c ∧ c ≤ 9223372036854775807 := by
  rcases open_ints Try.underlying25 Try.underlying3 Try.cells3r h with ⟨rfl, _⟩ | ⟨a, len, cap, zs, rfl, _, hl, hm, hz, _, hc, _⟩
  · exact ⟨none, 0, 0, fun _ => 0, rfl, ⟨fun k hk => absurd hk (Nat.not_lt_zero _)⟩, Nat.le_refl _, by omega⟩
  · simp only [if_true] at hz
    unfold maxLen at hm
    refine ⟨some a, cap, len, fun j => zs.getD j 0, rfl, ⟨fun j hj => ?_⟩, by omega, by omega⟩
    obtain ⟨b, off, spot⟩ := a
    have hspot : spot = none := by simpa [Addr.add] using World.cell?_spot (hc 0 (by omega))
    subst hspot
    refine ⟨b, off, rfl, ?_⟩
    have := hc j (by omega)
    rw [add_plain] at this
    rw [this]
theorem row_of_trod {fuel : Nat} {cs : List Value} {x : DataW H × List MemPlace} (h : DataW.trod enc Try.prog W 0 (fun _ => true) true fuel 29 cs = some x) :
    ∃ r : Pr, cs = r.cs ∧ r.w64 := by
  obtain ⟨hlen, n, Y, hY⟩ := trod_fieldsr Try.underlying29 (Go.Deep.hone_of (by kernel_rfl)) Try.cells27r h
  match cs, hlen with
  | [v0, v1, v2, v3], _ =>
    obtain ⟨x0, e0, _, _⟩ := DataW.trod_int Try.underlying3 (hY 0 _ rfl)
    obtain ⟨x1, e1, _, w1⟩ := DataW.trod_int Try.underlying27 (hY 1 _ rfl)
    obtain ⟨x2, e2, _, w2⟩ := DataW.trod_int Try.underlying27 (hY 2 _ rfl)
    obtain ⟨x3, e3, _, _⟩ := DataW.trod_int Try.underlying3 (hY 3 _ rfl)
    simp at e0 e1 e2 e3
    subst e0 e1 e2 e3
    have b1 := wf_u64r w1
    have b2 := wf_u64r w2
    obtain ⟨y1, rfl⟩ := Int.eq_ofNat_of_zero_le b1.1
    obtain ⟨y2, rfl⟩ := Int.eq_ofNat_of_zero_le b2.1
    exact ⟨⟨x0, y1, y2, x3⟩, rfl, by show y1 < 18446744073709551616; omega, by show y2 < 18446744073709551616; omega⟩
theorem rows_of_trod {fuel : Nat} {cs : List Value} {x : DataW H × List MemPlace} (h : DataW.trod enc Try.prog W 0 (fun _ => true) true fuel 22 cs = some x) :
    ∃ (a : Option Addr) (c : Nat) (rs : List Pr), cs = [.slice a rs.length c] ∧ TS W a c rs := by
  rcases Go.Deep.open_slice Try.underlying22 h with ⟨rfl, _⟩ | ⟨a, len, cap, m, n, D, Pl, rfl, _, hl, hm, hmm, hx, hcell⟩
  · exact ⟨none, 0, [], rfl, Nat.le_refl _, fun k hk => absurd hk (Nat.not_lt_zero _), fun k hk => absurd hk (Nat.not_lt_zero _), by omega⟩
  · simp only [if_true] at hmm
    unfold maxLen at hm
    rw [Try.cells27r] at hcell
    have each : ∀ i, i < len → ∃ r : Pr, (∀ j, j < 4 → W.cell? (a.add (i * 4 + j)) = r.cs[j]?) ∧ r.w64 := by
      intro i hi
      obtain ⟨cs', h1, h2⟩ := hcell i (by omega)
      obtain ⟨_, hlen, hc⟩ := World.cells?_some h1
      obtain ⟨r, rfl, hw⟩ := row_of_trod h2
      refine ⟨r, fun j hj => ?_, hw⟩
      have e0 := hc j hj
      rw [Go.Deep.add_add] at e0
      exact e0
    haveI : Inhabited Pr := ⟨⟨0, 0, 0, 0⟩⟩
    obtain ⟨T, hT⟩ := Go.Deep.choose_lt each
    have hln : ((List.range len).map T).length = len := by simp
    refine ⟨some a, cap, (List.range len).map T, by rw [hln], by omega, fun k hk => ?_, fun k hk => ?_, by omega⟩
    · rw [hln] at hk
      obtain ⟨b, off, spot⟩ := a
      have h00 := (hT 0 (by omega)).1 0 (by omega)
      have hspot : spot = none := by simpa [Addr.add] using World.cell?_spot h00
      subst hspot
      have get : ∀ j d, j < len → d < 4 → W.cell? ⟨b, off + (j * 4 + d), none⟩ = (T j).cs[d]? := fun j d hj hd => by
        have := (hT j hj).1 d hd
        rwa [add_plain] at this
      refine ⟨b, off, rfl, fun j hj => ?_, fun j hj => ?_, fun j hj => ?_, fun j hj => ?_, ?_⟩
      · rw [hln] at hj; have := get j 0 hj (by omega); simpa [Nat.add_assoc] using this
      · rw [hln] at hj; have := get j 1 hj (by omega); simpa [Nat.add_assoc] using this
      · rw [hln] at hj; have := get j 2 hj (by omega); simpa [Nat.add_assoc] using this
      · rw [hln] at hj; have := get j 3 hj (by omega); simpa [Nat.add_assoc] using this
      · exact World.block_lt_of_cell? W _ (get 0 0 (by omega) (by omega))
    · rw [hln] at hk
      simpa using (hT k hk).2
set_option maxRecDepth 100000 in
theorem tab_of_trod {base : Nat} {v : Value} {d : DataW H} {p : List MemPlace} (hval : Value.okWide Try.prog W .any base 24 v) (h : DataW.Trod enc Try.prog W 0 (fun _ => true) true 24 v d p) :
    ∃ (t : Tb) (a : Option Addr) (c : Nat), v = t.v a c ∧ TS W a c t.rows := by
  obtain ⟨cs, rfl, hsz⟩ := okWide_struct Try.underlying24 hval
  obtain ⟨fuel, hf⟩ := h
  obtain ⟨hlen, n, Y, hY⟩ := trod_fieldsr Try.underlying24 (Go.Deep.hone_of (by kernel_rfl)) Try.cells24r hf
  obtain ⟨cs⟩ := cs
  match cs, hlen with
  | [v0, v1], _ =>
    obtain ⟨x0, e0, _, _⟩ := DataW.trod_int Try.underlying3 (hY 0 _ rfl)
    obtain ⟨a, c, rs, e1, hO⟩ := rows_of_trod (hY 1 _ rfl)
    simp [Value.cells] at e0 e1
    subst e0 e1
    exact ⟨⟨x0, rs⟩, a, c, rfl, hO⟩
set_option maxRecDepth 100000 in
theorem list_of_trod {base : Nat} {v : Value} {d : DataW H} {p : List MemPlace} (hval : Value.okWide Try.prog W .any base 25 v) (h : DataW.Trod enc Try.prog W 0 (fun _ => true) true 25 v d p) :
    ∃ (a : Option Addr) (c m : Nat) (q : Nat → Int), v = .slice a m c ∧ BL.Row a q m W ∧ m ≤ c ∧ c ≤ 9223372036854775807 := by
  obtain ⟨a0, len, cap, rfl⟩ := okWide_slice Try.underlying25 hval
  obtain ⟨fuel, hf⟩ := h
  obtain ⟨a, c, m, q, e, hq, hl⟩ := ints_of_trod hf
  simp [Value.cells] at e
  obtain ⟨rfl, rfl, rfl⟩ := e
  exact ⟨_, _, _, q, rfl, hq, hl⟩
end
end Go.Proofs.Ytoddbaljnlhhaab
