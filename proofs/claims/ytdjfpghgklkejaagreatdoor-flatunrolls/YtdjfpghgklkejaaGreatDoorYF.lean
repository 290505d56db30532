/-
  Put together of: GO.
-/
import Derived.Test.YtdjfpghgklkejaaGreatDoorXO
import Derived.ProofKit
import Derived.OpenShut
import Derived.Carry
import Derived.ChangeMaps5
import Derived.Deep.Strs
import Derived.Deep.Fields
namespace Go.Proofs.YtdjfpghgklkejaaGreatDoor
open Go.ChangeShapes Go.WideShapes Go.ChangeAt Go.ChangeMaps Go.RowKit Go.Sort

theorem Tryz.cellsG79 : Tryz.prog.cellsOf 79 = 6 := by kernel_rfl
theorem Tryz.cellsG100 : Tryz.prog.cellsOf 100 = 2 := by kernel_rfl
theorem Tryz.bytesG79 : Tryz.prog.bytesOf 79 = 80 := by kernel_rfl
theorem Tryz.bytesG100 : Tryz.prog.bytesOf 100 = 24 := by kernel_rfl
/-- The sizes in a row that is handed in. -/
def SzM (r : Rw) : Prop := r.name.size ≤ maxLen ∧ r.args.length ≤ maxLen ∧ (∀ a ∈ r.args, a.n.size ≤ maxLen) ∧ -9223372036854775808 ≤ r.num ∧ r.num ≤ 9223372036854775807 ∧ -9223372036854775808 ≤ r.rows ∧ r.rows ≤ 9223372036854775807
theorem wAll_mem2 {H : Type} {P : Program} {e : TypeId} : ∀ {l : List (DataW H)} {d : DataW H}, d ∈ l → ∀ n ∈ d.weights P e, n ∈ DataW.weightsAll P e l
  | x :: l, d, h, n, hn => by
    simp only [DataW.weightsAll, List.mem_append]
    rcases List.mem_cons.1 h with rfl | h
    · exact .inl hn
    · exact .inr (wAll_mem2 h n hn)
section
variable {H : Type} {enc : TypeId × Value → H} {W : World}
theorem trod_fields2 {ts : TypeId} {fs : Array Field} {fuel : Nat} {cs : List Value} {x : DataW H × List MemPlace} (hs : Tryz.prog.underlying ts = some (.struct fs))
    (hone : ∀ (i : Nat) (f : Field), fs[i]? = some f → f.offset = i ∧ Tryz.prog.cellsOf f.type = 1) (hC : Tryz.prog.cellsOf ts = fs.size) (h : DataW.trod enc Tryz.prog W 0 (fun _ => true) true fuel ts cs = some x) :
    cs.length = fs.size ∧ ∃ (n : Nat) (xs : List (DataW H × List MemPlace)), x.1 = .agg (xs.map (·.1)) ∧ xs.length = fs.size ∧ ∀ (i : Nat) (f : Field), fs[i]? = some f → DataW.trod enc Tryz.prog W 0 (fun _ => true) true n f.type [cs.getD i undef] = some (xs.getD i (.nil, [])) := by
  obtain ⟨xs, n, _, rfl, hlen, hxl, hf⟩ := DataW.trod_struct hs h
  rw [hC] at hlen
  refine ⟨hlen, n, xs, rfl, hxl, fun i f hi => ?_⟩
  have hlt : i < fs.size := (Array.getElem?_eq_some_iff.1 hi).1
  obtain ⟨ho, hc1⟩ := hone i f hi
  have g := hf i f hi
  rw [ho, hc1, Go.Deep.take1_drop cs i undef (by omega), List.getElem?_eq_getElem (by omega)] at g
  rw [g]
  simp [List.getD, List.getElem?_eq_getElem (show i < xs.length by omega)]
theorem arg2_of_trod {fuel : Nat} {cs : List Value} {x : DataW H × List MemPlace} (h : DataW.trod enc Tryz.prog W 0 (fun _ => true) true fuel 100 cs = some x) :
    ∃ t : Ar, cs = arc t ∧ t.n.size ≤ maxLen := by
  obtain ⟨hlen, n, xs, ex, hxl, hY⟩ := trod_fields2 Tryz.underlying100 (Go.Deep.hone_of (by kernel_rfl)) Tryz.cellsG100 h
  match cs, hlen, xs, hxl with
  | [v0, v1], _, [y0, y1], _ =>
    obtain ⟨x0, e0, d0, hw⟩ := DataW.trod_string Tryz.underlying9 (hY 0 _ rfl)
    obtain ⟨x1, e1, _, _⟩ := DataW.trod_int Tryz.underlying3 (hY 1 _ rfl)
    simp at e0 e1 d0
    subst e0 e1 d0
    exact ⟨⟨x0, x1⟩, rfl, hw⟩
theorem args2_of_trod {fuel : Nat} {cs : List Value} {x : DataW H × List MemPlace} (h : DataW.trod enc Tryz.prog W 0 (fun _ => true) true fuel 77 cs = some x) :
    ∃ (v : Value) (l : List Ar), cs = [v] ∧ SA W v l ∧ l.length ≤ maxLen ∧ (∀ a ∈ l, a.n.size ≤ maxLen) ∧ ∀ N, (∀ n ∈ x.1.weights Tryz.prog 77, n ≤ N) → l.length * 24 ≤ N := by
  rcases Go.Deep.open_slice Tryz.underlying77 h with ⟨rfl, _⟩ | ⟨a, len, cap, m, n, D, Pl, rfl, _, hl, hm, hmm, hx, hcell⟩
  · exact ⟨_, [], rfl, ⟨none, 0, rfl, Nat.le_refl _, fun k hk => absurd hk (Nat.not_lt_zero _)⟩, Nat.zero_le _, fun a ha => absurd ha List.not_mem_nil, fun N _ => by rw [List.length_nil, Nat.zero_mul]; exact Nat.zero_le _⟩
  · simp only [if_true] at hmm
    rw [Tryz.cellsG100] at hcell
    have each : ∀ i, i < len → ∃ t : Ar, (∀ j, j < 2 → W.cell? (a.add (i * 2 + j)) = (arc t)[j]?) ∧ t.n.size ≤ maxLen := by
      intro i hi
      obtain ⟨cs', h1, h2⟩ := hcell i (by omega)
      obtain ⟨_, hlen, hc⟩ := World.cells?_some h1
      obtain ⟨t, rfl, hf⟩ := arg2_of_trod h2
      refine ⟨t, fun j hj => ?_, hf⟩
      have e0 := hc j hj
      rw [Go.Deep.add_add] at e0
      exact e0
    haveI : Inhabited Ar := ⟨⟨⟨#[]⟩, 0⟩⟩
    obtain ⟨T, hT⟩ := Go.Deep.choose_lt each
    have hln : ((List.range len).map T).length = len := by simp
    refine ⟨_, (List.range len).map T, rfl, ⟨some a, cap, by rw [hln], by omega, fun k hk => ?_⟩, ?_⟩
    · rw [hln] at hk
      obtain ⟨b, off, spot⟩ := a
      have h00 := (hT 0 (by omega)).1 0 (by omega)
      have hspot : spot = none := by simpa [Addr.add] using World.cell?_spot h00
      subst hspot
      have get : ∀ j d, j < len → d < 2 → W.cell? ⟨b, off + (j * 2 + d), none⟩ = (arc (T j))[d]? := fun j d hj hd => by
        have := (hT j hj).1 d hd
        rwa [add_plain] at this
      refine ⟨b, off, rfl, fun j hj => ?_, fun j hj => ?_, ?_⟩
      · rw [hln] at hj; have := get j 0 hj (by omega); simpa [Nat.add_assoc] using this
      · rw [hln] at hj; have := get j 1 hj (by omega); simpa [Nat.add_assoc] using this
      · exact World.block_lt_of_cell? W _ (get 0 0 (by omega) (by omega))
    · refine ⟨by rw [hln]; omega, fun y hy => ?_, fun N hN => ?_⟩
      · obtain ⟨i, hi, rfl⟩ := List.mem_map.1 hy
        exact (hT i (List.mem_range.1 hi)).2
      · have := hN ((len + (m - len)) * 24) (by rw [hx]; simp [DataW.weights, Tryz.underlying77, Tryz.bytesG100])
        rw [hln]
        omega
theorem row2_of_trod {fuel : Nat} {cs : List Value} {x : DataW H × List MemPlace} (h : DataW.trod enc Tryz.prog W 0 (fun _ => true) true fuel 79 cs = some x) :
    ∃ t : Rw × Value, cs = rwc t.1 t.2 ∧ SA W t.2 t.1.args ∧ SzM t.1 ∧ ∀ N, (∀ n ∈ x.1.weights Tryz.prog 79, n ≤ N) → t.1.args.length * 24 ≤ N := by
  obtain ⟨hlen, n, xs, ex, hxl, hY⟩ := trod_fields2 Tryz.underlying79 (Go.Deep.hone_of (by kernel_rfl)) Tryz.cellsG79 h
  match cs, hlen, xs, hxl with
  | [v0, v1, v2, v3, v4, v5], _, [y0, y1, y2, y3, y4, y5], _ =>
    obtain ⟨x0, e0, d0, _⟩ := DataW.trod_string Tryz.underlying9 (hY 0 _ rfl)
    obtain ⟨x1, e1, d1, w1⟩ := DataW.trod_string Tryz.underlying9 (hY 1 _ rfl)
    obtain ⟨v, l, e2, hq, hb1, hb2, hb3⟩ := args2_of_trod (hY 2 _ rfl)
    obtain ⟨x3, e3, _, w3⟩ := DataW.trod_int Tryz.underlying3 (hY 3 _ rfl)
    obtain ⟨x4, e4, _, w4⟩ := DataW.trod_int Tryz.underlying3 (hY 4 _ rfl)
    obtain ⟨x5, e5, _, _⟩ := DataW.trod_int Tryz.underlying3 (hY 5 _ rfl)
    simp at e0 e1 e2 e3 e4 e5 d0 d1
    subst e0 e1 e2 e3 e4 e5 d0 d1
    exact ⟨⟨⟨x0, x1, l, x3, x4, x5⟩, v2⟩, rfl, hq, ⟨w1, hb1, hb2, (bounds_i64 w3).1, (bounds_i64 w3).2, (bounds_i64 w4).1, (bounds_i64 w4).2⟩, fun N hN => hb3 N (fun n hn => hN n (by rw [ex]; simp [DataW.weights, DataW.weightsEach, Tryz.underlying79]; exact .inr (.inr (.inl hn))))⟩
set_option maxRecDepth 100000 in
theorem rows2_of_trod {base : Nat} {v : Value} {d : DataW H} {p : List MemPlace} (hval : Value.okWide Tryz.prog W .any base 22 v) (h : DataW.Trod enc Tryz.prog W 0 (fun _ => true) true 22 v d p) :
    ∃ rs : List Rw, SR W v rs ∧ rs.length ≤ maxLen ∧ (∀ r ∈ rs, SzM r) ∧ ∀ N, (∀ n ∈ d.weights Tryz.prog 22, n ≤ N) → rs.length * 80 ≤ N ∧ ∀ r ∈ rs, r.args.length * 24 ≤ N := by
  obtain ⟨a0, len, cap, rfl⟩ := okWide_slice Tryz.underlying22 hval
  obtain ⟨fuel, hf⟩ := h
  rcases Go.Deep.open_slice Tryz.underlying22 hf with ⟨hcs, hx⟩ | ⟨a, len', cap', m, n, D, Pl, hcs, _, hl, hm, hmm, hx, hcell⟩
  · simp [Value.cells] at hcs
    obtain ⟨rfl, rfl, rfl⟩ := hcs
    exact ⟨[], ⟨none, 0, [], rfl, Nat.le_refl _, rfl, fun k hk => absurd hk (Nat.not_lt_zero _), fun k hk => absurd hk (Nat.not_lt_zero _)⟩, Nat.zero_le _, fun r hr => absurd hr List.not_mem_nil, fun N _ => ⟨by rw [List.length_nil, Nat.zero_mul]; exact Nat.zero_le _, fun r hr => absurd hr List.not_mem_nil⟩⟩
  · simp [Value.cells] at hcs
    obtain ⟨rfl, rfl, rfl⟩ := hcs
    simp only [if_true] at hmm
    rw [Tryz.cellsG79] at hcell
    have each : ∀ i, i < len → ∃ t : Rw × Value, (∀ j, j < 6 → W.cell? (a.add (i * 6 + j)) = (rwc t.1 t.2)[j]?) ∧ SA W t.2 t.1.args ∧ SzM t.1 ∧ ∀ N, (∀ n ∈ (D i).weights Tryz.prog 79, n ≤ N) → t.1.args.length * 24 ≤ N := by
      intro i hi
      obtain ⟨cs', h1, h2⟩ := hcell i (by omega)
      obtain ⟨_, hlen, hc⟩ := World.cells?_some h1
      obtain ⟨t, rfl, hf⟩ := row2_of_trod h2
      refine ⟨t, fun j hj => ?_, hf⟩
      have e0 := hc j hj
      rw [Go.Deep.add_add] at e0
      exact e0
    haveI : Inhabited (Rw × Value) := ⟨⟨⟨⟨#[]⟩, ⟨#[]⟩, [], 0, 0, 0⟩, undef⟩⟩
    obtain ⟨T, hT⟩ := Go.Deep.choose_lt each
    have hln : ((List.range len).map fun i => (T i).1).length = len := by simp
    refine ⟨(List.range len).map fun i => (T i).1, ⟨some a, cap, (List.range len).map fun i => (T i).2, by rw [hln], by omega, by simp, fun k hk hk' => ?_, fun k hk => ?_⟩, ?_⟩
    · rw [hln] at hk
      simpa using (hT k hk).2.1
    · rw [hln] at hk
      obtain ⟨b, off, spot⟩ := a
      have h00 := (hT 0 (by omega)).1 0 (by omega)
      have hspot : spot = none := by simpa [Addr.add] using World.cell?_spot h00
      subst hspot
      have get : ∀ j d, j < len → d < 6 → W.cell? ⟨b, off + (j * 6 + d), none⟩ = (rwc (T j).1 (T j).2)[d]? := fun j d hj hd => by
        have := (hT j hj).1 d hd
        rwa [add_plain] at this
      refine ⟨b, off, rfl, fun j hj => ?_, fun j hj => ?_, fun j hj hj' => ?_, fun j hj => ?_, fun j hj => ?_, fun j hj => ?_, ?_⟩
      · rw [hln] at hj; have := get j 0 hj (by omega); simpa [Nat.add_assoc] using this
      · rw [hln] at hj; have := get j 1 hj (by omega); simpa [Nat.add_assoc] using this
      · rw [hln] at hj; have := get j 2 hj (by omega); simpa [Nat.add_assoc] using this
      · rw [hln] at hj; have := get j 3 hj (by omega); simpa [Nat.add_assoc] using this
      · rw [hln] at hj; have := get j 4 hj (by omega); simpa [Nat.add_assoc] using this
      · rw [hln] at hj; have := get j 5 hj (by omega); simpa [Nat.add_assoc] using this
      · exact World.block_lt_of_cell? W _ (get 0 0 (by omega) (by omega))
    · refine ⟨by rw [hln]; omega, fun r hr => ?_, fun N hN => ⟨?_, fun r hr => ?_⟩⟩
      · obtain ⟨i, hi, rfl⟩ := List.mem_map.1 hr
        exact (hT i (List.mem_range.1 hi)).2.2.1
      · have hxd := (Prod.mk.inj hx).1
        have := hN ((len + (m - len)) * 80) (by rw [hxd]; simp [DataW.weights, Tryz.underlying22, Tryz.bytesG79])
        rw [hln]
        omega
      · obtain ⟨i, hi, rfl⟩ := List.mem_map.1 hr
        have hxd := (Prod.mk.inj hx).1
        refine (hT i (List.mem_range.1 hi)).2.2.2 N (fun n hn => hN n ?_)
        rw [hxd]
        simp only [DataW.weights, Tryz.underlying22, List.mem_append, List.mem_cons]
        exact .inr (.inl (wAll_mem2 (List.mem_map.2 ⟨i, hi, rfl⟩) n hn))
end
end Go.Proofs.YtdjfpghgklkejaaGreatDoor
