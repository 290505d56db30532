/-
  Bytes that a call owns, in a row that a conversion may have marked behind its last cell: one byte appended.
-/
import Derived.Test.YtoddbaljnlhhaaaPR2
import Derived.Lib.FrozenHead2
import Derived.Deep.AppendLies
import Derived.Deep.RegionHeldLaw
import Derived.Laws.IdiomStrings
import Derived.OwnWalk
namespace Go.Proofs.Ytoddbaljnlhhaaa.PL
open Go.RowKit Go.Sort

def bvals (l : List UInt8) : List Value := l.map fun b => .int .u8 (b.toNat : Int)
theorem bvals_len (l : List UInt8) : (bvals l).length = l.length := by simp [bvals]
theorem store_below (P : Program) (g o : Nat) (t : TypeId) (fz : Nat × Nat) : ∀ (vs : List Value) (i : Nat) (cur : Array Value) (w : World), w.heap[g]? = some (.cells cur t fz) → cur.size ≤ fz.1 → o + i + vs.length ≤ cur.size → (∀ v ∈ vs, v.oneCell' = true) →
    (storeCells ⟨g, o, none⟩ vs i).run P w = .ok () (w.setRow g (cur.toList.take (o + i) ++ vs ++ cur.toList.drop (o + i + vs.length)).toArray)
  | [], i, cur, w, hg, _, _, _ => by
    simp only [storeCells, List.append_nil, List.length_nil, Nat.add_zero, List.take_append_drop, Array.toArray_toList]
    rw [setRow_self w g cur t fz hg]
    rfl
  | v :: rest, i, cur, w, hg, hfz, hl, h1 => by
    have hi : o + i < cur.size := by simp at hl; omega
    have hadd : (⟨g, o, none⟩ : Addr).add i = ⟨g, o + i, none⟩ := by unfold Addr.add; split <;> simp_all
    have hcell : w.cell? ⟨g, o + i, none⟩ = some cur[o + i] := by simp [World.cell?, hg, hi]
    have hfro : w.frozen? ⟨g, o + i, none⟩ = false := by
      obtain ⟨lo, hi'⟩ := fz
      simp only [World.frozen?, hg, Bool.and_eq_false_iff, decide_eq_false_iff_not]
      left
      simp only at hfz
      omega
    have hst : (store ((⟨g, o, none⟩ : Addr).add i) v).run P w = .ok () (w.setRow g (cur.setIfInBounds (o + i) v)) := by
      rw [hadd, run_store P w _ v _ (h1 v (by simp)), hcell]
      simp [hfro, setCell_eq_setRow w g (o + i) cur t fz v hg]
    have ih := store_below P g o t fz rest (i + 1) (cur.setIfInBounds (o + i) v) (w.setRow g (cur.setIfInBounds (o + i) v)) (setRow_heap w g cur _ t _ hg) (by simpa using hfz) (by simp at hl ⊢; omega) (fun x hx => h1 x (by simp [hx]))
    simp only [storeCells, Sem.run_bind, hst, Result.andThen_ok, ih, setRow_setRow]
    congr 3
    have e := list_seg_step cur.toList (o + i) v rest (by simp at hl ⊢; omega)
    simpa [Array.toList_setIfInBounds, Nat.add_assoc] using e

theorem append_room {P : Program} (w : World) (t ty e : TypeId) (i : TypeInfo) (ht : P.underlying t = some (.slice e)) (hi : P.info? e = some i)
    (g sLen sCap : Nat) (cur : Array Value) (fz : Nat × Nat) (hg : w.heap[g]? = some (.cells cur e fz)) (hfz : cur.size ≤ fz.1)
    (a : Addr) (m c : Nat) (news : List Value) (hl : news.length = m * i.size) (hnews : ∀ j u, news[j]? = some u → w.cell? (a.add j) = some u) (h1 : ∀ u ∈ news, u.oneCell' = true)
    (hroom : sLen + m ≤ sCap) (hfit : sLen * i.size + news.length ≤ cur.size) :
    (Builtin.append_ #[t, t] ty #[.slice (some ⟨g, 0, none⟩) sLen sCap, .slice (some a) m c]).run P w =
      .ok (.slice (some ⟨g, 0, none⟩) (sLen + m) sCap) (w.setRow g (cur.toList.take (sLen * i.size) ++ news ++ cur.toList.drop (sLen * i.size + news.length)).toArray) := by
  have hf := run_firstCells_some (P := P) w i.size m a m c news hl hnews
  have hst := store_below P g (sLen * i.size) e fz news 0 cur w hg hfz (by simpa using hfit) h1
  simp only [Nat.add_zero] at hst
  simp [Builtin.append_, run_underlying ht, sizeOf, typeInfo, hi, Builtin.lenOf, hroom, hf, Addr.add_lit, hst]

/-- The slice v owns the bytes l, in a block from base on. -/
def OB (w : World) (base : Nat) (v : Value) (l : List UInt8) : Prop :=
  w.ownsRow base 5 1 v l.length (bvals l) ∨ ∃ g cap cur fz, v = .slice (some ⟨g, 0, none⟩) l.length cap ∧ base ≤ g ∧ w.heap[g]? = some (.cells cur 5 fz) ∧ cap ≤ fz.1 ∧ l.length ≤ cap ∧ cap ≤ maxLen ∧ cur.size = cap ∧ cur.toList.take l.length = bvals l
theorem OB.lt {w : World} {base : Nat} {v : Value} {l : List UInt8} (h : OB w base v l) : ∀ k, v.ownBlock = some k → base ≤ k ∧ k < w.heap.size := by
  rcases h with h | ⟨g, cap, cur, fz, rfl, hb, hg, _⟩
  · exact h.lt
  · intro k hk
    have : g = k := by simpa [Value.ownBlock] using hk
    subst this
    refine ⟨hb, ?_⟩
    rcases Nat.lt_or_ge g w.heap.size with hlt | hge
    · exact hlt
    · rw [Array.getElem?_eq_none hge] at hg; cases hg
theorem OB.alloc {w : World} {base : Nat} {v : Value} {l : List UInt8} (h : OB w base v l) (o : Obj) : OB (w.alloc o) base v l := by
  rcases h with h | ⟨g, cap, cur, fz, rfl, hb, hg, r⟩
  · exact .inl (h.alloc o)
  · refine .inr ⟨g, cap, cur, fz, rfl, hb, ?_, r⟩
    have hlt : g < w.heap.size := by
      rcases Nat.lt_or_ge g w.heap.size with hlt | hge
      · exact hlt
      · rw [Array.getElem?_eq_none hge] at hg; cases hg
    rw [← hg]
    exact heap_alloc_old w o hlt
theorem OB.drew {w : World} {base : Nat} {v : Value} {l : List UInt8} (h : OB w base v l) : OB w.drew base v l := h
theorem OB.cells {w : World} {base : Nat} {l : List UInt8} {a : Option Addr} {n c : Nat} (h : OB w base (.slice a n c) l) : l = [] ∧ n = 0 ∨ ∃ g, a = some ⟨g, 0, none⟩ ∧ n = l.length ∧ ∀ j (hj : j < l.length), w.cell? (Addr.add ⟨g, 0, none⟩ j) = some (.int .u8 (l[j].toNat : Int)) := by
  have key : ∀ (g : Nat) (hh : ∀ j u, (bvals l)[j]? = some u → w.cell? ((⟨g, 0, none⟩ : Addr).add j) = some u) j (hj : j < l.length), w.cell? (Addr.add ⟨g, 0, none⟩ j) = some (.int .u8 (l[j].toNat : Int)) := fun g hh j hj =>
    hh j _ (by simp [bvals, List.getElem?_eq_getElem hj])
  rcases h with h | ⟨g, cap, cur, fz, e, hb, hg, hz, hn, hm, hs, ht⟩
  · have h2 := h.2
    rcases h2 with ⟨e, e2⟩ | ⟨g, cap, cur, e, _⟩
    · simp only [Value.slice.injEq] at e
      exact .inl ⟨List.eq_nil_of_length_eq_zero e2, e.2.1⟩
    · simp only [Value.slice.injEq] at e
      obtain ⟨rfl, rfl, rfl⟩ := e
      exact .inr ⟨g, rfl, rfl, key g (h.cells (g := g) rfl)⟩
  · simp only [Value.slice.injEq] at e
    obtain ⟨rfl, rfl, rfl⟩ := e
    refine .inr ⟨g, rfl, rfl, fun j hj => ?_⟩
    have hj2 : j < cur.size := by omega
    have e1 : cur[j]? = some (.int .u8 (l[j].toNat : Int)) := by
      have : (cur.toList.take l.length)[j]? = (bvals l)[j]? := by rw [ht]
      rw [List.getElem?_take_of_lt hj] at this
      simp [bvals, List.getElem?_eq_getElem hj] at this
      rw [← this]
    have hadd : (⟨g, 0, none⟩ : Addr).add j = ⟨g, j, none⟩ := by unfold Addr.add; split <;> simp_all
    rw [hadd]
    simp [World.cell?, hg, e1]

theorem Try.info5 : (Try.prog.info? 5).map (fun i => (i.zero, i.size, i.bytes)) = some (some (.int .u8 0), 1, 1) := by kernel_rfl
theorem OB.append {w : World} {base : Nat} {v : Value} {l : List UInt8} (h : OB w base v l) (ty : TypeId) (b : UInt8) (ad : Addr) (c : Nat) (hnew : w.cell? ad = some (.int .u8 (b.toNat : Int))) (hadd : ad.add 0 = ad) (hlen : l.length + 1 ≤ 1000) (hbase : base ≤ w.heap.size) :
    ∃ g cap w', (Builtin.append_ #[89, 89] ty #[v, .slice (some ad) 1 c]).run Try.prog w = .ok (.slice (some ⟨g, 0, none⟩) (l.length + 1) cap) w' ∧ OB w' base (.slice (some ⟨g, 0, none⟩) (l.length + 1) cap) (l ++ [b]) ∧ w.grownBy w' v.ownBlock ∧ l.length + 1 ≤ cap ∧ cap ≤ maxLen := by
  obtain ⟨i, hi, hz0, hz1, hz2⟩ := info_parts Try.info5
  have hnews : ∀ j u, [Value.int .u8 (b.toNat : Int)][j]? = some u → w.cell? (ad.add j) = some u := fun j u hj => by
    match j, hj with
    | 0, hj => simp at hj; subst hj; rw [hadd]; exact hnew
    | (j + 1), hj => simp at hj
  have h1 : ∀ u ∈ [Value.int .u8 (b.toNat : Int)], u.oneCell' = true := fun u hu => by simp at hu; subst hu; rfl
  have hbl : bvals (l ++ [b]) = bvals l ++ [.int .u8 (b.toNat : Int)] := by simp [bvals]
  have hll : (l ++ [b]).length = l.length + 1 := by simp
  rcases h with h | ⟨g, cap, cur, fz, rfl, hb, hg, hz, hn, hm, hs, ht⟩
  · obtain ⟨g, cap, w', r1, r2, r3, _, _⟩ := run_append_lies (P := Try.prog) w 89 ty base 5 i (.int .u8 0) 1 1 Try.underlying89 hi hz0 hz1 hz2 rfl (by decide) v l.length (bvals l) h ad 1 c [.int .u8 (b.toNat : Int)] rfl hnews h1 (by decide) (by unfold maxLen; omega) (by omega) hbase _ rfl
    have hc : l.length + 1 ≤ cap ∧ cap ≤ maxLen := by
      rcases r2.2 with ⟨e, e2⟩ | ⟨g', c', cur, e, _, _, k1, k2, _⟩
      · cases e
      · simp only [Value.slice.injEq] at e
        obtain ⟨_, _, rfl⟩ := e
        exact ⟨k1, k2⟩
    exact ⟨g, cap, w', r1, .inl (by rw [hbl, hll]; exact r2), r3, hc⟩
  · by_cases hroom : l.length + 1 ≤ cap
    · have hr := append_room (P := Try.prog) w 89 ty 5 i Try.underlying89 hi g l.length cap cur fz hg (by omega) ad 1 c [.int .u8 (b.toNat : Int)] (by rw [hz1]; rfl) hnews h1 hroom (by rw [hz1]; simp; omega)
      rw [hz1, Nat.mul_one] at hr
      refine ⟨g, cap, _, hr, .inr ⟨g, cap, _, fz, by rw [hll], hb, setRow_heap w g cur _ 5 _ hg, hz, by rw [hll]; exact hroom, hm, ?_, ?_⟩, ⟨rfl, rfl, rfl, by simp, fun k _ hk => setRow_other w g k _ (fun e => hk (by simp [Value.ownBlock, e]))⟩, hroom, hm⟩
      · simp only [List.size_toArray, List.length_append, List.length_take, List.length_drop, Array.length_toList, List.length_singleton]
        omega
      · rw [ht, hbl, hll]
        have : (bvals l ++ [Value.int .u8 (b.toNat : Int)]).length = l.length + 1 := by simp [bvals]
        rw [← this]
        exact List.take_left
    · have holds : ∀ j u, (bvals l)[j]? = some u → w.cell? ((⟨g, 0, none⟩ : Addr).add j) = some u := fun j u hj => by
        have hj2 : j < l.length := by
          have := (List.getElem?_eq_some_iff.1 hj).1
          simpa [bvals] using this
        have hc := OB.cells (w := w) (base := base) (l := l) (.inr ⟨g, cap, cur, fz, rfl, hb, hg, hz, hn, hm, hs, ht⟩)
        rcases hc with ⟨rfl, _⟩ | ⟨g', e, _, hc⟩
        · simp at hj2
        · simp only [Option.some.injEq, Addr.mk.injEq, and_true] at e
          subst e
          rw [hc j hj2]
          simp [bvals, List.getElem?_eq_getElem hj2] at hj
          rw [← hj]
      have hr := run_append_grow (P := Try.prog) w 89 ty 5 i (.int .u8 0) Try.underlying89 hi hz0 ⟨g, 0, none⟩ l.length cap (bvals l) (by rw [hz1, bvals_len, Nat.mul_one]) holds ad 1 c [.int .u8 (b.toNat : Int)] (by rw [hz1]; rfl) hnews (by omega) (by omega) (growslice_fits (by omega) (by rw [hz2]; omega))
      have hge := grownCap_ge w (l.length + 1) cap 5
      have hcm2 : grownCap w (l.length + 1) cap 5 ≤ maxLen := grownCap_le_maxLen w (l.length + 1) cap 5 (by unfold maxLen; omega)
      refine ⟨w.heap.size, _, _, hr, .inl ⟨by rw [bvals_len, Nat.mul_one], .inr ⟨w.heap.size, _, _, by rw [hll], hbase, heap_alloc_new w.drew _, by rw [hll]; exact hge, hcm2, ?_, ?_⟩⟩, ⟨rfl, rfl, rfl, by simp, fun k hk _ => heap_alloc_old w.drew _ hk⟩, hge, hcm2⟩
      · simp only [Array.size_append, List.size_toArray, size_zeroCells, bvals_len, List.length_singleton, Value.cells]
        simp
        omega
      · simp only [Array.toList_append, List.append_assoc]
        rw [hbl, hll, Nat.mul_one, ← List.append_assoc]
        have : (bvals l ++ [Value.int .u8 (b.toNat : Int)]).length = l.length + 1 := by simp [bvals]
        rw [← this]
        exact List.take_left
end Go.Proofs.Ytoddbaljnlhhaaa.PL
