/-
  Put together of: PT1 PT2 PM5 PQ1.
-/
import Derived.Test.YtoddbaljnlhhaabXG
import Derived.Lib.FrozenHead2
import Derived.Deep.AppendLies
import Derived.Deep.RegionHeldLaw
import Derived.Laws.IdiomStrings
import Derived.OwnWalk
namespace Go.Proofs.Ytoddbaljnlhhaab.PL
open Go.RowKit Go.Sort

def bvals (l : List UInt8) : List Value := l.map fun b => .int .u8 (b.toNat : Int)
theorem bvals_len (l : List UInt8) : (bvals l).length = l.length := by simp [bvals]
theorem store_below (P : Program) (g o : Nat) (t : TypeId) (fz : Nat × Nat) : ∀ (vs : List Value) (i : Nat) (cur : Array Value) (w : World), w.heap[g]? = some (.cells cur t fz) → cur.size ≤ fz.1 → o + i + vs.length ≤ cur.size → (∀ v ∈ vs, v.oneCell' = true) →
    (storeCells ⟨g, o, none⟩ vs i).run P w = .ok () (w.setRow g (cur.toList.take (o + i) ++ vs ++ cur.toList.drop (o + i + vs.length)).toArray)
  | [], i, cur, w, hg, _, _, _ => by
    simp only [storeCells, List.append_nil, List.length_nil, Nat.add_zero, List.take_append_drop, Array.toArray_toList]
    rw [setRow_self w g cur t fz hg]
    rfl
  | v :: rest, i, cur, w, hg, hfz, hl, h1 => by
    have hi : o + i < cur.size := by simp at hl; omega
    have hadd : (⟨g, o, none⟩ : Addr).add i = ⟨g, o + i, none⟩ := by unfold Addr.add; split <;> simp_all
    have hcell : w.cell? ⟨g, o + i, none⟩ = some cur[o + i] := by simp [World.cell?, hg, hi]
    have hfro : w.frozen? ⟨g, o + i, none⟩ = false := by
      obtain ⟨lo, hi'⟩ := fz
      simp only [World.frozen?, hg, Bool.and_eq_false_iff, decide_eq_false_iff_not]
      left
      simp only at hfz
      omega
    have hst : (store ((⟨g, o, none⟩ : Addr).add i) v).run P w = .ok () (w.setRow g (cur.setIfInBounds (o + i) v)) := by
      rw [hadd, run_store P w _ v _ (h1 v (by simp)), hcell]
      simp [hfro, setCell_eq_setRow w g (o + i) cur t fz v hg]
    have ih := store_below P g o t fz rest (i + 1) (cur.setIfInBounds (o + i) v) (w.setRow g (cur.setIfInBounds (o + i) v)) (setRow_heap w g cur _ t _ hg) (by simpa using hfz) (by simp at hl ⊢; omega) (fun x hx => h1 x (by simp [hx]))
    simp only [storeCells, Sem.run_bind, hst, Result.andThen_ok, ih, setRow_setRow]
    congr 3
    have e := list_seg_step cur.toList (o + i) v rest (by simp at hl ⊢; omega)
    simpa [Array.toList_setIfInBounds, Nat.add_assoc] using e

theorem append_room {P : Program} (w : World) (t ty e : TypeId) (i : TypeInfo) (ht : P.underlying t = some (.slice e)) (hi : P.info? e = some i)
    (g sLen sCap : Nat) (cur : Array Value) (fz : Nat × Nat) (hg : w.heap[g]? = some (.cells cur e fz)) (hfz : cur.size ≤ fz.1)
    (a : Addr) (m c : Nat) (news : List Value) (hl : news.length = m * i.size) (hnews : ∀ j u, news[j]? = some u → w.cell? (a.add j) = some u) (h1 : ∀ u ∈ news, u.oneCell' = true)
    (hroom : sLen + m ≤ sCap) (hfit : sLen * i.size + news.length ≤ cur.size) :
    (Builtin.append_ #[t, t] ty #[.slice (some ⟨g, 0, none⟩) sLen sCap, .slice (some a) m c]).run P w =
      .ok (.slice (some ⟨g, 0, none⟩) (sLen + m) sCap) (w.setRow g (cur.toList.take (sLen * i.size) ++ news ++ cur.toList.drop (sLen * i.size + news.length)).toArray) := by
  have hf := run_firstCells_some (P := P) w i.size m a m c news hl hnews
  have hst := store_below P g (sLen * i.size) e fz news 0 cur w hg hfz (by simpa using hfit) h1
  simp only [Nat.add_zero] at hst
  simp [Builtin.append_, run_underlying ht, sizeOf, typeInfo, hi, Builtin.lenOf, hroom, hf, Addr.add_lit, hst]

/-- The slice v owns the bytes l, in a block from base on. -/
def OB (w : World) (base : Nat) (v : Value) (l : List UInt8) : Prop :=
  w.ownsRow base 5 1 v l.length (bvals l) ∨ ∃ g cap cur fz, v = .slice (some ⟨g, 0, none⟩) l.length cap ∧ base ≤ g ∧ w.heap[g]? = some (.cells cur 5 fz) ∧ cap ≤ fz.1 ∧ l.length ≤ cap ∧ cap ≤ maxLen ∧ cur.size = cap ∧ cur.toList.take l.length = bvals l
theorem OB.lt {w : World} {base : Nat} {v : Value} {l : List UInt8} (h : OB w base v l) : ∀ k, v.ownBlock = some k → base ≤ k ∧ k < w.heap.size := by
  rcases h with h | ⟨g, cap, cur, fz, rfl, hb, hg, _⟩
  · exact h.lt
  · intro k hk
    have : g = k := by simpa [Value.ownBlock] using hk
    subst this
    refine ⟨hb, ?_⟩
    rcases Nat.lt_or_ge g w.heap.size with hlt | hge
    · exact hlt
    · rw [Array.getElem?_eq_none hge] at hg; cases hg
theorem OB.alloc {w : World} {base : Nat} {v : Value} {l : List UInt8} (h : OB w base v l) (o : Obj) : OB (w.alloc o) base v l := by
  rcases h with h | ⟨g, cap, cur, fz, rfl, hb, hg, r⟩
  · exact .inl (h.alloc o)
  · refine .inr ⟨g, cap, cur, fz, rfl, hb, ?_, r⟩
    have hlt : g < w.heap.size := by
      rcases Nat.lt_or_ge g w.heap.size with hlt | hge
      · exact hlt
      · rw [Array.getElem?_eq_none hge] at hg; cases hg
    rw [← hg]
    exact heap_alloc_old w o hlt
theorem OB.drew {w : World} {base : Nat} {v : Value} {l : List UInt8} (h : OB w base v l) : OB w.drew base v l := h
theorem OB.cells {w : World} {base : Nat} {l : List UInt8} {a : Option Addr} {n c : Nat} (h : OB w base (.slice a n c) l) : l = [] ∧ n = 0 ∨ ∃ g, a = some ⟨g, 0, none⟩ ∧ n = l.length ∧ ∀ j (hj : j < l.length), w.cell? (Addr.add ⟨g, 0, none⟩ j) = some (.int .u8 (l[j].toNat : Int)) := by
  have key : ∀ (g : Nat) (hh : ∀ j u, (bvals l)[j]? = some u → w.cell? ((⟨g, 0, none⟩ : Addr).add j) = some u) j (hj : j < l.length), w.cell? (Addr.add ⟨g, 0, none⟩ j) = some (.int .u8 (l[j].toNat : Int)) := fun g hh j hj =>
    hh j _ (by simp [bvals, List.getElem?_eq_getElem hj])
  rcases h with h | ⟨g, cap, cur, fz, e, hb, hg, hz, hn, hm, hs, ht⟩
  · have h2 := h.2
    rcases h2 with ⟨e, e2⟩ | ⟨g, cap, cur, e, _⟩
    · simp only [Value.slice.injEq] at e
      exact .inl ⟨List.eq_nil_of_length_eq_zero e2, e.2.1⟩
    · simp only [Value.slice.injEq] at e
      obtain ⟨rfl, rfl, rfl⟩ := e
      exact .inr ⟨g, rfl, rfl, key g (h.cells (g := g) rfl)⟩
  · simp only [Value.slice.injEq] at e
    obtain ⟨rfl, rfl, rfl⟩ := e
    refine .inr ⟨g, rfl, rfl, fun j hj => ?_⟩
    have hj2 : j < cur.size := by omega
    have e1 : cur[j]? = some (.int .u8 (l[j].toNat : Int)) := by
      have : (cur.toList.take l.length)[j]? = (bvals l)[j]? := by rw [ht]
      rw [List.getElem?_take_of_lt hj] at this
      simp [bvals, List.getElem?_eq_getElem hj] at this
      rw [← this]
    have hadd : (⟨g, 0, none⟩ : Addr).add j = ⟨g, j, none⟩ := by unfold Addr.add; split <;> simp_all
    rw [hadd]
    simp [World.cell?, hg, e1]

theorem Try.info5 : (Try.prog.info? 5).map (fun i => (i.zero, i.size, i.bytes)) = some (some (.int .u8 0), 1, 1) := by kernel_rfl
theorem OB.append {w : World} {base : Nat} {v : Value} {l : List UInt8} (h : OB w base v l) (ty : TypeId) (b : UInt8) (ad : Addr) (c : Nat) (hnew : w.cell? ad = some (.int .u8 (b.toNat : Int))) (hadd : ad.add 0 = ad) (hlen : l.length + 1 ≤ 1000) (hbase : base ≤ w.heap.size) :
    ∃ g cap w', (Builtin.append_ #[55, 55] ty #[v, .slice (some ad) 1 c]).run Try.prog w = .ok (.slice (some ⟨g, 0, none⟩) (l.length + 1) cap) w' ∧ OB w' base (.slice (some ⟨g, 0, none⟩) (l.length + 1) cap) (l ++ [b]) ∧ w.grownBy w' v.ownBlock ∧ l.length + 1 ≤ cap ∧ cap ≤ maxLen := by
  obtain ⟨i, hi, hz0, hz1, hz2⟩ := info_parts Try.info5
  have hnews : ∀ j u, [Value.int .u8 (b.toNat : Int)][j]? = some u → w.cell? (ad.add j) = some u := fun j u hj => by
    match j, hj with
    | 0, hj => simp at hj; subst hj; rw [hadd]; exact hnew
    | (j + 1), hj => simp at hj
  have h1 : ∀ u ∈ [Value.int .u8 (b.toNat : Int)], u.oneCell' = true := fun u hu => by simp at hu; subst hu; rfl
  have hbl : bvals (l ++ [b]) = bvals l ++ [.int .u8 (b.toNat : Int)] := by simp [bvals]
  have hll : (l ++ [b]).length = l.length + 1 := by simp
  rcases h with h | ⟨g, cap, cur, fz, rfl, hb, hg, hz, hn, hm, hs, ht⟩
  · obtain ⟨g, cap, w', r1, r2, r3, _, _⟩ := run_append_lies (P := Try.prog) w 55 ty base 5 i (.int .u8 0) 1 1 Try.underlying55 hi hz0 hz1 hz2 rfl (by decide) v l.length (bvals l) h ad 1 c [.int .u8 (b.toNat : Int)] rfl hnews h1 (by decide) (by unfold maxLen; omega) (by omega) hbase _ rfl
    have hc : l.length + 1 ≤ cap ∧ cap ≤ maxLen := by
      rcases r2.2 with ⟨e, e2⟩ | ⟨g', c', cur, e, _, _, k1, k2, _⟩
      · cases e
      · simp only [Value.slice.injEq] at e
        obtain ⟨_, _, rfl⟩ := e
        exact ⟨k1, k2⟩
    exact ⟨g, cap, w', r1, .inl (by rw [hbl, hll]; exact r2), r3, hc⟩
  · by_cases hroom : l.length + 1 ≤ cap
    · have hr := append_room (P := Try.prog) w 55 ty 5 i Try.underlying55 hi g l.length cap cur fz hg (by omega) ad 1 c [.int .u8 (b.toNat : Int)] (by rw [hz1]; rfl) hnews h1 hroom (by rw [hz1]; simp; omega)
      rw [hz1, Nat.mul_one] at hr
      refine ⟨g, cap, _, hr, .inr ⟨g, cap, _, fz, by rw [hll], hb, setRow_heap w g cur _ 5 _ hg, hz, by rw [hll]; exact hroom, hm, ?_, ?_⟩, ⟨rfl, rfl, rfl, by simp, fun k _ hk => setRow_other w g k _ (fun e => hk (by simp [Value.ownBlock, e]))⟩, hroom, hm⟩
      · simp only [List.size_toArray, List.length_append, List.length_take, List.length_drop, Array.length_toList, List.length_singleton]
        omega
      · rw [ht, hbl, hll]
        have : (bvals l ++ [Value.int .u8 (b.toNat : Int)]).length = l.length + 1 := by simp [bvals]
        rw [← this]
        exact List.take_left
    · have holds : ∀ j u, (bvals l)[j]? = some u → w.cell? ((⟨g, 0, none⟩ : Addr).add j) = some u := fun j u hj => by
        have hj2 : j < l.length := by
          have := (List.getElem?_eq_some_iff.1 hj).1
          simpa [bvals] using this
        have hc := OB.cells (w := w) (base := base) (l := l) (.inr ⟨g, cap, cur, fz, rfl, hb, hg, hz, hn, hm, hs, ht⟩)
        rcases hc with ⟨rfl, _⟩ | ⟨g', e, _, hc⟩
        · simp at hj2
        · simp only [Option.some.injEq, Addr.mk.injEq, and_true] at e
          subst e
          rw [hc j hj2]
          simp [bvals, List.getElem?_eq_getElem hj2] at hj
          rw [← hj]
      have hr := run_append_grow (P := Try.prog) w 55 ty 5 i (.int .u8 0) Try.underlying55 hi hz0 ⟨g, 0, none⟩ l.length cap (bvals l) (by rw [hz1, bvals_len, Nat.mul_one]) holds ad 1 c [.int .u8 (b.toNat : Int)] (by rw [hz1]; rfl) hnews (by omega) (by omega) (growslice_fits (by omega) (by rw [hz2]; omega))
      have hge := grownCap_ge w (l.length + 1) cap 5
      have hcm2 : grownCap w (l.length + 1) cap 5 ≤ maxLen := grownCap_le_maxLen w (l.length + 1) cap 5 (by unfold maxLen; omega)
      refine ⟨w.heap.size, _, _, hr, .inl ⟨by rw [bvals_len, Nat.mul_one], .inr ⟨w.heap.size, _, _, by rw [hll], hbase, heap_alloc_new w.drew _, by rw [hll]; exact hge, hcm2, ?_, ?_⟩⟩, ⟨rfl, rfl, rfl, by simp, fun k hk _ => heap_alloc_old w.drew _ hk⟩, hge, hcm2⟩
      · simp only [Array.size_append, List.size_toArray, size_zeroCells, bvals_len, List.length_singleton, Value.cells]
        simp
        omega
      · simp only [Array.toList_append, List.append_assoc]
        rw [hbl, hll, Nat.mul_one, ← List.append_assoc]
        have : (bvals l ++ [Value.int .u8 (b.toNat : Int)]).length = l.length + 1 := by simp [bvals]
        rw [← this]
        exact List.take_left
end Go.Proofs.Ytoddbaljnlhhaab.PL
namespace Go.Proofs.Ytoddbaljnlhhaab.PL
open Go.RowKit Go.Sort

/-- The slice v is new memory, behind W0, that holds these bytes. -/
structure TB (W0 : World) (v : Value) (l : List UInt8) (W : World) : Prop where
  ob : OB W W0.heap.size v l
  below : Below W0.heap.size W0 W
theorem OB.below {w w' : World} {base : Nat} {v : Value} {l : List UInt8} (h : OB w base v l) (hb : Below w.heap.size w w') : OB w' base v l := by
  have hlt := h.lt
  rcases h with h | ⟨g, cap, cur, fz, rfl, hbg, hg, r⟩
  · refine .inl ⟨h.1, ?_⟩
    rcases h.2 with h2 | ⟨g, cap, cur, rfl, hbg, hg, r⟩
    · exact .inl h2
    · exact .inr ⟨g, cap, cur, rfl, hbg, by rw [hb.block g (hlt g rfl).2]; exact hg, r⟩
  · exact .inr ⟨g, cap, cur, fz, rfl, hbg, by rw [hb.block g (hlt g rfl).2]; exact hg, r⟩
theorem TB.on {W0 W W' : World} {v : Value} {l : List UInt8} (h : TB W0 v l W) (hb : Below W.heap.size W W') : TB W0 v l W' := ⟨h.ob.below hb, btr h.below hb⟩
theorem TB.alloc {W0 W : World} {v : Value} {l : List UInt8} (h : TB W0 v l W) (o : Obj) : TB W0 v l (W.alloc o) := h.on (bal (Below.refl _ _) _)
theorem TB.drew {W0 W : World} {v : Value} {l : List UInt8} (h : TB W0 v l W) : TB W0 v l W.drew := ⟨h.ob, below_drew h.below⟩
theorem TB.nil (W : World) : TB W (.slice none 0 0) [] W := ⟨.inl (World.ownsRow_nil _ _ _ _), Below.refl _ _⟩
theorem TB.form {W0 W : World} {v : Value} {l : List UInt8} (h : TB W0 v l W) : ∃ a c, v = .slice a l.length c := by
  rcases h.ob with h | ⟨g, cap, cur, fz, rfl, _⟩
  · rcases h.2 with ⟨rfl, e⟩ | ⟨g, cap, cur, rfl, _⟩
    · exact ⟨none, 0, by rw [e]⟩
    · exact ⟨_, _, rfl⟩
  · exact ⟨_, _, rfl⟩
theorem add0 (b o : Nat) : (⟨b, o, none⟩ : Addr).add 0 = ⟨b, o, none⟩ := by unfold Addr.add; split <;> simp_all

/-- append(v, b), the byte in a block that has just been laid for it. -/
theorem wp_app {o : Oper} {a : Act} {K : Act → World → Prop} {Q : Exit → Act → World → Prop} (s x : Operand) (ho : o.op = .call { callee := .builtin .append, args := #[s, x], argTypes := #[55, 55] })
    (l : List UInt8) (v : Value) (W0 wr : World) (ht : TB W0 v l wr) (hs : a.eval s = v) (b : UInt8) (bI : Int) (hbI : bI = (b.toNat : Int)) (hx : a.eval x = .slice (some ⟨wr.heap.size, 0, none⟩) 1 1) (hl : l.length + 1 ≤ 1000)
    (h : ∀ v' w3, TB W0 v' (l ++ [b]) w3 → K (a.put o.dst v') w3) : o.wp Try.prog a (wr.alloc (.cells #[.int .u8 bI] 5)) K Q := by
  subst hbI
  have hsz := ht.below.size
  obtain ⟨g, cap, w', hr, h2, h3, _, _⟩ := (ht.alloc (.cells #[.int .u8 (b.toNat : Int)] 5)).ob.append o.type b ⟨wr.heap.size, 0, none⟩ 1 (World.cell?_alloc_at _ _ _ _ rfl) (add0 _ _) hl (by simp; omega)
  unfold Oper.wp execOp
  simp only [ho, resolve, invoke, builtin, Sem.run_bind, Sem.run_pure, Result.andThen_ok, List.map_toArray, List.map_cons, List.map_nil, hs, hx, hr]
  exact h _ w' ⟨h2, (ht.below.alloc ht.below.size _).grown h3 (by have := ht.below.size; simp; omega) (fun k e => (ht.ob.lt k e).1)⟩
theorem wpList_app {ops : Array Oper} {rest : List Oper} {o : Oper} {a : Act} {Q : Exit → Act → World → Prop} (hgd : o.guard = none) (s x : Operand) (ho : o.op = .call { callee := .builtin .append, args := #[s, x], argTypes := #[55, 55] })
    (l : List UInt8) (v : Value) (W0 wr : World) (ht : TB W0 v l wr) (hs : a.eval s = v) (b : UInt8) (bI : Int) (hbI : bI = (b.toNat : Int)) (hx : a.eval x = .slice (some ⟨wr.heap.size, 0, none⟩) 1 1) (hl : l.length + 1 ≤ 1000)
    (h : ∀ v' w3, TB W0 v' (l ++ [b]) w3 → wpList Try.prog ops Q rest (a.put o.dst v') w3) : wpList Try.prog ops Q (o :: rest) a (wr.alloc (.cells #[.int .u8 bI] 5)) :=
  wpList_plain hgd fun _ hK => wp_app s x ho l v W0 wr ht hs b bI hbI hx hl fun v' w3 h3 => hK _ _ (h v' w3 h3)
theorem step_app {ops : Array Oper} {o : Oper} {a : Act} {K : Act → World → Prop} {Q : Exit → Act → World → Prop} {E : Prop} (hgd : o.guard = none) (s x : Operand) (ho : o.op = .call { callee := .builtin .append, args := #[s, x], argTypes := #[55, 55] })
    (l : List UInt8) (v : Value) (W0 wr : World) (ht : TB W0 v l wr) (hs : a.eval s = v) (b : UInt8) (bI : Int) (hbI : bI = (b.toNat : Int)) (hx : a.eval x = .slice (some ⟨wr.heap.size, 0, none⟩) 1 1) (hl : l.length + 1 ≤ 1000)
    (h : ∀ v' w3, TB W0 v' (l ++ [b]) w3 → K (a.put o.dst v') w3) : if Region.wanted o (yielded ops a.tmps) = true then Oper.wp Try.prog o a (wr.alloc (.cells #[.int .u8 bI] 5)) K Q else E := by
  have hw : Region.wanted o (yielded ops a.tmps) = true := by simp [Region.wanted, hgd]
  rw [if_pos hw]
  exact wp_app s x ho l v W0 wr ht hs b bI hbI hx hl h
theorem strCells_is (l : List UInt8) : Lib.strCells ⟨l.toArray⟩ = bvals l := rfl
/-- append(nil, s...). -/
theorem wpList_app_text {ops : Array Oper} {rest : List Oper} {o : Oper} {a : Act} {Q : Exit → Act → World → Prop} (hgd : o.guard = none) (sl x : Operand) (ho : o.op = .call { callee := .builtin .append, args := #[sl, x], argTypes := #[55, 9] })
    (w : World) (l : List UInt8) (hs : a.eval sl = .slice none 0 0) (hx : a.eval x = .string ⟨l.toArray⟩) (hl : l.length ≤ 1000)
    (h : ∀ v' w3, TB w v' l w3 → wpList Try.prog ops Q rest (a.put o.dst v') w3) : wpList Try.prog ops Q (o :: rest) a w := by
  obtain ⟨i, hi, hz0, hz1, hz2⟩ := info_parts Try.info5
  have hsz : (⟨l.toArray⟩ : ByteArray).size = l.length := rfl
  refine Lib.wpList_append_own_string w hgd sl x 55 9 ho w.heap.size 5 i Try.underlying55 Try.underlying9 hi hz0 hz1 hz2 (.slice none 0 0) 0 [] hs (World.ownsRow_nil _ _ _ _) ⟨l.toArray⟩ hx (by rw [hsz]; unfold maxLen; omega) (by rw [hsz]; omega) (Nat.le_refl _) ?_
  intro v' w' h2 h3 _
  rw [hsz, Nat.zero_add, strCells_is, List.nil_append] at h2
  exact h v' w' ⟨.inl h2, (Below.refl _ _).grown h3 (Nat.le_refl _) (fun k e => by simp [Value.ownBlock] at e)⟩
/-- []byte(s). -/
theorem conv_tb (l : List UInt8) (hl : l.length ≤ 1000) (w : World) : ∃ v W, (convert 9 55 (.string ⟨l.toArray⟩)).run Try.prog w = .ok v W ∧ TB w v l W := by
  have hsz : (⟨l.toArray⟩ : ByteArray).size = l.length := rfl
  have hr := run_bytes_of_string (P := Try.prog) w 9 55 5 ⟨l.toArray⟩ Try.underlying9 Try.underlying55 Try.underlying5
  have hge := grownCap_ge w (⟨l.toArray⟩ : ByteArray).size 0 5
  have hbs : (bytesRow ⟨l.toArray⟩ (grownCap w (⟨l.toArray⟩ : ByteArray).size 0 5)).size = grownCap w (⟨l.toArray⟩ : ByteArray).size 0 5 := by
    unfold bytesRow
    simp only [Array.size_append, Array.size_map, Array.size_replicate]
    rw [hsz] at *
    simp
    omega
  refine ⟨_, _, hr, .inr ⟨w.heap.size, grownCap w (⟨l.toArray⟩ : ByteArray).size 0 5, _, _, rfl, Nat.le_refl _, heap_alloc_new w.drew _, by rw [hbs]; exact Nat.le_refl _, hge, grownCap_le_maxLen _ _ _ _ (by rw [hsz]; unfold maxLen; omega), hbs, ?_⟩, (below_drew (Below.refl _ _)).alloc (Nat.le_refl _) _⟩
  unfold bytesRow
  rw [Array.toList_append]
  have : (Array.map (fun b : UInt8 => Value.int .u8 (b.toNat : Int)) (⟨l.toArray⟩ : ByteArray).data).toList = bvals l := by simp [bvals]
  rw [this, ← bvals_len l]
  exact List.take_left
/-- string(v). -/
theorem conv_back {W0 W : World} {v : Value} {l : List UInt8} (h : TB W0 v l W) (hl : 0 < l.length) : (convert 55 9 v).run Try.prog W = .ok (.string ⟨l.toArray⟩) W := by
  obtain ⟨a, c, rfl⟩ := h.form
  rcases h.ob.cells with ⟨rfl, _⟩ | ⟨g, rfl, _, hc⟩
  · simp at hl
  · exact run_convert_bytes_back (P := Try.prog) W 55 9 5 ⟨g, 0, none⟩ c l Try.underlying55 Try.underlying5 Try.underlying9 hc

/-! ### The text -/
def signL (f : Nat) : List UInt8 := if f = 0 then [43] else if f = 1 then [43, 105] else if f = 2 then [45] else [45, 105]
theorem signL_len (f : Nat) : 0 < (signL f).length ∧ (signL f).length ≤ 2 := by unfold signL; repeat (first | decide | split)
def letK (k : Nat) : UInt8 := if k = 0 then 73 else if k = 1 then 88 else if k = 2 then 89 else 90
/-- The letters of the m highest of n qubits, the highest first. -/
def lts (x z n : Nat) : Nat → List UInt8
  | 0 => []
  | m + 1 => lts x z n m ++ [letK (atK (bt x (n - 1 - m)) (bt z (n - 1 - m)))]
theorem lts_len (x z n m : Nat) : (lts x z n m).length = m := by
  induction m with
  | zero => rfl
  | succ m ih => simp [lts, ih]
def PS.text (p : PS) : List UInt8 := signL p.f ++ lts p.x p.z p.n p.n
theorem PS.text_len (p : PS) : 0 < p.text.length := by unfold PS.text; have := signL_len p.f; simp; omega

end Go.Proofs.Ytoddbaljnlhhaab.PL
namespace Go.Proofs.Ytoddbaljnlhhaab.PL
open Go.RowKit Go.Sort

/-- The number that the first k digits write. -/
def prs (c : Nat → Nat) : Nat → Nat
  | 0 => 0
  | k + 1 => 2 * prs c k + c k
theorem prs_lt (c : Nat → Nat) (hc : ∀ i, c i ≤ 1) (k : Nat) : prs c k < 2 ^ k := by
  induction k with
  | zero => simp [prs]
  | succ k ih =>
    have := hc k
    simp only [prs]
    rw [Nat.pow_succ]
    omega
theorem bt_prs (c : Nat → Nat) (hc : ∀ i, c i ≤ 1) (k : Nat) : ∀ i, i < k → bt (prs c k) (k - 1 - i) = c i := by
  induction k with
  | zero => intro i h; omega
  | succ k ih =>
    intro i hi
    simp only [prs]
    rw [bt_two _ _ _ (hc k)]
    by_cases e : i = k
    · subst e; rw [if_pos (by omega)]
    · rw [if_neg (by omega), show k + 1 - 1 - i - 1 = k - 1 - i by omega]
      exact ih i (by omega)
theorem prs_of {c : Nat → Nat} (hc : ∀ i, c i ≤ 1) {x n : Nat} (hx : x < 2 ^ n) (h : ∀ i, i < n → bt x (n - 1 - i) = c i) : prs c n = x :=
  ext_bt fun j => by
    by_cases hj : j < n
    · have e : j = n - 1 - (n - 1 - j) := by omega
      rw [e, bt_prs c hc n (n - 1 - j) (by omega), h (n - 1 - j) (by omega)]
    · have lo : ∀ y, y < 2 ^ n → bt y j = 0 := fun y hy => bt_zero.2 (Nat.testBit_lt_two_pow (Nat.lt_of_lt_of_le hy (Nat.pow_le_pow_right (by decide) (by omega))))
      rw [lo _ (prs_lt c hc n), lo _ hx]
theorem i_push (x b : Nat) (hx : x < 9223372036854775808) (hb : b ≤ 1) : bits .or .u64 ((x : Int) * 2) (b : Int) = ((2 * x + b : Nat) : Int) := by
  have e : (x : Int) * 2 = ((2 * x : Nat) : Int) := by omega
  have h := or_mulp x 1 b (by simp; omega)
  rw [Nat.pow_one] at h
  rw [e, i_or _ _ (by omega) (by omega), h]


/-- Byte i of a text. -/
def gl (L : List UInt8) (i : Nat) : Nat := (L.getD i 0).toNat
theorem gl_lt (L : List UInt8) (i : Nat) : gl L i < 256 := UInt8.toNat_lt _
theorem gl_at (L : List UInt8) (i : Nat) (h : i < L.length) : gl L i = L[i].toNat := by
  unfold gl
  rw [List.getD_eq_getElem?_getD, List.getElem?_eq_getElem h]
  rfl
def isLet (c : Nat) : Prop := c = 73 ∨ c = 88 ∨ c = 89 ∨ c = 90
def AllLet (L : List UInt8) : Prop := ∀ i, i < L.length → isLet (gl L i)
def xd (c : Nat) : Nat := if c = 88 ∨ c = 89 then 1 else 0
def zd (c : Nat) : Nat := if c = 90 ∨ c = 89 then 1 else 0
def xs (L : List UInt8) (i : Nat) : Nat := xd (gl L i)
def zs (L : List UInt8) (i : Nat) : Nat := zd (gl L i)
theorem xs_le (L : List UInt8) (i : Nat) : xs L i ≤ 1 := by unfold xs xd; split <;> omega
theorem zs_le (L : List UInt8) (i : Nat) : zs L i ≤ 1 := by unfold zs zd; split <;> omega
theorem prs_small {c : Nat → Nat} (hc : ∀ i, c i ≤ 1) {k : Nat} (hk : k < 64) : prs c k < 9223372036854775808 :=
  Nat.lt_of_lt_of_le (prs_lt _ hc k) (Nat.pow_le_pow_right (n := 2) (by decide) (show k ≤ 63 by omega))
/-- The sign cut off. -/
def cut1 (L : List UInt8) : Nat × List UInt8 := if Lib.hasPrefix L [45] = true then (2, Lib.trimPrefix L [45]) else (0, Lib.trimPrefix L [43])
def cutS (L : List UInt8) : Nat × List UInt8 := if Lib.hasPrefix (cut1 L).2 [105] = true then ((cut1 L).1 + 1, Lib.trimPrefix (cut1 L).2 [105]) else cut1 L
theorem cut1_f (L : List UInt8) : (cut1 L).1 ≤ 2 := by
  unfold cut1
  split
  · exact Nat.le_refl 2
  · exact Nat.zero_le 2
theorem cutS_f (L : List UInt8) : (cutS L).1 < 4 := by
  have := cut1_f L
  unfold cutS
  split
  · show (cut1 L).1 + 1 < 4; omega
  · omega
theorem cut1_len (L : List UInt8) : (cut1 L).2.length ≤ L.length := by unfold cut1; split <;> exact Lib.trimPrefix_le _ _
theorem cutS_len (L : List UInt8) : (cutS L).2.length ≤ L.length := by
  have := cut1_len L
  unfold cutS
  split
  · exact Nat.le_trans (Lib.trimPrefix_le _ _) this
  · exact this
/-- []byte(s), to be read. -/
theorem conv_rd (L : List UInt8) (w : World) : ∃ B c W, (convert 9 55 (.string ⟨L.toArray⟩)).run Try.prog w = .ok (.slice (some ⟨B, 0, none⟩) L.length c) W ∧ Below w.heap.size w W ∧ L.length ≤ c ∧ w.heap.size ≤ B ∧ ∀ j, j < L.length → W.cell? ⟨B, j, none⟩ = some (.int .u8 (gl L j : Nat)) := by
  have hsz : (⟨L.toArray⟩ : ByteArray).size = L.length := rfl
  have hr := run_bytes_of_string (P := Try.prog) w 9 55 5 ⟨L.toArray⟩ Try.underlying9 Try.underlying55 Try.underlying5
  refine ⟨w.heap.size, _, _, hr, (below_drew (Below.refl _ _)).alloc (Nat.le_refl _) _, grownCap_ge w _ 0 5, Nat.le_refl _, fun j hj => ?_⟩
  have h1 := bytesRow_at ⟨L.toArray⟩ (grownCap w (⟨L.toArray⟩ : ByteArray).size 0 5) j (by simpa using hj)
  rw [gl_at L j hj]
  have h2 := heap_alloc_new w.drew (.cells (bytesRow ⟨L.toArray⟩ (grownCap w (⟨L.toArray⟩ : ByteArray).size 0 5)) 5 ((bytesRow ⟨L.toArray⟩ (grownCap w (⟨L.toArray⟩ : ByteArray).size 0 5)).size, (bytesRow ⟨L.toArray⟩ (grownCap w (⟨L.toArray⟩ : ByteArray).size 0 5)).size + 1))
  have h3 : w.drew.heap.size = w.heap.size := rfl
  rw [h3] at h2
  simp only [World.cell?, h2, h1]
  rfl
end Go.Proofs.Ytoddbaljnlhhaab.PL
namespace Go.Proofs.Ytoddbaljnlhhaab.PL
open Go.RowKit Go.Sort

theorem cutSign_any (L : List UInt8) (w : World) : Calls Try.prog 76 #[.string ⟨L.toArray⟩] w fun e w' => e = .returned (.tuple #[.int .i64 ((cutS L).1 : Nat), .string ⟨(cutS L).2.toArray⟩]) ∧ w' = w := by
  have C1 := fun w => Try.strings_CutPrefix ⟨L.toArray⟩ ⟨#[45]⟩ w
  have C2 := fun w => Try.strings_TrimPrefix ⟨L.toArray⟩ ⟨#[43]⟩ w
  have e0 : (⟨L.toArray⟩ : ByteArray).data.toList = L := rfl
  have e1 : (⟨#[45]⟩ : ByteArray).data.toList = [45] := rfl
  have e2 : (⟨#[43]⟩ : ByteArray).data.toList = [43] := rfl
  have e3 : (⟨#[105]⟩ : ByteArray).data.toList = [105] := rfl
  rw [e0, e1] at C1
  rw [e0, e2] at C2
  unfold cutS cut1
  by_cases h1 : Lib.hasPrefix L [45] = true
  · simp only [if_pos h1]
    rw [h1] at C1
    generalize Lib.trimPrefix L [45] = r at *
    have C3 := fun w => Try.strings_CutPrefix ⟨r.toArray⟩ ⟨#[105]⟩ w
    have e4 : (⟨r.toArray⟩ : ByteArray).data.toList = r := rfl
    rw [e4, e3] at C3
    by_cases h2 : Lib.hasPrefix r [105] = true
    · simp only [if_pos h2]
      rw [h2] at C3
      generalize Lib.trimPrefix r [105] = q at *
      clear e0 e1 e2 e3 e4 h1 h2
      go_enter Try.func76, Try.ntmps76
      go_wp2_with (first
        | (go_at_call 87; (with_reducible refine (C1 _).mono ?_); rintro e w1 ⟨rfl, rfl⟩)
        | (go_at_call 87; (with_reducible refine (C3 _).mono ?_); rintro e w1 ⟨rfl, rfl⟩))
      go_ret2
      exact ⟨rfl, rfl⟩
    · simp only [if_neg h2]
      rw [show Lib.hasPrefix r [105] = false by simpa using h2] at C3
      generalize Lib.trimPrefix r [105] = q at *
      clear e0 e1 e2 e3 e4 h1 h2
      go_enter Try.func76, Try.ntmps76
      go_wp2_with (first
        | (go_at_call 87; (with_reducible refine (C1 _).mono ?_); rintro e w1 ⟨rfl, rfl⟩)
        | (go_at_call 87; (with_reducible refine (C3 _).mono ?_); rintro e w1 ⟨rfl, rfl⟩))
      go_ret2
      exact ⟨rfl, rfl⟩
  · simp only [if_neg h1]
    rw [show Lib.hasPrefix L [45] = false by simpa using h1] at C1
    generalize Lib.trimPrefix L [45] = r0 at *
    generalize Lib.trimPrefix L [43] = r at *
    have C3 := fun w => Try.strings_CutPrefix ⟨r.toArray⟩ ⟨#[105]⟩ w
    have e4 : (⟨r.toArray⟩ : ByteArray).data.toList = r := rfl
    rw [e4, e3] at C3
    by_cases h2 : Lib.hasPrefix r [105] = true
    · simp only [if_pos h2]
      rw [h2] at C3
      generalize Lib.trimPrefix r [105] = q at *
      clear e0 e1 e2 e3 e4 h1 h2
      go_enter Try.func76, Try.ntmps76
      go_wp2_with (first
        | (go_at_call 87; (with_reducible refine (C1 _).mono ?_); rintro e w1 ⟨rfl, rfl⟩)
        | (go_at_call 88; (with_reducible refine (C2 _).mono ?_); rintro e w1 ⟨rfl, rfl⟩)
        | (go_at_call 87; (with_reducible refine (C3 _).mono ?_); rintro e w1 ⟨rfl, rfl⟩))
      go_ret2
      exact ⟨rfl, rfl⟩
    · simp only [if_neg h2]
      rw [show Lib.hasPrefix r [105] = false by simpa using h2] at C3
      generalize Lib.trimPrefix r [105] = q at *
      clear e0 e1 e2 e3 e4 h1 h2
      go_enter Try.func76, Try.ntmps76
      go_wp2_with (first
        | (go_at_call 87; (with_reducible refine (C1 _).mono ?_); rintro e w1 ⟨rfl, rfl⟩)
        | (go_at_call 88; (with_reducible refine (C2 _).mono ?_); rintro e w1 ⟨rfl, rfl⟩)
        | (go_at_call 87; (with_reducible refine (C3 _).mono ?_); rintro e w1 ⟨rfl, rfl⟩))
      go_ret2
      exact ⟨rfl, rfl⟩

theorem kd_let {c : Nat} (h : isLet c) : 0 ≤ kd c := by rcases h with rfl | rfl | rfl | rfl <;> decide
theorem kd_nolet {c : Nat} (h : ¬ isLet c) : kd c = -1 := by
  unfold kd
  have h1 : c ≠ 73 := fun e => h (.inl e)
  have h2 : c ≠ 88 := fun e => h (.inr (.inl e))
  have h3 : c ≠ 89 := fun e => h (.inr (.inr (.inl e)))
  have h4 : c ≠ 90 := fun e => h (.inr (.inr (.inr e)))
  simp [h1, h2, h3, h4]

set_option maxHeartbeats 1000000 in
theorem parse_bad (L : List UInt8) (w : World) (hl : L.length ≤ 9223372036854775807) (hb : ¬ AllLet (cutS L).2) :
    Calls Try.prog 56 #[.string ⟨L.toArray⟩] w fun e w' => e = .returned (.tuple #[pv 0 0 0 0, .int .i64 70]) ∧ Below w.heap.size w w' := by
  have CS := fun w => cutSign_any L w
  have hr : (cutS L).2.length ≤ 9223372036854775807 := Nat.le_trans (cutS_len L) hl
  have hf := cutS_f L
  generalize (cutS L).2 = R at *
  generalize (cutS L).1 = F at *
  have KD := fun (k : Nat) w => kind_any (gl R k) w (gl_lt R k)
  obtain ⟨hW, b1⟩ := one_box w 0 0 0 0
  obtain ⟨B, c, W1, CV0, hB1, hc, hBb, hC⟩ := conv_rd R (w.alloc (pc 0 0 0 0))
  have CV : (convert 9 55 (.string ⟨R.toArray⟩)).run Try.prog (w.alloc (.cells #[.int .i64 0, .int .u64 0, .int .u64 0, .int .i64 0] 29)) = .ok (.slice (some ⟨B, 0, none⟩) R.length c) W1 := CV0
  have b2 := b1.below hB1
  clear CV0
  have HC : Hid (∀ j, j < R.length → W1.cell? ⟨B, j, none⟩ = some (.int .u8 (gl R j : Nat))) := hC
  have HB : Hid (¬ AllLet R) := hb
  clear hC hb hl
  go_enter Try.func56, Try.ntmps56
  go_upto_region 3 with (go_at_call 76; (with_reducible refine (CS _).mono ?_); rintro e w1 ⟨rfl, rfl⟩)
  clear CV CS
  go_loop [20] (fun i => ∃ k : Nat, k ≤ R.length ∧ i = .int .i64 k ∧ Hid (∀ j, j < k → isLet (gl R j))) (fun i => R.length - (intOf i).toNat)
  case atStart => exact ⟨0, by omega, rfl, fun j hj => by omega⟩
  case round =>
    obtain ⟨k, hk, rfl, hall⟩ := hrel
    by_cases hlt : k < R.length
    · have hcell := HC.out k hlt
      have KDk := fun w => KD k w
      have HN : Hid (isLet (gl R k) → ∀ j, j < k + 1 → isLet (gl R j)) := fun hl j hj => if e : j < k then hall.out j e else by
        obtain rfl : j = k := by omega
        exact hl
      by_cases hlet : isLet (gl R k)
      · have hkd := kd_let hlet
        have HL : Hid (isLet (gl R k)) := hlet
        generalize kd (gl R k) = kk at *
        have hkd' : ¬ kk < 0 := by omega
        clear KD hlet
        go_wp2_with (go_at_call 44; (with_reducible refine (KDk _).mono ?_); rintro e w1 ⟨rfl, rfl⟩)
        go_round
        case rel => exact ⟨k + 1, by omega, by go_num, HN.out HL.out⟩
        case measure => simp [intOf]; omega
      · rw [kd_nolet hlet] at KDk
        clear KD hlet
        obtain ⟨d0, d1, d2, d3, g0, g1, g2, g3⟩ := b2
        go_wp2_with (go_at_call 44; (with_reducible refine (KDk _).mono ?_); rintro e w1 ⟨rfl, rfl⟩)
        refine bodyPost_ret (v := .tuple #[pv 0 0 0 0, .int .i64 70]) (by simp [results, Try.results56, go_sem, d0, d1, d2, d3]) rfl ⟨rfl, ?_⟩
        repeat (first | exact btr hW hB1 | refine bset ?_ _ _ _ (by omega))
    · obtain rfl : k = R.length := by omega
      exact absurd (fun j hj => hall.out j hj) HB.out
end Go.Proofs.Ytoddbaljnlhhaab.PL
