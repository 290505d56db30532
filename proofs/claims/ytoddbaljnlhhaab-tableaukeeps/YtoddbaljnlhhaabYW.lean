/-
  Put together of: LM.
-/
import Derived.Test.YtoddbaljnlhhaabXX
import Derived.Test.YtoddbaljnlhhaabYR
import Derived.Test.YtoddbaljnlhhaabXT
namespace Go.Proofs.Ytoddbaljnlhhaab
open Go.RowKit Go.Sort
open PL (pv PS bt)

/-- Outside of S nothing has turned. -/
def Kx (S : Nat → Prop) (W W' : World) : Prop := W.heap.size ≤ W'.heap.size ∧ ∀ b, b < W.heap.size → ¬ S b → W'.heap[b]? = W.heap[b]?
section
variable {S : Nat → Prop} {W W' : World}
theorem Kx.refl (S : Nat → Prop) (W : World) : Kx S W W := ⟨Nat.le_refl _, fun _ _ _ => rfl⟩
theorem Kx.on {W2 : World} (h : Kx S W W') (hb : Below W'.heap.size W' W2) : Kx S W W2 := ⟨Nat.le_trans h.1 hb.size, fun b hl hs => (hb.block b (Nat.lt_of_lt_of_le hl h.1)).trans (h.2 b hl hs)⟩
theorem Kx.set (h : Kx S W W') {b : Nat} (hs : S b) (o : Nat) (v : Value) : Kx S W (W'.setCell ⟨b, o, none⟩ v) :=
  ⟨by have := h.1; simpa [World.setCell] using this, fun c hl hc => by
    have hne : c ≠ b := fun e => hc (e ▸ hs)
    rw [← h.2 c hl hc]
    simp [World.setCell, Array.getElem?_modify, Ne.symm hne]⟩
theorem Kx.bk {b : Nat} {cs : Array Value} {T : TypeId} (h : Kx S W W') (k : BK W b cs T) (hs : ¬ S b) : BK W' b cs T := (h.2 b k.lt hs).trans k
theorem Kx.own {B T c n : Nat} {v : Value} {xs : List Value} (h : Kx S W W') (k : W.ownsRow B T c v n xs) (hs : ∀ g, v.ownBlock = some g → ¬ S g) : W'.ownsRow B T c v n xs := by
  refine ⟨k.1, ?_⟩
  rcases k.2 with e | ⟨g, cap, cur, rfl, hb, hheap, r⟩
  · exact .inl e
  · exact .inr ⟨g, cap, cur, rfl, hb, (h.2 g (Array.getElem?_eq_some_iff.1 hheap).1 (hs g rfl)).trans hheap, r⟩
theorem Kx.ot {B : Nat} {v : Value} {rs : List Pr} (h : Kx S W W') (k : OT W B v rs) (hs : ∀ g, v.ownBlock = some g → ¬ S g) : OT W' B v rs := ⟨h.own k.own hs, k.w64, k.l⟩
theorem Kx.grow {W2 : World} {r : Option Nat} (h : Kx S W W') (g : W'.grownBy W2 r) (hr : ∀ b, r = some b → S b ∨ W.heap.size ≤ b) : Kx S W W2 :=
  ⟨Nat.le_trans h.1 g.size, fun b hl hs => (g.block b (Nat.lt_of_lt_of_le hl h.1) (fun e => by
    rcases hr b e.symm with h1 | h1
    · exact hs h1
    · omega)).trans (h.2 b hl hs)⟩
end
theorem OT.lt {W : World} {B : Nat} {v : Value} {rs : List Pr} (h : OT W B v rs) : ∀ k, v.ownBlock = some k → B ≤ k ∧ k < W.heap.size := h.own.lt
theorem TS.pre {W : World} {a : Option Addr} {c : Nat} {rs us : List Pr} (h : TS W a c (rs ++ us)) : TS W a c rs :=
  ⟨by have := h.cap; rw [List.length_append] at this; omega, fun k hk => by
    obtain ⟨b, o, e, r⟩ := h.at_ k (by rw [List.length_append]; omega)
    have get : ∀ j (hj : j < rs.length), (rs ++ us)[j]'(by rw [List.length_append]; omega) = rs[j] := fun j hj => List.getElem_append_left hj
    refine ⟨b, o, e, fun j hj => ?_, fun j hj => ?_, fun j hj => ?_, fun j hj => ?_, r.lt⟩
    · rw [← get j hj]; exact r.c0 j (by rw [List.length_append]; omega)
    · rw [← get j hj]; exact r.c1 j (by rw [List.length_append]; omega)
    · rw [← get j hj]; exact r.c2 j (by rw [List.length_append]; omega)
    · rw [← get j hj]; exact r.c3 j (by rw [List.length_append]; omega),
   fun k hk => by
    have := h.w64 k (by rw [List.length_append]; omega)
    rwa [List.getElem_append_left hk] at this, h.l⟩
theorem w64_push {rs : List Pr} {r : Pr} (h : ∀ k (h : k < rs.length), rs[k].w64) (hr : r.w64) : ∀ k (h : k < (rs ++ [r]).length), ((rs ++ [r])[k]).w64 := fun k hk => by
  rw [List.length_append, List.length_singleton] at hk
  by_cases e : k < rs.length
  · rw [List.getElem_append_left e]; exact h k e
  · rw [List.getElem_append_right (by omega)]
    simpa using hr
set_option maxHeartbeats 1000000 in
/-- Rows put behind an empty one. -/
theorem app_rows {W : World} {rs : List Pr} {ao : Option Addr} {c : Nat} {ops : Array Oper} {rest : List Oper} {o : Oper} {a : Act} {Q : Exit → Act → World → Prop}
    (hg : o.guard = none) (s x : Operand) (hop : o.op = Op.call { callee := Callee.builtin Builtin.append, args := #[s, x], argTypes := #[22, 22] })
    (hs : a.eval s = .slice (some ⟨W.heap.size, 0, none⟩) 0 0) (hx : a.eval x = .slice ao rs.length c) (H : TS W ao c rs) (hn : rs.length ≤ 1000)
    (hK : ∀ v' w', OT w' W.heap.size v' rs → Below W.heap.size W w' → wpList Try.prog ops Q rest (a.put o.dst v') w') :
    wpList Try.prog ops Q (o :: rest) a (W.alloc (.cells #[] 29)) := by
  obtain ⟨i7, hi7, hz7, hs7, hb7⟩ := info_parts Try.info29
  have H2 := H.below (bal (Below.refl W.heap.size W) (.cells #[] 29))
  cases ao with
  | none =>
    have h0 : rs = [] := by
      rcases Nat.eq_zero_or_pos rs.length with h | h
      · exact List.eq_nil_of_length_eq_zero h
      · obtain ⟨_, _, e, _⟩ := H.at_ 0 h
        cases e
    subst h0
    refine wpList_plain hg fun K hK' => ?_
    have hrun := run_app_nil (W.alloc (.cells #[] 29)) o.type ⟨W.heap.size, 0, none⟩ 0 0 c (Nat.le_refl _)
    unfold Oper.wp
    simp [execOp, hop, resolve, invoke, builtin, hs, hx, hrun, Result.andThen]
    exact hK' _ _ (hK _ _ ⟨own_emptyP W, fun _ h => absurd h (Nat.not_lt_zero _), Nat.zero_le _⟩ (bal (Below.refl _ _) _))
  | some ad =>
    refine wpList_append_own_at _ hg s x 22 hop W.heap.size 29 i7 _ 4 32 Try.underlying22 hi7 hz7 hs7 hb7 rfl (by decide) _ 0 [] hs (own_emptyP W) ad rs.length c (prz rs) hx (prz_len rs) (fun j u hu => ?_) (prz_one rs) (by unfold maxLen; omega) (by omega) (bal (Below.refl _ _) _).size ?_
    · have hj : j < rs.length * 4 := by
        have := (List.getElem?_eq_some_iff.1 hu).1
        rwa [prz_len] at this
      obtain ⟨b1, o1, e1, h1⟩ := H2.at_ 0 (by omega)
      cases e1
      exact rp_cells h1 j u hu
    · intro v6 w6 hown6 hgrow6 _ _
      rw [Nat.zero_add, List.nil_append] at hown6
      exact hK v6 w6 ⟨hown6, H.w64, hn⟩ (below_own (bal (Below.refl W.heap.size W) _) (own_emptyP W) hgrow6)
abbrev pC (n : Int) : Obj := .cells #[.int .i64 n, .int .u64 0, .int .u64 0, .int .i64 0] 29
/-- One row more. -/
theorem app_p {V : World} {B : Nat} {rs : List Pr} {v : Value} {n : Int} {ops : Array Oper} {rest : List Oper} {o : Oper} {a : Act} {Q : Exit → Act → World → Prop}
    (hg : o.guard = none) (s x : Operand) (hop : o.op = Op.call { callee := Callee.builtin Builtin.append, args := #[s, x], argTypes := #[22, 22] })
    (hs : a.eval s = v) (hx : a.eval x = .slice (some ⟨V.heap.size, 0, none⟩) 1 1) (hO : OT V B v rs) (hB : B ≤ V.heap.size) (hn : rs.length + 1 ≤ 1000)
    (hK : ∀ v' w', OT w' B v' (rs ++ [⟨n, 0, 0, 0⟩]) → (V.alloc (pC n)).grownBy w' v.ownBlock → (v'.ownBlock = v.ownBlock ∨ ∃ g, v'.ownBlock = some g ∧ V.heap.size ≤ g) → wpList Try.prog ops Q rest (a.put o.dst v') w') :
    wpList Try.prog ops Q (o :: rest) a (V.alloc (pC n)) := by
  obtain ⟨i7, hi7, hz7, hs7, hb7⟩ := info_parts Try.info29
  have hA := bal (Below.refl V.heap.size V) (pC n)
  have hO2 := own_below hO.own hA
  have kN := bk_new V #[.int .i64 n, .int .u64 0, .int .u64 0, .int .i64 0] 29
  refine wpList_append_own_at _ hg s x 22 hop B 29 i7 _ 4 32 Try.underlying22 hi7 hz7 hs7 hb7 rfl (by decide) _ rs.length (prz rs) hs hO2 ⟨V.heap.size, 0, none⟩ 1 1 (Pr.cs ⟨n, 0, 0, 0⟩) hx rfl (fun j u hu => ?_) (by intro u hu; simp [Pr.cs] at hu; rcases hu with rfl | rfl | rfl | rfl <;> rfl) (by unfold maxLen; omega) (by omega) (Nat.le_trans hB hA.size) ?_
  · rw [WideShapes.add_plain, Nat.zero_add, kN.cell, ← hu]
    exact List.getElem?_toArray
  · intro v6 w6 hown6 hgrow6 _ hblk
    refine hK v6 w6 ⟨?_, w64_push hO.w64 ⟨show (0 : Nat) < 18446744073709551616 by decide, show (0 : Nat) < 18446744073709551616 by decide⟩, by rw [List.length_append, List.length_singleton]; exact hn⟩ hgrow6 (hblk.imp id fun e => ⟨_, e, hA.size⟩)
    rw [List.length_append, List.length_singleton, prz_app]
    exact hown6
theorem Try.info3q : (Try.prog.info? 3).map (fun i => (i.zero, i.size, i.bytes)) = some (some (.int .i64 0), 1, 8) := by kernel_rfl
theorem Try.under25q : Try.prog.underlying 25 = some (.slice 3) := by kernel_rfl
def ivs (q : Nat → Int) (m : Nat) : List Value := (List.range m).map fun i => .int .i64 (q i)
theorem ivs_len (q : Nat → Int) (m : Nat) : (ivs q m).length = m := by simp [ivs]
theorem ivs_get (q : Nat → Int) (m j : Nat) (h : j < m) : (ivs q m)[j]? = some (.int .i64 (q j)) := by
  unfold ivs
  rw [List.getElem?_map, List.getElem?_range h]
  rfl
theorem ivs_one (q : Nat → Int) (m : Nat) : ∀ u ∈ ivs q m, u.oneCell' = true := fun u hu => by
  simp only [ivs, List.mem_map] at hu
  obtain ⟨_, _, rfl⟩ := hu
  rfl
theorem own_emptyI (w : World) : (w.alloc (.cells #[] 3)).ownsRow w.heap.size 3 1 (.slice (some ⟨w.heap.size, 0, none⟩) 0 0) 0 [] :=
  ⟨rfl, .inr ⟨w.heap.size, 0, #[], rfl, Nat.le_refl _, heap_alloc_new w _, Nat.le_refl _, by unfold maxLen; omega, rfl, rfl⟩⟩
theorem run_app_nilI (w : World) (ty : TypeId) (a : Addr) (n cap c : Nat) (hn : n ≤ cap) : (Builtin.append_ #[25, 25] ty #[.slice (some a) n cap, .slice none 0 c]).run Try.prog w = .ok (.slice (some a) n cap) w := by
  obtain ⟨i7, hi7, _⟩ := info_parts Try.info3q
  simp [Builtin.append_, run_underlying Try.under25q, sizeOf, typeInfo, Builtin.lenOf, Builtin.firstCells, loadCells, go_sem, hn, hi7]
set_option maxHeartbeats 1000000 in
/-- Whole numbers put behind an empty row. -/
theorem app_ints {W : World} {q : Nat → Int} {m : Nat} {ao : Option Addr} {c : Nat} {ops : Array Oper} {rest : List Oper} {o : Oper} {a : Act} {Q : Exit → Act → World → Prop}
    (hg : o.guard = none) (s x : Operand) (hop : o.op = Op.call { callee := Callee.builtin Builtin.append, args := #[s, x], argTypes := #[25, 25] })
    (hs : a.eval s = .slice (some ⟨W.heap.size, 0, none⟩) 0 0) (hx : a.eval x = .slice ao m c) (H : BL.Row ao q m W) (hn : m ≤ 1000)
    (hK : ∀ v' w', w'.ownsRow W.heap.size 3 1 v' m (ivs q m) → Below W.heap.size W w' → wpList Try.prog ops Q rest (a.put o.dst v') w') :
    wpList Try.prog ops Q (o :: rest) a (W.alloc (.cells #[] 3)) := by
  obtain ⟨i7, hi7, hz7, hs7, hb7⟩ := info_parts Try.info3q
  have H2 := H.below (bal (Below.refl W.heap.size W) (.cells #[] 3))
  cases ao with
  | none =>
    have h0 : m = 0 := by
      rcases Nat.eq_zero_or_pos m with h | h
      · exact h
      · obtain ⟨_, _, e, _⟩ := H.at_ 0 h
        cases e
    subst h0
    refine wpList_plain hg fun K hK' => ?_
    have hrun := run_app_nilI (W.alloc (.cells #[] 3)) o.type ⟨W.heap.size, 0, none⟩ 0 0 c (Nat.le_refl _)
    unfold Oper.wp
    simp [execOp, hop, resolve, invoke, builtin, hs, hx, hrun, Result.andThen]
    exact hK' _ _ (hK _ _ (own_emptyI W) (bal (Below.refl _ _) _))
  | some ad =>
    refine wpList_append_own_at _ hg s x 25 hop W.heap.size 3 i7 _ 1 8 Try.under25q hi7 hz7 hs7 hb7 rfl (by decide) _ 0 [] hs (own_emptyI W) ad m c (ivs q m) hx (by rw [ivs_len, Nat.mul_one]) (fun j u hu => ?_) (ivs_one q m) (by unfold maxLen; omega) (by omega) (bal (Below.refl _ _) _).size ?_
    · have hj : j < m := by
        have := (List.getElem?_eq_some_iff.1 hu).1
        rwa [ivs_len] at this
      obtain ⟨b1, o1, e1, h1⟩ := H2.at_ j hj
      cases e1
      rw [ivs_get q m j hj] at hu
      rw [WideShapes.add_plain, ← Option.some.inj hu]
      exact h1
    · intro v6 w6 hown6 hgrow6 _ _
      rw [Nat.zero_add, List.nil_append] at hown6
      exact hK v6 w6 hown6 (below_own (bal (Below.refl W.heap.size W) _) (own_emptyI W) hgrow6)
/-- One whole number more: the block, its numbers, and the last one. -/
theorem app_i {W V : World} {q : Nat → Int} {m : Nat} {v : Value} {n : Int} {ops : Array Oper} {rest : List Oper} {o : Oper} {a : Act} {Q : Exit → Act → World → Prop}
    (hg : o.guard = none) (s x : Operand) (hop : o.op = Op.call { callee := Callee.builtin Builtin.append, args := #[s, x], argTypes := #[25, 25] })
    (hs : a.eval s = v) (hx : a.eval x = .slice (some ⟨V.heap.size, 0, none⟩) 1 1) (hO : V.ownsRow W.heap.size 3 1 v m (ivs q m)) (hB : Below W.heap.size W V) (hn : m ≤ 1000)
    (hK : ∀ g cg w', BL.Row (some ⟨g, 0, none⟩) q m w' → w'.cell? ⟨g, m, none⟩ = some (.int .i64 n) → W.heap.size ≤ g → g < w'.heap.size → m + 1 ≤ cg → cg ≤ 9223372036854775807 → (∃ cs, BK w' g cs 3) → Below W.heap.size W w' → wpList Try.prog ops Q rest (a.put o.dst (.slice (some ⟨g, 0, none⟩) (m + 1) cg)) w') :
    wpList Try.prog ops Q (o :: rest) a (V.alloc (.cells #[.int .i64 n] 3)) := by
  obtain ⟨i7, hi7, hz7, hs7, hb7⟩ := info_parts Try.info3q
  have hA := bal (Below.refl V.heap.size V) (.cells #[.int .i64 n] 3)
  have hO2 := own_below hO hA
  have kN := bk_new V #[.int .i64 n] 3
  refine wpList_append_own_at _ hg s x 25 hop W.heap.size 3 i7 _ 1 8 Try.under25q hi7 hz7 hs7 hb7 rfl (by decide) _ m (ivs q m) hs hO2 ⟨V.heap.size, 0, none⟩ 1 1 [.int .i64 n] hx rfl (fun j u hu => ?_) (by intro u hu; simp at hu; subst hu; rfl) (by unfold maxLen; omega) (by omega) (Nat.le_trans hB.size hA.size) ?_
  · rw [WideShapes.add_plain, Nat.zero_add, kN.cell, ← hu]
    exact List.getElem?_toArray
  · intro v6 w6 hown6 hgrow6 _ _
    have hBB := below_own (btr hB hA) hO2 hgrow6
    obtain ⟨g, cap, e, hnc, _, hcell, hgB, hgl⟩ := own_at hown6 (by omega)
    subst e
    have hlen : (ivs q m ++ [Value.int .i64 n]).length = m + 1 := by rw [List.length_append, ivs_len, List.length_singleton]
    have get : ∀ j x, (ivs q m ++ [Value.int .i64 n])[j]? = some x → w6.cell? ⟨g, j, none⟩ = some x := fun j x e => by
      have hj := (List.getElem?_eq_some_iff.1 e).1
      rw [List.getElem?_eq_getElem hj] at e
      rw [hcell j hj, Option.some.inj e]
    have hmx : cap ≤ 9223372036854775807 := by
      rcases hown6.2 with ⟨e, _⟩ | ⟨g', cap', cur, e, _, _, _, hm, _⟩
      · cases e
      · cases e; unfold maxLen at hm; omega
    refine hK g cap w6 ⟨fun j hj => ⟨g, 0, rfl, ?_⟩⟩ ?_ hgB hgl hnc hmx (own_ty hown6 rfl) hBB
    · rw [Nat.zero_add]
      exact get j _ (by rw [List.getElem?_append_left (by rw [ivs_len]; exact hj)]; exact ivs_get q m j hj)
    · exact get m _ (by rw [List.getElem?_append_right (by rw [ivs_len]; omega), ivs_len, Nat.sub_self]; rfl)
end Go.Proofs.Ytoddbaljnlhhaab
