/-
  The reference's call statement: its rows in memory; what it leaves as it was.
-/
import Derived.Test.YtiepbfeliehjnaaDoorR4
namespace Go.Proofs.YtiepbfeliehjnaaDoor
open Go.RowKit Go.Sort

/-- But for the reader and its rows nothing that was there has turned. -/
structure FR (W W' : World) (rb : Nat) (v v' : Value) : Prop where
  size : W.heap.size ≤ W'.heap.size
  same : ∀ b, b < W.heap.size → b ≠ rb → v.ownBlock ≠ some b → W'.heap[b]? = W.heap[b]?
  loc : v'.ownBlock = v.ownBlock ∨ ∀ g, v'.ownBlock = some g → W.heap.size ≤ g
section
variable {W W1 W2 : World} {rb : Nat} {v v1 v2 : Value}
theorem FR.refl (W : World) (rb : Nat) (v : Value) : FR W W rb v v := ⟨Nat.le_refl _, fun _ _ _ _ => rfl, .inl rfl⟩
theorem FR.gb (h : FR W W1 rb v v1) (g : GB W1 W2 rb) : FR W W2 rb v v1 :=
  ⟨Nat.le_trans h.size g.size, fun b hb hr hv => (g.block b (Nat.lt_of_lt_of_le hb h.size) (fun e => hr (Option.some.inj e))).trans (h.same b hb hr hv), h.loc⟩
theorem FR.below (h : FR W W1 rb v v1) (g : Below W1.heap.size W1 W2) : FR W W2 rb v v1 :=
  ⟨Nat.le_trans h.size g.size, fun b hb hr hv => (g.block b (Nat.lt_of_lt_of_le hb h.size)).trans (h.same b hb hr hv), h.loc⟩
theorem FR.set (h : FR W W1 rb v v1) (b k : Nat) (y : Value) (hb : W.heap.size ≤ b ∨ b = rb ∨ v1.ownBlock = some b) : FR W (W1.setCell ⟨b, k, none⟩ y) rb v v1 := by
  refine ⟨by simpa [World.setCell] using h.size, fun c hc hr hv => ?_, h.loc⟩
  rw [Below.heap_setCell W1 ⟨b, k, none⟩ y c (fun e => by
    have e : c = b := e
    rcases hb with hb | hb | hb
    · omega
    · exact hr (e.trans hb)
    · rcases h.loc with hl | hl
      · exact hv (by rw [← hl, hb, e])
      · have := hl b hb; omega)]
  exact h.same c hc hr hv
theorem FR.grown (h : FR W W1 rb v v1) (g : W1.grownBy W2 v1.ownBlock) (hl : v2.ownBlock = v1.ownBlock ∨ v2.ownBlock = some W1.heap.size) : FR W W2 rb v v2 := by
  refine ⟨Nat.le_trans h.size g.size, fun c hc hr hv => ?_, ?_⟩
  · refine (g.block c (Nat.lt_of_lt_of_le hc h.size) (fun e => ?_)).trans (h.same c hc hr hv)
    rcases h.loc with hl | hl
    · exact hv (by rw [← hl, ← e])
    · have := hl c e.symm; omega
  · rcases hl with hl | hl
    · rw [hl]; exact h.loc
    · exact .inr fun g hg => by rw [hl] at hg; cases hg; exact h.size
theorem FR.trans (h : FR W W1 rb v v1) (g : FR W1 W2 rb v1 v2) : FR W W2 rb v v2 := by
  refine ⟨Nat.le_trans h.size g.size, fun c hc hr hv => ?_, ?_⟩
  · refine (g.same c (Nat.lt_of_lt_of_le hc h.size) hr (fun e => ?_)).trans (h.same c hc hr hv)
    rcases h.loc with hl | hl
    · exact hv (by rw [← hl, e])
    · have := hl c e; omega
  · rcases g.loc with hl | hl
    · rw [hl]; exact h.loc
    · exact .inr fun k hk => Nat.le_trans h.size (hl k hk)
theorem FR.bk (h : FR W W1 rb v v1) {b : Nat} {cs : Array Value} {T : TypeId} (hb : BK W b cs T) (hr : b ≠ rb) (hv : v.ownBlock ≠ some b) : BK W1 b cs T := (h.same b hb.lt hr hv).trans hb
/-- Arguments that are owned stay. -/
theorem FR.args (h : FR W W1 rb v v1) {B : Nat} {av : Value} {m : Nat} {xs : List Value} (ha : W.ownsRow B 61 2 av m xs) {cs : Array Value} (hr : BK W rb cs 53) {w : World} {rs : List Rw} (ho : OR W w.heap.size v rs) : W1.ownsRow B 61 2 av m xs := by
  refine ⟨ha.1, ?_⟩
  rcases ha.2 with e | ⟨g, cap, cur, e, hb, hg, r⟩
  · exact .inl e
  · refine .inr ⟨g, cap, cur, e, hb, (h.same g (Array.getElem?_eq_some_iff.1 hg).1 (fun e2 => ?_) (fun e2 => ?_)).trans hg, r⟩
    · subst e
      exact own_ne ha hr (by decide) g rfl (by rw [e2])
    · obtain ⟨vs, _, h2, _⟩ := ho
      obtain ⟨cs2, h3⟩ := own_ty h2 e2
      rw [hg] at h3
      cases h3
end
theorem OR.gbT {W W' : World} {B rb : Nat} {v : Value} {rs : List Rw} {cs : Array Value} {T : TypeId} (h : OR W B v rs) (g : GB W W' rb) (hb : BK W rb cs T) (h1 : 45 ≠ T) (h2 : 61 ≠ T) : OR W' B v rs := by
  obtain ⟨vs, e, o, a⟩ := h
  exact ⟨vs, e, own_kept o g (own_ne o hb h1), fun k hk hk' => own_kept (a k hk hk') g (own_ne (a k hk hk') hb h2)⟩
/-- A whole row is written. -/
theorem rws_setrow : ∀ (rs : List Rw) (vs : List Value), rs.length = vs.length → ∀ (k : Nat) (_ : k < rs.length) (r : Rw) (u : Value),
    ((((((rws rs vs).set (k * 6) (.string r.kind)).set (k * 6 + 1) (.string r.name)).set (k * 6 + 2) u).set (k * 6 + 3) (.int .i64 r.num)).set (k * 6 + 4) (.int .i64 r.rows)).set (k * 6 + 5) (.int .i64 r.place) = rws (rs.set k r) (vs.set k u)
  | [], _, _, k, h, _, _ => absurd h (Nat.not_lt_zero _)
  | _ :: _, [], h, _, _, _, _ => by cases h
  | a :: rs, b :: vs, h, 0, _, r, u => rfl
  | a :: rs, b :: vs, h, k + 1, hk, r, u => by
    have ih := rws_setrow rs vs (Nat.succ.inj h) k (by simp at hk; omega) r u
    have e : ∀ (j : Nat) (y : Value) (xs : List Value), (rwc a b ++ xs).set ((k + 1) * 6 + j) y = rwc a b ++ xs.set (k * 6 + j) y := fun j y xs => by
      rw [List.set_append_right _ _ (by simp; omega)]
      congr 2
      simp
      omega
    show ((((((rwc a b ++ rws rs vs).set ((k + 1) * 6 + 0) _).set ((k + 1) * 6 + 1) _).set ((k + 1) * 6 + 2) _).set ((k + 1) * 6 + 3) _).set ((k + 1) * 6 + 4) _).set ((k + 1) * 6 + 5) _ = rwc a b ++ rws (rs.set k r) (vs.set k u)
    rw [e, e, e, e, e, e]
    rw [show k * 6 + 0 = k * 6 from rfl, ih]
abbrev W6 (W : World) (g k : Nat) (r : Rw) (u : Value) : World := (((((W.setCell ⟨g, k * 6, none⟩ (.string r.kind)).setCell ⟨g, k * 6 + 1, none⟩ (.string r.name)).setCell ⟨g, k * 6 + 2, none⟩ u).setCell ⟨g, k * 6 + 3, none⟩ (.int .i64 r.num)).setCell ⟨g, k * 6 + 4, none⟩ (.int .i64 r.rows)).setCell ⟨g, k * 6 + 5, none⟩ (.int .i64 r.place)
theorem w6_grown (W : World) (g k : Nat) (r : Rw) (u : Value) : W.grownBy (W6 W g k r u) (some g) := by
  have t : ∀ {a b c : World}, a.grownBy b (some g) → b.grownBy c (some g) → a.grownBy c (some g) := fun h h2 => gb_trans h h2
  exact t (t (t (t (t (grown_set W g _ _) (grown_set _ g _ _)) (grown_set _ g _ _)) (grown_set _ g _ _)) (grown_set _ g _ _)) (grown_set _ g _ _)
theorem OR.setrow {W : World} {B : Nat} {v : Value} {rs : List Rw} (h : OR W B v rs) (k : Nat) (hk : k < rs.length) : ∃ g cap, v = .slice (some ⟨g, 0, none⟩) rs.length cap ∧ rs.length ≤ cap ∧ (∀ o, W.frozen? ⟨g, o, none⟩ = false) ∧ (∀ j, j < 6 → ∃ y, W.cell? ⟨g, k * 6 + j, none⟩ = some y) ∧ B ≤ g ∧ g < W.heap.size ∧
    ∀ (r : Rw) (u : Value), W.ownsRow B 61 2 u r.args.length (ars r.args) → OR (W6 W g k r u) B v (rs.set k r) := by
  obtain ⟨vs, h1, h2, h3⟩ := h
  obtain ⟨g, cap, rfl, hc, hf, hcell, hb, hl⟩ := own_at h2 (by omega)
  obtain ⟨cs, hcs⟩ := own_ty h2 (g := g) rfl
  have hlen := rws_length rs vs h1
  refine ⟨g, cap, rfl, hc, hf, fun j hj => ⟨_, hcell (k * 6 + j) (by omega)⟩, hb, hl, fun r u hu => ⟨vs.set k u, by rw [List.length_set, List.length_set]; exact h1, ?_, fun j hj hj' => ?_⟩⟩
  · rw [List.length_set, ← rws_setrow rs vs h1 k hk r u]
    exact own_setc (own_setc (own_setc (own_setc (own_setc (own_setc h2 (by omega) _) (by omega) _) (by omega) _) (by omega) _) (by omega) _) (by omega) _
  · have hj2 : j < rs.length := by rw [List.length_set] at hj; exact hj
    by_cases e : k = j
    · subst e
      rw [List.getElem_set_self, List.getElem_set_self]
      exact own_kept hu (w6_grown W g k r u) (own_ne hu (b := g) hcs (by decide))
    · rw [List.getElem_set_ne e, List.getElem_set_ne e]
      exact own_kept (h3 j hj2 (by omega)) (w6_grown W g k r u) (own_ne (h3 j hj2 (by omega)) (b := g) hcs (by decide))
/-- Within statement. W0, v0: the world and the rows at its begin. -/
structure MR (w W0 W : World) (rb : Nat) (ts : Value) (l : List Tk) (n : Int) (v0 v : Value) (s : Except Fa (List Tk)) (rs : List Rw) (qb : Nat) (row : Array Value) : Prop where
  b : RB w W rb ts l n v s qb row 45
  o : OR W w.heap.size v rs
  nv : ∀ g, v.ownBlock = some g → g ≠ qb
  fr : FR W0 W rb v0 v
  q0 : W0.heap.size ≤ qb
section
variable {w W0 W W' : World} {rb : Nat} {ts : Value} {l : List Tk} {n : Int} {v0 v : Value} {s s' : Except Fa (List Tk)} {rs : List Rw} {qb : Nat} {row : Array Value}
theorem RX.blk (H : RX w W rb ts l n v s) : ∃ cs, BK W rb cs 53 := by
  rcases H with ⟨i, e, h⟩ | ⟨q, i, e, h0, h⟩
  · exact ⟨_, h.blk⟩
  · exact ⟨_, h.blk⟩
theorem RX.rowc (H : RX w W rb ts l n v s) : W.cell? ⟨rb, 5, none⟩ = some v := by
  rcases H with ⟨i, e, h⟩ | ⟨q, i, e, h0, h⟩
  · exact h.cells.2.2.2.2.2
  · exact h.cells.2.2.2.2.2
theorem MR.gb (h : MR w W0 W rb ts l n v0 v s rs qb row) (g : GB W W' rb) (x : RX w W' rb ts l n v s') : MR w W0 W' rb ts l n v0 v s' rs qb row := by
  obtain ⟨cs, hb⟩ := h.b.x.blk
  exact ⟨h.b.gb g x, h.o.gbT g hb (by decide) (by decide), h.nv, h.fr.gb g, h.q0⟩
theorem MR.on (h : MR w W0 W rb ts l n v0 v s rs qb row) (g : Below W.heap.size W W') : MR w W0 W' rb ts l n v0 v s rs qb row :=
  ⟨⟨h.b.x.on g, (g.block qb h.b.q.lt).trans h.b.q, h.b.nq, h.b.ge⟩, h.o.below g, h.nv, h.fr.below g, h.q0⟩
theorem MR.set (h : MR w W0 W rb ts l n v0 v s rs qb row) (k : Nat) (y : Value) : MR w W0 (W.setCell ⟨qb, k, none⟩ y) rb ts l n v0 v s rs qb (row.setIfInBounds k y) := by
  refine ⟨h.b.set k y, ?_, h.nv, h.fr.set qb k y (.inl h.q0), h.q0⟩
  obtain ⟨vs, e, o, a⟩ := h.o
  exact ⟨vs, e, own_kept o (grown_set W qb k y) (fun g hg e => h.nv g hg (Option.some.inj e)), fun j hj hj' => own_kept (a j hj hj') (grown_set W qb k y) (own_ne (a j hj hj') h.b.q (by decide))⟩
/-- The last step: the row is written over. -/
theorem MR.done (h : MR w W0 W rb ts l n v0 v s rs qb row) (k : Nat) (hk : k < rs.length) : ∃ g cap, v = .slice (some ⟨g, 0, none⟩) rs.length cap ∧ rs.length ≤ cap ∧ (∀ o, W.frozen? ⟨g, o, none⟩ = false) ∧ (∀ j, j < 6 → ∃ y, W.cell? ⟨g, k * 6 + j, none⟩ = some y) ∧ g < W.heap.size ∧ g ≠ qb ∧ g ≠ rb ∧
    Hid (∀ (r : Rw) (u : Value), W.ownsRow w.heap.size 61 2 u r.args.length (ars r.args) → RX w (W6 W g k r u) rb ts l n v s ∧ OR (W6 W g k r u) w.heap.size v (rs.set k r) ∧ FR W0 (W6 W g k r u) rb v0 v) := by
  obtain ⟨g, cap, e, hc, hf, hcell, hb, hl, hr⟩ := h.o.setrow k hk
  obtain ⟨cs, hbk⟩ := h.b.x.blk
  have hg : v.ownBlock = some g := by rw [e]; rfl
  have hgr : g ≠ rb := fun e2 => by
    obtain ⟨vs, _, h2, _⟩ := h.o
    exact own_ne h2 hbk (by decide) g hg (by rw [e2])
  refine ⟨g, cap, e, hc, hf, hcell, hl, h.nv g hg, hgr, fun r u hu => ⟨h.b.x.own (w6_grown W g k r u) (fun m e => by cases e; exact ⟨hb, hgr⟩), hr r u hu, ?_⟩⟩
  exact (((((h.fr.set g _ _ (.inr (.inr hg))).set g _ _ (.inr (.inr hg))).set g _ _ (.inr (.inr hg))).set g _ _ (.inr (.inr hg))).set g _ _ (.inr (.inr hg))).set g _ _ (.inr (.inr hg))
end
theorem mr_start {w W0 WA WB w7 : World} {rb : Nat} {ts : Value} {l : List Tk} {n : Int} {j : Nat} {v v7 : Value} {rs : List Rw} {vs : List Value} {qb : Nat} {row : Array Value} {r : Rw} (HV : RV w WA rb ts l n j 0 0 v) (hvs : rs.length = vs.length) (hown : WA.ownsRow w.heap.size 45 6 v rs.length (rws rs vs))
    (hargs : ∀ k (h : k < rs.length) (h' : k < vs.length), WA.ownsRow w.heap.size 61 2 vs[k] rs[k].args.length (ars rs[k].args)) (hr : r.args = []) (hq : BK WA qb row 45) (hlo : ∀ g, v.ownBlock = some g → g < qb) (hqb : qb ≠ rb) (hge : w.heap.size ≤ qb) (hfr : FR W0 WA rb v v) (hq0 : W0.heap.size ≤ qb)
    (hB : Below WA.heap.size WA WB) (hg : WB.grownBy w7 v.ownBlock) (ho : w7.ownsRow w.heap.size 45 6 v7 (rs.length + 1) (rws rs vs ++ rwc r (.slice none 0 0))) (hl : v7.ownBlock = v.ownBlock ∨ v7.ownBlock = some WB.heap.size) :
    MR w W0 (w7.setCell ⟨rb, 5, none⟩ v7) rb ts l n v v7 (.ok (l.drop j)) (rs ++ [r]) qb row := by
  have hOB : OR WB w.heap.size v rs := OR.below ⟨vs, hvs, hown, hargs⟩ hB
  have ownB' := own_below hown hB
  have HVB := HV.on hB
  have hqB : BK WB qb row 45 := (hB.block qb hq.lt).trans hq
  have hrw : ∀ g, v.ownBlock = some g → g ≠ rb := fun g hg2 e => own_ne ownB' HVB.blk (by decide) g hg2 (by rw [e])
  have b7 : BK w7 rb #[ts, .int .i64 j, .int .i64 n, .int .i64 (0 : Nat), .int .i64 0, v] 53 := (hg.block rb HVB.blk.lt (fun e => hrw rb e.symm rfl)).trans HVB.blk
  have q7 : BK w7 qb row 45 := (hg.block qb hqB.lt (fun e => Nat.lt_irrefl _ (hlo qb e.symm))).trans hqB
  have o7 := OR.put (r := r) hvs (fun k h h' => own_below (hargs k h h') hB) (fun g hg2 => own_ty ownB' hg2) (av := .slice none 0 0) (by rw [hr]; exact World.ownsRow_nil _ _ _ _) hg ho
  have f7 : FR W0 w7 rb v v7 := (hfr.below hB).grown hg hl
  have below7 : Below w.heap.size w w7 := HVB.below.grown hg HVB.below.size (fun k e => (ownB'.lt k e).1)
  have gS := gb_set (gb_refl w7 rb) rb 5 v7 (.inl rfl)
  refine ⟨⟨.inl ⟨j, rfl, ⟨HV.tok, below7.setCell (p := ⟨rb, 5, none⟩) HV.ge _, HV.ge, b7.set 5 v7, HV.le, HV.len, HV.all, HV.sz⟩⟩, q7.far (Ne.symm hqb) 5 v7, hqb, hge⟩, o7.gbT gS b7 (by decide) (by decide), fun g hg2 e => ?_, f7.gb gS, hq0⟩
  rcases hl with hl | hl
  · rw [hl] at hg2
    have := hlo g hg2
    omega
  · rw [hl] at hg2
    cases hg2
    have := hqB.lt
    omega
/-- What statement tells of a state. -/
def SD (w W : World) (rb : Nat) (ts : Value) (l : List Tk) (n : Int) (v : Value) (rs : List Rw) (y : Except Fa (List Rw × List Tk)) (e : Ending) (W' : World) : Prop :=
  e = .returned (.tuple #[]) ∧ ∃ v' rs', FR W W' rb v v' ∧ RX w W' rb ts l n v' (rst y) ∧ OR W' w.heap.size v' rs' ∧ rs.length ≤ rs'.length ∧ rs'.length ≤ 65536 ∧ ∀ rs2 r, y = .ok (rs2, r) → rs' = rs ++ rs2
end Go.Proofs.YtiepbfeliehjnaaDoor
