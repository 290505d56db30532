/-
  The reference's statement: its loops over arguments.
-/
import Derived.Test.YtiepbfeliehjnaaDoorR7
namespace Go.Proofs.YtiepbfeliehjnaaDoor
open Go.RowKit Go.Sort

/-- Within a loop that began in WB: what was there stays, but for the reader and the row's box. -/
structure LI (w WB W : World) (rb : Nat) (ts : Value) (l : List Tk) (n : Int) (v : Value) (s : Except Fa (List Tk)) (qb : Nat) (row : Array Value) : Prop where
  b : RB w W rb ts l n v s qb row 45
  sz : WB.heap.size ≤ W.heap.size
  fr : ∀ c, c < WB.heap.size → c ≠ rb → c ≠ qb → W.heap[c]? = WB.heap[c]?
section
variable {w W0 WB W W' : World} {rb : Nat} {ts : Value} {l : List Tk} {n : Int} {v0 v : Value} {s s' : Except Fa (List Tk)} {rs : List Rw} {qb : Nat} {row row' : Array Value}
theorem LI.start (h : RB w WB rb ts l n v s qb row 45) : LI w WB WB rb ts l n v s qb row := ⟨h, Nat.le_refl _, fun _ _ _ _ => rfl⟩
theorem LI.gb (h : LI w WB W rb ts l n v s qb row) (g : GB W W' rb) (x : RX w W' rb ts l n v s') : LI w WB W' rb ts l n v s' qb row :=
  ⟨h.b.gb g x, Nat.le_trans h.sz g.size, fun c hc hr hq => (g.block c (Nat.lt_of_lt_of_le hc h.sz) (fun e => hr (Option.some.inj e))).trans (h.fr c hc hr hq)⟩
theorem LI.on (h : LI w WB W rb ts l n v s qb row) (g : Below W.heap.size W W') : LI w WB W' rb ts l n v s qb row :=
  ⟨⟨h.b.x.on g, (g.block qb h.b.q.lt).trans h.b.q, h.b.nq, h.b.ge⟩, Nat.le_trans h.sz g.size, fun c hc hr hq => (g.block c (Nat.lt_of_lt_of_le hc h.sz)).trans (h.fr c hc hr hq)⟩
theorem LI.set (h : LI w WB W rb ts l n v s qb row) (k : Nat) (y : Value) : LI w WB (W.setCell ⟨qb, k, none⟩ y) rb ts l n v s qb (row.setIfInBounds k y) :=
  ⟨h.b.set k y, by simpa [World.setCell] using h.sz, fun c hc hr hq => (Below.heap_setCell W ⟨qb, k, none⟩ y c (fun e => hq e)).trans (h.fr c hc hr hq)⟩
/-- append to a row of its own. -/
theorem LI.grown (h : LI w WB W rb ts l n v s qb row) {u : Value} {m : Nat} {xs : List Value} (ho : W.ownsRow WB.heap.size 61 2 u m xs) (hw : w.heap.size ≤ WB.heap.size) (g : W.grownBy W' u.ownBlock) : LI w WB W' rb ts l n v s qb row := by
  obtain ⟨cs, hb⟩ := h.b.x.blk
  have hrb : ∀ k, u.ownBlock = some k → WB.heap.size ≤ k ∧ k ≠ rb ∧ k ≠ qb := fun k e => ⟨(ho.lt k e).1, fun e2 => own_ne ho hb (by decide) k e (by rw [e2]), fun e2 => own_ne ho h.b.q (by decide) k e (by rw [e2])⟩
  refine ⟨⟨h.b.x.own g (fun k e => ⟨Nat.le_trans hw (hrb k e).1, (hrb k e).2.1⟩), (g.block qb h.b.q.lt (fun e => (hrb qb e.symm).2.2 rfl)).trans h.b.q, h.b.nq, h.b.ge⟩, Nat.le_trans h.sz g.size, fun c hc hr hq => (g.block c (Nat.lt_of_lt_of_le hc h.sz) (fun e => ?_)).trans (h.fr c hc hr hq)⟩
  have := (hrb c e.symm).1
  omega
theorem LI.keepG {B m : Nat} {u : Value} {xs : List Value} (h : LI w WB W rb ts l n v s qb row) (a : W.ownsRow B 61 2 u m xs) (g : GB W W' rb) : W'.ownsRow B 61 2 u m xs := by
  obtain ⟨cs, hb⟩ := h.b.x.blk
  exact own_kept a g (own_ne a hb (by decide))
theorem LI.keepS {B m : Nat} {u : Value} {xs : List Value} (h : LI w WB W rb ts l n v s qb row) (a : W.ownsRow B 61 2 u m xs) (k : Nat) (y : Value) : (W.setCell ⟨qb, k, none⟩ y).ownsRow B 61 2 u m xs := own_kept a (grown_set W qb k y) (own_ne a h.b.q (by decide))
theorem MR.loop (h : MR w W0 WB rb ts l n v0 v s rs qb row) (g : LI w WB W rb ts l n v s' qb row') : MR w W0 W rb ts l n v0 v s' rs qb row' := by
  obtain ⟨cs, hb⟩ := h.b.x.blk
  obtain ⟨vs, e, o, a⟩ := h.o
  have key : ∀ {T c : Nat} {u : Value} {m : Nat} {xs : List Value}, WB.ownsRow w.heap.size T c u m xs → T ≠ 53 → (∀ k, u.ownBlock = some k → k ≠ qb) → W.ownsRow w.heap.size T c u m xs := fun {T c u m xs} ho hT hq => by
    refine ⟨ho.1, ?_⟩
    rcases ho.2 with e | ⟨k, cap, cur, e, h1, hg, r⟩
    · exact .inl e
    · refine .inr ⟨k, cap, cur, e, h1, (g.fr k (Array.getElem?_eq_some_iff.1 hg).1 (fun e2 => ?_) (hq k (by rw [e]; rfl))).trans hg, r⟩
      subst e2
      rw [hb] at hg
      cases hg
      exact hT rfl
  refine ⟨g.b, ⟨vs, e, key o (by decide) h.nv, fun j hj hj' => key (a j hj hj') (by decide) (fun k hk e2 => own_ne (a j hj hj') h.b.q (by decide) k hk (by rw [e2]))⟩, h.nv, ⟨Nat.le_trans h.fr.size g.sz, fun c hc hr hv => (g.fr c (Nat.lt_of_lt_of_le hc h.fr.size) hr (fun e2 => by have := h.q0; omega)).trans (h.fr.same c hc hr hv), h.fr.loc⟩, h.q0⟩
end
/-- How much is left. -/
def lenS (s : Except Fa (List Tk)) : Nat := match s with | .error _ => 0 | .ok r => r.length
/-- What is told from within a loop. -/
def resF (n : Int) (sh : Sh) (s : Except Fa (List Tk)) (acc : List Ar) : Except Fa (List Ar × List Tk) := stp s (fun r => argsP n sh (r.length + 1) acc r)
theorem args_fuel {n : Int} {sh : Sh} : ∀ (f : Nat) (l : List Tk) (acc : List Ar), l.length < f → argsP n sh f acc l = argsP n sh (l.length + 1) acc l := by
  intro f
  induction f using Nat.strongRecOn with
  | _ f ih =>
    intro l acc h
    obtain ⟨g, rfl⟩ : ∃ g, f = g + 1 := ⟨f - 1, by omega⟩
    unfold argsP
    by_cases hm : moreB sh acc.length l = true
    · rw [if_pos hm, if_pos hm]
      cases ha : argP n sh.idx l with
      | error q => rfl
      | ok z =>
        obtain ⟨a, r⟩ := z
        have hl := argP_len ha
        show argsP n sh g (acc ++ [a]) r = argsP n sh l.length (acc ++ [a]) r
        rw [ih g (by omega) r _ (by omega)]
        by_cases e : l.length = g
        · rw [e, ih g (by omega) r _ (by omega)]
        · rw [ih l.length (by omega) r _ (by omega)]
    · rw [if_neg hm, if_neg hm]
/-- One round: a plain name stands there. -/
theorem res_step {n : Int} {sh : Sh} {s : Except Fa (List Tk)} {acc : List Ar} (hs : sh.args = -1) (hr : ∀ t r, s = .ok (t :: r) → rightB t = true) (hl : nmB (lastS sh) = false) (h : pB s = true) (a : Ar) (ha : isv (stp s (argP n sh.idx)) a) :
    resF n sh (rst (stp s (argP n sh.idx))) (acc ++ [a]) = resF n sh s acc ∧ lenS (rst (stp s (argP n sh.idx))) < lenS s := by
  cases s with
  | error q => cases h
  | ok r =>
    cases r with
    | nil => cases h
    | cons t r =>
      have hp : plnB t = true := h
      have hk : t.k = 1 := by unfold plnB at hp; simp at hp; exact hp.1
      have hne : t.t ≠ lastS sh := fun e => by
        have := hr t r rfl
        unfold rightB at this
        rw [if_pos hk, e, hl] at this
        cases this
      have hm : moreB sh acc.length (t :: r) = true := by
        unfold moreB
        rw [hs]
        simp [seesB, hne]
      have e0 : stp (.ok (t :: r)) (argP n sh.idx) = argP n sh.idx (t :: r) := rfl
      have e1 : resF n sh (.ok (t :: r)) acc = argsP n sh ((t :: r).length + 1) acc (t :: r) := rfl
      rw [e0] at ha ⊢
      rw [e1]
      unfold argsP
      rw [if_pos hm]
      cases hq : argP n sh.idx (t :: r) with
      | error q => exact ⟨rfl, by simp [lenS, rst]⟩
      | ok z =>
        obtain ⟨b, r1⟩ := z
        have hlr := argP_len hq
        rw [hq] at ha
        obtain rfl := ha b r1 rfl
        refine ⟨?_, hlr⟩
        show argsP n sh (r1.length + 1) (acc ++ [a]) r1 = argsP n sh (t :: r).length (acc ++ [a]) r1
        rw [args_fuel _ _ _ hlr]
/-- The end: none stands there. -/
theorem res_end {β : Type} {n : Int} {sh : Sh} {s : Except Fa (List Tk)} {acc : List Ar} (hs : sh.args = -1) (h : pB s = false) (P : List Tk → Except Fa (β × List Tk)) (hP : ∀ r, seesB (lastS sh) r = false → P r = .error (failP n 100 r)) :
    stp (rst (resF n sh s acc)) P = stp s P ∧ isv (resF n sh s acc) acc := by
  cases s with
  | error q => exact ⟨rfl, fun a r e => by cases e⟩
  | ok r =>
    have e1 : resF n sh (.ok r) acc = argsP n sh (r.length + 1) acc r := rfl
    have hm : moreB sh acc.length r = !seesB (lastS sh) r := by
      unfold moreB
      rw [hs, decide_eq_false (by omega)]
      simp
    cases hse : seesB (lastS sh) r with
    | true =>
      have e2 : argsP n sh (r.length + 1) acc r = .ok (acc, r) := by unfold argsP; rw [hm, hse]; rfl
      rw [e1, e2]
      exact ⟨rfl, fun a r e => by cases e; rfl⟩
    | false =>
      have hn : nameP n r = .error (failP n 100 r) := by
        cases r with
        | nil => rfl
        | cons t r =>
          have h : plnB t = false := h
          simp only [nameP, h]
          simp [failP]
      have ha : argP n sh.idx r = .error (failP n 100 r) := by unfold argP; rw [hn]
      have e2 : argsP n sh (r.length + 1) acc r = .error (failP n 100 r) := by unfold argsP; rw [hm, hse]; simp only [ha]; rfl
      rw [e1, e2]
      refine ⟨?_, fun a r e => by cases e⟩
      show Except.error _ = P r
      rw [hP r hse]
theorem bdP_no {n : Int} {rec : Nat → List Tk → Except Fa (List Rw × List Tk)} {d : Nat} (r : List Tk) (h : seesB wOpen r = false) : bdP n rec d r = .error (failP n 100 r) := by
  unfold bdP
  rw [signP_no h]
theorem arg_false {n : Int} {s : Except Fa (List Tk)} (x : ByteArray) (h : isv (stp s (nameP n)) x) : rst (stp s (argP n false)) = rst (stp s (nameP n)) ∧ isv (stp s (argP n false)) ⟨x, -1⟩ := by
  cases s with
  | error q => exact ⟨rfl, fun a r e => by cases e⟩
  | ok r =>
    have e0 : stp (.ok r) (argP n false) = argP n false r := rfl
    have e1 : stp (.ok r) (nameP n) = nameP n r := rfl
    rw [e0]
    rw [e1] at h ⊢
    unfold argP
    cases hn : nameP n r with
    | error q => exact ⟨rfl, fun a r e => by cases e⟩
    | ok z =>
      obtain ⟨a, r1⟩ := z
      rw [hn] at h
      refine ⟨by simp [rst], fun b r2 e => ?_⟩
      simp at e
      rw [h a r1 rfl, ← e.1]
section
variable {n : Int} {rec : Nat → List Tk → Except Fa (List Rw × List Tk)} {d : Nat} {t : Tk} {r : List Tk}
theorem st_use (ho : ownB t.t = false) (nm : ByteArray) (h1 : isv (stp (.ok (t :: r)) (nameP n)) nm) (s' : Except Fa (List Tk)) (acc : List Ar) (hr : resF n shUse s' acc = resF n shUse (rst (stp (.ok (t :: r)) (nameP n))) []) (hp : pB s' = false) :
    rst (stmtP n rec d (t :: r)) = rst (stp s' (signP n wSemi)) ∧ ∀ rs2 r2, stmtP n rec d (t :: r) = .ok (rs2, r2) → rs2 = [⟨wUse, nm, acc, (0 : Nat), 0, t.p⟩] := by
  obtain ⟨k1, k2, k3⟩ := use_rest (r := r) ho
  have e1 : y1 n (shK t) (restK t r) = stp (.ok (t :: r)) (nameP n) := by rw [k2, k3]; rfl
  have e2 : y2 n (shK t) (restK t r) = resF n shUse (rst (stp (.ok (t :: r)) (nameP n))) [] := by unfold y2; rw [e1, k3]; rfl
  rw [← hr] at e2
  have A := res_end (n := n) (sh := shUse) (s := s') (acc := acc) rfl hp (signP n wSemi) (fun r h => signP_no h)
  have Nn := num_none (n := n) (rst (resF n shUse s' acc))
  have e3 : y3 n (shK t) (restK t r) = stp (rst (resF n shUse s' acc)) (optNum n false) := by unfold y3; rw [e2, k3]
  have S := st_flat (n := n) (rec := rec) (d := d) (t := t) (r := r) (by rw [k3]) nm acc 0 (by rw [e1]; exact h1) (by rw [e2]; exact A.2) (by rw [e3]; exact Nn.2)
  rw [e3, Nn.1, A.1, k1] at S
  exact S
theorem st_gate (hd : shp t.t = some shGate) (ho : ownB t.t = true) (nm : ByteArray) (h1 : isv (stp (.ok r) (nameP n)) nm) (s' : Except Fa (List Tk)) (acc : List Ar) (hr : resF n shGate s' acc = resF n shGate (rst (stp (.ok r) (nameP n))) []) (hp : pB s' = false) :
    rst (stmtP n rec d (t :: r)) = rst (stp s' (bdP n rec d)) ∧ ∀ rs2 r2, stmtP n rec d (t :: r) = .ok (rs2, r2) → ∃ sub, stp s' (bdP n rec d) = .ok (sub, r2) ∧ rs2 = ⟨t.t, nm, acc, (0 : Nat), sub.length, t.p⟩ :: sub := by
  obtain ⟨k1, k2, k3⟩ := own_rest (r := r) ho
  have k3 : shK t = shGate := by rw [k3, hd]; rfl
  have e1 : y1 n (shK t) (restK t r) = stp (.ok r) (nameP n) := by rw [k2, k3]; rfl
  have e2 : y2 n (shK t) (restK t r) = resF n shGate (rst (stp (.ok r) (nameP n))) [] := by unfold y2; rw [e1, k3]; rfl
  rw [← hr] at e2
  have A := res_end (n := n) (sh := shGate) (s := s') (acc := acc) rfl hp (bdP n rec d) (fun r h => bdP_no r h)
  have Nn := num_none (n := n) (rst (resF n shGate s' acc))
  have e3 : y3 n (shK t) (restK t r) = stp (rst (resF n shGate s' acc)) (optNum n false) := by unfold y3; rw [e2, k3]
  have S := st_body (n := n) (rec := rec) (d := d) (t := t) (r := r) (by rw [k3]) nm acc 0 (by rw [e1]; exact h1) (by rw [e2]; exact A.2) (by rw [e3]; exact Nn.2)
  rw [e3, Nn.1, A.1, k1] at S
  exact S
end
/-- What stands in a state's tokens is right. -/
theorem RX.right {w W : World} {rb : Nat} {ts : Value} {l : List Tk} {n : Int} {v : Value} {s : Except Fa (List Tk)} (H : RX w W rb ts l n v s) : ∀ t r, s = .ok (t :: r) → rightB t = true := fun t r e => by
  rcases H with ⟨i, e2, h⟩ | ⟨q, i, e2, _, h⟩
  · rw [e2] at e
    have e := Except.ok.inj e
    by_cases hi : i < l.length
    · rw [drop_at hi] at e
      cases e
      exact h.all i hi
    · rw [drop_out hi] at e
      cases e
  · rw [e2] at e; cases e
theorem RX.lens {w W : World} {rb : Nat} {ts : Value} {l : List Tk} {n : Int} {v : Value} {s : Except Fa (List Tk)} (H : RX w W rb ts l n v s) : lenS s ≤ l.length := by
  rcases H with ⟨i, e2, h⟩ | ⟨q, i, e2, _, h⟩
  · rw [e2]; show (l.drop i).length ≤ _; simp
  · rw [e2]; exact Nat.zero_le _
end Go.Proofs.YtiepbfeliehjnaaDoor
