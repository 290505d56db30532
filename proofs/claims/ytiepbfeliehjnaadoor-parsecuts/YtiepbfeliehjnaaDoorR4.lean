/-
  The reference's reader: argument.
-/
import Derived.Test.YtiepbfeliehjnaaDoorR3
namespace Go.Proofs.YtiepbfeliehjnaaDoor
open Go.RowKit Go.Sort

abbrev arv (a : Ar) : Value := .agg #[.string a.n, .int .i64 a.x]
theorem sg_left : sgB wLeft = true ∧ nmB wLeft = false ∧ nuB wLeft = false := by decide +kernel
theorem sg_right : sgB wRight = true ∧ nmB wRight = false ∧ nuB wRight = false := by decide +kernel
theorem sg_semi : sgB wSemi = true ∧ nmB wSemi = false ∧ nuB wSemi = false := by decide +kernel
theorem sg_open : sgB wOpen = true ∧ nmB wOpen = false ∧ nuB wOpen = false := by decide +kernel
theorem sg_shut : sgB wShut = true ∧ nmB wShut = false ∧ nuB wShut = false := by decide +kernel
/-- An argument without an index; with one. -/
theorem argP_plain {n : Int} {s : Except Fa (List Tk)} (h : sB wLeft (rst (stp s (nameP n))) = false) (x : ByteArray) (hx : isv (stp s (nameP n)) x) : rst (stp s (argP n true)) = rst (stp s (nameP n)) ∧ isv (stp s (argP n true)) ⟨x, -1⟩ := by
  cases s with
  | error q => exact ⟨rfl, fun a r e => by cases e⟩
  | ok r =>
    have e0 : stp (.ok r) (argP n true) = argP n true r := rfl
    have e1 : stp (.ok r) (nameP n) = nameP n r := rfl
    rw [e0]
    rw [e1] at h hx ⊢
    unfold argP
    cases hn : nameP n r with
    | error q => exact ⟨rfl, fun a r e => by cases e⟩
    | ok y =>
      obtain ⟨a, r1⟩ := y
      rw [hn] at h hx
      have h : seesB wLeft r1 = false := h
      simp only [h]
      refine ⟨by simp [rst], fun b r2 e => ?_⟩
      simp at e
      rw [hx a r1 rfl, ← e.1]
theorem argP_index {n : Int} {s : Except Fa (List Tk)} {l : List Tk} {i : Nat} (h : rst (stp s (nameP n)) = .ok (l.drop i)) (h2 : seesB wLeft (l.drop i) = true) (x : ByteArray) (hx : isv (stp s (nameP n)) x) (y : Nat) (hy : isv (stp (.ok (l.drop (i + 1))) (numP n)) y) :
    rst (stp s (argP n true)) = rst (stp (rst (stp (.ok (l.drop (i + 1))) (numP n))) (signP n wRight)) ∧ isv (stp s (argP n true)) ⟨x, y⟩ := by
  cases s with
  | error q => cases h
  | ok r =>
    have e0 : stp (.ok r) (argP n true) = argP n true r := rfl
    have e1 : stp (.ok r) (nameP n) = nameP n r := rfl
    rw [e0]
    rw [e1] at h hx
    unfold argP
    cases hn : nameP n r with
    | error q => rw [hn] at h; cases h
    | ok z =>
      obtain ⟨a, r1⟩ := z
      rw [hn] at h hx
      have h : Except.ok r1 = Except.ok (l.drop i) := h
      cases h
      have ht : (l.drop i).tail = l.drop (i + 1) := by rw [List.tail_drop]
      have e2 : stp (.ok (l.drop (i + 1))) (numP n) = numP n (l.drop (i + 1)) := rfl
      rw [e2] at hy ⊢
      simp only [h2, ht, and_self, if_true]
      cases hm : numP n (l.drop (i + 1)) with
      | error q => exact ⟨rfl, fun a r e => by cases e⟩
      | ok z =>
        obtain ⟨m, r3⟩ := z
        rw [hm] at hy
        simp only [rst, stp]
        cases hs : signP n wRight r3 with
        | error q => exact ⟨rfl, fun a r e => by cases e⟩
        | ok z =>
          obtain ⟨u, r4⟩ := z
          refine ⟨rfl, fun b r5 e => ?_⟩
          cases e
          rw [hx a _ rfl, hy m _ rfl]
section
variable {w W W' : World} {rb : Nat} {ts : Value} {l : List Tk} {n : Int} {v : Value} {s s' : Except Fa (List Tk)} {qb : Nat} {row : Array Value} {T : TypeId}
theorem RV.own {i er : Nat} {ot : Int} {b : Option Nat} (H : RV w W rb ts l n i er ot v) (g : W.grownBy W' b) (hr : ∀ k, b = some k → w.heap.size ≤ k ∧ k ≠ rb) : RV w W' rb ts l n i er ot v :=
  ⟨H.tok, H.below.grown g H.below.size (fun k e => (hr k e).1), H.ge, (g.block rb H.blk.lt (fun e => (hr rb e.symm).2 rfl)).trans H.blk, H.le, H.len, H.all, H.sz⟩
theorem RX.own {b : Option Nat} (H : RX w W rb ts l n v s) (g : W.grownBy W' b) (hr : ∀ k, b = some k → w.heap.size ≤ k ∧ k ≠ rb) : RX w W' rb ts l n v s := by
  rcases H with ⟨i, e, h⟩ | ⟨q, i, e, h0, h⟩
  · exact .inl ⟨i, e, h.own g hr⟩
  · exact .inr ⟨q, i, e, h0, h.own g hr⟩
theorem RX.lt (H : RX w W rb ts l n v s) : rb < W.heap.size := by
  rcases H with ⟨i, e, h⟩ | ⟨q, i, e, h0, h⟩
  · exact h.blk.lt
  · exact h.blk.lt
theorem RX.base (H : RX w W rb ts l n v s) : w.heap.size ≤ W.heap.size := by
  rcases H with ⟨i, e, h⟩ | ⟨q, i, e, h0, h⟩
  · exact h.below.size
  · exact h.below.size
/-- The reader beside a box. -/
structure RB (w W : World) (rb : Nat) (ts : Value) (l : List Tk) (n : Int) (v : Value) (s : Except Fa (List Tk)) (qb : Nat) (row : Array Value) (T : TypeId) : Prop where
  x : RX w W rb ts l n v s
  q : BK W qb row T
  nq : qb ≠ rb
  ge : w.heap.size ≤ qb
theorem RX.box (H : RX w W rb ts l n v s) (row : Array Value) (T : TypeId) : RB w (W.alloc (.cells row T)) rb ts l n v s W.heap.size row T :=
  ⟨H.on (bal (Below.refl _ _) _), bk_new _ _ _, Nat.ne_of_gt H.lt, H.base⟩
theorem RB.gb (h : RB w W rb ts l n v s qb row T) (g : GB W W' rb) (x : RX w W' rb ts l n v s') : RB w W' rb ts l n v s' qb row T :=
  ⟨x, gb_bk g h.q h.nq, h.nq, h.ge⟩
theorem RB.set (h : RB w W rb ts l n v s qb row T) (k : Nat) (y : Value) : RB w (W.setCell ⟨qb, k, none⟩ y) rb ts l n v s qb (row.setIfInBounds k y) T :=
  ⟨h.x.own (grown_set W qb k y) (fun m e => by cases e; exact ⟨h.ge, h.nq⟩), h.q.set k y, h.nq, h.ge⟩
theorem RB.drawn (h : RB w W rb ts l n v s qb row T) (m : Nat) : RB w (W.drewN m) rb ts l n v s qb row T := ⟨h.x.drawn m, h.q, h.nq, h.ge⟩
theorem RB.alloc (h : RB w W rb ts l n v s qb row T) (o : Obj) : RB w (W.alloc o) rb ts l n v s qb row T := ⟨h.x.on (bal (Below.refl _ _) _), h.q.alloc _, h.nq, h.ge⟩
/-- A store into another box. -/
theorem RB.other (h : RB w W rb ts l n v s qb row T) {b : Nat} (hb : b ≠ qb) (hr : b ≠ rb) (hg : w.heap.size ≤ b) (k : Nat) (y : Value) : RB w (W.setCell ⟨b, k, none⟩ y) rb ts l n v s qb row T :=
  ⟨h.x.own (grown_set W b k y) (fun m e => by cases e; exact ⟨hg, hr⟩), h.q.far hb k y, h.nq, h.ge⟩
theorem RX.alive {c : ByteArray} (H : RX w W rb ts l n v s) (h : sB c s = true) : ∃ i, s = .ok (l.drop i) ∧ RV w W rb ts l n i 0 0 v ∧ ∃ hi : i < l.length, l[i].t = c := by
  rcases H with ⟨i, rfl, H⟩ | ⟨q, i, rfl, h0, H⟩
  · exact ⟨i, rfl, H, sees_in h⟩
  · cases h
/-- One token on. -/
theorem RV.next {i : Nat} (H : RV w W rb ts l n i 0 0 v) (hi : i < l.length) (y : Value) (hy : y = .int .i64 ((i : Int) + 1)) : RX w (W.setCell ⟨rb, 1, none⟩ y) rb ts l n v (.ok (l.drop (i + 1))) := by
  subst hy
  exact .inl ⟨i + 1, rfl, H.go (gb_set (gb_refl _ _) rb 1 _ (.inl rfl)) (H.blk.set 1 _) (by omega)⟩
end
set_option maxHeartbeats 4000000 in
theorem rarg_no (w W : World) (rb : Nat) (ts : Value) (l : List Tk) (n : Int) (v : Value) (s : Except Fa (List Tk)) (H : RX w W rb ts l n v s) (hb : sB wLeft (rst (stp s (nameP n))) = false) :
    Calls Tryd.prog 46 #[.pointer (some ⟨rb, 0, none⟩)] W (RG w W rb ts l n v arv (stp s (argP n true))) := by
  have NM := fun row => rname_any w (W.alloc (.cells row 61)) rb ts l n v s (H.on (bal (Below.refl _ _) _))
  have HP : Hid (∀ x, isv (stp s (nameP n)) x → rst (stp s (argP n true)) = rst (stp s (nameP n)) ∧ isv (stp s (argP n true)) ⟨x, -1⟩) := fun x hx => argP_plain hb x hx
  have hlt := H.lt
  have HB : Hid (∀ row, RB w (W.alloc (.cells row 61)) rb ts l n v s W.heap.size row 61) := fun row => H.box row 61
  unfold RG at NM ⊢
  generalize hs1 : rst (stp s (nameP n)) = s1 at *
  clear H
  go_enter Tryd.func46, Tryd.ntmps46
  go_wp2_with (first | (go_at_call 41; (with_reducible refine (NM _).mono ?_); rintro e w1 ⟨hG, x, rfl, hx, hR⟩; have hX : Hid (isv (stp s (nameP n)) x) := hx; clear hx; have B1 := (HB.out _).gb hG hR; have g0 := B1.q.cell 0; have g1 := B1.q.cell 1; have f0 := B1.q.free 0; have f1 := B1.q.free 1; have hq := B1.q.lt; have SG := fun row => rsign_any w (w1.alloc (.cells row 61)) rb ts l n v _ wLeft sg_left (B1.alloc _).x; rw [hb] at SG; simp at g0 g1) | (go_at_call 58; (with_reducible refine (SG _).mono ?_); rintro e w2 ⟨rfl, m, rfl⟩))
  obtain ⟨e1, e2⟩ := HP.out x hX.out
  have z := (B1.alloc (.cells #[.string x, .int .i64 (-1)] 61)).drawn m
  have hg5 : GB W ((w1.alloc (.cells #[.string x, .int .i64 (-1)] 61)).drewN m) rb := gb_drewN (gb_alloc (gb_trans (gb_alloc (gb_refl _ _) _) hG) _) _
  generalize (w1.alloc (.cells #[.string x, .int .i64 (-1)] 61)).drewN m = w5 at z hg5 ⊢
  have r0 := z.q.cell 0
  have r1 := z.q.cell 1
  simp at r0 r1
  have hg : ∀ (y z : Value), GB W ((w5.setCell ⟨W.heap.size, 0, none⟩ y).setCell ⟨W.heap.size, 1, none⟩ z) rb := fun y z => gb_set (gb_set hg5 _ _ _ (.inr (Nat.le_refl _))) _ _ _ (.inr (Nat.le_refl _))
  refine bodyPost_ret (v := arv ⟨x, -1⟩) (by simp [results, Tryd.results46, go_sem, r0, r1]) rfl ⟨hg _ _, _, rfl, e2, ?_⟩
  rw [e1]
  exact ((z.set 0 _).set 1 _).x
set_option maxHeartbeats 4000000 in
theorem rarg_yes (w W : World) (rb : Nat) (ts : Value) (l : List Tk) (n : Int) (v : Value) (s : Except Fa (List Tk)) (H : RX w W rb ts l n v s) (hb : sB wLeft (rst (stp s (nameP n))) = true) :
    Calls Tryd.prog 46 #[.pointer (some ⟨rb, 0, none⟩)] W (RG w W rb ts l n v arv (stp s (argP n true))) := by
  have NM := fun row => rname_any w (W.alloc (.cells row 61)) rb ts l n v s (H.on (bal (Below.refl _ _) _))
  have HP : Hid (∀ i x y, rst (stp s (nameP n)) = .ok (l.drop i) → seesB wLeft (l.drop i) = true → isv (stp s (nameP n)) x → isv (stp (.ok (l.drop (i + 1))) (numP n)) y → rst (stp s (argP n true)) = rst (stp (rst (stp (.ok (l.drop (i + 1))) (numP n))) (signP n wRight)) ∧ isv (stp s (argP n true)) ⟨x, y⟩) := fun i x y h h2 hx hy => argP_index h h2 x hx y hy
  have hlt := H.lt
  have HB : Hid (∀ row, RB w (W.alloc (.cells row 61)) rb ts l n v s W.heap.size row 61) := fun row => H.box row 61
  unfold RG at NM ⊢
  generalize hs1 : rst (stp s (nameP n)) = s1 at *
  clear H
  go_enter Tryd.func46, Tryd.ntmps46
  go_wp2_with (first | (go_at_call 41; (with_reducible refine (NM _).mono ?_); rintro e w1 ⟨hG, x, rfl, hx, hR⟩; have hX : Hid (isv (stp s (nameP n)) x) := hx; clear hx; have B1 := (HB.out _).gb hG hR; have g0 := B1.q.cell 0; have g1 := B1.q.cell 1; have f0 := B1.q.free 0; have f1 := B1.q.free 1; have hq := B1.q.lt; have SG := fun row => rsign_any w (w1.alloc (.cells row 61)) rb ts l n v _ wLeft sg_left (B1.alloc _).x; rw [hb] at SG; simp at g0 g1; obtain ⟨i, hsi, HV, hi, hti⟩ := hR.alive hb; have k1 := HV.cells.2.1; have z1 := HV.blk.free 1; have zl := HV.blk.lt; have hlen := HV.len; have NU := fun row m y hy => rnumber_any w _ rb ts l n v _ (((HV.on (bal (Below.refl _ _) (.cells row 61))).drawn m).next hi y hy)) | (go_at_call 58; (with_reducible refine (SG _).mono ?_); rintro e w2 ⟨rfl, m, rfl⟩) | (go_at_call 42; (with_reducible refine (NU _ _ _ rfl).mono ?_); rintro e w3 ⟨hG3, y, rfl, hy, hR3⟩; have Q2 := gb_bk hG3 (((bk_new w1 #[.string x, .int .i64 (-1)] 61).drewN m).far (Nat.ne_of_lt zl) 1 _) (Nat.ne_of_gt zl); have R2 := gb_bk hG3 (((B1.q.alloc (.cells #[.string x, .int .i64 (-1)] 61)).drewN m).far (Ne.symm B1.nq) 1 _) B1.nq; have QB : RB w w3 rb ts l n v _ w1.heap.size _ 61 := ⟨hR3, Q2, Nat.ne_of_gt zl, Nat.le_trans B1.ge (Nat.le_of_lt hq)⟩; have p0 := Q2.cell 0; have p1 := Q2.cell 1; have pf := Q2.free 1; have pl := Q2.lt; simp at p0 p1; have WT := fun y => rwant_any w _ rb ts l n v _ wRight sg_right (QB.set 1 y).x) | (go_at_call 43; (with_reducible refine (WT _).mono ?_); rintro e w4 ⟨rfl, hG4, hR4⟩; have Q4 := gb_bk hG4 (QB.set 1 (.int .i64 y)).q QB.nq; have R4 := gb_bk hG4 (R2.far (Nat.ne_of_gt hq) 1 (.int .i64 y)) B1.nq; have t0 := Q4.cell 0; have t1 := Q4.cell 1; have tl := Q4.lt; have r0 := R4.cell 0; have r1 := R4.cell 1; have rf0 := R4.free 0; have rf1 := R4.free 1; have rl := R4.lt; simp at t0 t1 r0 r1))
  subst hsi
  obtain ⟨e1, e2⟩ := HP.out i x y rfl (by rw [drop_at hi]; exact decide_eq_true hti) hX.out hy
  have hg4 : GB W w4 rb := gb_trans (gb_set (gb_trans (gb_set (gb_drewN (gb_alloc (gb_trans (gb_alloc (gb_refl _ _) _) hG) _) _) rb 1 _ (.inl rfl)) hG3) w1.heap.size 1 _ (.inr (Nat.le_of_lt hq))) hG4
  have hg : ∀ (y z : Value), GB W ((w4.setCell ⟨W.heap.size, 0, none⟩ y).setCell ⟨W.heap.size, 1, none⟩ z) rb := fun y z => gb_set (gb_set hg4 _ _ _ (.inr (Nat.le_refl _))) _ _ _ (.inr (Nat.le_refl _))
  refine bodyPost_ret (v := arv ⟨x, y⟩) (by simp [results, Tryd.results46, go_sem, r0, r1]) rfl ⟨hg _ _, _, rfl, e2, ?_⟩
  rw [e1]
  have RF : RB w w4 rb ts l n v _ W.heap.size _ 61 := ⟨hR4, R4, B1.nq, B1.ge⟩
  exact ((RF.set 0 _).set 1 _).x
theorem rarg_any (w W : World) (rb : Nat) (ts : Value) (l : List Tk) (n : Int) (v : Value) (s : Except Fa (List Tk)) (H : RX w W rb ts l n v s) :
    Calls Tryd.prog 46 #[.pointer (some ⟨rb, 0, none⟩)] W (RG w W rb ts l n v arv (stp s (argP n true))) := by
  cases hb : sB wLeft (rst (stp s (nameP n))) with
  | false => exact rarg_no w W rb ts l n v s H hb
  | true => exact rarg_yes w W rb ts l n v s H hb
end Go.Proofs.YtiepbfeliehjnaaDoor
