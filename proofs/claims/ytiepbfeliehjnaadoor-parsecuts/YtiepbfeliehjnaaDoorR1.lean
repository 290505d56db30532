/-
  The reference's reader in memory; its calls fail, sign, want, plain, name.
-/
import Derived.Test.YtiepbfeliehjnaaDoorP7
namespace Go.Proofs.YtiepbfeliehjnaaDoor
open Go.RowKit Go.Sort

/-- The reference's reader, over the world w in which its tokens lie. -/
structure RV (w W : World) (rb : Nat) (ts : Value) (l : List Tk) (n : Int) (i : Nat) (er : Nat) (ot : Int) (v : Value) : Prop where
  tok : SF w ts l
  below : Below w.heap.size w W
  ge : w.heap.size ≤ rb
  blk : BK W rb #[ts, .int .i64 i, .int .i64 n, .int .i64 er, .int .i64 ot, v] 53
  le : i ≤ l.length
  len : l.length ≤ 65536
  all : AllR l
  sz : ∀ k (h : k < l.length), l[k].t.size ≤ 65536
section
variable {w W W' : World} {rb : Nat} {ts : Value} {l : List Tk} {n : Int} {i j er er' : Nat} {ot ot' : Int} {v v' : Value}
theorem RV.go (H : RV w W rb ts l n i er ot v) (g : GB W W' rb) (hb : BK W' rb #[ts, .int .i64 j, .int .i64 n, .int .i64 er', .int .i64 ot', v'] 53) (hj : j ≤ l.length) : RV w W' rb ts l n j er' ot' v' :=
  ⟨H.tok, H.below.grown g H.below.size (fun k e => by rw [← Option.some.inj e]; exact H.ge), H.ge, hb, hj, H.len, H.all, H.sz⟩
theorem RV.on (H : RV w W rb ts l n i er ot v) (g : Below W.heap.size W W') : RV w W' rb ts l n i er ot v :=
  ⟨H.tok, btr H.below g, H.ge, (g.block rb H.blk.lt).trans H.blk, H.le, H.len, H.all, H.sz⟩
end
/-- Its state: what is left, or the fault. -/
def RX (w W : World) (rb : Nat) (ts : Value) (l : List Tk) (n : Int) (v : Value) (s : Except Fa (List Tk)) : Prop :=
  (∃ i, s = .ok (l.drop i) ∧ RV w W rb ts l n i 0 0 v) ∨ (∃ q i, s = .error q ∧ q.2 ≠ 0 ∧ RV w W rb ts l n i q.2 q.1 v)
theorem RX.on {w W W' : World} {rb : Nat} {ts : Value} {l : List Tk} {n : Int} {v : Value} {s : Except Fa (List Tk)} (H : RX w W rb ts l n v s) (g : Below W.heap.size W W') : RX w W' rb ts l n v s := by
  rcases H with ⟨i, e, h⟩ | ⟨q, i, e, h0, h⟩
  · exact .inl ⟨i, e, h.on g⟩
  · exact .inr ⟨q, i, e, h0, h.on g⟩
def failP (n : Int) (e : Nat) : List Tk → Fa
  | [] => (n, 101)
  | t :: _ => (t.p, e)
def stp {α : Type} (s : Except Fa (List Tk)) (P : List Tk → Except Fa (α × List Tk)) : Except Fa (α × List Tk) := match s with | .error q => .error q | .ok r => P r
def rst {α : Type} (y : Except Fa (α × List Tk)) : Except Fa (List Tk) := match y with | .error q => .error q | .ok (_, r) => .ok r
def isv {α : Type} (y : Except Fa (α × List Tk)) (x : α) : Prop := ∀ a r, y = .ok (a, r) → x = a
/-- What a call tells. -/
def RG {α : Type} (w W : World) (rb : Nat) (ts : Value) (l : List Tk) (n : Int) (v : Value) (f : α → Value) (y : Except Fa (α × List Tk)) (e : Ending) (W' : World) : Prop :=
  GB W W' rb ∧ ∃ x, e = .returned (f x) ∧ isv y x ∧ RX w W' rb ts l n v (rst y)
theorem RV.cells {w W : World} {rb : Nat} {ts : Value} {l : List Tk} {n : Int} {i er : Nat} {ot : Int} {v : Value} (H : RV w W rb ts l n i er ot v) : W.cell? ⟨rb, 0, none⟩ = some ts ∧ W.cell? ⟨rb, 1, none⟩ = some (.int .i64 i) ∧ W.cell? ⟨rb, 2, none⟩ = some (.int .i64 n) ∧ W.cell? ⟨rb, 3, none⟩ = some (.int .i64 er) ∧ W.cell? ⟨rb, 4, none⟩ = some (.int .i64 ot) ∧ W.cell? ⟨rb, 5, none⟩ = some v :=
  ⟨H.blk.cell 0, H.blk.cell 1, H.blk.cell 2, H.blk.cell 3, H.blk.cell 4, H.blk.cell 5⟩
set_option maxHeartbeats 1000000 in
theorem rfail_in (w W : World) (rb : Nat) (ts : Value) (l : List Tk) (n : Int) (i e0 : Nat) (v : Value) (H : RV w W rb ts l n i 0 0 v) (hi : i < l.length) :
    Calls Tryd.prog 39 #[.pointer (some ⟨rb, 0, none⟩), .int .i64 e0] W fun e W' => e = .returned (.tuple #[]) ∧ GB W W' rb ∧ RV w W' rb ts l n i e0 l[i].p v := by
  have HH : Hid (RV w W rb ts l n i 0 0 v) := H
  obtain ⟨c0, c1, c2, c3, c4, c5⟩ := H.cells
  have f3 := H.blk.free 3
  have f4 := H.blk.free 4
  have hlt := H.blk.lt
  have hlen := H.len
  have hB := H.below.size
  have hge := H.ge
  obtain ⟨a, c, rfl, hc, hr⟩ := H.tok
  obtain ⟨b, o, rfl, r0⟩ := hr i hi
  have hne : rb ≠ b := by have := r0.lt; omega
  have hne2 : b ≠ rb := by omega
  have r := r0.below H.below
  have d2 := r.c2 i hi
  have hbl := r.lt
  clear r r0 hr H
  go_enter Tryd.func39, Tryd.ntmps39
  go_wp2
  go_quiet (fail)
  go_wp2
  go_region
  go_wp2
  have hg : ∀ (m : Nat) (x y z : Value), GB W ((((W.setCell ⟨rb, 3, none⟩ x).setCell ⟨rb, 4, none⟩ y).drewN m).setCell ⟨rb, 4, none⟩ z) rb := fun m x y z =>
    gb_set (gb_drewN (gb_set (gb_set (gb_refl _ _) _ _ _ (.inl rfl)) _ _ _ (.inl rfl)) _) _ _ _ (.inl rfl)
  refine bodyPost_end (results_none rfl _ _ _) rfl ⟨rfl, hg _ _ _ _, HH.out.go (hg _ _ _ _) ?_ HH.out.le⟩
  exact BK.set (((HH.out.blk.set 3 _).set 4 _).drewN _) 4 _
set_option maxHeartbeats 1000000 in
theorem rfail_out (w W : World) (rb : Nat) (ts : Value) (l : List Tk) (n : Int) (i e0 : Nat) (v : Value) (H : RV w W rb ts l n i 0 0 v) (hi : ¬ i < l.length) :
    Calls Tryd.prog 39 #[.pointer (some ⟨rb, 0, none⟩), .int .i64 e0] W fun e W' => e = .returned (.tuple #[]) ∧ GB W W' rb ∧ RV w W' rb ts l n i 101 n v := by
  have HH : Hid (RV w W rb ts l n i 0 0 v) := H
  obtain ⟨c0, c1, c2, c3, c4, c5⟩ := H.cells
  have f3 := H.blk.free 3
  have f4 := H.blk.free 4
  have hlt := H.blk.lt
  have hlen := H.len
  obtain ⟨a, c, rfl, hc, hr⟩ := H.tok
  have h3 : decide ((i : Int) < (l.length : Int)) = false := decide_eq_false (by omega)
  have h1 : l.length ≤ i := by omega
  clear hr H
  go_enter Tryd.func39, Tryd.ntmps39
  go_wp2
  go_quiet (fail)
  go_wp2
  have hg : ∀ (m : Nat) (x y z : Value), GB W ((((W.setCell ⟨rb, 3, none⟩ x).setCell ⟨rb, 4, none⟩ y).drewN m).setCell ⟨rb, 3, none⟩ z) rb := fun m x y z =>
    gb_set (gb_drewN (gb_set (gb_set (gb_refl _ _) _ _ _ (.inl rfl)) _ _ _ (.inl rfl)) _) _ _ _ (.inl rfl)
  refine bodyPost_end (results_none rfl _ _ _) rfl ⟨rfl, hg _ _ _ _, HH.out.go (hg _ _ _ _) ?_ HH.out.le⟩
  exact BK.set (((HH.out.blk.set 3 _).set 4 _).drewN _) 3 _
set_option maxHeartbeats 1000000 in
theorem rfail_dead (w W : World) (rb : Nat) (ts : Value) (l : List Tk) (n : Int) (i e0 er : Nat) (ot : Int) (v : Value) (H : RV w W rb ts l n i er ot v) (he : er ≠ 0) :
    Calls Tryd.prog 39 #[.pointer (some ⟨rb, 0, none⟩), .int .i64 e0] W fun e W' => e = .returned (.tuple #[]) ∧ W' = W := by
  obtain ⟨c0, c1, c2, c3, c4, c5⟩ := H.cells
  have hlt := H.blk.lt
  have h1 : ((er : Int) == 0) = false := by simp; omega
  clear H
  go_enter Tryd.func39, Tryd.ntmps39
  go_wp2
  exact bodyPost_ret (results_none rfl _ _ _) rfl ⟨rfl, rfl⟩
/-- A sign that stands there: its token is one of the third kind. -/
theorem sgn_kind {t : Tk} {c : ByteArray} (h : rightB t = true) (hc : sgB c = true ∧ nmB c = false ∧ nuB c = false) (e : t.t = c) : t.k = 3 := by
  unfold rightB at h
  by_cases h1 : t.k = 1
  · rw [if_pos h1, e, hc.2.1] at h; cases h
  · rw [if_neg h1] at h
    by_cases h2 : t.k = 2
    · rw [if_pos h2, e, hc.2.2] at h; cases h
    · rw [if_neg h2] at h
      by_cases h3 : t.k = 3
      · exact h3
      · rw [if_neg h3] at h; cases h
def sB (c : ByteArray) (s : Except Fa (List Tk)) : Bool := match s with | .error _ => false | .ok r => seesB c r
def pB (s : Except Fa (List Tk)) : Bool := match s with | .ok (t :: _) => plnB t | _ => false
set_option maxHeartbeats 1000000 in
theorem rsign_any (w W : World) (rb : Nat) (ts : Value) (l : List Tk) (n : Int) (v : Value) (s : Except Fa (List Tk)) (c : ByteArray) (hc : sgB c = true ∧ nmB c = false ∧ nuB c = false) (H : RX w W rb ts l n v s) :
    Calls Tryd.prog 58 #[.pointer (some ⟨rb, 0, none⟩), .string c] W fun e W' => e = .returned (.bool (sB c s)) ∧ ∃ m, W' = W.drewN m := by
  rcases H with ⟨i, rfl, H⟩ | ⟨q, i, rfl, h0, H⟩
  · show Calls _ _ _ _ fun e W' => e = .returned (.bool (seesB c (l.drop i))) ∧ _
    obtain ⟨c0, c1, c2, c3, c4, c5⟩ := H.cells
    have hlt := H.blk.lt
    have hlen := H.len
    by_cases hi : i < l.length
    · rw [drop_at hi]
      obtain ⟨a, cc, rfl, hcc, hr⟩ := H.tok.below H.below
      obtain ⟨b, o, rfl, r⟩ := hr i hi
      have d0 := r.c0 i hi
      have d1 := r.c1 i hi
      have hz := beq_str l[i].t c
      have hk := fun e => sgn_kind (H.all i hi) hc e
      clear r hr H
      show Calls _ _ _ _ fun e W' => e = .returned (.bool (decide (l[i].t = c))) ∧ _
      rw [← hz]
      by_cases h3 : l[i].k = 3
      · rw [h3] at d0
        clear hz hk h3
        generalize l[i].t = t at *
        go_enter Tryd.func58, Tryd.ntmps58
        go_upto_region 1 with (fail)
        go_quiet (fail)
        go_wp2
        go_ret
        exact ⟨rfl, _, rfl⟩
      · have e : (l[i].t.toList == c.toList) = false := by
          rw [hz]
          exact decide_eq_false (fun e => h3 (hk e))
        rw [e]
        have h4 : ((l[i].k : Int) == 3) = false := by simp; omega
        clear hz hk e
        generalize l[i].t = t at *
        go_enter Tryd.func58, Tryd.ntmps58
        go_upto_region 1 with (fail)
        go_quiet (fail)
        go_wp2
        go_ret
        exact ⟨rfl, _, rfl⟩
    · rw [drop_out hi]
      obtain ⟨a, cc, rfl, hcc, hr⟩ := H.tok
      have h1 : l.length ≤ i := by omega
      have h3 : decide ((i : Int) < (l.length : Int)) = false := decide_eq_false (by omega)
      have h2 : decide (i < l.length) = false := decide_eq_false hi
      clear hr H hi
      go_enter Tryd.func58, Tryd.ntmps58
      go_upto_region 1 with (fail)
      go_quiet (fail)
      go_wp2
      go_ret
      exact ⟨rfl, _, rfl⟩
  · show Calls _ _ _ _ fun e W' => e = .returned (.bool false) ∧ _
    obtain ⟨c0, c1, c2, c3, c4, c5⟩ := H.cells
    have hlt := H.blk.lt
    have h1 : ((q.2 : Int) == 0) = false := by simp; omega
    clear H
    generalize q.2 = er at *
    go_enter Tryd.func58, Tryd.ntmps58
    go_upto_region 1 with (fail)
    go_quiet (fail)
    go_wp2
    go_ret
    exact ⟨rfl, _, rfl⟩
set_option maxHeartbeats 1000000 in
theorem rplain_any (w W : World) (rb : Nat) (ts : Value) (l : List Tk) (n : Int) (v : Value) (s : Except Fa (List Tk)) (H : RX w W rb ts l n v s) :
    Calls Tryd.prog 44 #[.pointer (some ⟨rb, 0, none⟩)] W fun e W' => e = .returned (.bool (pB s)) ∧ ∃ m, W' = W.drewN m := by
  rcases H with ⟨i, rfl, H⟩ | ⟨q, i, rfl, h0, H⟩
  · obtain ⟨c0, c1, c2, c3, c4, c5⟩ := H.cells
    have hlt := H.blk.lt
    have hlen := H.len
    by_cases hi : i < l.length
    · rw [drop_at hi]
      obtain ⟨a, cc, rfl, hcc, hr⟩ := H.tok.below H.below
      obtain ⟨b, o, rfl, r⟩ := hr i hi
      have d0 := r.c0 i hi
      have d1 := r.c1 i hi
      have OW := fun w => rown_any l[i].t w
      clear r hr H
      show Calls _ _ _ _ fun e W' => e = .returned (.bool (plnB l[i])) ∧ _
      unfold plnB
      by_cases h3 : l[i].k = 1
      · rw [h3] at d0
        rw [decide_eq_true h3]
        clear h3
        generalize ownB l[i].t = ob at *
        generalize l[i].t = t at *
        go_enter Tryd.func44, Tryd.ntmps44
        go_upto_region 1 with (fail)
        go_quiet ((go_at_call 40; exact Calls.quiet_of_same (OW _)))
        go_wp2
        go_ret
        exact ⟨rfl, _, rfl⟩
      · have h4 : ((l[i].k : Int) == 1) = false := by simp; omega
        rw [decide_eq_false h3]
        clear OW
        go_enter Tryd.func44, Tryd.ntmps44
        go_upto_region 1 with (fail)
        go_quiet (fail)
        go_wp2
        go_ret
        exact ⟨rfl, _, rfl⟩
    · rw [drop_out hi]
      obtain ⟨a, cc, rfl, hcc, hr⟩ := H.tok
      have h1 : l.length ≤ i := by omega
      have h3 : decide ((i : Int) < (l.length : Int)) = false := decide_eq_false (by omega)
      have h2 : decide (i < l.length) = false := decide_eq_false hi
      clear hr H hi
      go_enter Tryd.func44, Tryd.ntmps44
      go_upto_region 1 with (fail)
      go_quiet (fail)
      go_wp2
      go_ret
      exact ⟨rfl, _, rfl⟩
  · show Calls _ _ _ _ fun e W' => e = .returned (.bool false) ∧ _
    obtain ⟨c0, c1, c2, c3, c4, c5⟩ := H.cells
    have hlt := H.blk.lt
    have h1 : ((q.2 : Int) == 0) = false := by simp; omega
    clear H
    generalize q.2 = er at *
    go_enter Tryd.func44, Tryd.ntmps44
    go_upto_region 1 with (fail)
    go_quiet (fail)
    go_wp2
    go_ret
    exact ⟨rfl, _, rfl⟩
end Go.Proofs.YtiepbfeliehjnaaDoor
