/-
  The reference's reader: want, name, value.
-/
import Derived.Test.YtiepbfeliehjnaaDoorR1
namespace Go.Proofs.YtiepbfeliehjnaaDoor
open Go.RowKit Go.Sort

theorem RV.drawn {w W : World} {rb : Nat} {ts : Value} {l : List Tk} {n : Int} {i er : Nat} {ot : Int} {v : Value} (H : RV w W rb ts l n i er ot v) (m : Nat) : RV w (W.drewN m) rb ts l n i er ot v :=
  ⟨H.tok, below_drewN H.below m, H.ge, H.blk, H.le, H.len, H.all, H.sz⟩
theorem RX.drawn {w W : World} {rb : Nat} {ts : Value} {l : List Tk} {n : Int} {v : Value} {s : Except Fa (List Tk)} (H : RX w W rb ts l n v s) (m : Nat) : RX w (W.drewN m) rb ts l n v s := by
  rcases H with ⟨i, e, h⟩ | ⟨q, i, e, h0, h⟩
  · exact .inl ⟨i, e, h.drawn m⟩
  · exact .inr ⟨q, i, e, h0, h.drawn m⟩
def failX (n : Int) (e : Nat) (s : Except Fa (List Tk)) : Except Fa (List Tk) := match s with | .error q => .error q | .ok r => .error (failP n e r)
theorem rfail_any (w W : World) (rb : Nat) (ts : Value) (l : List Tk) (n : Int) (v : Value) (s : Except Fa (List Tk)) (e0 : Nat) (x0 : Int) (h0 : e0 ≠ 0) (hx : x0 = e0) (H : RX w W rb ts l n v s) :
    Calls Tryd.prog 39 #[.pointer (some ⟨rb, 0, none⟩), .int .i64 x0] W fun e W' => e = .returned (.tuple #[]) ∧ GB W W' rb ∧ RX w W' rb ts l n v (failX n e0 s) := by
  subst hx
  rcases H with ⟨i, rfl, H⟩ | ⟨q, i, rfl, hq, H⟩
  · by_cases hi : i < l.length
    · refine (rfail_in w W rb ts l n i e0 v H hi).mono fun e W' ⟨h1, h2, h3⟩ => ⟨h1, h2, .inr ⟨(l[i].p, e0), i, ?_, h0, h3⟩⟩
      rw [drop_at hi]
      rfl
    · refine (rfail_out w W rb ts l n i e0 v H hi).mono fun e W' ⟨h1, h2, h3⟩ => ⟨h1, h2, .inr ⟨(n, 101), i, ?_, (fun h => by cases h), h3⟩⟩
      rw [drop_out hi]
      rfl
  · exact (rfail_dead w W rb ts l n i e0 q.2 q.1 v H hq).mono fun e W' ⟨h1, h2⟩ => by subst h2; exact ⟨h1, gb_refl _ _, .inr ⟨q, i, rfl, hq, H⟩⟩
theorem signP_no {n : Int} {c : ByteArray} {r : List Tk} (h : seesB c r = false) : signP n c r = .error (failP n 100 r) := by
  cases r with
  | nil => rfl
  | cons t r =>
    have h : decide (t.t = c) = false := h
    simp only [signP, if_neg (of_decide_eq_false h)]
    rfl
theorem want_no {n : Int} {c : ByteArray} {s : Except Fa (List Tk)} (h : sB c s = false) : rst (stp s (signP n c)) = failX n 100 s := by
  cases s with
  | error q => rfl
  | ok r => show rst (signP n c r) = _; rw [signP_no h]; rfl
theorem sees_in {c : ByteArray} {l : List Tk} {i : Nat} (h : seesB c (l.drop i) = true) : ∃ hi : i < l.length, l[i].t = c := by
  by_cases hi : i < l.length
  · rw [drop_at hi] at h
    exact ⟨hi, of_decide_eq_true h⟩
  · rw [drop_out hi] at h; cases h
set_option maxHeartbeats 1000000 in
theorem rwant_any (w W : World) (rb : Nat) (ts : Value) (l : List Tk) (n : Int) (v : Value) (s : Except Fa (List Tk)) (c : ByteArray) (hc : sgB c = true ∧ nmB c = false ∧ nuB c = false) (H : RX w W rb ts l n v s) :
    Calls Tryd.prog 43 #[.pointer (some ⟨rb, 0, none⟩), .string c] W fun e W' => e = .returned (.tuple #[]) ∧ GB W W' rb ∧ RX w W' rb ts l n v (rst (stp s (signP n c))) := by
  have SG := rsign_any w W rb ts l n v s c hc H
  cases hs : sB c s with
  | false =>
    rw [want_no hs]
    rw [hs] at SG
    have FL := fun m => rfail_any w (W.drewN m) rb ts l n v s 100 100 (by decide) rfl (H.drawn m)
    clear hs H
    go_enter Tryd.func43, Tryd.ntmps43
    go_wp2_with (first | (go_at_call 58; (with_reducible refine SG.mono ?_); rintro e w1 ⟨rfl, m, rfl⟩) | (go_at_call 39; (with_reducible refine (FL _).mono ?_); rintro e w2 ⟨rfl, hG, hR⟩))
    exact bodyPost_ret (results_none rfl _ _ _) rfl ⟨rfl, gb_trans (gb_drewN (gb_refl _ _) _) hG, hR⟩
  | true =>
    rcases H with ⟨i, rfl, H⟩ | ⟨q, i, rfl, hq, H⟩
    · have hs : seesB c (l.drop i) = true := hs
      obtain ⟨hi, ht⟩ := sees_in hs
      rw [show sB c (.ok (l.drop i)) = true from hs] at SG
      have e : rst (stp (.ok (l.drop i)) (signP n c)) = .ok (l.drop (i + 1)) := by
        rw [drop_at hi]
        simp only [stp, signP, if_pos ht, rst]
      rw [e]
      clear e hs ht
      have HH : Hid (RV w W rb ts l n i 0 0 v) := H
      obtain ⟨c0, c1, c2, c3, c4, c5⟩ := H.cells
      have f1 := H.blk.free 1
      have hlt := H.blk.lt
      have hlen := H.len
      clear H
      go_enter Tryd.func43, Tryd.ntmps43
      go_wp2_with (go_at_call 58; (with_reducible refine SG.mono ?_); rintro e w1 ⟨rfl, m, rfl⟩)
      have hg : ∀ (m : Nat) (x : Value), GB W ((W.drewN m).setCell ⟨rb, 1, none⟩ x) rb := fun m x => gb_set (gb_drewN (gb_refl _ _) _) _ _ _ (.inl rfl)
      refine bodyPost_end (results_none rfl _ _ _) rfl ⟨rfl, hg _ _, .inl ⟨i + 1, rfl, HH.out.go (hg _ _) ?_ (by omega)⟩⟩
      exact BK.set (HH.out.blk.drewN _) 1 _
    · cases hs
theorem nameP_no {n : Int} {s : Except Fa (List Tk)} (h : pB s = false) : rst (stp s (nameP n)) = failX n 100 s ∧ ∀ x, isv (stp s (nameP n)) x := by
  cases s with
  | error q => exact ⟨rfl, fun x a r e => by cases e⟩
  | ok r =>
    cases r with
    | nil => exact ⟨rfl, fun x a r e => by cases e⟩
    | cons t r =>
      have h : plnB t = false := h
      have e : nameP n (t :: r) = .error (t.p, 100) := by simp only [nameP, h]; simp
      show rst (nameP n (t :: r)) = _ ∧ ∀ x, isv (nameP n (t :: r)) x
      rw [e]
      exact ⟨rfl, fun x a r e => by cases e⟩
theorem plain_in {l : List Tk} {i : Nat} (h : pB (.ok (l.drop i)) = true) : ∃ hi : i < l.length, plnB l[i] = true := by
  by_cases hi : i < l.length
  · rw [drop_at hi] at h
    exact ⟨hi, h⟩
  · rw [drop_out hi] at h; cases h
set_option maxHeartbeats 1000000 in
theorem rname_any (w W : World) (rb : Nat) (ts : Value) (l : List Tk) (n : Int) (v : Value) (s : Except Fa (List Tk)) (H : RX w W rb ts l n v s) :
    Calls Tryd.prog 41 #[.pointer (some ⟨rb, 0, none⟩)] W (RG w W rb ts l n v Value.string (stp s (nameP n))) := by
  have SG := rplain_any w W rb ts l n v s H
  unfold RG
  cases hs : pB s with
  | false =>
    obtain ⟨e1, e2⟩ := nameP_no (n := n) hs
    rw [e1]
    rw [hs] at SG
    have FL := fun m => rfail_any w (W.drewN m) rb ts l n v s 100 100 (by decide) rfl (H.drawn m)
    have e3 : Hid (∀ x, isv (stp s (nameP n)) x) := e2
    clear hs H e1 e2
    go_enter Tryd.func41, Tryd.ntmps41
    go_wp2_with (first | (go_at_call 44; (with_reducible refine SG.mono ?_); rintro e w1 ⟨rfl, m, rfl⟩) | (go_at_call 39; (with_reducible refine (FL _).mono ?_); rintro e w2 ⟨rfl, hG, hR⟩))
    go_ret
    exact ⟨gb_trans (gb_drewN (gb_refl _ _) _) hG, _, rfl, e3.out _, hR⟩
  | true =>
    rcases H with ⟨i, rfl, H⟩ | ⟨q, i, rfl, hq, H⟩
    · obtain ⟨hi, ht⟩ := plain_in hs
      rw [hs] at SG
      have e : stp (.ok (l.drop i)) (nameP n) = .ok (l[i].t, l.drop (i + 1)) := by
        rw [drop_at hi]
        simp only [stp, nameP, if_pos ht]
      rw [e]
      clear e hs ht
      have HH : Hid (RV w W rb ts l n i 0 0 v) := H
      obtain ⟨c0, c1, c2, c3, c4, c5⟩ := H.cells
      have f1 := H.blk.free 1
      have hlt := H.blk.lt
      have hlen := H.len
      have hB := H.below.size
      have hge := H.ge
      obtain ⟨a, c, rfl, hc, hr⟩ := H.tok
      obtain ⟨b, o, rfl, r0⟩ := hr i hi
      have hne : rb ≠ b := by have := r0.lt; omega
      have hne2 : b ≠ rb := by omega
      have r := r0.below H.below
      have d1 := r.c1 i hi
      have hbl := r.lt
      clear r r0 hr H
      generalize ht : l[i].t = t at *
      go_enter Tryd.func41, Tryd.ntmps41
      go_wp2_with (go_at_call 44; (with_reducible refine SG.mono ?_); rintro e w1 ⟨rfl, m, rfl⟩)
      go_quiet (fail)
      go_wp2
      go_ret
      have hg : ∀ (m k : Nat) (x : Value), GB W (((W.drewN m).setCell ⟨rb, 1, none⟩ x).drewN k) rb := fun m k x => gb_drewN (gb_set (gb_drewN (gb_refl _ _) _) _ _ _ (.inl rfl)) _
      refine ⟨hg _ _ _, t, rfl, fun a r e => by cases e; rfl, .inl ⟨i + 1, rfl, HH.out.go (hg _ _ _) ?_ (by omega)⟩⟩
      exact BK.drewN (BK.set (HH.out.blk.drewN _) 1 _) _
    · cases hs
end Go.Proofs.YtiepbfeliehjnaaDoor
