/-
  The reference's reader: value, number.
-/
import Derived.Test.YtiepbfeliehjnaaDoorR2
import Derived.Test.YtiepbfeliehjnaaDoorN2
namespace Go.Proofs.YtiepbfeliehjnaaDoor
open Go.RowKit Go.Sort

/-- The number of the first k digits. -/
def vk (s : ByteArray) (k : Nat) : Nat := valL (s.data.toList.take k)
theorem vk_succ {s : ByteArray} {k : Nat} (h : k < s.size) : vk s (k + 1) = vk s k * 10 + (s[k].toNat - 48) := by
  have hz : s.data.toList.length = s.size := rfl
  unfold vk
  rw [List.take_add_one, List.getElem?_eq_getElem (by omega)]
  unfold valL
  rw [List.foldl_append]
  rfl
theorem vk_le (s : ByteArray) (k : Nat) : vk s k ≤ val s := by
  have e : val s = (s.data.toList.drop k).foldl (fun a c => a * 10 + (c.toNat - 48)) (vk s k) := by
    unfold vk val valL
    rw [← List.foldl_append, List.take_append_drop]
  rw [e]
  exact fold_ge _ _
theorem vk_all (s : ByteArray) : vk s s.size = val s := by
  unfold vk val
  rw [List.take_of_length_le (show s.data.toList.length ≤ s.size from Nat.le_refl _)]
theorem ds_at {s : ByteArray} (h : Ds s.data.toList) {k : Nat} (hk : k < s.size) : 48 ≤ s[k].toNat ∧ s[k].toNat ≤ 57 := h _ (List.getElem_mem (l := s.data.toList) (n := k) hk)
set_option maxHeartbeats 1000000 in
theorem rvalue_any (s : ByteArray) (w : World) (hd : Ds s.data.toList) (hs : s.size ≤ 65536) (R : Int) (hR : (val s ≤ 9007199254740991 ∧ R = val s) ∨ (9007199254740991 < val s ∧ R = -1)) :
    Calls Tryd.prog 57 #[.string s] w fun e w' => e = .returned (.int .i64 R) ∧ w' = w := by
  have HD : Hid (Ds s.data.toList) := hd
  have HA : Hid (vk s s.size = val s) := vk_all s
  have HR : Hid ((val s ≤ 9007199254740991 ∧ R = val s) ∨ (9007199254740991 < val s ∧ R = -1)) := hR
  clear hd hR
  go_enter Tryd.func57, Tryd.ntmps57
  go_wp2
  go_loop [3, 4] (fun v u => ∃ k : Nat, k ≤ s.size ∧ vk s k ≤ 9007199254740991 ∧ v = .int .i64 (vk s k) ∧ u = .int .i64 k) (fun _ u => s.size - (intOf u).toNat)
  case atStart => exact ⟨0, by omega, by simp [vk, valL], rfl, rfl⟩
  case round =>
    obtain ⟨k, hk, hv, rfl, rfl⟩ := hrel
    by_cases hlt : k < s.size
    · have hb := ds_at HD.out hlt
      have e := vk_succ hlt
      have hm := vk_le s (k + 1)
      generalize hx : vk s k = x at *
      by_cases hg : 9007199254740991 < x * 10 + (s[k].toNat - 48)
      · go_wp2
        go_ret
        rcases HR.out with ⟨h1, h2⟩ | ⟨h1, h2⟩
        · omega
        · exact ⟨by rw [h2]; rfl, rfl⟩
      · go_wp2
        go_round
        case rel => exact ⟨k + 1, by omega, by omega, by go_num, by go_num⟩
        case measure => simp [intOf]; omega
    · obtain rfl : k = s.size := by omega
      rw [HA.out] at hv ⊢
      go_wp2
      go_ret
      rcases HR.out with ⟨h1, h2⟩ | ⟨h1, h2⟩
      · exact ⟨by rw [h2]; rfl, rfl⟩
      · omega
theorem numP_no {n : Int} {s : Except Fa (List Tk)} (h : ∀ t r, s = .ok (t :: r) → t.k ≠ 2) : rst (stp s (numP n)) = failX n 100 s ∧ ∀ x, isv (stp s (numP n)) x := by
  cases s with
  | error q => exact ⟨rfl, fun x a r e => by cases e⟩
  | ok r =>
    cases r with
    | nil => exact ⟨rfl, fun x a r e => by cases e⟩
    | cons t r =>
      have e : numP n (t :: r) = .error (t.p, 100) := by simp only [numP, if_neg (h t r rfl)]
      show rst (numP n (t :: r)) = _ ∧ ∀ x, isv (numP n (t :: r)) x
      rw [e]
      exact ⟨rfl, fun x a r e => by cases e⟩
set_option maxHeartbeats 4000000 in
theorem rnumber_any (w W : World) (rb : Nat) (ts : Value) (l : List Tk) (n : Int) (v : Value) (s : Except Fa (List Tk)) (H : RX w W rb ts l n v s) :
    Calls Tryd.prog 42 #[.pointer (some ⟨rb, 0, none⟩)] W (RG w W rb ts l n v (fun x : Nat => .int .i64 x) (stp s (numP n))) := by
  unfold RG
  have FL := fun m => rfail_any w (W.drewN m) rb ts l n v s 100 100 (by decide) rfl (H.drawn m)
  have F0 := rfail_any w W rb ts l n v s 100 100 (by decide) rfl H
  have FG := fun k m => rfail_any w ((W.drewN k).drewN m) rb ts l n v s 1 1 (by decide) rfl ((H.drawn k).drawn m)
  rcases H with ⟨i, rfl, H⟩ | ⟨q, i, rfl, hq, H⟩
  · have HH : Hid (RV w W rb ts l n i 0 0 v) := H
    obtain ⟨c0, c1, c2, c3, c4, c5⟩ := H.cells
    have f1 := H.blk.free 1
    have hlt := H.blk.lt
    have hlen := H.len
    have hB := H.below.size
    have hge := H.ge
    by_cases hi : i < l.length
    · obtain ⟨a, c, rfl, hc, hr⟩ := H.tok
      obtain ⟨b, o, rfl, r0⟩ := hr i hi
      have hne : rb ≠ b := by have := r0.lt; omega
      have hne2 : b ≠ rb := by omega
      have r := r0.below H.below
      have d0 := r.c0 i hi
      have d1 := r.c1 i hi
      have hbl := r.lt
      by_cases hk : l[i].k = 2
      · have hR := H.all i hi
        have hs := H.sz i hi
        unfold rightB at hR
        rw [if_neg (by omega), if_pos hk] at hR
        have hd := (nu_ds hR).1
        rw [hk] at d0
        by_cases hv : val l[i].t ≤ 9007199254740991
        · have e : stp (.ok (l.drop i)) (numP n) = .ok (val l[i].t, l.drop (i + 1)) := by
            rw [drop_at hi]
            simp only [stp, numP, if_pos hk, if_pos hv]
          have VA := fun w => rvalue_any l[i].t w hd hs _ (.inl ⟨hv, rfl⟩)
          rw [e]
          clear e FL FG F0 r r0 hr H hR hd
          generalize val l[i].t = x at *
          generalize l[i].t = t at *
          go_enter Tryd.func42, Tryd.ntmps42
          go_upto_region 1 with (fail)
          go_quiet (fail)
          go_wp2
          generalize hW : W.drewN nq = W2
          have c0 : W2.cell? ⟨rb, 0, none⟩ = some (.slice (some ⟨b, o, none⟩) l.length c) := by rw [← hW]; exact c0
          have c1 : W2.cell? ⟨rb, 1, none⟩ = some (.int .i64 i) := by rw [← hW]; exact c1
          have d1 : W2.cell? ⟨b, o + i * 3 + 1, none⟩ = some (.string t) := by rw [← hW]; exact d1
          have f1 : W2.frozen? ⟨rb, 1, none⟩ = false := by rw [← hW]; exact f1
          have hlt2 : rb < W2.heap.size := by rw [← hW]; exact hlt
          have hbl2 : b < W2.heap.size := by rw [← hW]; exact hbl
          go_quiet ((go_at_call 57; exact Calls.quiet_of_same (VA _)))
          go_wp2
          go_ret
          have hg : ∀ (m k : Nat) (x : Value), GB W (((W.drewN k).drewN m).setCell ⟨rb, 1, none⟩ x) rb := fun m k x => gb_set (gb_drewN (gb_drewN (gb_refl _ _) _) _) _ _ _ (.inl rfl)
          rw [← hW]
          refine ⟨hg _ _ _, x, rfl, fun a r e => by cases e; rfl, .inl ⟨i + 1, rfl, HH.out.go (hg _ _ _) ?_ (by omega)⟩⟩
          exact BK.set ((HH.out.blk.drewN _).drewN _) 1 _
        · have e : stp (.ok (l.drop i)) (numP n) = .error (failP n 1 (l.drop i)) := by
            rw [drop_at hi]
            simp only [stp, numP, if_pos hk, if_neg hv]
            rfl
          have VA := fun w => rvalue_any l[i].t w hd hs _ (.inr ⟨by omega, rfl⟩)
          rw [e]
          clear e FL F0 r r0 hr H hR hd hv
          generalize l[i].t = t at *
          go_enter Tryd.func42, Tryd.ntmps42
          go_upto_region 1 with (fail)
          go_quiet (fail)
          go_wp2
          have FG := FG nq
          generalize hW : W.drewN nq = W2 at FG ⊢
          have c0 : W2.cell? ⟨rb, 0, none⟩ = some (.slice (some ⟨b, o, none⟩) l.length c) := by rw [← hW]; exact c0
          have c1 : W2.cell? ⟨rb, 1, none⟩ = some (.int .i64 i) := by rw [← hW]; exact c1
          have d1 : W2.cell? ⟨b, o + i * 3 + 1, none⟩ = some (.string t) := by rw [← hW]; exact d1
          have f1 : W2.frozen? ⟨rb, 1, none⟩ = false := by rw [← hW]; exact f1
          have hlt2 : rb < W2.heap.size := by rw [← hW]; exact hlt
          have hbl2 : b < W2.heap.size := by rw [← hW]; exact hbl
          go_quiet ((go_at_call 57; exact Calls.quiet_of_same (VA _)))
          go_wp2_with (go_at_call 39; (with_reducible refine (FG _).mono ?_); rintro e w1 ⟨rfl, hG, hR⟩)
          go_ret
          rw [← hW] at hG
          exact ⟨gb_trans (gb_drewN (gb_drewN (gb_refl _ _) _) _) hG, 0, rfl, (fun a r e => by cases e), hR⟩
      · obtain ⟨e1, e2⟩ := numP_no (n := n) (s := .ok (l.drop i)) (fun t r e => by rw [drop_at hi] at e; cases e; exact hk)
        rw [e1]
        have e3 : Hid (∀ x, isv (stp (.ok (l.drop i)) (numP n)) x) := e2
        have h4 : (l[i].k != 2) = true := by simpa using hk
        clear hk e1 e2 F0 FG r r0 hr H
        go_enter Tryd.func42, Tryd.ntmps42
        go_upto_region 1 with (fail)
        go_quiet (fail)
        go_wp2_with (go_at_call 39; (with_reducible refine (FL _).mono ?_); rintro e w1 ⟨rfl, hG, hR⟩)
        go_ret
        exact ⟨gb_trans (gb_drewN (gb_refl _ _) _) hG, 0, rfl, e3.out _, hR⟩
    · obtain ⟨e1, e2⟩ := numP_no (n := n) (s := .ok (l.drop i)) (fun t r e => by rw [drop_out hi] at e; cases e)
      rw [e1]
      have e3 : Hid (∀ x, isv (stp (.ok (l.drop i)) (numP n)) x) := e2
      obtain ⟨a, c, rfl, hc, hr⟩ := H.tok
      have h1 : l.length ≤ i := by omega
      have h3 : decide ((l.length : Int) ≤ (i : Int)) = true := decide_eq_true (by omega)
      have h2 : decide (l.length ≤ i) = true := decide_eq_true h1
      clear e1 e2 F0 FG hr H
      go_enter Tryd.func42, Tryd.ntmps42
      go_upto_region 1 with (fail)
      go_quiet (fail)
      go_wp2_with (go_at_call 39; (with_reducible refine (FL _).mono ?_); rintro e w1 ⟨rfl, hG, hR⟩)
      go_ret
      exact ⟨gb_trans (gb_drewN (gb_refl _ _) _) hG, 0, rfl, e3.out _, hR⟩
  · obtain ⟨e1, e2⟩ := numP_no (n := n) (s := .error q) (fun t r e => by cases e)
    rw [e1]
    have e3 : Hid (∀ x, isv (stp (.error q) (numP n)) x) := e2
    obtain ⟨c0, c1, c2, c3, c4, c5⟩ := H.cells
    have hlt := H.blk.lt
    have h1 : ((q.2 : Int) != 0) = true := by simp; omega
    clear e1 e2 F0 FG H
    generalize (q.2 : Int) = er at *
    go_enter Tryd.func42, Tryd.ntmps42
    go_upto_region 1 with (fail)
    go_quiet (fail)
    go_wp2_with (go_at_call 39; (with_reducible refine (FL _).mono ?_); rintro e w1 ⟨rfl, hG, hR⟩)
    go_ret
    exact ⟨gb_trans (gb_drewN (gb_refl _ _) _) hG, 0, rfl, e3.out _, hR⟩
end Go.Proofs.YtiepbfeliehjnaaDoor
