/-
  The reader's calls number and arguments.
-/
import Derived.Test.YtiepbfeliehjnaaDoorP1
import Derived.Test.YtiepbfeliehjnaaDoorN2
namespace Go.Proofs.YtiepbfeliehjnaaDoor
open Go.RowKit Go.Sort

theorem Tryd.iface_ne (t : TypeId) (a : Option Addr) (w : World) : (binOp .neq 99 (.iface t (.pointer a)) .nilIface).run Tryd.prog w = .ok (.bool true) w := by
  simp [go_sem]
theorem parse_ok (s : ByteArray) (hmax : s.size ≤ 9223372036854775806) (v : Int) (h : Lib.parseIntB 64 s.data.toList = .ok v) (W : World) :
    Calls Tryd.prog 76 #[.string s, .int .i64 10, .int .i64 64] W fun e W' => e = .returned (.tuple #[.int .i64 v, .nilIface]) ∧ Below W.heap.size W W' :=
  (Tryd.strconv_ParseInt_10_at64_ok s hmax v h W).mono fun e W' ⟨h1, h2⟩ => ⟨h1, by
    rcases h2 with rfl | ⟨t, rfl⟩
    · exact Below.refl _ _
    · exact Lib.bytesWorld_below _ _ _⟩
set_option maxHeartbeats 1000000 in
theorem number_any (w W : World) (rb : Nat) (ts : Value) (l : List Tk) (n : Int) (i : Nat) (v : Value) (H : RS0 w W rb ts l n i v) :
    Calls Tryd.prog 63 #[.pointer (some ⟨rb, 0, none⟩)] W (Told w W rb ts l n v (fun x : Nat => .int .i64 x) (numP n (l.drop i))) := by
  have hlt := H.blk.lt
  by_cases hi : i < l.length
  · rw [drop_at hi]
    have TK := take_ok w W rb ts l n i v H hi
    by_cases hk : l[i].k = 2
    · have hr := H.all i hi
      have hs := H.sz i hi
      unfold rightB at hr
      rw [if_neg (by omega), if_pos hk] at hr
      obtain ⟨hd, hne⟩ := nu_ds hr
      have hp := int_ds _ hd hne
      clear hd hne hr
      by_cases hv : val l[i].t ≤ 9007199254740991
      · have e : numP n (l[i] :: l.drop (i + 1)) = .ok (val l[i].t, l.drop (i + 1)) := by simp only [numP, if_pos hk, if_pos hv]
        rw [e]
        rw [if_pos (show valL l[i].t.data.toList < 9223372036854775808 by unfold val at hv; omega)] at hp
        have PI := fun W => parse_ok l[i].t (by omega) _ hp W
        clear e H hp
        have hv1 : (valL l[i].t.data.toList : Int) ≤ 9007199254740991 := by unfold val at hv; omega
        have hv2 : 0 ≤ (valL l[i].t.data.toList : Int) := by omega
        have hv3 : ¬ 9007199254740991 < valL l[i].t.data.toList := by omega
        clear hv
        unfold Told
        show Calls _ _ _ _ fun e W' => GB W W' rb ∧ ((∃ q, Except.ok (valL l[i].t.data.toList, l.drop (i + 1)) = Except.error q ∧ _) ∨ ∃ x j, Except.ok (valL l[i].t.data.toList, l.drop (i + 1)) = Except.ok (x, l.drop j) ∧ _)
        generalize valL l[i].t.data.toList = x at *
        go_enter Tryd.func63, Tryd.ntmps63
        go_wp2_with (first | (go_at_call 59; (with_reducible refine TK.mono ?_); rintro e w1 ⟨rfl, hG, hR⟩) | (go_at_call 76; (with_reducible refine (PI _).mono ?_); rintro e w2 ⟨rfl, hN⟩))
        go_ret
        exact ⟨gb_below (gb_alloc hG _) hN, .inr ⟨_, i + 1, rfl, rfl, (hR.on (bal (Below.refl _ _) _)).on hN⟩⟩
      · have e : numP n (l[i] :: l.drop (i + 1)) = .error (l[i].p, 1) := by simp only [numP, if_pos hk, if_neg hv]
        rw [e]
        by_cases hb : valL l[i].t.data.toList < 9223372036854775808
        · rw [if_pos hb] at hp
          have PI := fun W => parse_ok l[i].t (by omega) _ hp W
          have hv1 : (9007199254740991 : Int) < (valL l[i].t.data.toList : Int) := by unfold val at hv; omega
          have hv2 : 9007199254740991 < valL l[i].t.data.toList := by omega
          clear e H hp hv
          generalize valL l[i].t.data.toList = x at *
          unfold Told
          go_enter Tryd.func63, Tryd.ntmps63
          go_wp2_with (first | (go_at_call 59; (with_reducible refine TK.mono ?_); rintro e w1 ⟨rfl, hG, hR⟩) | (go_at_call 76; (with_reducible refine (PI _).mono ?_); rintro e w2 ⟨rfl, hN⟩; obtain ⟨hc, hf⟩ := bcell hN))
          exact ⟨rfl, gb_below (gb_alloc hG _) hN, .inl ⟨_, rfl, rfl⟩⟩
        · rw [if_neg hb] at hp
          obtain ⟨te, pe, he⟩ := (H.vr.below H.below).ra
          have PI := fun W hv => Tryd.strconv_ParseInt_10_at64_range_var l[i].t (by omega) hp te pe W hv
          have VV : ∀ o W1, GB W W1 rb → RS0 w W1 rb ts l n (i + 1) v → (W1.alloc o).var? Tryd.prog "strconv.ErrRange" = some #[.iface te pe] := fun o W1 _ h => by
            have h0 := H.vr.ra
            obtain ⟨te0, pe0, h0⟩ := h0
            have h1 := Go.Joins.var_stays (g := 1) (by kernel_rfl) h0 H.below (Nat.le_refl _)
            rw [he] at h1
            cases h1
            exact Go.Joins.var_stays (g := 1) (by kernel_rfl) h0 (h.below.alloc h.below.size o) (Nat.le_refl _)
          clear e H hp hv hb he
          unfold Told
          have NE := Tryd.iface_ne
          go_enter Tryd.func63, Tryd.ntmps63
          go_wp2_with (first | (go_at_call 59; (with_reducible refine TK.mono ?_); rintro e w1 ⟨rfl, hG, hR⟩) | (go_at_call 76; (with_reducible refine (PI _ (VV _ w1 hG hR)).mono ?_); rintro e w2 ⟨N, rfl, hN1, hN2, hN⟩; obtain ⟨hc, hf⟩ := bcell hN))
          exact ⟨rfl, gb_below (gb_alloc hG _) hN, .inl ⟨_, rfl, rfl⟩⟩
    · have e : numP n (l[i] :: l.drop (i + 1)) = .error (l[i].p, 100) := by simp only [numP, if_neg hk]
      rw [e]
      have hk2 : (l[i].k != 2) = true := by simpa using hk
      clear e H hk
      unfold Told
      go_enter Tryd.func63, Tryd.ntmps63
      go_wp2_with (go_at_call 59; (with_reducible refine TK.mono ?_); rintro e w1 ⟨rfl, hG, hR⟩)
      exact ⟨rfl, gb_alloc hG _, .inl ⟨_, rfl, rfl⟩⟩
  · rw [drop_out hi]
    have TK := take_no w W rb ts l n i v H hi
    clear H
    unfold Told
    go_enter Tryd.func63, Tryd.ntmps63
    go_wp2_with (go_at_call 59; (with_reducible refine TK.mono ?_); rintro e w1 ⟨rfl, hG⟩)
    exact ⟨rfl, hG, .inl ⟨_, rfl, rfl⟩⟩
theorem told_err {α : Type} {w W : World} {rb : Nat} {ts : Value} {l : List Tk} {n : Int} {v : Value} {f : α → Value} {k : FuncId} {a : Array Value} {q : Fa} (h : Calls Tryd.prog k a W (Told w W rb ts l n v f (.error q))) :
    Calls Tryd.prog k a W fun e W' => e = .panicked [flt q] ∧ GB W W' rb := h.mono fun e W' ⟨hg, h⟩ => by
  rcases h with ⟨q', e1, e2⟩ | ⟨x, j, e1, _⟩
  · cases e1; exact ⟨e2, hg⟩
  · cases e1
theorem told_ok {α : Type} {w W : World} {rb : Nat} {ts : Value} {l : List Tk} {n : Int} {v : Value} {f : α → Value} {k : FuncId} {a : Array Value} {x : α} {r : List Tk} (h : Calls Tryd.prog k a W (Told w W rb ts l n v f (.ok (x, r)))) :
    Calls Tryd.prog k a W fun e W' => e = .returned (f x) ∧ GB W W' rb ∧ ∃ j, r = l.drop j ∧ RS0 w W' rb ts l n j v := h.mono fun e W' ⟨hg, h⟩ => by
  rcases h with ⟨q', e1, e2⟩ | ⟨x, j, e1, e2, hr⟩
  · cases e1
  · cases e1; exact ⟨e2, hg, j, rfl, hr⟩
end Go.Proofs.YtiepbfeliehjnaaDoor
