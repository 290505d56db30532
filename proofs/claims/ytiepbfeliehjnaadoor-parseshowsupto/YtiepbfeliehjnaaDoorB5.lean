/-
  The writer's calls token, begin, end.
-/
import Derived.Test.YtiepbfeliehjnaaDoorB4
namespace Go.Proofs.YtiepbfeliehjnaaDoor
open Go.RowKit Go.Sort

theorem sep_ways (last t : ByteArray) : (sepB last t = false ∧ (last = ⟨#[]⟩ ∨ last = wLeft ∨ (last ≠ ⟨#[]⟩ ∧ last ≠ wLeft ∧ (t = wSemi ∨ t = wLeft ∨ t = wRight)))) ∨ (sepB last t = true ∧ last ≠ ⟨#[]⟩ ∧ last ≠ wLeft ∧ t ≠ wSemi ∧ t ≠ wLeft ∧ t ≠ wRight) := by
  by_cases h1 : last = ⟨#[]⟩
  · exact .inl ⟨by unfold sepB; rw [decide_eq_true h1]; rfl, .inl h1⟩
  by_cases h2 : last = wLeft
  · exact .inl ⟨by unfold sepB; rw [decide_eq_true h2]; simp, .inr (.inl h2)⟩
  by_cases h3 : t = wSemi
  · exact .inl ⟨by unfold sepB; rw [decide_eq_true h3]; simp, .inr (.inr ⟨h1, h2, .inl h3⟩)⟩
  by_cases h4 : t = wLeft
  · exact .inl ⟨by unfold sepB; rw [decide_eq_true h4]; simp, .inr (.inr ⟨h1, h2, .inr (.inl h4)⟩)⟩
  by_cases h5 : t = wRight
  · exact .inl ⟨by unfold sepB; rw [decide_eq_true h5]; simp, .inr (.inr ⟨h1, h2, .inr (.inr h5)⟩)⟩
  · exact .inr ⟨by unfold sepB; rw [decide_eq_false h1, decide_eq_false h2, decide_eq_false h3, decide_eq_false h4, decide_eq_false h5]; rfl, h1, h2, h3, h4, h5⟩
theorem WS.cell2 {w W : World} {b : Nat} {bs : List UInt8} {last : ByteArray} (h : WS w W b bs last) : W.cell? ⟨b, 2, none⟩ = some (.string last) ∧ W.frozen? ⟨b, 2, none⟩ = false ∧ b < W.heap.size := by
  obtain ⟨p, v, h1, h2, h3⟩ := h.ex
  exact ⟨h1.cell 2, h1.free 2, h1.lt⟩
theorem WS.set {w W : World} {b : Nat} {bs : List UInt8} {last : ByteArray} (h : WS w W b bs last) (t : ByteArray) : WS w (W.setCell ⟨b, 2, none⟩ (.string t)) b bs t := by
  obtain ⟨p, v, h1, h2, h3⟩ := h.ex
  exact ⟨bset h.below _ _ _ h.ge, h.ge, p, v, h1.set 2 _, h2, own_kept h3 (grown_set W b 2 _) (own_ne h3 h1 (by decide))⟩
theorem WS.drewN {w W : World} {b : Nat} {bs : List UInt8} {last : ByteArray} (h : WS w W b bs last) (n : Nat) : WS w (W.drewN n) b bs last := h.on (below_drewN (Below.refl _ _) _)
theorem ok_set {W W' : World} {b : Nat} (h : Lib.OthersKept 5 (some b) W W') (k : Nat) (v : Value) : Lib.OthersKept 5 (some b) W (W'.setCell ⟨b, k, none⟩ v) := h.setCell ⟨b, k, none⟩ rfl _
theorem ok_drewN {W : World} {b : Option Nat} (n : Nat) : Lib.OthersKept 5 b W (W.drewN n) := fun _ _ h _ _ => h
theorem sz_set (W : World) (b k : Nat) (v : Value) : (W.setCell ⟨b, k, none⟩ v).heap.size = W.heap.size := by simp [World.setCell]
set_option maxHeartbeats 2000000 in
theorem token_any (w W : World) (b : Nat) (bs : List UInt8) (last t : ByteArray) (H : WS w W b bs last) (hb : bs.length ≤ 65536) (ht : t.size ≤ 9223372036854775807) :
    Calls Tryd.prog 55 #[.pointer (some ⟨b, 0, none⟩), .string t] W (WR w W b bs (tokB last t) t) := by
  obtain ⟨c2, f2, hlt⟩ := H.cell2
  have hz : t.data.toList.length = t.size := rfl
  have HH : Hid (WS w W b bs last) := H
  have P2 : ∀ (W' : World) (cs : List UInt8), WS w W' b cs last → cs.length ≤ 65536 → Calls Tryd.prog 73 #[.pointer (some ⟨b, 0, none⟩), .string t] W' (WR w W' b cs t.data.toList last) := fun W' cs h h2 => put_any w W' b cs last t h h2 ht
  have P1 : ∀ (W' : World), WS w W' b bs last → Calls Tryd.prog 73 #[.pointer (some ⟨b, 0, none⟩), .string ⟨#[32]⟩] W' (WR w W' b bs [32] last) := fun W' h => put_any w W' b bs last ⟨#[32]⟩ h hb (by decide)
  rcases sep_ways last t with ⟨hs, hw⟩ | ⟨hs, g1, g2, g3, g4, g5⟩
  · have ET : Hid (tokB last t = t.data.toList) := by show _ = _; unfold tokB; rw [hs]; rfl
    rw [ET.out]
    clear P1 hs ET H
    have FIN : ∀ {W' : World} {n : Nat} {e : Ending}, WR w (W.drewN n) b bs t.data.toList last e W' → e = .returned (.tuple #[]) → WR w W b bs t.data.toList t (.returned (.tuple #[])) (W'.setCell ⟨b, 2, none⟩ (.string t)) := by
      intro W' n e ⟨h1, h2, h3, h4⟩ he
      rcases h4 with ⟨h5, _, h6⟩ | ⟨_, h5⟩
      · exact ⟨bset h1 _ _ _ HH.out.ge, by rw [sz_set]; exact h2, ok_set h3 2 _, .inl ⟨h5, rfl, h6.set t⟩⟩
      · rw [he] at h5; cases h5
    have BADE : ∀ {W' : World} {n : Nat} {e : Ending}, WR w (W.drewN n) b bs t.data.toList last e W' → e = .panicked [flt (0, 1)] → WR w W b bs t.data.toList t (.panicked [flt (0, 1)]) W' := by
      intro W' n e ⟨h1, h2, h3, h4⟩ he
      rcases h4 with ⟨h5, h6, _⟩ | ⟨h5, _⟩
      · rw [he] at h6; cases h6
      · exact ⟨h1, h2, h3, .inr ⟨h5, rfl⟩⟩
    have TWO : ∀ {W' : World} {n : Nat} {e : Ending}, WR w (W.drewN n) b bs t.data.toList last e W' → (e = .returned (.tuple #[]) ∧ WS w W' b (bs ++ t.data.toList) last) ∨ e = .panicked [flt (0, 1)] := by
      intro W' n e ⟨h1, h2, h3, h4⟩
      rcases h4 with ⟨h5, h6, h7⟩ | ⟨_, h5⟩
      · exact .inl ⟨h6, h7⟩
      · exact .inr h5
    have H2 := fun n => HH.out.drewN n
    rcases hw with rfl | rfl | ⟨g1, g2, rfl | rfl | rfl⟩
    case inl | inr.inl =>
      go_enter Tryd.func55, Tryd.ntmps55
      go_upto_region 0 with (fail)
      go_quiet (fail)
      go_wp2_with (go_at_call 73; (with_reducible refine (P2 _ _ (H2 _) hb).mono ?_); intro e w2 hR; rcases TWO hR with ⟨rfl, hS⟩ | rfl; (obtain ⟨d2, e2, l2⟩ := hS.cell2))
      · go_end0
        exact FIN hR rfl
      · exact ⟨rfl, BADE hR rfl⟩
    all_goals
      have q1 := ne_lit g1
      have q2 := ne_lit g2
      clear g1 g2
      go_enter Tryd.func55, Tryd.ntmps55
      go_upto_region 0 with (fail)
      go_quiet (fail)
      go_wp2_with (go_at_call 73; (with_reducible refine (P2 _ _ (H2 _) hb).mono ?_); intro e w2 hR; rcases TWO hR with ⟨rfl, hS⟩ | rfl; (obtain ⟨d2, e2, l2⟩ := hS.cell2))
      · go_end0
        exact FIN hR rfl
      · exact ⟨rfl, BADE hR rfl⟩
  · have ET : Hid (tokB last t = [32] ++ t.data.toList) := by show _ = _; unfold tokB; rw [hs]; rfl
    rw [ET.out]
    have q1 := ne_lit g1
    have q2 := ne_lit g2
    have q3 := ne_lit g3
    have q4 := ne_lit g4
    have q5 := ne_lit g5
    clear g1 g2 g3 g4 g5 hs ET H
    have T1 : ∀ {W' : World} {n : Nat} {e : Ending}, WR w (W.drewN n) b bs [32] last e W' → (e = .returned (.tuple #[]) ∧ WS w W' b (bs ++ [32]) last ∧ (bs ++ [32]).length ≤ 65536) ∨ (e = .panicked [flt (0, 1)] ∧ WR w W b bs ([32] ++ t.data.toList) t (.panicked [flt (0, 1)]) W') := by
      intro W' n e ⟨h1, h2, h3, h4⟩
      rcases h4 with ⟨h5, h6, h7⟩ | ⟨h5, h6⟩
      · exact .inl ⟨h6, h7, by rw [List.length_append]; exact h5⟩
      · exact .inr ⟨h6, h1, h2, h3, .inr ⟨by rw [List.length_append]; omega, rfl⟩⟩
    have T2 : ∀ {W1 W' : World} {n : Nat} {e e1 : Ending}, WR w (W.drewN n) b bs [32] last e1 W1 → WR w W1 b (bs ++ [32]) t.data.toList last e W' → (e = .returned (.tuple #[]) ∧ WS w W' b (bs ++ [32] ++ t.data.toList) last ∧ WR w W b bs ([32] ++ t.data.toList) t (.returned (.tuple #[])) (W'.setCell ⟨b, 2, none⟩ (.string t))) ∨ (e = .panicked [flt (0, 1)] ∧ WR w W b bs ([32] ++ t.data.toList) t (.panicked [flt (0, 1)]) W') := by
      intro W1 W' n e e1 ⟨k1, k2, k3, k4⟩ ⟨h1, h2, h3, h4⟩
      have hsz : W.heap.size ≤ W'.heap.size := Nat.le_trans k2 h2
      have hok : Lib.OthersKept 5 (some b) W W' := Lib.OthersKept.trans k3 h3
      rw [List.length_append] at h4
      rcases h4 with ⟨h5, h6, h7⟩ | ⟨h5, h6⟩
      · exact .inl ⟨h6, h7, bset h1 _ _ _ HH.out.ge, by rw [sz_set]; exact hsz, ok_set hok 2 _, .inl ⟨by rw [List.length_append]; omega, rfl, by rw [← List.append_assoc]; exact h7.set t⟩⟩
      · exact .inr ⟨h6, h1, hsz, hok, .inr ⟨by rw [List.length_append]; omega, rfl⟩⟩
    have H2 := fun n => HH.out.drewN n
    go_enter Tryd.func55, Tryd.ntmps55
    go_upto_region 0 with (fail)
    go_quiet (fail)
    go_upto_region 3 with (go_at_call 73; (with_reducible refine (P1 _ (H2 _)).mono ?_); intro e w1 hR1; rcases T1 hR1 with ⟨rfl, hS1, hl1⟩ | ⟨rfl, hE1⟩)
    · go_wp2_with (go_at_call 73; (with_reducible refine (P2 _ _ hS1 hl1).mono ?_); intro e w2 hR; rcases T2 hR1 hR with ⟨rfl, hS, hF⟩ | ⟨rfl, hE⟩; (obtain ⟨d2, e2, l2⟩ := hS.cell2))
      · go_end0
        exact hF
      · exact ⟨rfl, hE⟩
    · exact ⟨rfl, hE1⟩
set_option maxHeartbeats 1000000 in
theorem end_any (w W : World) (b : Nat) (bs : List UInt8) (last : ByteArray) (H : WS w W b bs last) (hb : bs.length ≤ 65536) :
    Calls Tryd.prog 54 #[.pointer (some ⟨b, 0, none⟩)] W (WR w W b bs [10] last) := by
  have P := put_any w W b bs last ⟨#[10]⟩ H hb (by decide)
  clear H
  go_enter Tryd.func54, Tryd.ntmps54
  go_wp2_with (go_at_call 73; (with_reducible refine P.mono ?_); intro e w1 hR; have hR2 := hR; obtain ⟨_, _, _, h4⟩ := hR2; rcases h4 with ⟨_, rfl, _⟩ | ⟨_, rfl⟩)
  · go_end0
    exact hR
  · exact ⟨rfl, hR⟩
theorem ind_len (d : Nat) : (indB d).length = 2 * d := by unfold indB; rw [List.length_replicate]
theorem ind_succ (d : Nat) : indB (d + 1) = indB d ++ [32, 32] := by
  unfold indB
  rw [show 2 * (d + 1) = 2 * d + 2 by omega, ← List.replicate_append_replicate]
  rfl
set_option maxHeartbeats 1000000 in
theorem begin_any (w W : World) (b : Nat) (bs : List UInt8) (last : ByteArray) (d : Nat) (H : WS w W b bs last) (hb : bs.length ≤ 65536) (hd : d ≤ 1000) :
    Calls Tryd.prog 52 #[.pointer (some ⟨b, 0, none⟩), .int .i64 d] W (WR w W b bs (indB d) ⟨#[]⟩) := by
  have P := fun W' cs h hl => put_any w W' b cs last ⟨#[32, 32]⟩ h hl (by decide)
  have HH : Hid (WS w W b bs last) := H
  clear H
  go_enter Tryd.func52, Tryd.ntmps52
  go_upto_region 1 with (fail)
  go_loopw [5] (fun v wr => ∃ k : Nat, k ≤ d ∧ v = .int .i64 k ∧ Hid (WS w wr b (bs ++ indB k) last ∧ (bs ++ indB k).length ≤ 65536 ∧ W.heap.size ≤ wr.heap.size ∧ Lib.OthersKept 5 (some b) W wr)) (fun v _ => d - (intOf v).toNat)
  case atStart => exact ⟨0, Nat.zero_le _, rfl, by show WS w W b (bs ++ []) last ∧ (bs ++ []).length ≤ 65536 ∧ _; rw [List.append_nil]; exact ⟨HH.out, hb, Nat.le_refl _, Lib.OthersKept.refl _ _ _⟩⟩
  case round =>
    obtain ⟨k, hk, rfl, hI⟩ := hrel
    by_cases hlt : k < d
    · have P1 := P _ _ hI.out.1 hI.out.2.1
      have NX : Hid (∀ e W', WR w wr b (bs ++ indB k) [32, 32] last e W' → (e = .returned (.tuple #[]) ∧ WS w W' b (bs ++ indB (k + 1)) last ∧ (bs ++ indB (k + 1)).length ≤ 65536 ∧ W.heap.size ≤ W'.heap.size ∧ Lib.OthersKept 5 (some b) W W') ∨ (e = .panicked [flt (0, 1)] ∧ WR w W b bs (indB d) ⟨#[]⟩ (.panicked [flt (0, 1)]) W')) := by
        intro e W' ⟨h1, h2, h3, h4⟩
        have hz := Nat.le_trans hI.out.2.2.1 h2
        have ho := Lib.OthersKept.trans hI.out.2.2.2 h3
        rcases h4 with ⟨h5, h6, h7⟩ | ⟨h5, h6⟩
        · exact .inl ⟨h6, by rw [ind_succ, ← List.append_assoc]; exact h7, by rw [ind_succ, ← List.append_assoc, List.length_append]; exact h5, hz, ho⟩
        · refine .inr ⟨h6, h1, hz, ho, .inr ⟨?_, rfl⟩⟩
          rw [List.length_append, ind_len] at h5
          rw [ind_len]
          simp at h5
          omega
      go_wp2_with (go_at_call 73; (with_reducible refine P1.mono ?_); intro e w1 hR; rcases NX.out _ _ hR with ⟨rfl, hN⟩ | ⟨rfl, hE⟩)
      · go_roundw
        case rel => exact ⟨k + 1, by omega, by go_num, hN⟩
        case measure => simp [intOf]; omega
      · exact ⟨rfl, hE⟩
    · obtain rfl : k = d := by omega
      obtain ⟨d2, e2, l2⟩ := hI.out.1.cell2
      have FI : Hid (WR w W b bs (indB k) ⟨#[]⟩ (.returned (.tuple #[])) (wr.setCell ⟨b, 2, none⟩ (.string ⟨#[]⟩))) :=
        ⟨bset hI.out.1.below _ _ _ HH.out.ge, by rw [sz_set]; exact hI.out.2.2.1, ok_set hI.out.2.2.2 2 _, .inl ⟨by have := hI.out.2.1; rwa [List.length_append] at this, rfl, hI.out.1.set _⟩⟩
      go_wp2
      go_end0
      exact FI.out
end Go.Proofs.YtiepbfeliehjnaaDoor
