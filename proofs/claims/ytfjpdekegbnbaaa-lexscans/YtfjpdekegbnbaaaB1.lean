/-
  The law LexScans: what it does with the first answer turns nothing of the second and of the reference's.
-/
import Derived.Test.YtfjpdekegbnbaaaA6
namespace Go.Proofs.Ytfjpdekegbnbaaa
open Go.RowKit Go.Sort

theorem own_set {W : World} {B g n c k : Nat} {xs : List Value} (h : W.ownsRow B 31 3 (.slice (some ⟨g, 0, none⟩) n c) n xs) (u : Value) : ∃ ys, (W.setCell ⟨g, k, none⟩ u).ownsRow B 31 3 (.slice (some ⟨g, 0, none⟩) n c) n ys := by
  rcases h.2 with ⟨e, _⟩ | ⟨g', cap, cur, e, hb, hg, hn, hm, hs, ht⟩
  · cases e
  · cases e
    have hg2 : (W.setCell ⟨g, k, none⟩ u).heap[g]? = some (.cells (cur.setIfInBounds k u) 31 (0, 0)) := by
      simp [World.setCell, Array.getElem?_modify, hg]
    refine ⟨(cur.setIfInBounds k u).toList.take (n * 3), ?_, .inr ⟨g, c, _, rfl, hb, hg2, hn, hm, by rw [Array.size_setIfInBounds]; exact hs, rfl⟩⟩
    rw [List.length_take, Array.length_toList, Array.size_setIfInBounds, hs]
    have : n * 3 ≤ c * 3 := Nat.mul_le_mul_right _ hn
    omega
theorem own_cell {W : World} {B g n c k : Nat} {xs : List Value} (h : W.ownsRow B 31 3 (.slice (some ⟨g, 0, none⟩) n c) n xs) (hk : k < n * 3) : ∃ u, W.cell? ⟨g, k, none⟩ = some u := by
  have hc := h.cells (g := g) rfl
  have hx : k < xs.length := by rw [h.1]; exact hk
  have := hc k xs[k] (List.getElem?_eq_getElem hx)
  rw [WideShapes.add_plain, Nat.zero_add] at this
  exact ⟨_, this⟩
theorem own_free {W : World} {B g n c : Nat} {xs : List Value} (h : W.ownsRow B 31 3 (.slice (some ⟨g, 0, none⟩) n c) n xs) (k : Nat) : W.frozen? ⟨g, k, none⟩ = false := by
  rcases h.2 with ⟨e, _⟩ | ⟨g', cap, cur, e, hb, hg, hn, hm, hs, ht⟩
  · cases e
  · cases e
    simp [World.frozen?, hg]
theorem grown_set (W : World) (g k : Nat) (u : Value) : W.grownBy (W.setCell ⟨g, k, none⟩ u) (some g) :=
  ⟨rfl, rfl, rfl, by simp [World.setCell], fun i hi hne => Below.heap_setCell W ⟨g, k, none⟩ u i (fun e => hne (by rw [e]))⟩
theorem SL.grown {W W' : World} {v : Value} {l : List Tk} {row : Option Nat} (h : SL W v l) (hg : W.grownBy W' row) (hne : ∀ g, v.ownBlock = some g → some g ≠ row) : SL W' v l := by
  rcases h with h | ⟨b, o, c, rfl, hc, r⟩
  · exact .inl h
  · have hb := hne b rfl
    exact .inr ⟨b, o, c, rfl, hc, fun j hj => hg.cell (r.c0 j hj) hb, fun j hj => hg.cell (r.c1 j hj) hb, fun j hj => hg.cell (r.c2 j hj) hb, Nat.lt_of_lt_of_le r.lt hg.size⟩

theorem own_mono {W : World} {B B' n : Nat} {v : Value} {xs : List Value} (h : W.ownsRow B 31 3 v n xs) (hb : B' ≤ B) : W.ownsRow B' 31 3 v n xs := by
  refine ⟨h.1, ?_⟩
  rcases h.2 with h | ⟨g, cap, cur, e, h1, r⟩
  · exact .inl h
  · exact .inr ⟨g, cap, cur, e, Nat.le_trans hb h1, r⟩
theorem own_shape {W : World} {B n : Nat} {v : Value} {xs : List Value} (h : W.ownsRow B 31 3 v n xs) : ∃ a c, v = .slice a n c := by
  rcases h.2 with ⟨rfl, e⟩ | ⟨g, cap, cur, rfl, _⟩
  · exact ⟨_, _, by rw [e]⟩
  · exact ⟨_, _, rfl⟩
/-- The first answer a (n tokens of its own row), the second b, the reference's w. -/
structure AB (w W : World) (va vb vw : Value) (n : Nat) (l : List Tk) : Prop where
  below : Below w.heap.size w W
  own : ∃ xs, W.ownsRow w.heap.size 31 3 va n xs
  sb : SL W vb l
  sw : SL W vw l
  ab : ∀ g, va.ownBlock = some g → vb.ownBlock ≠ some g
  aw : ∀ g, va.ownBlock = some g → vw.ownBlock ≠ some g
section
variable {w W W2 : World} {va vb vw v' : Value} {n : Nat} {l : List Tk}
theorem AB.grown (H : AB w W va vb vw n l) (hg : W.grownBy W2 va.ownBlock) {m : Nat} (hown : ∃ xs, W2.ownsRow w.heap.size 31 3 v' m xs) (hloc : v'.ownBlock = va.ownBlock ∨ v'.ownBlock = some W.heap.size) : AB w W2 v' vb vw m l where
  below := by
    obtain ⟨xs, hx⟩ := H.own
    exact H.below.grown hg H.below.size (fun j e => (hx.lt j e).1)
  own := hown
  sb := H.sb.grown hg (fun g e e2 => H.ab g e2.symm e)
  sw := H.sw.grown hg (fun g e e2 => H.aw g e2.symm e)
  ab := fun g hg' e => by
    rcases hloc with hl | hl
    · exact H.ab g (hl ▸ hg') e
    · rw [hl] at hg'
      injection hg' with hg'
      rcases H.sb with ⟨rfl, _⟩ | ⟨b, o, c, rfl, hc, r⟩
      · cases e
      · have := r.lt
        injection e with e
        simp only at e
        omega
  aw := fun g hg' e => by
    rcases hloc with hl | hl
    · exact H.aw g (hl ▸ hg') e
    · rw [hl] at hg'
      injection hg' with hg'
      rcases H.sw with ⟨rfl, _⟩ | ⟨b, o, c, rfl, hc, r⟩
      · cases e
      · have := r.lt
        injection e with e
        simp only at e
        omega
theorem AB.on (H : AB w W va vb vw n l) (hb : Below W.heap.size W W2) : AB w W2 va vb vw n l :=
  ⟨btr H.below hb, by obtain ⟨xs, hx⟩ := H.own; exact ⟨xs, hx.kept (grown_of hb) (by cases va.ownBlock <;> simp)⟩, H.sb.below hb, H.sw.below hb, H.ab, H.aw⟩
theorem AB.alloc (H : AB w W va vb vw n l) (o : Obj) : AB w (W.alloc o) va vb vw n l := H.on (bal (Below.refl _ _) _)
theorem AB.set {g c k : Nat} (H : AB w W (.slice (some ⟨g, 0, none⟩) n c) vb vw n l) (u : Value) : AB w (W.setCell ⟨g, k, none⟩ u) (.slice (some ⟨g, 0, none⟩) n c) vb vw n l := by
  obtain ⟨xs, hx⟩ := H.own
  exact H.grown (grown_set W g k u) (own_set hx u) (.inl rfl)
end

set_option maxHeartbeats 2000000 in
theorem scans_any (s : ByteArray) (w : World) (hs : s.size ≤ 9223372036854775807) :
    Calls Try.prog 3 #[.string s] w fun e w' => e = .returned (.bool true) ∧ Below w.heap.size w w' := by
  obtain ⟨l, a, e, ho⟩ := out_ex s
  have AW := fun w => awake_any w
  have RS := fun w => rscan_any s l a e w hs ho
  have CS := fun w => scan_any s l a e w hs ho
  have hl : l.length ≤ 65536 := by
    rcases ho with ⟨_, rfl, _⟩ | ⟨h, hp, _⟩ | ⟨_, rfl, _⟩
    · exact Nat.zero_le _
    · have := hp.count; omega
    · exact Nat.zero_le _
  have SA := fun va vb w ha hb => same_any l va vb w ha hb (by omega)
  have hae : a ≤ 9223372036854775807 ∧ e ≤ 90 := by
    rcases ho with ⟨_, rfl, rfl, rfl⟩ | ⟨h, hp, rfl, rfl⟩ | ⟨_, rfl, rfl, _, _, _, hb⟩
    · omega
    · omega
    · have := hb.sz; omega
  obtain ⟨i3, hi3, hz3, hs3, hb3⟩ := info_parts Try.info31
  clear ho
  go_enter Try.func3, Try.ntmps3
  go_upto_region 9 with (first
    | (go_at_call 8; (with_reducible refine (AW _).mono ?_); rintro e w1 ⟨rfl, hN1⟩)
    | (go_at_call 9; (with_reducible refine (RS _).mono ?_); rintro e w2 ⟨v2, rfl, hI2⟩)
    | (go_at_call 10; (with_reducible refine (CS w2).mono ?_); rintro e w3 ⟨v3, rfl, hI3⟩)
    | (go_at_call 10; (with_reducible refine (CS w3).mono ?_); rintro e w4 ⟨v4, rfl, hI4⟩)
    | (go_at_call 11; (with_reducible refine (SA _ _ w4 (hI3.sl.below hI4.below) ((hI2.sl.below hI3.below).below hI4.below)).mono ?_); rintro e w5 ⟨rfl, hN5⟩)
    | (go_at_call 11; (with_reducible refine (SA _ _ w5 (hI4.sl.below hN5) (((hI2.sl.below hI3.below).below hI4.below).below hN5)).mono ?_); rintro e w6 ⟨rfl, hN6⟩))
  have hA : Hid (AB w w6 v3 v4 v2 l.length l) := by
    have b2 := hI2.below
    have b3 := hI3.below
    have b4 := hI4.below
    have z1 := hN1.size
    have z2 := b2.size
    have z3 := b3.size
    have hb46 := btr hN5 hN6
    refine ⟨btr (btr (btr (btr hN1 b2) b3) b4) hb46, ?_, hI4.sl.below hb46, ((hI2.sl.below b3).below b4).below hb46, fun g e1 e2 => ?_, fun g e1 e2 => ?_⟩
    · exact ⟨_, own_mono (((hI3.own.kept (grown_of b4) (by cases v3.ownBlock <;> simp))).kept (grown_of hb46) (by cases v3.ownBlock <;> simp)) (by omega)⟩
    · have := hI3.own.lt g e1
      have := hI4.own.lt g e2
      omega
    · have := hI3.own.lt g e1
      have := hI2.own.lt g e2
      omega
  clear hN1 hI2 hI3 hI4 hN5 hN6 AW RS CS
  go_loopw [12] (fun v wr => ∃ k : Nat, k ≤ l.length ∧ v = .int .i64 k ∧ Hid (AB w wr v3 v4 v2 l.length l)) (fun v _ => l.length - (intOf v).toNat)
  case atStart => exact ⟨0, by omega, rfl, hA⟩
  case round =>
    clear hA
    obtain ⟨k, hk, rfl, hH⟩ := hrel
    obtain ⟨xs, hx⟩ := hH.out.own
    by_cases hlt : k < l.length
    · obtain ⟨g, c, rfl, hnc⟩ : ∃ g c, v3 = .slice (some ⟨g, 0, none⟩) l.length c ∧ l.length ≤ c := by
        rcases hx.2 with ⟨_, e⟩ | ⟨g, c, _, e, _, _, hnc, _⟩
        · omega
        · exact ⟨g, c, e, hnc⟩
      obtain ⟨u0, d0⟩ := own_cell hx (k := k * 3) (by omega)
      obtain ⟨u1, d1⟩ := own_cell hx (k := k * 3 + 1) (by omega)
      obtain ⟨u2, d2⟩ := own_cell hx (k := k * 3 + 2) (by omega)
      have f0 := own_free hx (k * 3)
      have f1 := own_free hx (k * 3 + 1)
      have f2 := own_free hx (k * 3 + 2)
      have hZ := fun a b c => ((hH.out.set (k := k * 3) a).set (k := k * 3 + 1) b).set (k := k * 3 + 2) c
      clear hx
      go_wp2
      go_roundw
      case rel => exact ⟨k + 1, by omega, by go_num, hZ _ _ _⟩
      case measure => simp [intOf]; omega
    · obtain rfl : k = l.length := by omega
      obtain ⟨a3, c3, rfl⟩ := own_shape hx
      clear hx
      go_upto_region 13 with (fail)
      go_loopw [6, 13] (fun v6 v wr => ∃ k : Nat, k ≤ 20 ∧ v = .int .i64 k ∧ Hid (AB w wr v6 v4 v2 (l.length + k) l)) (fun _ v _ => 20 - (intOf v).toNat)
      case atStart => exact ⟨0, by omega, rfl, hH⟩
      case round =>
        clear hH
        obtain ⟨k, hk, rfl, hH⟩ := hrel
        obtain ⟨xs, hx⟩ := hH.out.own
        by_cases hlt : k < 20
        · have hV : Hid (AB w (wr.alloc (.cells #[.int .i64 0, .string ⟨#[]⟩, .int .i64 0] 31)) _ v4 v2 (l.length + k) l) := hH.out.alloc _
          obtain ⟨ys, hy⟩ := hV.out.own
          have HY : Hid _ := hy
          clear hx hy
          go_wp2_with (first
            | (at_builtin; refine wpList_append_own_at _ rfl _ _ 23 rfl w.heap.size 31 i3 zTok 3 32 Try.underlying23 hi3 hz3 hs3 hb3 rfl (by decide) _ (l.length + k) ys rfl HY.out ⟨wr.heap.size, 0, none⟩ 1 1 (tkc ⟨0, ⟨#[]⟩, 0⟩) rfl rfl (new_tok wr _) (one_tok _) (by unfold maxLen; omega) (by omega) hV.out.below.size ?_; intro v5 w5 hown5 hgrow5 hnil5 hloc5; have hZ : Hid (AB w w5 v5 v4 v2 (l.length + k + 1) l) := hV.out.grown hgrow5 ⟨_, hown5⟩ hloc5; clear hown5 hgrow5 hnil5 hloc5))
          go_roundw
          case rel => exact ⟨k + 1, by omega, by go_num, hZ⟩
          case measure => simp [intOf]; omega
        · obtain rfl : k = 20 := by omega
          obtain ⟨a6, c6, rfl⟩ := own_shape hx
          clear hx
          have SA2 := SA _ _ wr hH.out.sb hH.out.sw
          have hge : (20 : Int) ≤ ((l.length + 20 : Nat) : Int) := by omega
          have hge2 : 20 ≤ l.length + 20 := by omega
          go_wp2_with (go_at_call 11; (with_reducible refine SA2.mono ?_); rintro e w7 ⟨rfl, hN7⟩)
          go_ret
          exact ⟨ret_b ⟨fun _ => rfl, fun _ => by rw [decide_eq_true_iff]; omega⟩, btr hH.out.below hN7⟩
end Go.Proofs.Ytfjpdekegbnbaaa
