/-
  The law LexJoins, where the tokens are not too great for an int.
-/
import Derived.Test.YtfjpdekegbnbaaaL1
import Derived.Laws.AppendOwnNone
namespace Go.Proofs.Ytfjpdekegbnbaaa
open Go.RowKit Go.Sort

set_option maxHeartbeats 1000000 in
theorem same2_any (l : List Tk) (va vb : Value) (w : World) (ha : SF w va l) (hb : SF w vb l) (hl : l.length ≤ 4398046511104) :
    Calls Try.prog 11 #[va, vb] w fun e w' => e = .returned (.bool true) ∧ Below w.heap.size w w' := by
  obtain ⟨a1, c1, rfl, hc1, h1⟩ := ha
  obtain ⟨a2, c2, rfl, hc2, h2⟩ := hb
  have H1 : Hid (∀ k, k < l.length → ∃ b o, a1 = some ⟨b, o, none⟩ ∧ RT w b o l) := h1
  have H2 : Hid (∀ k, k < l.length → ∃ b o, a2 = some ⟨b, o, none⟩ ∧ RT w b o l) := h2
  clear h1 h2
  go_enter Try.func11, Try.ntmps11
  go_upto_region 4 with (fail)
  go_loopw [5] (fun v wr => ∃ k : Nat, k ≤ l.length ∧ v = .int .i64 k ∧ Below w.heap.size w wr) (fun v _ => l.length - (intOf v).toNat)
  case atStart => exact ⟨0, by omega, rfl, Below.refl _ _⟩
  case round =>
    obtain ⟨k, hk, rfl, hB⟩ := hrel
    by_cases hlt : k < l.length
    · obtain ⟨b1, o1, rfl, r1⟩ := H1.out k hlt
      obtain ⟨b2, o2, rfl, r2⟩ := H2.out k hlt
      have R1 := r1.below hB
      have R2 := r2.below hB
      have d0 := R1.c0 k hlt
      have d1 := R1.c1 k hlt
      have d2 := R1.c2 k hlt
      have e0 := R2.c0 k hlt
      have e1 := R2.c1 k hlt
      have e2 := R2.c2 k hlt
      have TN := fun w => run_tne l[k].k l[k].p l[k].t w
      generalize l[k].k = x at *
      generalize l[k].p = y at *
      generalize l[k].t = z at *
      clear R1 R2 r1 r2 H1 H2
      go_upto_region 6 with (fail)
      go_quiet (fail)
      go_wp2
      go_roundw
      case rel => exact ⟨k + 1, by omega, by go_num, below_drewN hB _⟩
      case measure => simp [intOf]; omega
    · obtain rfl : k = l.length := by omega
      go_wp2
      go_ret
      exact ⟨rfl, hB⟩

abbrev t77 : Tk := ⟨77, ⟨#[]⟩, 0⟩
theorem new_copy {W : World} {v : Value} {l : List Tk} (h : SF W v l) : ∀ a c, v = .slice (some a) l.length c → ∀ o j u, (tks l)[j]? = some u → (W.alloc o).cell? (a.add j) = some u := by
  intro a c e o j u hj
  obtain ⟨a', c', e', hc, hr⟩ := h
  rw [e'] at e
  injection e with e1 e2 e3
  have hlen := (List.getElem?_eq_some_iff.1 hj).1
  rw [tks_length] at hlen
  have hk : j / 3 < l.length := by omega
  obtain ⟨b, o', ea, r⟩ := hr (j / 3) hk
  rw [ea] at e1
  injection e1 with e1
  subst e1
  have hB : Below W.heap.size W (W.alloc o) := bal (Below.refl _ _) _
  have q := r.below hB
  rw [WideShapes.add_plain]
  have h3 := tks_at l (j / 3) hk
  have hm : j % 3 = 0 ∨ j % 3 = 1 ∨ j % 3 = 2 := by omega
  rcases hm with hm | hm | hm
  · have ej : j = j / 3 * 3 := by omega
    have := q.c0 (j / 3) hk
    rw [ej, h3.1] at hj
    rw [ej, this]
    exact hj
  · have ej : j = j / 3 * 3 + 1 := by omega
    have := q.c1 (j / 3) hk
    rw [ej, h3.2.1] at hj
    rw [ej, ← Nat.add_assoc, this]
    exact hj
  · have ej : j = j / 3 * 3 + 2 := by omega
    have := q.c2 (j / 3) hk
    rw [ej, h3.2.2] at hj
    rw [ej, ← Nat.add_assoc, this]
    exact hj
theorem one_toks (l : List Tk) : ∀ u ∈ tks l, u.oneCell' = true := fun u hu => by
  unfold tks at hu
  obtain ⟨t, _, h⟩ := List.mem_flatMap.1 hu
  exact one_tok t u h
/-- The first n of the tokens in an own row. -/
theorem own_front {W : World} {B g n c : Nat} {l m : List Tk} (h : W.ownsRow B 31 3 (.slice (some ⟨g, 0, none⟩) n c) n (tks (l ++ m))) (hn : n = (l ++ m).length) : SF W (.slice (some ⟨g, 0, none⟩) l.length c) l ∧ n ≤ c := by
  have hsl : SL W (.slice (some ⟨g, 0, none⟩) n c) (l ++ m) := own_sl (B := B) (by rw [← hn]; exact h)
  rcases hsl with ⟨e, _⟩ | ⟨b, o, c', e, hc, r⟩
  · cases e
  · injection e with e1 e2 e3
    injection e1 with e1
    injection e1 with e4 e5
    subst e4 e5 e3
    rw [← hn] at hc
    have hle : l.length ≤ (l ++ m).length := by rw [List.length_append]; omega
    refine ⟨⟨_, c, rfl, by omega, fun k hk => ⟨g, 0, rfl, fun j hj => ?_, fun j hj => ?_, fun j hj => ?_, r.lt⟩⟩, hc⟩
    · have := r.c0 j (by omega); rwa [List.getElem_append_left hj] at this
    · have := r.c1 j (by omega); rwa [List.getElem_append_left hj] at this
    · have := r.c2 j (by omega); rwa [List.getElem_append_left hj] at this
theorem own_last {W : World} {B g n c : Nat} {l : List Tk} {t : Tk} (h : W.ownsRow B 31 3 (.slice (some ⟨g, 0, none⟩) n c) n (tks (l ++ [t]))) : W.cell? ⟨g, l.length * 3, none⟩ = some (.int .i64 t.k) ∧ g < W.heap.size := by
  have hc := h.cells (g := g) rfl
  have h3 := (tks_at (l ++ [t]) l.length (by simp)).1
  have := hc _ _ h3
  rw [WideShapes.add_plain, Nat.zero_add] at this
  refine ⟨by simpa using this, ?_⟩
  exact World.block_lt_of_cell? W _ this

theorem run_front (g n c : Nat) (w : World) (hc : n + 1 ≤ c) : (Instr.slice 23 (.slice (some ⟨g, 0, none⟩) (n + 1) c) none (some (.int .i64 (n : Int))) none).run Try.prog w = .ok (.slice (some ⟨g, 0, none⟩) n c) w := by
  have h1 : (0 : Int) ≤ n ∧ (n : Int) ≤ (c : Int) := by omega
  simp [Instr.slice, Instr.sliceBounds, Instr.sliceBound, asIntOf, run_underlying Try.underlying23, h1, go_sem]
  intro h
  omega

theorem new77 (w1 : World) : ∀ j u, (tkc t77)[j]? = some u → ((w1.alloc (.cells #[] 31)).alloc (.cells (tkc t77).toArray 31)).cell? ((⟨w1.heap.size + 1, 0, none⟩ : Addr).add j) = some u := fun j u h => by
  have := new_tok (w1.alloc (.cells #[] 31)) t77 j u h
  rwa [show (w1.alloc (.cells #[] 31)).heap.size = w1.heap.size + 1 by simp] at this

set_option maxHeartbeats 4000000 in
set_option maxRecDepth 100000 in
theorem joins_any (s : ByteArray) (tk : List Tk) (v : Value) (w : World) (hs : s.size ≤ 9223372036854775807) (hv : SF w v tk) (hv0 : ∀ n c, v = .slice none n c → c = 0) (hl : sm tk tk.length + tk.length ≤ 2097152) (hz : ∀ k (h : k < tk.length), tk[k].t.size ≤ 9223372036854775807) :
    Calls Try.prog 4 #[.string s, v] w fun e w' => e = .returned (.bool true) ∧ Below w.heap.size w w' := by
  have AW := fun w => awake_any w
  obtain ⟨s1, e1, ho1⟩ := jo_ex tk
  have RJ1 := fun w1 (hb : Below w.heap.size w w1) => rjoin_any tk v s1 e1 w1 (hv.below hb) (by omega) ho1
  have J1 := fun u w1 (h : SF w1 u tk) => join_any tk u s1 e1 w1 h (by omega) hz ho1
  have SA := fun u w1 (h : SF w1 u tk) (hb : Below w.heap.size w w1) => same2_any tk u v w1 h (hv.below hb) (by omega)
  have NA := fun w => isName_any s w hs
  have NB := fun w => rname_any s w hs
  have hcopy := fun W (hb : Below w.heap.size w W) => new_copy (hv.below hb)
  have HC : Hid (∀ W, Below w.heap.size w W → ∀ a c, v = .slice (some a) tk.length c → ∀ o j u, (tks tk)[j]? = some u → (W.alloc o).cell? (a.add j) = some u) := hcopy
  clear hcopy hz ho1
  generalize nmB s = nb at *
  obtain ⟨av, cv, hve, hc, hr⟩ := hv
  obtain ⟨i3, hi3, hz3, hs3, hb3⟩ := info_parts Try.info31
  have hl2 : tk.length ≤ 2097152 := by omega
  cases av with
  | none =>
    obtain rfl : tk = [] := by
      cases tk with
      | nil => rfl
      | cons t r =>
        obtain ⟨b, o, e, _⟩ := hr 0 (by simp)
        cases e
    obtain rfl := hv0 _ _ hve
    subst hve
    go_enter Try.func4, Try.ntmps4
    go_upto_region 4 with (first
      | (go_at_call 8; (with_reducible refine (AW _).mono ?_); rintro e w1 ⟨rfl, hN1⟩; have hA1 : Hid (SI w (w1.alloc (.cells #[] 31)) (.slice (some ⟨w1.heap.size, 0, none⟩) 0 0) []) := ⟨bal hN1 _, World.ownsRow_made w1 #[] 0 hN1.size (by decide) rfl⟩; have hA2 : Hid (SI w ((w1.alloc (.cells #[] 31)).alloc (.cells #[.int .i64 77, .string ⟨#[]⟩, .int .i64 0] 31)) (.slice (some ⟨w1.heap.size, 0, none⟩) 0 0) []) := hA1.out.alloc _)
      | (at_builtin; refine wpList_append_own_none rfl _ _ 23 rfl w.heap.size 31 i3 3 Try.underlying23 hi3 _ 0 [] rfl hA1.out.own rfl ?_)
      | (at_builtin; refine wpList_append_own_at _ rfl _ _ 23 rfl w.heap.size 31 i3 zTok 3 32 Try.underlying23 hi3 hz3 hs3 hb3 rfl (by decide) _ 0 [] rfl hA2.out.own ⟨w1.heap.size + 1, 0, none⟩ 1 1 (tkc t77) rfl rfl (new77 w1) (one_tok _) (by unfold maxLen; omega) (by omega) hA2.out.below.size ?_; intro v3 w3 hown3 hgrow3 hnil3 hloc3; have hA3 : Hid (SI w w3 v3 ([] ++ [t77])) := hA2.out.put hgrow3 hown3; clear hown3 hgrow3 hnil3 hloc3))
    clear hr
    have hn : (([] : List Tk) ++ [t77]).length = ([] : List Tk).length + 1 := by simp
    have hown := hA3.out.own
    rw [hn] at hown
    obtain ⟨g, c3, rfl⟩ : ∃ g c3, v3 = .slice (some ⟨g, 0, none⟩) 1 c3 := by
      rcases hown.2 with ⟨_, e⟩ | ⟨g, c3, _, e, _⟩
      · omega
      · exact ⟨g, c3, e⟩
    obtain ⟨hF, hc3⟩ := own_front hown hn.symm
    obtain ⟨hL, hg⟩ := own_last hown
    have HB3 : Hid (Below w.heap.size w w3) := hA3.out.below
    have HF : Hid (SF w3 (.slice (some ⟨g, 0, none⟩) 0 c3) []) := hF
    have HL : Hid (∀ W, Below w3.heap.size w3 W → W.cell? ⟨g, 0, none⟩ = some (.int .i64 77)) := fun W hW => (hW.cell (p := ⟨g, 0, none⟩) hg).trans hL
    have SLI : ∀ w, (Instr.slice 23 (.slice (some ⟨g, 0, none⟩) 1 c3) none (some (.int .i64 0)) none).run Try.prog w = .ok (.slice (some ⟨g, 0, none⟩) 0 c3) w := fun w => run_front g 0 c3 w hc3
    have RJ2 : Calls Try.prog 12 #[.slice none 0 0] w3 fun x w' => x = .returned (.tuple #[.string s1, .int .i64 e1]) ∧ Below w3.heap.size w3 w' := RJ1 w3 HB3.out
    have SA2 : ∀ u w1 (h : SF w1 u []) (hb : Below w.heap.size w w1), Calls Try.prog 11 #[u, .slice none 0 0] w1 fun e w' => e = .returned (.bool true) ∧ Below w1.heap.size w1 w' := SA
    clear hA1 hA2 hA3 hown hF hL hn RJ1 AW SA
    go_wp2_with (first
      | (go_at_call 12; (with_reducible refine RJ2.mono ?_); rintro e w4 ⟨rfl, hN4⟩)
      | (go_at_call 13; (with_reducible refine (J1 _ w4 (HF.out.below hN4)).mono ?_); rintro e w5 ⟨rfl, hN5⟩)
      | (go_at_call 14; (with_reducible refine (NA _).mono ?_); rintro e w8 ⟨rfl, rfl⟩)
      | (go_at_call 15; (with_reducible refine (NB _).mono ?_); rintro e w8 ⟨rfl, rfl⟩)
      | (go_at_call 11; (with_reducible refine (SA2 _ _ ((HF.out.below hN4).below hN5) (btr (btr HB3.out hN4) hN5)).mono ?_); rintro e w6 ⟨rfl, hN6⟩; have d7 := HL.out w6 (btr (btr hN4 hN5) hN6)))
    go_ret
    exact ⟨rfl, btr (btr (btr HB3.out hN4) hN5) hN6⟩
  | some ad =>
    subst hve
    clear hr hv0
    go_enter Try.func4, Try.ntmps4
    go_upto_region 4 with (first
      | (go_at_call 8; (with_reducible refine (AW _).mono ?_); rintro e w1 ⟨rfl, hN1⟩; have hA1 : Hid (SI w (w1.alloc (.cells #[] 31)) (.slice (some ⟨w1.heap.size, 0, none⟩) 0 0) []) := ⟨bal hN1 _, World.ownsRow_made w1 #[] 0 hN1.size (by decide) rfl⟩)
      | (at_builtin; refine wpList_append_own_at _ rfl _ _ 23 rfl w.heap.size 31 i3 zTok 3 32 Try.underlying23 hi3 hz3 hs3 hb3 rfl (by decide) _ 0 [] rfl hA1.out.own ad tk.length cv (tks tk) rfl (tks_length tk) (HC.out w1 hN1 ad cv rfl _) (one_toks tk) (by unfold maxLen; omega) (by omega) hA1.out.below.size ?_; intro v2 w2 hown2 hgrow2 hnil2 hloc2; have hA2 : Hid (SI w (w2.alloc (.cells #[.int .i64 77, .string ⟨#[]⟩, .int .i64 0] 31)) v2 tk) := SI.alloc ⟨hA1.out.below.grown hgrow2 hA1.out.below.size (fun j e => (hA1.out.own.lt j e).1), by rw [Nat.zero_add, List.nil_append] at hown2; exact hown2⟩ _; clear hown2 hgrow2 hnil2 hloc2)
      | (at_builtin; refine wpList_append_own_at _ rfl _ _ 23 rfl w.heap.size 31 i3 zTok 3 32 Try.underlying23 hi3 hz3 hs3 hb3 rfl (by decide) _ tk.length (tks tk) rfl hA2.out.own ⟨w2.heap.size, 0, none⟩ 1 1 (tkc t77) rfl rfl (new_tok w2 _) (one_tok _) (by unfold maxLen; omega) (by omega) hA2.out.below.size ?_; intro v3 w3 hown3 hgrow3 hnil3 hloc3; have hA3 : Hid (SI w w3 v3 (tk ++ [t77])) := hA2.out.put hgrow3 hown3; clear hown3 hgrow3 hnil3 hloc3))
    have hn : (tk ++ [t77]).length = tk.length + 1 := by simp
    have hown := hA3.out.own
    rw [hn] at hown
    obtain ⟨g, c3, rfl⟩ : ∃ g c3, v3 = .slice (some ⟨g, 0, none⟩) (tk.length + 1) c3 := by
      rcases hown.2 with ⟨_, e⟩ | ⟨g, c3, _, e, _⟩
      · omega
      · exact ⟨g, c3, e⟩
    obtain ⟨hF, hc3⟩ := own_front hown hn.symm
    obtain ⟨hL, hg⟩ := own_last hown
    have HB3 : Hid (Below w.heap.size w w3) := hA3.out.below
    have HF : Hid (SF w3 (.slice (some ⟨g, 0, none⟩) tk.length c3) tk) := hF
    have HL : Hid (∀ W, Below w3.heap.size w3 W → W.cell? ⟨g, tk.length * 3, none⟩ = some (.int .i64 77)) := fun W hW => (hW.cell (p := ⟨g, tk.length * 3, none⟩) hg).trans hL
    have SLI := fun w => run_front g tk.length c3 w hc3
    have RJ2 := RJ1 w3 HB3.out
    clear hA1 hA2 hA3 hown hF hL hn RJ1 AW
    go_wp2_with (first
      | (go_at_call 12; (with_reducible refine RJ2.mono ?_); rintro e w4 ⟨rfl, hN4⟩)
      | (go_at_call 13; (with_reducible refine (J1 _ w4 (HF.out.below hN4)).mono ?_); rintro e w5 ⟨rfl, hN5⟩)
      | (go_at_call 14; (with_reducible refine (NA _).mono ?_); rintro e w8 ⟨rfl, rfl⟩)
      | (go_at_call 15; (with_reducible refine (NB _).mono ?_); rintro e w8 ⟨rfl, rfl⟩)
      | (go_at_call 11; (with_reducible refine (SA _ _ ((HF.out.below hN4).below hN5) (btr (btr HB3.out hN4) hN5)).mono ?_); rintro e w6 ⟨rfl, hN6⟩; have d7 := HL.out w6 (btr (btr hN4 hN5) hN6)))
    go_ret
    exact ⟨rfl, btr (btr (btr HB3.out hN4) hN5) hN6⟩
end Go.Proofs.Ytfjpdekegbnbaaa
