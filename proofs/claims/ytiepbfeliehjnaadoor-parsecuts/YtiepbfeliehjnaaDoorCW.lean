/-
  The law ParseCuts.
-/
import Derived.Test.YtiepbfeliehjnaaDoorQ3
import Derived.Test.YtiepbfeliehjnaaDoorCM
import Derived.Deep.CutRange
import Derived.Deep.RegionWith
namespace Go.Proofs.YtiepbfeliehjnaaDoor
open Go.RowKit Go.Sort

theorem run_from (s : ByteArray) (i : Nat) (h : i ≤ s.size) (w : World) : (Instr.slice 9 (.string s) (some (.int .i64 (i : Int))) none none).run Tryd.prog w = .ok (.string (s.extract i s.size)) w := by
  rw [run_slice_string_from_if w 9 s .i64 i Tryd.underlying9, if_pos ⟨by omega, by omega⟩]
  rfl
theorem run_to (s : ByteArray) (i : Nat) (h : i ≤ s.size) (w : World) : (Instr.slice 9 (.string s) none (some (.int .i64 (i : Int))) none).run Tryd.prog w = .ok (.string (s.extract 0 i)) w := by
  rw [run_slice_string_to_if w 9 s .i64 i Tryd.underlying9, if_pos ⟨by omega, by omega⟩]
  rfl
theorem cut_data (s : ByteArray) (p e : Nat) : (s.extract 0 p ++ (⟨#[32]⟩ : ByteArray) ++ s.extract e s.size).data.toList = s.data.toList.take p ++ [32] ++ s.data.toList.drop e := by
  have hz : s.data.toList.length = s.size := rfl
  rw [ByteArray.data_append, ByteArray.data_append, Array.toList_append, Array.toList_append, ext_data, ext_data, List.drop_zero, Nat.sub_zero]
  congr 1
  rw [List.take_of_length_le]
  rw [List.length_drop]
  omega
/-- What is kept of the rows so far. -/
structure KP (wc W : World) (v : Value) (i m k : Nat) (rs : List Rw) (vs : List Value) : Prop where
  below : Below wc.heap.size wc W
  own : W.ownsRow wc.heap.size 45 6 v (keepN i m k).length (rws ((keepN i m k).map (adjR i m rs)) ((keepN i m k).map fun j => vs.getD j (.slice none 0 0)))
theorem KP.len {wc W : World} {v : Value} {i m k : Nat} {rs : List Rw} {vs : List Value} (h : KP wc W v i m k rs vs) : ∃ a c, v = .slice a (keepN i m k).length c := own_shape h.own
theorem KP.skip {wc W W' : World} {v : Value} {i m k : Nat} {rs : List Rw} {vs : List Value} (h : KP wc W v i m k rs vs) (hb : Below W.heap.size W W') (h1 : i ≤ k) (h2 : k < i + m) : KP wc W' v i m (k + 1) rs vs := by
  refine ⟨btr h.below hb, ?_⟩
  rw [keepN_in h1 h2]
  exact own_below h.own hb
theorem KP.on {wc W W' : World} {v : Value} {i m k : Nat} {rs : List Rw} {vs : List Value} (h : KP wc W v i m k rs vs) (hb : Below W.heap.size W W') : KP wc W' v i m k rs vs := ⟨btr h.below hb, own_below h.own hb⟩
theorem KP.put {wc W W' : World} {v v' : Value} {i m k : Nat} {rs : List Rw} {vs : List Value} (h : KP wc W v i m k rs vs) (hk : k < vs.length) (hout : k < i ∨ i + m ≤ k) {r : Rw} {av : Value} (hr : adjR i m rs k = r) (hav : vs[k] = av) (hg : W.grownBy W' v.ownBlock)
    (ho : W'.ownsRow wc.heap.size 45 6 v' ((keepN i m k).length + 1) (rws ((keepN i m k).map (adjR i m rs)) ((keepN i m k).map fun j => vs.getD j (.slice none 0 0)) ++ rwc r av)) : KP wc W' v' i m (k + 1) rs vs := by
  subst hr
  subst hav
  refine ⟨h.below.grown hg h.below.size (fun k e => (h.own.lt k e).1), ?_⟩
  rw [keepN_out hout, List.map_append, List.map_append, List.length_append]
  have e : vs.getD k (.slice none 0 0) = vs[k] := by rw [List.getD_eq_getElem?_getD, List.getElem?_eq_getElem hk]; rfl
  show W'.ownsRow wc.heap.size 45 6 v' ((keepN i m k).length + 1) (rws ((keepN i m k).map (adjR i m rs) ++ [adjR i m rs k]) ((keepN i m k).map (fun j => vs.getD j (.slice none 0 0)) ++ [vs.getD k (.slice none 0 0)]))
  rw [rws_put _ _ _ _ (by simp), e]
  exact ho
theorem KP.sr {wc W : World} {v : Value} {i m : Nat} {rs : List Rw} {vs : List Value} (h : KP wc W v i m rs.length rs vs) (hv : rs.length = vs.length) (hA : ∀ k (h : k < rs.length) (h' : k < vs.length), SA W vs[k] rs[k].args) : SR W v (cutR i m rs) := by
  rw [← keep_cut]
  have hlen : (List.map (adjR i m rs) (keepN i m rs.length)).length = (keepN i m rs.length).length := by simp
  have ha : ∀ k (h : k < (List.map (adjR i m rs) (keepN i m rs.length)).length) (h' : k < ((keepN i m rs.length).map fun j => vs.getD j (.slice none 0 0)).length), SA W (((keepN i m rs.length).map fun j => vs.getD j (.slice none 0 0))[k]) (List.map (adjR i m rs) (keepN i m rs.length))[k].args := fun k h h' => by
    rw [List.getElem_map, List.getElem_map]
    have hj : (keepN i m rs.length)[k]'(by simpa using h) < rs.length := keepN_lt (List.getElem_mem _)
    rw [adjR_args hj, List.getD_eq_getElem?_getD, List.getElem?_eq_getElem (by omega)]
    exact hA _ hj (by omega)
  have ho := h.own
  generalize hL : List.map (adjR i m rs) (keepN i m rs.length) = L at *
  generalize hV : ((keepN i m rs.length).map fun j => vs.getD j (.slice none 0 0)) = V at *
  have h1 : L.length = V.length := by rw [← hV, hlen]; simp
  rw [← hlen] at ho
  clear hL hV
  rcases Nat.eq_zero_or_pos L.length with h0 | h0
  · obtain ⟨a, c, rfl⟩ := own_shape ho
    exact ⟨a, c, V, rfl, by omega, h1, ha, fun k hk => by omega⟩
  · obtain ⟨g, cap, rfl, hc, _, hcell, _, hl⟩ := own_at ho h0
    have hlen := rws_length L V h1
    have get : ∀ (i : Nat) (x : Value), i < L.length * 6 → (rws L V)[i]? = some x → W.cell? ⟨g, 0 + i, none⟩ = some x := fun i x hi e => by
      rw [List.getElem?_eq_getElem (by omega)] at e
      rw [Nat.zero_add, hcell i (by omega), Option.some.inj e]
    refine ⟨_, cap, V, rfl, hc, h1, ha, fun _ _ => ⟨g, 0, rfl, ?_, ?_, ?_, ?_, ?_, ?_, hl⟩⟩
    · intro j hj; exact get _ _ (by omega) (rws_at L V h1 j hj (by omega)).1
    · intro j hj; exact get _ _ (by omega) (rws_at L V h1 j hj (by omega)).2.1
    · intro j hj hj'; exact get _ _ (by omega) (rws_at L V h1 j hj hj').2.2.1
    · intro j hj; exact get _ _ (by omega) (rws_at L V h1 j hj (by omega)).2.2.2.1
    · intro j hj; exact get _ _ (by omega) (rws_at L V h1 j hj (by omega)).2.2.2.2.1
    · intro j hj; exact get _ _ (by omega) (rws_at L V h1 j hj (by omega)).2.2.2.2.2
theorem own_len2 {W : World} {B T c n : Nat} {v : Value} {xs : List Value} (h : W.ownsRow B T c v n xs) : n ≤ 9223372036854775807 := by
  rcases h.2 with ⟨_, rfl⟩ | ⟨g, cap, cur, _, _, _, h1, h2, _⟩
  · omega
  · unfold maxLen at h2; omega
theorem OR.lens2 {W : World} {B : Nat} {v : Value} {rs : List Rw} (h : OR W B v rs) : rs.length ≤ 9223372036854775807 ∧ ∀ k (h : k < rs.length), rs[k].args.length ≤ 9223372036854775807 := by
  obtain ⟨vs, h1, h2, h3⟩ := h
  exact ⟨own_len2 h2, fun k hk => own_len2 (h3 k hk (by omega))⟩
set_option maxHeartbeats 8000000 in
set_option maxRecDepth 100000 in
theorem cuts_any (s : ByteArray) (x : Int) (w : World) (hs : s.size ≤ 9223372036854775807) (hv : VR w) (hx : -9223372036854775808 ≤ x ∧ x ≤ 9223372036854775807) :
    Calls Tryd.prog 7 #[.string s, .int .i64 x] w fun e w' => e = .returned (.bool true) ∧ Below w.heap.size w w' := by
  obtain ⟨rs, a, e, ho⟩ := pout_ex s
  have AW := awake_any w hv
  have PA := fun w1 h => parse_any s rs a e w1 hs h ho
  have HV : Hid (VR w) := hv
  clear hv
  obtain ⟨hx1, hx2⟩ := hx
  rcases ho.cases with ⟨h0, h1, rfl, h3, h4⟩ | ⟨rfl, rfl, hs6, l, hp, hout, hpr⟩
  · have e1 : ((e : Int) != 0) = true := by simp; omega
    clear ho h0
    go_enter Tryd.func7, Tryd.ntmps7
    go_wp2_with (first
      | (go_at_call 8; (with_reducible refine AW.mono ?_); rintro x w1 ⟨rfl, hB1⟩)
      | (go_at_call 10; (with_reducible refine (PA w1 (HV.out.below hB1)).mono ?_); rintro x w2 ⟨v, rfl, hO2, hB2⟩; obtain ⟨a2, c2, rfl⟩ := hO2.shape))
    go_ret
    exact ⟨rfl, btr hB1 hB2⟩
  by_cases hn0 : rs.length = 0
  · obtain rfl : rs = [] := List.length_eq_zero_iff.1 hn0
    clear ho hout hpr hp hn0
    go_enter Tryd.func7, Tryd.ntmps7
    go_wp2_with (first
      | (go_at_call 8; (with_reducible refine AW.mono ?_); rintro x w1 ⟨rfl, hB1⟩)
      | (go_at_call 10; (with_reducible refine (PA w1 (HV.out.below hB1)).mono ?_); rintro x w2 ⟨v, rfl, hO2, hB2⟩; obtain ⟨a2, c2, rfl⟩ := hO2.shape))
    go_ret
    exact ⟨rfl, btr hB1 hB2⟩
  obtain ⟨hrise, hmark, hplr, hrows, hpl⟩ := rows_places hp hpr
  have hrl : rs.length ≤ 65536 := by
    obtain ⟨⟨ms, hsub, hlen, _⟩, _⟩ := prog_marks _ _ _ hpr
    have := hsub.length_le
    have := hp.count
    omega
  obtain ⟨z, hz⟩ : ∃ z : Nat, (x < 0 ∧ -(x + 1) = (z : Int)) ∨ (¬ x < 0 ∧ x = (z : Int)) := by
    by_cases h : x < 0
    · exact ⟨(-(x + 1)).toNat, .inl ⟨h, by omega⟩⟩
    · exact ⟨x.toNat, .inr ⟨h, by omega⟩⟩
  obtain ⟨i, hi⟩ : ∃ i, i = z % rs.length := ⟨_, rfl⟩
  have hin : i < rs.length := by rw [hi]; exact Nat.mod_lt _ (by omega)
  obtain ⟨M, hM⟩ : ∃ M : Nat, (M : Int) = rs[i].rows + 1 := ⟨(rs[i].rows + 1).toNat, by have := hrows i hin; omega⟩
  obtain ⟨p, hpp⟩ : ∃ p : Nat, rs[i].place = p := ⟨rs[i].place.toNat, by have := hpl i hin; omega⟩
  have hps : p < s.size := by have := hpl i hin; omega
  have hiM : i + M ≤ rs.length := by have := hrows i hin; omega
  have hM1 : 1 ≤ M := by have := hrows i hin; omega
  obtain ⟨q, hq, hq2⟩ : ∃ q : Nat, ((q = s.size ∧ i + M = rs.length) ∨ ∃ h : i + M < rs.length, rs[i + M].place = q) ∧ q ≤ s.size := by
    by_cases h : i + M < rs.length
    · have := hpl (i + M) h
      exact ⟨rs[i + M].place.toNat, .inr ⟨h, by omega⟩, by omega⟩
    · exact ⟨s.size, .inl ⟨rfl, by omega⟩, Nat.le_refl _⟩
  have CP : Hid ((∀ j rj, j < i → rs[j]? = some rj → (i : Int) ≤ j + rj.rows → (j : Int) + rj.rows + 1 ≠ i + M) → ∃ rs', POut (s.extract 0 p ++ (⟨#[32]⟩ : ByteArray) ++ s.extract q s.size) rs' 0 0 ∧ RL (cutR i M rs) rs') := fun hj =>
    cut_pout hs6 hp hpr hin hM hpp hq hj (cut_data s p q)
  obtain ⟨nx, hnx⟩ : ∃ nx, nx = i + M := ⟨_, rfl⟩
  have H3 : Hid (∀ a b (h1 : a < rs.length) (h2 : b < rs.length), a < b → rs[a].place < rs[b].place) := hplr
  have H4 : Hid (∀ k (h : k < rs.length), 0 ≤ rs[k].rows ∧ rs[k].rows + k + 1 ≤ rs.length) := hrows
  have H5 : Hid (∀ k (h : k < rs.length), 0 ≤ rs[k].place ∧ rs[k].place < s.size) := hpl
  have HM : Hid ((M : Int) = rs[i].rows + 1) := hM
  have HP : Hid (rs[i].place = (p : Int)) := hpp
  have HQ : Hid ((q = s.size ∧ i + M = rs.length) ∨ ∃ h : i + M < rs.length, rs[i + M].place = q) := hq
  have HZ : Hid ((x < 0 ∧ -(x + 1) = (z : Int)) ∨ (¬ x < 0 ∧ x = (z : Int))) := hz
  have HI : Hid (i = z % rs.length) := hi
  have HNX : Hid (nx = i + M) := hnx
  have hzb : (z : Int) ≤ 9223372036854775807 := by omega
  have hnx2 : nx ≤ rs.length := by omega
  have hne0 : ((rs.length : Int) == 0) = false := beq_eq_false_iff_ne.2 (by omega)
  clear hrise hmark hplr hrows hpl ho hout hpr hp hM hpp hq hz hi hnx
  go_enter Tryd.func7, Tryd.ntmps7
  go_wp2_with (first
    | (go_at_call 8; (with_reducible refine AW.mono ?_); rintro x w1 ⟨rfl, hB1⟩)
    | (go_at_call 10; (with_reducible refine (PA w1 (HV.out.below hB1)).mono ?_); rintro x w2 ⟨v, rfl, hO2, hB2⟩; obtain ⟨a2, c2, rfl⟩ := hO2.shape))
  obtain ⟨a2', c2', vs, ev, hc2, hvs, hA, hR⟩ := hO2.sr
  cases ev
  have HA : Hid (∀ k (h : k < rs.length) (h' : k < vs.length), SA w2 vs[k] rs[k].args) := hA
  have HVS : Hid (rs.length = vs.length) := hvs
  have HB : Hid (Below w.heap.size w w2) := btr hB1 hB2
  obtain ⟨b, o, rfl, r00⟩ := hR i hin
  have HRR : Hid (RR w2 b o rs vs) := r00
  clear hR hA hvs hO2 hB1 hB2 AW PA r00
  go_loopw [37] (fun v37 wr => ∃ m : Nat, m ≤ rs.length ∧ v37 = .int .i64 m ∧ Hid (Below w2.heap.size w2 wr)) (fun v37 _ => rs.length - (intOf v37).toNat)
  case atStart => exact ⟨0, by omega, rfl, Below.refl _ _⟩
  case round =>
    obtain ⟨m, hm, rfl, hH⟩ := hrel
    by_cases hlt : m < rs.length
    case pos =>
      have r := HRR.out.below hH.out
      have hmv : m < vs.length := by rw [← HVS.out]; exact hlt
      obtain ⟨xa, ya, eva, _, _⟩ := HA.out m hlt hmv
      have m0 := r.c0 m hlt
      have m1 := r.c1 m hlt
      have m2 := r.c2 m hlt hmv
      have m3 := r.c3 m hlt
      have m4 := r.c4 m hlt
      have m5 := r.c5 m hlt
      have hbl := r.lt
      rw [eva] at m2
      have h4 := H4.out m hlt
      have h5 := H5.out m hlt
      have PV : 0 < m → ∃ pv : Int, pv < rs[m].place ∧ wr.cell? ⟨b, o + (m - 1) * 6 + 5, none⟩ = some (.int .i64 pv) := fun h0 => ⟨rs[m - 1].place, H3.out (m - 1) m (by omega) hlt (by omega), r.c5 (m - 1) (by omega)⟩
      clear r eva
      generalize hrm : rs[m] = row at *
      obtain ⟨K, nm, aa, nu, ro, pl⟩ := row
      simp only at m0 m1 m2 m3 m4 m5 h4 h5 PV
      have e4 : decide (ro < 0) = false := decide_eq_false (by omega)
      have e5 : decide ((rs.length : Int) - (m : Int) - 1 < ro) = false := decide_eq_false (by omega)
      have e6 : decide (pl < 0) = false := decide_eq_false (by omega)
      have e7 : decide ((s.size : Int) ≤ pl) = false := decide_eq_false (by omega)
      have wa1 : IntKind.i64.wrap ((rs.length : Int) - (m : Int)) = (rs.length : Int) - (m : Int) := by rw [IntKind.wrap_i64]; omega
      have wa2 : IntKind.i64.wrap ((rs.length : Int) - (m : Int) - 1) = (rs.length : Int) - (m : Int) - 1 := by rw [IntKind.wrap_i64]; omega
      have hBB : Hid (∀ o, Below w2.heap.size w2 (wr.alloc o)) := fun o => bal hH.out o
      by_cases hm0 : m = 0
      · subst hm0
        simp only [Nat.zero_mul, Nat.add_zero] at m0 m1 m2 m3 m4 m5
        have e5' : decide ((rs.length : Int) - 1 < ro) = false := decide_eq_false (by omega)
        have wa3 : IntKind.i64.wrap ((rs.length : Int) - 1) = (rs.length : Int) - 1 := by rw [IntKind.wrap_i64]; omega
        have wa4 : IntKind.i64.wrap (rs.length : Int) = (rs.length : Int) := by rw [IntKind.wrap_i64]; omega
        go_upto_region 9 with (fail)
        go_quiet (fail)
        go_wp2
        go_roundw
        case rel => exact ⟨0 + 1, by omega, by go_num, below_drewN (hBB.out _) _⟩
        case measure => simp [intOf]; omega
      · obtain ⟨pv, hpv, dpv⟩ := PV (by omega)
        have g6 : decide (pl ≤ pv) = false := decide_eq_false (by omega)
        have g7 : decide ((0 : Int) < (m : Int)) = true := decide_eq_true (by omega)
        have g8 : decide (0 < m) = true := decide_eq_true (by omega)
        have g9 : (m : Int) - 1 = ((m - 1 : Nat) : Int) := by omega
        have g10 : IntKind.i64.wrap ((m : Int) - 1) = ((m - 1 : Nat) : Int) := by rw [IntKind.wrap_i64]; omega
        have g11 : m - 1 < rs.length := by omega
        go_upto_region 9 with (fail)
        go_quiet (fail)
        go_wp2
        go_roundw
        case rel => exact ⟨m + 1, by omega, by go_num, below_drewN (hBB.out _) _⟩
        case measure => simp [intOf]; omega
    case neg =>
    obtain rfl : m = rs.length := by omega
    have r := HRR.out.below hH.out
    have m4 := r.c4 i hin
    have m5 := r.c5 i hin
    have hbl := r.lt
    rw [show rs[i].rows = (M : Int) - 1 by have := HM.out; omega] at m4
    rw [HP.out] at m5
    have hW : Hid (Below w2.heap.size w2 wr) := hH
    clear r hH
    go_upto_if 85 with (fail)
    go_cut [10] from 83 to 88 (fun v W => v = .int .i64 (z : Int) ∧ W = wr)
    case first =>
      rcases HZ.out with ⟨g1, g2⟩ | ⟨g1, g2⟩
      · go_wp2
        go_meet
        case rel => exact ⟨by first | rfl | rw [g2], rfl⟩
      · have G2 : Hid (x = (z : Int)) := g2
        clear g2
        go_wp2
        go_meet
        case rel => exact ⟨by first | rfl | rw [G2.out], rfl⟩
    obtain ⟨rfl, hw⟩ := hcut
    subst hw
    go_upto_region 15 with (fail)
    go_cut [10] from 89 to 92 (fun v W => v = .int .i64 (i : Int) ∧ W = wc)
    case first =>
      go_wp2
      go_meet
      case rel => exact ⟨by rw [HI.out]; simp, rfl⟩
    obtain ⟨rfl, hw⟩ := hcut
    subst hw
    go_upto_region 16 with (fail)
    go_cut [11] from 93 to 100 (fun v W => v = .int .i64 (nx : Int) ∧ W = wc)
    case first =>
      go_wp2
      go_meet
      case rel => exact ⟨by rw [HNX.out]; congr 1; omega, rfl⟩
    obtain ⟨rfl, hw⟩ := hcut
    subst hw
    go_upto_if 106 with (fail)
    go_cut [12] from 101 to 111 (fun v W => v = .int .i64 (q : Int) ∧ W = wc)
    case first =>
      rcases HQ.out with ⟨rfl, h⟩ | ⟨h, e⟩
      · have g : ¬ (nx : Int) < (rs.length : Int) := by have := HNX.out; omega
        have g' : ¬ nx < rs.length := by omega
        go_wp2
        go_meet
        case rel => exact ⟨rfl, rfl⟩
      · have g : (nx : Int) < (rs.length : Int) := by have := HNX.out; omega
        have g' : nx < rs.length := by omega
        have e2 : rs[nx].place = q := by
          have := HNX.out
          subst this
          exact e
        have m6 := (HRR.out.below hW.out).c5 nx g'
        rw [e2] at m6
        go_wp2
        go_meet
        case rel => exact ⟨rfl, rfl⟩
    obtain ⟨rfl, hw⟩ := hcut
    subst hw
    go_wp2
    go_loop [13] (fun v => ∃ j : Nat, j ≤ i ∧ v = .int .i64 j ∧ Hid (∀ k rk, k < j → rs[k]? = some rk → (i : Int) ≤ k + rk.rows → (k : Int) + rk.rows + 1 ≠ i + M)) (fun v => i - (intOf v).toNat)
    case atStart => exact ⟨0, Nat.zero_le _, rfl, fun k rk h => absurd h (Nat.not_lt_zero _)⟩
    case round =>
      obtain ⟨j, hji, rfl, hJ⟩ := hrel
      by_cases hlt2 : j < i
      case pos =>
        have hjn : j < rs.length := by omega
        have n4 := (HRR.out.below hW.out).c4 j hjn
        obtain ⟨h4a, h4b⟩ := H4.out j hjn
        have HJ1 : Hid (∀ rk, rs[j]? = some rk → rk.rows = rs[j].rows) := fun rk e => by rw [List.getElem?_eq_getElem hjn] at e; rw [← Option.some.inj e]
        generalize rs[j].rows = t at *
        have HJ2 : Hid (¬ ((i : Int) ≤ (j : Int) + t ∧ (j : Int) + t = (nx : Int) - 1) → ∀ k rk, k < j + 1 → rs[k]? = some rk → (i : Int) ≤ k + rk.rows → (k : Int) + rk.rows + 1 ≠ i + M) := fun hno k rk hk e hle => by
          by_cases ek : k = j
          · subst ek
            have := HJ1.out rk e
            have := HNX.out
            omega
          · exact hJ.out k rk (by omega) e hle
        by_cases hge : (i : Int) ≤ (j : Int) + t
        · by_cases heq : (j : Int) + t = (nx : Int) - 1
          · have heq1 : ((j : Int) + t == (nx : Int) - 1) = true := beq_iff_eq.2 heq
            clear heq
            go_wp2
            go_ret
            exact ⟨rfl, btr HB.out hW.out⟩
          · have heq1 : ((j : Int) + t == (nx : Int) - 1) = false := beq_eq_false_iff_ne.2 heq
            have HJ3 := HJ2.out (fun h => heq h.2)
            have HJ4 : Hid (∀ k rk, k < j + 1 → rs[k]? = some rk → (i : Int) ≤ k + rk.rows → (k : Int) + rk.rows + 1 ≠ i + M) := HJ3
            clear heq HJ3 HJ1 HJ2
            go_wp2
            go_round
            case rel => exact ⟨j + 1, by omega, by go_num, HJ4⟩
            case measure => simp [intOf]; omega
        · have HJ3 := HJ2.out (fun h => hge h.1)
          have HJ4 : Hid (∀ k rk, k < j + 1 → rs[k]? = some rk → (i : Int) ≤ k + rk.rows → (k : Int) + rk.rows + 1 ≠ i + M) := HJ3
          clear HJ3 HJ1 HJ2
          go_wp2
          go_round
          case rel => exact ⟨j + 1, by omega, by go_num, HJ4⟩
          case measure => simp [intOf]; omega
      case neg =>
      obtain rfl : j = i := by omega
      obtain ⟨rs', ho', hrl'⟩ := CP.out hJ.out
      have HRL : Hid (RL (cutR j M rs) rs') := hrl'
      have hVW : Hid (VR wc) := HV.out.below (btr HB.out hW.out)
      have z1 : (s.extract 0 p).size = p := by rw [size_ext _ _ _ (by omega)]; omega
      have z2 : (s.extract q s.size).size = s.size - q := size_ext _ _ _ (Nat.le_refl _)
      have z3 : (s.extract 0 p ++ (⟨#[32]⟩ : ByteArray)).size = p + 1 := by rw [ByteArray.size_append, z1]; rfl
      have PB := fun w1 h => parse_any _ rs' 0 0 w1 (by rw [ByteArray.size_append, z3]; omega) h ho'
      have SS1 := fun w => run_to s p (by omega) w
      have SS2 := fun w => run_from s q hq2 w
      have c1 : ¬ 9223372036854775807 < (s.extract 0 p).size + 1 := by omega
      have c2 : ¬ 9223372036854775807 < (s.extract 0 p ++ (⟨#[32]⟩ : ByteArray)).size + (s.extract q s.size).size := by omega
      have c3 : ¬ 9223372036854775807 < (s.extract 0 p).size + 1 + (s.extract q s.size).size := by omega
      clear ho' hrl' z1 z2 z3 CP hJ
      generalize s.extract 0 p = A at *
      generalize s.extract q s.size = C at *
      go_upto_region 25 with (fail)
      go_cut [14, 15, 16] from 138 to 154 (fun v14 v15 v16 W => v16 = .int .i64 0 ∧ ∃ a14 c14, v14 = .slice a14 rs'.length c14 ∧ Hid (Below wc.heap.size wc W ∧ SR W (.slice a14 rs'.length c14) rs' ∧ rs'.length ≤ 9223372036854775807 ∧ ∀ k (h : k < rs'.length), rs'[k].args.length ≤ 9223372036854775807))
      case first =>
        go_region_with (go_at_call 10; (with_reducible refine (PB _ (hVW.out.below (below_drew (Below.refl _ _)))).mono ?_); rintro e w5 ⟨v14, rfl, hO5, hB5⟩)
        all_goals
          obtain ⟨a14, c14, rfl⟩ := hO5.shape
          have HZ5 : Hid (Below wc.heap.size wc w5 ∧ SR w5 (.slice a14 rs'.length c14) rs' ∧ rs'.length ≤ 9223372036854775807 ∧ ∀ k (h : k < rs'.length), rs'[k].args.length ≤ 9223372036854775807) := ⟨btr (below_drew (Below.refl _ _)) hB5, hO5.sr, hO5.lens2.1, hO5.lens2.2⟩
          clear hO5 hB5 PB
          go_wp2
          go_meet
          case rel => exact ⟨rfl, a14, c14, rfl, HZ5⟩
      clear PB SS1 SS2 c1 c2 c3
      obtain ⟨rfl, a14, c14, rfl, hZ⟩ := hcut
      have hW2 : Hid (Below w2.heap.size w2 wc) := btr hW.out hZ.out.1
      have HSR : Hid (SR wc (.slice a14 rs'.length c14) rs') := hZ.out.2.1
      have HLN : Hid (rs'.length ≤ 9223372036854775807 ∧ ∀ k (h : k < rs'.length), rs'[k].args.length ≤ 9223372036854775807) := hZ.out.2.2
      have HRC : Hid (RR wc b o rs vs) := HRR.out.below hW2.out
      obtain ⟨i4, hi4, hz4, hs4, hb4⟩ := info_parts Tryd.info45
      have HI4 : Hid (Tryd.prog.info? 45 = some i4) := hi4
      have HZ4 : Hid (i4.zero = some zRow ∧ i4.size = 6 ∧ i4.bytes = 80) := ⟨hz4, hs4, hb4⟩
      clear hZ hVW m4 m5 hW hi4 hz4 hs4 hb4 hbl
      go_wp2
      go_loopw [17, 159] (fun v17 v159 wr => ∃ k : Nat, k ≤ rs.length ∧ v159 = .int .i64 k ∧ Hid (KP wc wr v17 j M k rs vs)) (fun _ v159 _ => rs.length - (intOf v159).toNat)
      case atStart => exact ⟨0, Nat.zero_le _, rfl, Below.refl _ _, World.ownsRow_nil _ _ _ _⟩
      case round =>
        obtain ⟨k, hk, rfl, hK⟩ := hrel
        obtain ⟨a17, c17, rfl⟩ := hK.out.len
        have hkl := keepN_len j M k
        by_cases hlt3 : k < rs.length
        case pos =>
          have hkv : k < vs.length := by rw [← HVS.out]; exact hlt3
          have r := HRC.out.below hK.out.below
          obtain ⟨xa, ya, eva, _, _⟩ := HA.out k hlt3 hkv
          have m0 := r.c0 k hlt3
          have m1 := r.c1 k hlt3
          have m2 := r.c2 k hlt3 hkv
          have m3 := r.c3 k hlt3
          have m4 := r.c4 k hlt3
          have m5 := r.c5 k hlt3
          have hbl := r.lt
          rw [eva] at m2
          obtain ⟨h4a, h4b⟩ := H4.out k hlt3
          have HADJ : Hid (adjR j M rs k = if k < j ∧ (j : Int) ≤ k + rs[k].rows then ⟨rs[k].kind, rs[k].name, rs[k].args, rs[k].num, rs[k].rows - M, rs[k].place⟩ else rs[k]) := by
            show _ = _
            unfold adjR
            rw [List.getD_eq_getElem?_getD, List.getElem?_eq_getElem hlt3]
            rfl
          have EV : Hid (vs[k] = .slice xa rs[k].args.length ya) := eva
          clear r eva
          generalize rs[k] = row at *
          obtain ⟨K, nm, aa, nu, ro, pl⟩ := row
          simp only at m0 m1 m2 m3 m4 m5 h4a h4b
          by_cases hsk : j ≤ k ∧ k < nx
          · obtain ⟨hs1, hs2⟩ := hsk
            go_wp2
            go_roundw
            case rel => exact ⟨k + 1, by omega, by go_num, hK.out.skip (bal (Below.refl _ _) _) hs1 (by have := HNX.out; omega)⟩
            case measure => simp [intOf]; omega
          have HOUT : Hid (k < j ∨ j + M ≤ k) := by have := HNX.out; show _ ∨ _; omega
          by_cases hadj : k < j ∧ (j : Int) ≤ (k : Int) + ro
          · obtain ⟨hkj, hge⟩ := hadj
            have hk1 : ¬ j ≤ k := by omega
            have hk2 : ¬ (j : Int) ≤ (k : Int) := by omega
            have hk3 : (k : Int) < (j : Int) := by omega
            have HR : Hid (adjR j M rs k = ⟨K, nm, aa, nu, ro - ((nx : Int) - (j : Int)), pl⟩) := by
              show _ = _
              rw [HADJ.out, if_pos ⟨hkj, hge⟩]
              simp only
              rw [show ro - (M : Int) = ro - ((nx : Int) - (j : Int)) by have := HNX.out; omega]
            clear HADJ hsk
            go_wp2_with (at_builtin; refine wpList_append_own_at _ rfl _ _ 23 rfl wc.heap.size 45 i4 zRow 6 80 Tryd.underlying23 HI4.out HZ4.out.1 HZ4.out.2.1 HZ4.out.2.2 rfl (by decide) _ (keepN j M k).length (rws ((keepN j M k).map (adjR j M rs)) ((keepN j M k).map fun x => vs.getD x (.slice none 0 0))) rfl (hK.out.on (bal (bal (Below.refl _ _) _) _)).own ⟨_, 0, none⟩ 1 1 (rwc (⟨K, nm, aa, nu, ro - ((nx : Int) - (j : Int)), pl⟩ : Rw) (.slice xa aa.length ya)) rfl rfl (new_row _ _ (by simp) (⟨K, nm, aa, nu, ro - ((nx : Int) - (j : Int)), pl⟩ : Rw) (.slice xa aa.length ya)) (one_row _ _ _ _) (by unfold maxLen; omega) (by omega) (hK.out.on (bal (bal (Below.refl _ _) _) _)).below.size ?_; intro v5 w5 hown5 hgrow5 hnil5 hloc5; have hZ5 : Hid (KP wc w5 v5 j M (k + 1) rs vs) := (hK.out.on (bal (bal (Below.refl _ _) _) _)).put hkv HOUT.out HR.out EV.out hgrow5 hown5; clear hown5 hgrow5 hnil5 hloc5)
            go_roundw
            case rel => exact ⟨k + 1, by omega, by go_num, hZ5⟩
            case measure => simp [intOf]; omega
          have HR : Hid (adjR j M rs k = ⟨K, nm, aa, nu, ro, pl⟩) := by
            show _ = _
            rw [HADJ.out, if_neg hadj]
          have hways : (k < j ∧ ¬ (j : Int) ≤ (k : Int) + ro) ∨ (¬ k < j ∧ ¬ k < nx) := by omega
          clear HADJ hsk hadj
          rcases hways with ⟨hkj, hge⟩ | ⟨hkj, hge⟩
          all_goals
            have hk3 : ((k : Int) < (j : Int)) ↔ k < j := by omega
            have hk4 : ((k : Int) < (nx : Int)) ↔ k < nx := by omega
            have hk5 : ((j : Int) ≤ (k : Int)) ↔ ¬ k < j := by omega
            go_wp2_with (at_builtin; refine wpList_append_own_at _ rfl _ _ 23 rfl wc.heap.size 45 i4 zRow 6 80 Tryd.underlying23 HI4.out HZ4.out.1 HZ4.out.2.1 HZ4.out.2.2 rfl (by decide) _ (keepN j M k).length (rws ((keepN j M k).map (adjR j M rs)) ((keepN j M k).map fun x => vs.getD x (.slice none 0 0))) rfl (hK.out.on (bal (bal (Below.refl _ _) _) _)).own ⟨_, 0, none⟩ 1 1 (rwc (⟨K, nm, aa, nu, ro, pl⟩ : Rw) (.slice xa aa.length ya)) rfl rfl (new_row _ _ (by simp) (⟨K, nm, aa, nu, ro, pl⟩ : Rw) (.slice xa aa.length ya)) (one_row _ _ _ _) (by unfold maxLen; omega) (by omega) (hK.out.on (bal (bal (Below.refl _ _) _) _)).below.size ?_; intro v5 w5 hown5 hgrow5 hnil5 hloc5; have hZ5 : Hid (KP wc w5 v5 j M (k + 1) rs vs) := (hK.out.on (bal (bal (Below.refl _ _) _) _)).put hkv HOUT.out HR.out EV.out hgrow5 hown5; clear hown5 hgrow5 hnil5 hloc5)
            go_roundw
            case rel => exact ⟨k + 1, by omega, by go_num, hZ5⟩
            case measure => simp [intOf]; omega
        case neg =>
        obtain rfl : k = rs.length := by omega
        have SM := same_any rs' (cutR j M rs) (.slice a14 rs'.length c14) _ false wr (HSR.out.below hK.out.below) (hK.out.sr HVS.out (fun k h h' => (HA.out k h h').below (btr hW2.out hK.out.below))) HLN.out.1 HLN.out.2
        go_wp2_with (go_at_call 11; (with_reducible refine SM.mono ?_); rintro e w6 ⟨hS6, hB6⟩; obtain ⟨b6, rfl, hb6⟩ := hS6; obtain rfl : b6 = true := hb6.2 (same_of_rl HRL.out); clear hb6)
        go_ret
        exact ⟨rfl, btr (btr (btr HB.out hW2.out) hK.out.below) hB6⟩
end Go.Proofs.YtiepbfeliehjnaaDoor
