/-
  Put together of: GW GL GQ.
-/
import Derived.Test.YtdjfpghgklkejaaGreatDoorXR
import Derived.Test.YtdjfpghgklkejaaGreatDoorXS
import Derived.Test.YtdjfpghgklkejaaGreatDoorYD
namespace Go.Proofs.YtdjfpghgklkejaaGreatDoor

theorem fl_unr {rs more : List Rw} {c : Ci} {p : Int} {i : Nat} (h : FlS rs c p 0) (hu : unr rs = some (i, more)) {c' : Ci} {p' : Int} {e' : Nat} (h' : FlS more c' p' e') : c' = c ∧ e' = 0 := by
  unfold FlS at h h'
  split at h
  · rename_i x hx
    exact absurd h.2.2.symm (lookB_no _ _ _ _ _ hx)
  · rename_i en L hx
    obtain ⟨L', g, hE⟩ := unr_look _ rs (Nat.le_refl _) en0 en sd0 L hx rfl i more hu
    rw [g _ (Nat.lt_succ_self _)] at h'
    dsimp only at h'
    rw [← hE.op, ← hE.len] at h'
    split at h
    · exact absurd h.2.1 (by decide)
    · rename_i hl
      split at h
      · rename_i hk
        simp only [if_neg hl, if_pos hk] at h'
        exact ⟨h'.1.trans h.1.symm, h'.2.2⟩
      · rename_i hk
        exact absurd h.2.1.symm hk
end Go.Proofs.YtdjfpghgklkejaaGreatDoor
namespace Go.Proofs.YtdjfpghgklkejaaGreatDoor
open Go.RowKit Go.Sort

theorem fl_look {rs : List Rw} {c : Ci} {p : Int} (h : FlS rs c p 0) : ∃ en L, lookB (rs.length + 1) en0 sd0 rs = .ok (en, L) := by
  unfold FlS at h
  split at h
  · rename_i x hx
    exact absurd h.2.2.symm (lookB_no _ _ _ _ _ hx)
  · rename_i en L hx
    exact ⟨en, L, hx⟩
/-- What unrolled tells of rows that Flat takes. -/
def UnO (W W' : World) (rs : List Rw) (e : Ending) : Prop :=
  Below W.heap.size W W' ∧ ((unr rs = none ∧ e = .returned (.tuple #[.slice none 0 0, .bool false])) ∨ ∃ i more v, unr rs = some (i, more) ∧ SR W' v more ∧ SzR more ∧ more.length ≤ 6000000000000 ∧ e = .returned (.tuple #[v, .bool true]))
theorem heavy_any (a : Option Addr) (n c : Nat) (w : World) (h : n ≤ 20000) : Calls Tryz.prog 10 #[.slice a n c] w fun e w' => e = .returned (.bool false) ∧ w' = w := by
  have h2 : ¬ (20000 : Int) < (n : Nat) := by omega
  go_enter Tryz.func10, Tryz.ntmps10
  go_wp2
  go_ret
  exact ⟨rfl, rfl⟩
theorem heavy_big (a : Option Addr) (n c : Nat) (w : World) (h : ¬ n ≤ 20000) : Calls Tryz.prog 10 #[.slice a n c] w fun e w' => e = .returned (.bool true) ∧ w' = w := by
  have h2 : (20000 : Int) < (n : Nat) := by omega
  go_enter Tryz.func10, Tryz.ntmps10
  go_wp2
  go_ret
  exact ⟨rfl, rfl⟩
set_option maxHeartbeats 1000000 in
set_option maxRecDepth 100000 in
theorem unrolls_of (HU : ∀ (W : World) (v : Value) (rs : List Rw), SR W v rs → SzR rs → rs.length ≤ 20000 → (∃ en L, lookB (rs.length + 1) en0 sd0 rs = .ok (en, L)) → Calls Tryz.prog 19 #[v] W fun e W' => UnO W W' rs e)
    (w : World) (v : Value) (rs : List Rw) (hv : VR w) (hs : SR w v rs) (hz : SzR rs) :
    Calls Tryz.prog 8 #[v] w fun e w' => e = .returned (.bool true) ∧ Below w.heap.size w w' := by
  obtain ⟨a, c, vs, rfl, hr⟩ := hs
  have HSR : Hid (∀ w', Below w.heap.size w w' → SR w' (.slice a rs.length c) rs) := fun w' h => SR.below ⟨a, c, vs, rfl, hr⟩ h
  have AL := alive_any w hv
  clear hr hv
  by_cases hl : rs.length ≤ 20000
  · have HE := fun w => heavy_any a rs.length c w hl
    go_enter Tryz.func8, Tryz.ntmps8
    go_wp2_with (first
      | (go_at_call 9; (with_reducible refine AL.mono ?_); rintro x w1 ⟨rfl, hB1⟩)
      | (go_at_call 10; (with_reducible refine (HE _).mono ?_); rintro x w1' ⟨rfl, rfl⟩)
      | (go_at_call 12; refine Hid.out ?_))
    refine hid ?_
    have HFl := flat_any _ _ rs (HSR.out _ hB1) hz (by omega)
    refine HFl.mono ?_
    rintro x w2 ⟨hB2, ci, p, er, hS, hc⟩
    have BW := btr hB1 hB2
    clear AL HE HFl
    rcases hc with ⟨her, rfl⟩ | ⟨rfl, oa, ok, vs1, hOM, rfl⟩
    · have e1 : ¬ ((er : Nat) : Int) = 0 := by omega
      have SM := fun w => same_none w
      clear HU hS
      go_wp2_with (go_at_call 13; (with_reducible refine (SM _).mono ?_); rintro x w3 ⟨rfl, hB3⟩)
      go_ret
      exact ⟨rfl, btr (bal BW _) hB3⟩
    · have hLk := fl_look hS
      obtain ⟨a', c', e, hOS⟩ := hOM.read
      cases e
      clear hOM
      go_wp2_with (go_at_call 19; refine Hid.out ?_)
      refine hid ?_
      refine (HU _ _ rs (HSR.out _ (bal BW _)) hz hl hLk).mono ?_
      rintro x w3 ⟨hB3, hc3⟩
      have BW3 := btr (bal BW _) hB3
      rcases hc3 with ⟨_, rfl⟩ | ⟨i, more, v2, hu, hSR2, hz2, hl2, rfl⟩
      · clear hS hOS
        go_wp2
        go_ret
        exact ⟨rfl, BW3⟩
      · go_wp2_with (go_at_call 12; refine Hid.out ?_)
        refine hid ?_
        refine (flat_any _ v2 more hSR2 hz2 hl2).mono ?_
        rintro x w4 ⟨hB4, ci2, p2, er2, hS2, hc4⟩
        obtain ⟨rfl, rfl⟩ := fl_unr hS hu hS2
        rcases hc4 with ⟨h0, _⟩ | ⟨_, oa2, ok2, vs2, hOM2, rfl⟩
        · exact absurd rfl h0
        obtain ⟨a2', c2', e, hOS2⟩ := hOM2.read
        cases e
        have K0 : BK w3 w2.heap.size (cic ci2 oa ok) 27 := (hB3.block _ (bk_new w2 (cic ci2 oa ok) 27).lt).trans (bk_new w2 (cic ci2 oa ok) 27)
        have K1 : BK w4 w2.heap.size (cic ci2 oa ok) 27 := (hB4.block _ K0.lt).trans K0
        have x1 : ∀ j, w4.cell? ⟨w2.heap.size, j, none⟩ = _ := K1.cell
        have z1 := K1.lt
        have BW4 := btr BW3 hB4
        have HO1 := hid (hOS.below (btr (btr (bal (Below.refl w2.heap.size w2) (.cells (cic ci2 oa ok) 27)) hB3) hB4))
        have HO2 := hid hOS2
        clear hS hS2 hOM2 hOS hOS2 K0 K1 hu hSR2 HSR HU hLk hz2
        go_wp2_with (go_at_call 13; refine Hid.out ?_)
        refine hid ?_
        refine (sameC_any ci2 oa oa2 ok ok2 _ _ _ _ _ (HO1.out.below (bal (Below.refl _ _) _)) (HO2.out.below (bal (Below.refl _ _) _))).mono ?_
        rintro x w5 ⟨rfl, hB5⟩
        go_wp2
        go_ret
        exact ⟨rfl, btr (bal BW4 _) hB5⟩
  · have HE := fun w => heavy_big a rs.length c w hl
    go_enter Tryz.func8, Tryz.ntmps8
    go_wp2_with (first
      | (go_at_call 9; (with_reducible refine AL.mono ?_); rintro x w1 ⟨rfl, hB1⟩)
      | (go_at_call 10; (with_reducible refine (HE _).mono ?_); rintro x w1' ⟨rfl, rfl⟩))
    go_ret
    exact ⟨rfl, hB1⟩
end Go.Proofs.YtdjfpghgklkejaaGreatDoor
namespace Go.Proofs.YtdjfpghgklkejaaGreatDoor
open Go.RowKit Go.Sort

/-- A row that is owned from B on lies in none of the blocks ahead. -/
theorem own_away {w : World} {B T c n k : Nat} {v : Value} {xs : List Value} (h : w.ownsRow B T c v n xs) (hk : k < B) : some k ≠ v.ownBlock := fun e => by
  rcases h.2 with ⟨rfl, _⟩ | ⟨g, cap, cur, rfl, hb, _⟩
  · cases e
  · have e : some k = some g := e
    have := Option.some.inj e
    omega
theorem own_empty (w : World) (B : Nat) (hB : B ≤ w.heap.size) : (w.alloc (.cells #[] 79)).ownsRow B 79 6 (.slice (some ⟨w.heap.size, 0, none⟩) 0 0) 0 [] :=
  ⟨rfl, .inr ⟨w.heap.size, 0, #[], rfl, hB, heap_alloc_new w _, Nat.le_refl _, Nat.zero_le _, rfl, rfl⟩⟩
theorem own_empty2 (w : World) (x : Obj) : ((w.alloc x).alloc (.cells #[] 79)).ownsRow (w.heap.size + 1) 79 6 (.slice (some ⟨w.heap.size + 1, 0, none⟩) 0 0) 0 [] := by
  have e : (w.alloc x).heap.size = w.heap.size + 1 := by simp
  have := own_empty (w.alloc x) (w.heap.size + 1) (Nat.le_of_eq e.symm)
  rwa [e] at this
/-- The row that is written out at rb, the rows that were laid so far. -/
structure UQ (W : World) (rb : Nat) (rc : Array Value) (v : Value) (T : RVs) (w : World) : Prop where
  own : w.ownsRow (rb + 1) 79 6 v T.length (rz T)
  bk : BK w rb rc 79
  blw : Below W.heap.size W w
  lo : W.heap.size ≤ rb
theorem UQ.grow {W w w' : World} {rb : Nat} {rc : Array Value} {v v' : Value} {T T' : RVs} (h : UQ W rb rc v T w) (g : w.grownBy w' v.ownBlock) (o : w'.ownsRow (rb + 1) 79 6 v' T'.length (rz T')) : UQ W rb rc v' T' w' :=
  ⟨o, (g.block rb h.bk.lt (own_away h.own (Nat.lt_succ_self _))).trans h.bk,
   ⟨g.os.trans h.blw.os, g.tape.trans h.blw.tape, g.output.trans h.blw.output, Nat.le_trans h.blw.size g.size, fun k hk => (g.block k (Nat.lt_of_lt_of_le hk h.blw.size) (own_away h.own (by have := h.lo; omega))).trans (h.blw.block k hk)⟩, h.lo⟩
theorem UQ.app {W w w' : World} {rb n m : Nat} {rc : Array Value} {v v' : Value} {T N : RVs} (h : UQ W rb rc v T w) (g : w.grownBy w' v.ownBlock) (hm : m = N.length) (hn : n = T.length) (o : w'.ownsRow (rb + 1) 79 6 v' (n + m) (rz T ++ rz N)) : UQ W rb rc v' (T ++ N) w' := by
  subst hm
  subst hn
  exact h.grow g (by rw [List.length_append, rz_app]; exact o)
theorem UQ.set {W w : World} {rb g n cap kk : Nat} {rc : Array Value} {T : RVs} (h : UQ W rb rc (.slice (some ⟨g, 0, none⟩) n cap) T w) (hn : n = T.length) (hk : kk < T.length) (x : Int) :
    UQ W rb rc (.slice (some ⟨g, 0, none⟩) n cap) (T.set kk (wrow T[kk].1 x, T[kk].2)) (w.setCell ⟨g, kk * 6 + 4, none⟩ (.int .i64 x)) := by
  subst hn
  have ho := own_setc h.own (k := kk * 6 + 4) (by omega) (.int .i64 x)
  rw [rz_set T kk hk x] at ho
  exact h.grow (gb_set (gb_refl w g) g (kk * 6 + 4) (.int .i64 x) (.inl rfl)) (by rw [List.length_set]; exact ho)
theorem adj_mem (d : Int) : ∀ (n : Nat) (rs : List Rw) (r : Rw), r ∈ adj d n rs → ∃ s ∈ rs, r = s ∨ r = wrow s (s.rows + d)
  | 0, rs, r, h => by cases rs <;> cases h
  | n + 1, [], r, h => by cases h
  | n + 1, x :: rs, r, h => by
    rcases List.mem_cons.1 (show r ∈ _ :: adj d n rs from h) with e | h
    · refine ⟨x, List.mem_cons_self, ?_⟩
      split at e
      · exact .inr e
      · exact .inl e
    · obtain ⟨s, hs, e⟩ := adj_mem d n rs r h
      exact ⟨s, List.mem_cons_of_mem _ hs, e⟩
theorem prod_b {n r : Int} (h : 0 ≤ n ∧ n ≤ 20) (g : 0 ≤ r ∧ r ≤ 20000) : -20000 ≤ (n - 1) * r ∧ (n - 1) * r ≤ 400000 := by
  obtain ⟨a, rfl⟩ := Int.eq_ofNat_of_zero_le h.1
  obtain ⟨b, rfl⟩ := Int.eq_ofNat_of_zero_le g.1
  have h1 : a * b ≤ 20 * 20000 := Nat.mul_le_mul (by omega) (by omega)
  have h2 : ((a : Int) - 1) * b = ((a * b : Nat) : Int) - b := by rw [Int.sub_mul, Int.one_mul, Int.natCast_mul]
  omega
theorem unf_sz {rs more : List Rw} {k : Nat} {t : Rw} (hU : Unf rs k more t) (hz : SzR rs) (hc : Cw rs) (hl : rs.length ≤ 20000) : SzR more ∧ more.length ≤ 6000000000000 := by
  have hr := hU.rows
  have hb := prod_b hU.num ⟨hr.1, by omega⟩
  have hlen := hU.len
  refine ⟨fun r hm => ?_, by omega⟩
  rw [hU.is, List.mem_append, List.mem_append] at hm
  rcases hm with hm | hm | hm
  · obtain ⟨s, hs, e⟩ := adj_mem _ _ _ _ hm
    rcases e with rfl | rfl
    · exact hz _ hs
    · obtain ⟨z1, z2, z3, z4, z5, z6, z7⟩ := hz _ hs
      obtain ⟨i, hi, rfl⟩ := List.getElem_of_mem hs
      have hci := hc.at_ i hi
      exact ⟨z1, z2, z3, z4, z5, by show _ ≤ rs[i].rows + _; omega, by show rs[i].rows + _ ≤ _; omega⟩
  · obtain ⟨l, h1, h2⟩ := List.mem_flatten.1 hm
    obtain rfl := (List.mem_replicate.1 h1).2
    exact hz _ (List.mem_of_mem_drop (List.mem_of_mem_take h2))
  · exact hz _ (List.mem_of_mem_drop hm)
theorem unf_fst {rs more : List Rw} {ts : RVs} {k : Nat} {t : Rw} (hU : Unf rs k more t) (hts : ts.map Prod.fst = rs) (hk : k ≤ rs.length) :
    (adjT ((t.num - 1) * t.rows - 1) k (ts.take k) ++ (List.replicate t.num.toNat ((ts.drop (k + 1)).take t.rows.toNat)).flatten ++ ts.drop (k + 1 + t.rows.toNat)).map Prod.fst = more := by
  have hl : (ts.take k).length = k := by rw [List.length_take]; have : ts.length = rs.length := by rw [← hts, List.length_map]
                                         omega
  have h1 := adjT_fst ((t.num - 1) * t.rows - 1) (ts.take k)
  rw [hl, List.map_take, hts] at h1
  have h2 := adj_app ((t.num - 1) * t.rows - 1) (rs.take k) (rs.drop k) k (by rw [List.length_take]; omega)
  rw [List.take_append_drop] at h2
  rw [List.map_append, List.map_append, h1, ← h2, List.map_flatten, List.map_replicate, List.map_take, List.map_drop, List.map_drop, hts, hU.is, List.append_assoc]
theorem lit_gate : (wGate.toList == [103, 97, 116, 101]) = true := by rw [ByteArray.toList_eq]; rfl
theorem lit_repeat : (wRepeat.toList == [114, 101, 112, 101, 97, 116]) = true := by rw [ByteArray.toList_eq]; rfl
set_option maxHeartbeats 2000000 in
set_option maxRecDepth 100000 in
theorem unrolled_any (W : World) (v : Value) (rs : List Rw) (hS : SR W v rs) (hz : SzR rs) (hl : rs.length ≤ 20000) (hk : ∃ en L, lookB (rs.length + 1) en0 sd0 rs = .ok (en, L)) :
    Calls Tryz.prog 19 #[v] W fun e W' => UnO W W' rs e := by
  obtain ⟨en, L, hk⟩ := hk
  have HCW : Hid (Cw rs) := cw_look rs.length rs (Nat.le_refl _) _ _ _ _ hk
  have HUF : Hid (∀ i more, unr rs = some (i, more) → ∃ t, Unf rs i more t) := unr_flat rs.length rs (Nat.le_refl _) _ _ _ _ hk
  have HSZ := hid hz
  clear hk hz en L
  obtain ⟨a, c, hc, rfl⟩ : ∃ a c, rs.length ≤ c ∧ v = .slice a rs.length c := by
    obtain ⟨a, c, vs, e, hc, _⟩ := hS
    exact ⟨a, c, hc, e⟩
  have HS := hid hS
  clear hS
  obtain ⟨i7, hi7, hz7, hs7, hb7⟩ := info_parts Tryz.info79
  have HI7 := hid hi7
  clear hi7
  go_enter Tryz.func19, Tryz.ntmps19
  go_wp2
  go_loopw [4] (fun s wr => ∃ k : Nat, s = .int .i64 (k : Nat) ∧ Rch rs k ∧ Below W.heap.size W wr) (fun s _ => rs.length - (intOf s).toNat)
  case atStart => exact ⟨0, rfl, Rch.zero rs, Below.refl _ _⟩
  case round =>
    obtain ⟨k, rfl, hR, hB⟩ := hrel
    by_cases hlt : k < rs.length
    case neg =>
      obtain rfl : k = rs.length := by have := hR.le; omega
      go_wp2
      exact bodyPost_ret (v := .tuple #[.slice none 0 0, .bool false]) (by simp [results, Tryz.results19, go_sem]) rfl ⟨hB, .inl ⟨hR.end_, rfl⟩⟩
    obtain ⟨b, o, ts, rfl, hn, hc2, hts, hb, hZ⟩ := sr_rz HS.out (by omega)
    have HZ := hid hZ
    replace hn := hn.symm
    have hvl : (ts.map Prod.snd).length = ts.length := List.length_map _
    have hsa : SA W ((ts.map Prod.snd)[k]'(by omega)) ((ts[k]'(by omega)).1.args) := by rw [List.getElem_map]; exact hZ.sa _ (List.getElem_mem _)
    have r : RR wr b o rs (ts.map Prod.snd) := by have := (hZ.on hB).at_; rwa [hts] at this
    have m0 := r.c0 k hlt
    have m1 := r.c1 k hlt
    have m2 := r.c2 k hlt (by omega)
    have m3 := r.c3 k hlt
    have m4 := r.c4 k hlt
    have m5 := r.c5 k hlt
    have hbl := r.lt
    have hcw := HCW.out.at_ k hlt
    have hsz := HSZ.out _ (List.getElem_mem hlt)
    have HK : Hid (rs[k]? = some rs[k] ∧ (¬ rs[k].kind = wGate → ¬ (rs[k].kind = wRepeat ∧ rs[k].num ≤ 20) → Rch rs (k + 1)) ∧ (rs[k].kind = wGate → Rch rs (k + rs[k].rows.toNat + 1)) ∧ (rs[k].kind = wRepeat → rs[k].num ≤ 20 → ∃ more, unr rs = some (k, more))) :=
      ⟨List.getElem?_eq_getElem hlt, hR.next hlt, fun h => hR.gate hlt h hcw.2, hR.hit hlt⟩
    obtain ⟨aa, ac, e2⟩ : ∃ aa ac, (ts.map Prod.snd)[k]'(by omega) = .slice aa ((ts[k]'(by omega)).1.args).length ac := by
      obtain ⟨aa, ac, e, _⟩ := hsa
      exact ⟨aa, ac, e⟩
    clear hsa
    generalize (ts.map Prod.snd)[k]'(by omega) = av at m2 e2
    subst e2
    generalize ((ts[k]'(by omega)).1.args).length = an at m2
    clear r hZ hvl hR
    generalize rs[k] = t at *
    by_cases hg : t.kind = wGate
    · have hG : (t.kind.toList == [103, 97, 116, 101]) = true := by rw [hg]; exact lit_gate
      go_wp2
      exact ⟨⟨k + t.rows.toNat + 1, by congr 1; omega, HK.out.2.2.1 hg, bal hB _⟩, by simp only [intOf]; omega⟩
    · have hG : (t.kind.toList == [103, 97, 116, 101]) = false := ne_lit hg
      by_cases hr : t.kind = wRepeat
      case neg =>
        have hP : (t.kind.toList == [114, 101, 112, 101, 97, 116]) = false := ne_lit hr
        go_wp2
        exact ⟨⟨k + 1, by congr 1, HK.out.2.1 hg (fun h => hr h.1), bal hB _⟩, by simp only [intOf]; omega⟩
      have hP : (t.kind.toList == [114, 101, 112, 101, 97, 116]) = true := by rw [hr]; exact lit_repeat
      by_cases hn20 : t.num ≤ 20
      case neg =>
        go_wp2
        exact ⟨⟨k + 1, by congr 1, HK.out.2.1 hg (fun h => hn20 h.2), bal hB _⟩, by simp only [intOf]; omega⟩
      obtain ⟨more, hmore⟩ := HK.out.2.2.2 hr hn20
      obtain ⟨t', hU⟩ := HUF.out k more hmore
      obtain rfl : t = t' := Option.some.inj (HK.out.1.symm.trans hU.at_)
      have hnum := hU.num
      have HU := hid hU
      clear hU
      obtain ⟨tk, tn, ta, tnum, trows, tp⟩ := t
      simp only at *
      subst hr
      obtain ⟨nn, rfl⟩ := Int.eq_ofNat_of_zero_le hnum.1
      obtain ⟨rn, rfl⟩ := Int.eq_ofNat_of_zero_le hcw.1
      obtain ⟨rb, hrb⟩ : ∃ rb, rb = wr.heap.size := ⟨_, rfl⟩
      have C1 := fun w => run_cut_both b o rs.length c (k + 1) (k + 1 + rn) (by omega) (by omega) w
      have C2 := fun w => run_cut_lo b o rs.length c (k + 1 + rn) (by omega) w
      simp only [Int.natCast_add, Int.cast_ofNat_Int, Nat.add_sub_cancel_left] at C1 C2
      go_wp2_with (at_builtin; refine Hid.out ?_)
      refine hid ?_
      refine wpList_append_own_at _ rfl _ _ 22 rfl (wr.heap.size + 1) 79 i7 zRow 6 80 Tryz.underlying22 HI7.out hz7 hs7 hb7 rfl (by decide) _ 0 [] rfl (own_empty2 _ _) ⟨b, o, none⟩ k c (rz (ts.take k)) rfl (by rw [rz_len, List.length_take]; omega) ((HZ.out.take k).on (bal (bal hB _) _)).news (rz_one _ (HZ.out.take k).one) (by unfold maxLen; omega) (by omega) (by simp) ?_
      intro v6 w6 hO6 hG6 hN6 hL6
      have hU0 : UQ W wr.heap.size #[.string wRepeat, .string tn, .slice aa an ac, .int .i64 (nn : Int), .int .i64 (rn : Int), .int .i64 tp] (.slice (some ⟨wr.heap.size + 1, 0, none⟩) 0 0) [] ((wr.alloc (.cells #[.string wRepeat, .string tn, .slice aa an ac, .int .i64 (nn : Int), .int .i64 (rn : Int), .int .i64 tp] 79)).alloc (.cells #[] 79)) := ⟨own_empty2 _ _, (bk_new wr _ 79).alloc _, bal (bal hB _) _, hB.size⟩
      have hU6 := hU0.app (N := ts.take k) hG6 (by rw [List.length_take]; omega) rfl hO6
      rw [List.nil_append] at hU6
      clear hU0 hO6 hG6 hN6 hL6 m0 m1 m2 m3 m4 m5 hbl hG hP hg HK
      rw [← hrb] at *
      have d6 := hU6.bk.cell
      have l6 := hU6.bk.lt
      have HU6 := hid hU6
      clear hU6
      go_wp2
      go_loopw [6, 8] (fun s6 s8 wx => ∃ j : Nat, j ≤ nn ∧ s8 = .int .i64 (j : Nat) ∧ UQ W rb #[.string wRepeat, .string tn, .slice aa an ac, .int .i64 (nn : Int), .int .i64 (rn : Int), .int .i64 tp] s6 (ts.take k ++ (List.replicate j ((ts.drop (k + 1)).take rn)).flatten) wx) (fun _ s8 _ => nn - (intOf s8).toNat)
      case atStart => exact ⟨0, Nat.zero_le _, rfl, by rw [List.replicate_zero, List.flatten_nil, List.append_nil]; exact HU6.out⟩
      case round =>
        obtain ⟨j, hj, rfl, hX⟩ := hrel
        have d7 := hX.bk.cell
        have l7 := hX.bk.lt
        have HX := hid hX
        clear d6 l6 HU6 hX
        by_cases hjn : j < nn
        · go_wp2_with (at_builtin; refine Hid.out ?_)
          refine hid ?_
          have hbl : ((ts.drop (k + 1)).take rn).length = rn := by rw [List.length_take, List.length_drop]; omega
          have hTl : (ts.take k ++ (List.replicate j ((ts.drop (k + 1)).take rn)).flatten).length ≤ 420000 := by
            rw [List.length_append, List.length_take, List.length_flatten, List.map_replicate, List.sum_replicate_nat, hbl]
            have : j * rn ≤ 20 * 20000 := Nat.mul_le_mul (by omega) (by omega)
            omega
          refine wpList_append_own_at _ rfl _ _ 22 rfl (rb + 1) 79 i7 zRow 6 80 Tryz.underlying22 HI7.out hz7 hs7 hb7 rfl (by decide) _ _ _ rfl HX.out.own ⟨b, cutO o c (k + 1), none⟩ rn (c - (k + 1)) (rz ((ts.drop (k + 1)).take rn)) rfl (by rw [rz_len, hbl]) (((HZ.out.cut hc2 (k + 1)).take rn).on HX.out.blw).news (rz_one _ ((HZ.out.cut hc2 (k + 1)).take rn).one) (by unfold maxLen; omega) (by omega) HX.out.bk.lt ?_
          intro v6' w6' hO6 hG6 hN6 hL6
          have hY := HX.out.app (N := (ts.drop (k + 1)).take rn) hG6 hbl.symm rfl hO6
          clear hO6 hG6 hN6 hL6 HX
          go_wp2
          refine ⟨⟨j + 1, by omega, rfl, ?_⟩, by simp only [intOf]; omega⟩
          rw [List.replicate_succ', List.flatten_append, List.flatten_singleton, ← List.append_assoc]
          exact hY
        · obtain rfl : nn = j := by omega
          obtain ⟨dd, hdd⟩ : ∃ dd : Int, ((nn : Int) - 1) * (rn : Int) = dd := ⟨_, rfl⟩
          have hd1 := prod_b hnum (r := (rn : Int)) ⟨hcw.1, by omega⟩
          rw [hdd] at hd1
          have hbl : ((ts.drop (k + 1)).take rn).length = rn := by rw [List.length_take, List.length_drop]; omega
          have hkl : (ts.take k).length = k := by rw [List.length_take]; omega
          have hTl : (ts.take k ++ (List.replicate nn ((ts.drop (k + 1)).take rn)).flatten).length ≤ 420000 := by
            rw [List.length_append, List.length_take, List.length_flatten, List.map_replicate, List.sum_replicate_nat, hbl]
            have : nn * rn ≤ 20 * 20000 := Nat.mul_le_mul (by omega) (by omega)
            omega
          have HE := hid (adjK_end (dd - 1) (ts.take k) (List.replicate nn ((ts.drop (k + 1)).take rn)).flatten)
          rw [hkl] at HE
          have HTA : Hid (∀ i (h : i < k), ∃ h', (ts.take k ++ (List.replicate nn ((ts.drop (k + 1)).take rn)).flatten)[i]'h' = ts[i]'(by omega)) := fun i h => ⟨by rw [List.length_append]; omega, by rw [List.getElem_append_left (by omega), List.getElem_take]⟩
          have hTk : k ≤ (ts.take k ++ (List.replicate nn ((ts.drop (k + 1)).take rn)).flatten).length := by rw [List.length_append]; omega
          generalize ts.take k ++ (List.replicate nn ((ts.drop (k + 1)).take rn)).flatten = T2 at *
          obtain ⟨ga, gc, rfl⟩ := own_shape HX.out.own
          go_wp2
          go_loopw [10] (fun s10 wx => ∃ kk : Nat, kk ≤ k ∧ s10 = .int .i64 (kk : Nat) ∧ UQ W rb #[.string wRepeat, .string tn, .slice aa an ac, .int .i64 (nn : Int), .int .i64 (rn : Int), .int .i64 tp] (.slice ga T2.length gc) (adjK (dd - 1) k kk T2) wx) (fun s10 _ => k - (intOf s10).toNat)
          case atStart => exact ⟨0, Nat.zero_le _, rfl, HX.out⟩
          case round =>
            obtain ⟨kk, hkk, rfl, hX⟩ := hrel
            have hlK := adjK_len (dd - 1) k kk T2
            clear d7 l7 HX
            by_cases hkn : kk < k
            · have hkT : kk < T2.length := by omega
              have hkL : kk < (adjK (dd - 1) k kk T2).length := by omega
              have hown := hX.own
              rw [hlK] at hown
              obtain ⟨g, cap, e1, hcap, hfz, hcell, hgb, hgl⟩ := own_at hown (by omega)
              injection e1 with e1 e2 e3
              subst e1
              subst e3
              have hat : (adjK (dd - 1) k kk T2)[kk] = T2[kk] := by
                have := adjK_at (dd - 1) k kk T2 hkT
                rw [List.getElem?_eq_getElem hkL] at this
                exact Option.some.inj this
              have e4 := hcell (kk * 6 + 4) (by rw [rz_len]; omega)
              have e5 := rz_get (adjK (dd - 1) k kk T2) kk hkL
              rw [List.getElem?_eq_getElem (by rw [rz_len]; omega)] at e5
              rw [Option.some.inj e5, hat] at e4
              have hRb : 0 ≤ T2[kk].1.rows ∧ T2[kk].1.rows ≤ 20000 := by
                obtain ⟨h', e⟩ := HTA.out kk hkn
                rw [e]
                have h1 := HCW.out.at_ kk (by omega)
                have h2 : rs[kk]'(by omega) = (ts[kk]'(by omega)).1 := by simp only [← hts, List.getElem_map]
                rw [h2] at h1
                omega
              have HX := hid hX
              have HSame := hid (adjK_same (dd - 1) k kk T2 hkT hkn)
              have HNext := hid (adjK_next (dd - 1) k kk T2 hkT hkn)
              have HSet := hid (fun x => hX.set hlK.symm hkL x)
              rw [hat] at HSet
              clear hX hown hcell e5 hat
              generalize T2[kk].1.rows = R at *
              by_cases hge : (k : Int) ≤ (kk : Int) + R
              · go_wp2
                refine ⟨⟨kk + 1, by omega, rfl, ?_⟩, by simp only [intOf]; omega⟩
                have h1 := HNext.out
                rw [if_pos hge] at h1
                rw [h1]
                exact HSet.out _
              · go_wp2
                refine ⟨⟨kk + 1, by omega, rfl, ?_⟩, by simp only [intOf]; omega⟩
                rw [HSame.out hge]
                exact HX.out
            · obtain rfl : k = kk := by omega
              go_wp2_with (at_builtin; refine Hid.out ?_)
              refine hid ?_
              have hel : (ts.drop (k + 1 + rn)).length = rs.length - (k + 1 + rn) := by rw [List.length_drop, hn]
              have hO := hX.own
              rw [hlK] at hO
              refine wpList_append_own_at _ rfl _ _ 22 rfl (rb + 1) 79 i7 zRow 6 80 Tryz.underlying22 HI7.out hz7 hs7 hb7 rfl (by decide) _ _ _ rfl hO ⟨b, cutO o c (k + 1 + rn), none⟩ (rs.length - (k + 1 + rn)) (c - (k + 1 + rn)) (rz (ts.drop (k + 1 + rn))) rfl (by rw [rz_len, hel]) ((HZ.out.cut hc2 (k + 1 + rn)).on hX.blw).news (rz_one _ (HZ.out.cut hc2 (k + 1 + rn)).one) (by unfold maxLen; omega) (by omega) hX.bk.lt ?_
              intro v9 w9 hO9 hG9 hN9 hL9
              have hY := hX.app (N := ts.drop (k + 1 + rn)) hG9 hel.symm hlK.symm hO9
              rw [HE.out] at hY
              clear hO9 hG9 hN9 hL9 hX hO
              go_wp2
              have hfst := unf_fst HU.out hts (by omega)
              have hsz9 := unf_sz HU.out HSZ.out HCW.out hl
              simp only [Int.toNat_natCast, hdd] at hfst
              have hsa : ∀ t ∈ adjT (dd - 1) k (ts.take k) ++ (List.replicate nn ((ts.drop (k + 1)).take rn)).flatten ++ ts.drop (k + 1 + rn), SA w9 t.2 t.1.args := fun x hx => by
                have hz9 := (HZ.out.on hY.blw).sa
                rcases List.mem_append.1 hx with hx | hx
                · rcases List.mem_append.1 hx with hx | hx
                  · exact adjT_sa (dd - 1) k (ts.take k) (fun t ht => hz9 t (List.mem_of_mem_take ht)) x hx
                  · obtain ⟨l, h1, h2⟩ := List.mem_flatten.1 hx
                    obtain rfl := (List.mem_replicate.1 h1).2
                    exact hz9 x (List.mem_of_mem_drop (List.mem_of_mem_take h2))
                · exact hz9 x (List.mem_of_mem_drop hx)
              have hSR := own_rz hY.own hsa
              rw [hfst] at hSR
              exact bodyPost_ret (v := .tuple #[v9, .bool true]) (by simp [results, Tryz.results19, go_sem]) rfl ⟨hY.blw, .inr ⟨k, more, v9, hmore, hSR, hsz9.1, hsz9.2, rfl⟩⟩
end Go.Proofs.YtdjfpghgklkejaaGreatDoor
