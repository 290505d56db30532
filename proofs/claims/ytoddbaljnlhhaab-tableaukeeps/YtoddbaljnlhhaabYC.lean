/-
  Put together of: E7 E8.
-/
import Derived.Test.YtoddbaljnlhhaabXX
namespace Go.Proofs.Ytoddbaljnlhhaab
open Go.RowKit Go.Sort
open PL (pv PS bt cgk cgT)

theorem pr_pv {n : Int} {r : Pr} (h : rowOk n r) : r = ⟨r.ps.n, r.ps.x, r.ps.z, r.ps.f⟩ := h.ps.2.2
theorem OT.at_ {W : World} {B g n c : Nat} {rs : List Pr} (h : OT W B (.slice (some ⟨g, 0, none⟩) n c) rs) {j : Nat} (hj : j < rs.length) :
    (∀ k, W.frozen? ⟨g, k, none⟩ = false) ∧ W.cell? ⟨g, j * 4, none⟩ = some (.int .i64 rs[j].n) ∧ W.cell? ⟨g, j * 4 + 1, none⟩ = some (.int .u64 (rs[j].x : Int)) ∧ W.cell? ⟨g, j * 4 + 2, none⟩ = some (.int .u64 (rs[j].z : Int)) ∧ W.cell? ⟨g, j * 4 + 3, none⟩ = some (.int .i64 rs[j].f) ∧ B ≤ g ∧ g < W.heap.size := by
  obtain ⟨g', cap, e, _, hf, hc, hB, hl⟩ := own_at h.own (show 0 < rs.length by omega)
  injection e with e1 _ e3
  injection e1 with e1
  injection e1 with e1
  subst e1
  have get : ∀ k x, (prz rs)[k]? = some x → W.cell? ⟨g, k, none⟩ = some x := fun k x e => by
    have hk : k < (prz rs).length := (List.getElem?_eq_some_iff.1 e).1
    rw [List.getElem?_eq_getElem hk] at e
    rw [hc k hk, Option.some.inj e]
  obtain ⟨e0, e1, e2, e3⟩ := prz_at rs j hj
  exact ⟨hf, get _ _ e0, get _ _ e1, get _ _ e2, get _ _ e3, hB, hl⟩
set_option maxHeartbeats 2000000 in
set_option maxRecDepth 100000 in
theorem applied_yes (t : Tb) (a : Option Addr) (c : Nat) (i : Nat) (hi : i < 17) (q : Nat → Int) (aq : Option Addr) (cq : Nat) (w : World) (H : TS w a c t.rows) (hR : Rt t) (HQ : BL.Row aq q (cgk i) w) (hm : cgk i ≤ cq) (hc : cq ≤ 9223372036854775807) (hE : gE t.n (cgN i) q (cgk i) = 0) (hP : BL.Plc q (cgk i)) (hq : ∀ j, j < cgk i → q j < t.n) :
    Calls Try.prog 14 #[t.v a c, .string (cgN i), .slice aq (cgk i : Nat) cq] w fun e w' => ∃ v, e = .returned (.tuple #[.agg #[.int .i64 t.n, v], .int .i64 0]) ∧ OT w' w.heap.size v (t.rows.map (trR i q)) ∧ Below w.heap.size w w' := by
  have CG := fun w' (h : Below w.heap.size w w') => checkGate_any t a c (cgN i) q aq (cgk i) cq w' (HQ.below h) hm hc
  rw [hE] at CG
  have TO := hid (fun w => turnsOf_any i hi w)
  have hn1 := hR.n1
  have hlen : t.rows.length ≤ 128 := by have := hR.len; omega
  have CO := hid (fun w' (h : Below w.heap.size w w') => copied_any t a c w' (H.below h) (by omega))
  have HRO := hid (fun j (h : j < t.rows.length) => hR.row j h)
  have HTU := hid (fun (j : Nat) (h : j < t.rows.length) (ta : Option Addr) (ct : Nat) w1 (hb : Below w.heap.size w w1) (HT : TS w1 ta ct (cgRows i (2 * cgk i))) => turned_any i hi t.rows[j].ps (hR.row j h).ps.1 q aq cq ta ct w1 (HQ.below hb) hP HT)
  have HTR := hid (fun (j : Nat) (h : j < t.rows.length) => trP_ok hi (hR.row j h).ps.1 hP (fun k hk => by rw [(hR.row j h).ps.2.1]; exact hq k hk))
  have hlT : (cgRows i (2 * cgk i)).length = 2 * cgk i := cgRows_len i _
  have hB0 : Below w.heap.size w ((w.alloc (.cells #[.int .i64 t.n, .slice a t.rows.length c] 24)).alloc (.cells #[.int .i64 0, .slice none 0 0] 24)) := bal (bal (Below.refl _ _) _) _
  have hK0 : BK ((w.alloc (.cells #[.int .i64 t.n, .slice a t.rows.length c] 24)).alloc (.cells #[.int .i64 0, .slice none 0 0] 24)) w.heap.size #[.int .i64 t.n, .slice a t.rows.length c] 24 := (bk_new w _ _).alloc _
  have hK1 : BK ((w.alloc (.cells #[.int .i64 t.n, .slice a t.rows.length c] 24)).alloc (.cells #[.int .i64 0, .slice none 0 0] 24)) (w.heap.size + 1) #[.int .i64 0, .slice none 0 0] 24 := by
    have h := bk_new (w.alloc (.cells #[.int .i64 t.n, .slice a t.rows.length c] 24)) #[.int .i64 0, .slice none 0 0] 24
    rwa [PL.alz] at h
  obtain ⟨FR, hFR⟩ : ∃ FR, Hid (FR = trR i q) := ⟨_, rfl⟩
  obtain ⟨K, hK⟩ : ∃ K, Hid (K = cgk i) := ⟨_, rfl⟩
  obtain ⟨CGR, hCGR⟩ : ∃ CGR, Hid (CGR = cgRows i (2 * cgk i)) := ⟨_, rfl⟩
  obtain ⟨M, hM⟩ : ∃ M, Hid (M = 2 * cgk i) := ⟨_, rfl⟩
  have hM128 : M ≤ 128 := by rw [hM.out]; have := (PL.cgk_is i hi).1; omega
  rw [← hFR.out]
  rw [← hCGR.out] at TO HTU hlT
  rw [← hM.out] at HTU hlT
  rw [← hK.out] at CG HTU ⊢
  have HLT := hid hlT
  clear hlT HQ H hR hE hP hq
  generalize cgN i = s at *
  obtain ⟨n, rs⟩ := t
  simp only at *
  go_enter Try.func14, Try.ntmps14
  go_wp2_with (first
    | (go_at_call 30; (with_reducible refine (CG _ hB0).mono ?_); rintro e w1 ⟨rfl, hB1⟩; (have k1 := bk_on hK0 hB1); (have d1 := k1.cell); have l1 := k1.lt)
    | (go_at_call 31; refine Hid.out ?_))
  refine hid ?_
  refine (TO.out _).mono ?_
  rintro e w2 ⟨vT, rfl, hT2, hB2⟩
  obtain ⟨ta, ct, rfl, hTS2⟩ := hT2.ts
  rw [HLT.out]
  have hA2 := btr (btr hB0 hB1) hB2
  have HA2 := hid hA2
  have HK0 := hid (bk_on (bk_on hK0 hB1) hB2)
  have HK1 := hid (bk_on (bk_on hK1 hB1) hB2)
  have HT2 := hid hTS2
  clear hB1 hB2 hK0 hK1 hT2 hTS2 hA2 d1 l1 k1 CG TO hB0
  have d1 := HK0.out.cell
  have l1 := HK0.out.lt
  go_wp2_with (go_at_call 32; refine Hid.out ?_)
  refine hid ?_
  refine (CO.out _ HA2.out).mono ?_
  rintro e w3 ⟨vc, rfl, hO3, hB3⟩
  obtain ⟨a3, c3, rfl⟩ := own_shape hO3.own
  have HO3 := hid (own_below hO3.own (bal (Below.refl _ _) (.cells #[.int .i64 n, .slice a3 rs.length c3] 24)))
  have HO4 : Hid (OT (w3.alloc (.cells #[.int .i64 n, .slice a3 rs.length c3] 24)) w2.heap.size (.slice a3 rs.length c3) (mixR FR rs 0)) := hO3.below (bal (Below.refl _ _) _)
  have HK10 := hid (bk_new w3 #[.int .i64 n, .slice a3 rs.length c3] 24)
  have HB4 := hid (bal hB3 (.cells #[.int .i64 n, .slice a3 rs.length c3] 24))
  have hB10g : w2.heap.size ≤ w3.heap.size := hB3.size
  have hh2 : w.heap.size + 1 < w2.heap.size := HK1.out.lt
  have HMX := hid (mixR_len FR rs)
  have HMA := hid (mixR_at FR rs)
  have HMS := hid (mixR_set FR rs)
  have hcap3 : rs.length ≤ c3 := by
    obtain ⟨a', c', e, h⟩ := hO3.ts
    cases e
    exact h.cap
  have hcl3 : c3 ≤ 9223372036854775807 := by
    obtain ⟨a', c', e, h⟩ := hO3.ts
    cases e
    exact h.l
  have HALL := hid (mixR_all FR rs)
  clear hO3 hB3 HO3 CO d1 l1
  go_wp2
  go_loopw [28] (fun v28 wx => ∃ j : Nat, j ≤ rs.length ∧ v28 = .int .i64 (j : Nat) ∧ Hid (OT wx w2.heap.size (.slice a3 rs.length c3) (mixR FR rs j)) ∧ Hid (BK wx w3.heap.size #[.int .i64 n, .slice a3 rs.length c3] 24) ∧ Hid (Below w2.heap.size w2 wx)) (fun v28 _ => rs.length - (intOf v28).toNat)
  case atStart => exact ⟨0, Nat.zero_le _, rfl, HO4, HK10, HB4⟩
  case round =>
    clear HO4 HK10 HB4
    obtain ⟨j, hj, rfl, HO, HK10, HB⟩ := hrel
    have d10 := HK10.out.cell
    have l10 := HK10.out.lt
    by_cases hlt : j < rs.length
    case neg =>
      obtain rfl : j = rs.length := by omega
      have k1 := bk_on HK1.out HB.out
      have d1 := k1.cell
      have f1 := k1.free
      have l1 := k1.lt
      have r1 := (k1.set 0 (.int .i64 n)).set 1 (.slice a3 rs.length c3)
      have hO2 := ((HO.out.put k1 (by decide) 0 (.int .i64 n)).put (k1.set 0 (.int .i64 n)) (by decide) 1 (.slice a3 rs.length c3)).mono (show w.heap.size ≤ w2.heap.size by omega)
      rw [HALL.out] at hO2
      have HO2 := hid hO2
      have hBf := hid (bset (bset (btr HA2.out HB.out) (w.heap.size + 1) 0 (.int .i64 n) (by omega)) (w.heap.size + 1) 1 (.slice a3 rs.length c3) (by omega))
      have q0 : ((wr.setCell ⟨w.heap.size + 1, 0, none⟩ (.int .i64 n)).setCell ⟨w.heap.size + 1, 1, none⟩ (.slice a3 rs.length c3)).cell? ⟨w.heap.size + 1, 0, none⟩ = some (.int .i64 n) := r1.cell 0
      have q1 : ((wr.setCell ⟨w.heap.size + 1, 0, none⟩ (.int .i64 n)).setCell ⟨w.heap.size + 1, 1, none⟩ (.slice a3 rs.length c3)).cell? ⟨w.heap.size + 1, 1, none⟩ = some (.slice a3 rs.length c3) := r1.cell 1
      clear hO2
      go_wp2
      exact bodyPost_ret (v := .tuple #[.agg #[.int .i64 n, .slice a3 rs.length c3], .int .i64 0]) (by simp [results, Try.results14, go_sem, q0, q1]) rfl ⟨_, rfl, HO2.out, hBf.out⟩
    have hmx := HMX.out j
    obtain ⟨g, cap, e, hnc, hfz, hce, hgB, hgl⟩ := own_at HO.out.own (by rw [hmx]; omega)
    injection e with e1 hle e3
    subst e1
    subst e3
    clear hle
    have hjm : j < (mixR FR rs j).length := by rw [hmx]; exact hlt
    have hrj : (mixR FR rs j)[j] = ⟨rs[j].ps.n, rs[j].ps.x, rs[j].ps.z, rs[j].ps.f⟩ := by
      have h := HMA.out j hlt
      rw [List.getElem?_eq_getElem hjm] at h
      rw [Option.some.inj h]
      exact pr_pv (HRO.out j hlt)
    have hAT := fun W' (h : Below wr.heap.size wr W') => (HO.out.below h).at_ hjm
    rw [hrj] at hAT
    have HAT := hid hAT
    obtain ⟨_, m0, m1, m2, m3, _, hgl2⟩ := hAT wr (Below.refl _ _)
    have HST : Hid ((mixR FR rs j).set j ⟨(trP i q rs[j].ps).n, (trP i q rs[j].ps).x, (trP i q rs[j].ps).z, (trP i q rs[j].ps).f⟩ = mixR FR rs (j + 1)) := by
      show _ = _
      rw [← HMS.out j hlt, hFR.out]
      rfl
    have hTok := HTR.out j hlt
    have HSET := hid (fun (W : World) (h : OT W w2.heap.size (.slice (some ⟨g, 0, none⟩) rs.length c3) (mixR FR rs j)) (r : Pr) (hr : r.w64) => (by
      have h' : OT W w2.heap.size (.slice (some ⟨g, 0, none⟩) (mixR FR rs j).length c3) (mixR FR rs j) := by rw [hmx]; exact h
      have h2 := h'.set hjm r hr
      rw [hmx] at h2
      exact h2 : OT _ w2.heap.size (.slice (some ⟨g, 0, none⟩) rs.length c3) ((mixR FR rs j).set j r)))
    have hw := (show (⟨(trP i q rs[j].ps).n, (trP i q rs[j].ps).x, (trP i q rs[j].ps).z, (trP i q rs[j].ps).f⟩ : Pr).w64 from ⟨hTok.xl, hTok.zl⟩)
    have R := hid (HTU.out j hlt)
    have HWS := hid hw
    clear hAT hrj hce hfz HRO HTR HTU hw hTok hmx hjm hnc
    generalize trP i q rs[j].ps = T at *
    generalize rs[j].ps = P at *
    obtain ⟨tn, tx, tz, tf⟩ := T
    obtain ⟨pn, px, pz, pf⟩ := P
    simp only at *
    go_upto_region 9 with (fail)
    have hAL := bal (Below.refl wr.heap.size wr) (PL.pc pn px pz pf)
    obtain ⟨V, hV⟩ : ∃ V, V = wr.alloc (PL.pc pn px pz pf) := ⟨_, rfl⟩
    have hPB := PL.PB.new wr pn px pz pf
    rw [← hV] at hAL hPB ⊢
    have HAL := hid hAL
    have k10 := bk_on HK10.out hAL
    have d10 := k10.cell
    have l10 := k10.lt
    obtain ⟨c0, c1, c2, c3', _, _, _, _⟩ := hPB
    have HDR := hid (drew_of (bal (Below.refl wr.heap.size wr) (PL.pc pn px pz pf)))
    rw [← hV] at HDR
    clear hV hAL
    go_region_with (go_at_call 33; (with_reducible refine (R.out ta ct _ (btr HA2.out (btr HB.out (btr HAL.out HDR.out))) (HT2.out.below (btr HB.out (btr HAL.out HDR.out)))).mono ?_); rintro e w5 ⟨rfl, hB5⟩; (have hh5 := btr HAL.out (btr HDR.out hB5)); (obtain ⟨fz, u0, u1, u2, u3, _, gl⟩ := HAT.out _ hh5); (have k5 := bk_on k10 (btr HDR.out hB5)); (have d5 := k5.cell); have l5 := k5.lt)
    all_goals
      have hB6 := btr HAL.out (btr HDR.out hB5)
      have hO6 := HSET.out w5 (HO.out.below hB6) ⟨tn, tx, tz, tf⟩ HWS.out
      have k6 := bk_on HK10.out hB6
      have hne : g ≠ w3.heap.size := fun e => own_ne (HO.out.below hB6).own k6 (by decide) g rfl (by rw [e])
      rw [HST.out] at hO6
      have HO6 := hid hO6
      have hk6 := (((k6.far hne (j * 4) (.int .i64 (tn : Int))).far hne (j * 4 + 1) (.int .u64 (tx : Int))).far hne (j * 4 + 2) (.int .u64 (tz : Int))).far hne (j * 4 + 3) (.int .i64 (tf : Int))
      have hBB := bset (bset (bset (bset (btr HB.out hB6) g (j * 4) (.int .i64 (tn : Int)) hgB) g (j * 4 + 1) (.int .u64 (tx : Int)) hgB) g (j * 4 + 2) (.int .u64 (tz : Int)) hgB) g (j * 4 + 3) (.int .i64 (tf : Int)) hgB
      have HK6 := hid hk6
      have HBB := hid hBB
      clear hO6 hk6 hBB k6 hne
      go_wp2
      exact ⟨⟨j + 1, by omega, rfl, HO6, HK6, HBB⟩, by simp only [intOf]; omega⟩
end Go.Proofs.Ytoddbaljnlhhaab
namespace Go.Proofs.Ytoddbaljnlhhaab
open Go.RowKit Go.Sort
open PL (pv PS bt cgk cgT)

/-- The boxes of a tableau and of an answer. -/
theorem ta_boxes (w : World) (n : Int) (v : Value) : Below w.heap.size w ((w.alloc (.cells #[.int .i64 n, v] 24)).alloc (.cells #[.int .i64 0, .slice none 0 0] 24)) ∧ BK ((w.alloc (.cells #[.int .i64 n, v] 24)).alloc (.cells #[.int .i64 0, .slice none 0 0] 24)) w.heap.size #[.int .i64 n, v] 24 ∧ BK ((w.alloc (.cells #[.int .i64 n, v] 24)).alloc (.cells #[.int .i64 0, .slice none 0 0] 24)) (w.heap.size + 1) #[.int .i64 0, .slice none 0 0] 24 := by
  refine ⟨bal (bal (Below.refl _ _) _) _, (bk_new w _ _).alloc _, ?_⟩
  have h := bk_new (w.alloc (.cells #[.int .i64 n, v] 24)) #[.int .i64 0, .slice none 0 0] 24
  rwa [PL.alz] at h
set_option maxHeartbeats 1000000 in
set_option maxRecDepth 100000 in
theorem apply_bad (t : Tb) (a : Option Addr) (c : Nat) (s : ByteArray) (aq : Option Addr) (m cq : Nat) (w : World) (H : TS w a c t.rows) (h : ¬ Rt t) :
    Calls Try.prog 5 #[t.v a c, .string s, .slice aq m cq] w fun e w' => e = .returned (.tuple #[.agg #[.int .i64 0, .slice none 0 0], .int .i64 180]) ∧ Below w.heap.size w w' := by
  have CK := fun w' (h' : Below w.heap.size w w') => check_f t a c w' (H.below h') h
  obtain ⟨hB0, hK0, hK1⟩ := ta_boxes w t.n (.slice a t.rows.length c)
  clear H h
  obtain ⟨n, rs⟩ := t
  simp only at *
  go_enter Try.func5, Try.ntmps5
  go_wp2_with (go_at_call 13; (with_reducible refine (CK _ hB0).mono ?_); rintro e w1 ⟨rfl, hB1⟩; (have k1 := bk_on hK1 hB1); (have d1 := k1.cell); (have f1 := k1.free); have l1 := k1.lt)
  have r1 := (k1.set 0 (.int .i64 0)).set 1 (.slice none 0 0)
  have hBf := bset (bset (btr hB0 hB1) (w.heap.size + 1) 0 (.int .i64 0) (by omega)) (w.heap.size + 1) 1 (.slice none 0 0) (by omega)
  have q0' : ((w1.setCell ⟨w.heap.size + 1, 0, none⟩ (.int .i64 0)).setCell ⟨w.heap.size + 1, 1, none⟩ (.slice none 0 0)).cell? ⟨w.heap.size + 1, 0, none⟩ = some (.int .i64 0) := r1.cell 0
  have q1' : ((w1.setCell ⟨w.heap.size + 1, 0, none⟩ (.int .i64 0)).setCell ⟨w.heap.size + 1, 1, none⟩ (.slice none 0 0)).cell? ⟨w.heap.size + 1, 1, none⟩ = some (.slice none 0 0) := r1.cell 1
  exact bodyPost_ret (v := .tuple #[.agg #[.int .i64 0, .slice none 0 0], .int .i64 180]) (by simp [results, Try.results5, go_sem, q0', q1']) rfl ⟨rfl, hBf⟩
set_option maxHeartbeats 1000000 in
set_option maxRecDepth 100000 in
theorem apply_no (t : Tb) (a : Option Addr) (c : Nat) (s : ByteArray) (q : Nat → Int) (aq : Option Addr) (m cq : Nat) (w : World) (H : TS w a c t.rows) (h : Rt t) (HQ : BL.Row aq q m w) (hm : m ≤ cq) (hc : cq ≤ 9223372036854775807) (hE : gE t.n s q m ≠ 0) :
    Calls Try.prog 5 #[t.v a c, .string s, .slice aq m cq] w fun e w' => e = .returned (.tuple #[.agg #[.int .i64 0, .slice none 0 0], .int .i64 (gE t.n s q m)]) ∧ Below w.heap.size w w' := by
  have CK := fun w' (h' : Below w.heap.size w w') => check_t t a c w' (H.below h') h
  have AP := fun w' (h' : Below w.heap.size w w') => applied_no t a c s q aq m cq w' (HQ.below h') hm hc hE
  obtain ⟨hB0, hK0, hK1⟩ := ta_boxes w t.n (.slice a t.rows.length c)
  clear H h HQ hE
  generalize gE t.n s q m = E at *
  obtain ⟨n, rs⟩ := t
  simp only at *
  go_enter Try.func5, Try.ntmps5
  go_wp2_with (first
    | (go_at_call 13; (with_reducible refine (CK _ hB0).mono ?_); rintro e w1 ⟨rfl, hB1⟩; (have k0 := bk_on hK0 hB1); (have d0 := k0.cell); have l0 := k0.lt)
    | (go_at_call 14; (with_reducible refine (AP _ (btr hB0 hB1)).mono ?_); rintro e w2 ⟨rfl, hB2⟩; (have k1 := bk_on (bk_on hK1 hB1) hB2); (have d1 := k1.cell); (have f1 := k1.free); have l1 := k1.lt))
  have r1 := (k1.set 0 (.int .i64 0)).set 1 (.slice none 0 0)
  have hBf := bset (bset (btr (btr hB0 hB1) hB2) (w.heap.size + 1) 0 (.int .i64 0) (by omega)) (w.heap.size + 1) 1 (.slice none 0 0) (by omega)
  have q0' : ((w2.setCell ⟨w.heap.size + 1, 0, none⟩ (.int .i64 0)).setCell ⟨w.heap.size + 1, 1, none⟩ (.slice none 0 0)).cell? ⟨w.heap.size + 1, 0, none⟩ = some (.int .i64 0) := r1.cell 0
  have q1' : ((w2.setCell ⟨w.heap.size + 1, 0, none⟩ (.int .i64 0)).setCell ⟨w.heap.size + 1, 1, none⟩ (.slice none 0 0)).cell? ⟨w.heap.size + 1, 1, none⟩ = some (.slice none 0 0) := r1.cell 1
  exact bodyPost_ret (v := .tuple #[.agg #[.int .i64 0, .slice none 0 0], .int .i64 E]) (by simp [results, Try.results5, go_sem, q0', q1']) rfl ⟨rfl, hBf⟩
set_option maxHeartbeats 1000000 in
set_option maxRecDepth 100000 in
theorem apply_yes (t : Tb) (a : Option Addr) (c : Nat) (i : Nat) (hi : i < 17) (q : Nat → Int) (aq : Option Addr) (cq : Nat) (w : World) (H : TS w a c t.rows) (hR : Rt t) (HQ : BL.Row aq q (cgk i) w) (hm : cgk i ≤ cq) (hc : cq ≤ 9223372036854775807) (hE : gE t.n (cgN i) q (cgk i) = 0) (hP : BL.Plc q (cgk i)) (hq : ∀ j, j < cgk i → q j < t.n) :
    Calls Try.prog 5 #[t.v a c, .string (cgN i), .slice aq (cgk i : Nat) cq] w fun e w' => ∃ v, e = .returned (.tuple #[.agg #[.int .i64 t.n, v], .int .i64 0]) ∧ OT w' w.heap.size v (t.rows.map (trR i q)) ∧ Below w.heap.size w w' := by
  have CK := fun w' (h' : Below w.heap.size w w') => check_t t a c w' (H.below h') hR
  have AP := fun w' (h' : Below w.heap.size w w') => applied_yes t a c i hi q aq cq w' (H.below h') hR (HQ.below h') hm hc hE hP hq
  obtain ⟨hB0, hK0, hK1⟩ := ta_boxes w t.n (.slice a t.rows.length c)
  clear H hR HQ hE hP hq
  generalize t.rows.map (trR i q) = RS at *
  generalize cgN i = s at *
  generalize cgk i = m at *
  obtain ⟨n, rs⟩ := t
  simp only at *
  go_enter Try.func5, Try.ntmps5
  go_wp2_with (first
    | (go_at_call 13; (with_reducible refine (CK _ hB0).mono ?_); rintro e w1 ⟨rfl, hB1⟩; (have k0 := bk_on hK0 hB1); (have d0 := k0.cell); have l0 := k0.lt)
    | (go_at_call 14; (with_reducible refine (AP _ (btr hB0 hB1)).mono ?_); rintro e w2 ⟨v2, rfl, hO2, hB2⟩; (obtain ⟨a2, c2, rfl⟩ := own_shape hO2.own); (have k1 := bk_on (bk_on hK1 hB1) hB2); (have d1 := k1.cell); (have f1 := k1.free); have l1 := k1.lt))
  have r0 := k1.set 0 (.int .i64 n)
  have r1 := r0.set 1 (.slice a2 RS.length c2)
  have hO3 := ((hO2.put k1 (by decide) 0 (.int .i64 n)).put r0 (by decide) 1 (.slice a2 RS.length c2)).mono (show w.heap.size ≤ w1.heap.size from (btr hB0 hB1).size)
  have hBf := bset (bset (btr (btr hB0 hB1) hB2) (w.heap.size + 1) 0 (.int .i64 n) (by omega)) (w.heap.size + 1) 1 (.slice a2 RS.length c2) (by omega)
  have q0' : ((w2.setCell ⟨w.heap.size + 1, 0, none⟩ (.int .i64 n)).setCell ⟨w.heap.size + 1, 1, none⟩ (.slice a2 RS.length c2)).cell? ⟨w.heap.size + 1, 0, none⟩ = some (.int .i64 n) := r1.cell 0
  have q1' : ((w2.setCell ⟨w.heap.size + 1, 0, none⟩ (.int .i64 n)).setCell ⟨w.heap.size + 1, 1, none⟩ (.slice a2 RS.length c2)).cell? ⟨w.heap.size + 1, 1, none⟩ = some (.slice a2 RS.length c2) := r1.cell 1
  exact bodyPost_ret (v := .tuple #[.agg #[.int .i64 n, .slice a2 RS.length c2], .int .i64 0]) (by simp [results, Try.results5, go_sem, q0', q1']) rfl ⟨_, rfl, hO3, hBf⟩
end Go.Proofs.Ytoddbaljnlhhaab
