/-
  Put together of: JY.
-/
import Derived.Test.YtoddbaljnlhhaabYM
import Derived.Test.YtoddbaljnlhhaabYN
import Derived.Test.YtoddbaljnlhhaabYB
import Derived.Test.YtoddbaljnlhhaabXZ
import Derived.Test.YtoddbaljnlhhaabYC
namespace Go.Proofs.Ytoddbaljnlhhaab
open Go.RowKit Go.Sort
open PL (pv PS bt cgk cgT)

set_option maxHeartbeats 1000000 in
set_option maxRecDepth 100000 in
theorem rapply_bad (t : Tb) (a : Option Addr) (c : Nat) (s : ByteArray) (aq : Option Addr) (m cq : Nat) (w : World) (H : TS w a c t.rows) (h : ¬ Rt t) :
    Calls Try.prog 8 #[t.v a c, .string s, .slice aq m cq] w fun e w' => e = .returned (.tuple #[.agg #[.int .i64 0, .slice none 0 0], .int .i64 180]) ∧ Below w.heap.size w w' := by
  have CK := fun w' (h' : Below w.heap.size w w') => rcheck_f t a c w' (H.below h') h
  obtain ⟨hB0, hK0, hK1⟩ := ta_boxes w t.n (.slice a t.rows.length c)
  clear H h
  obtain ⟨n, rs⟩ := t
  simp only at *
  go_enter Try.func8, Try.ntmps8
  go_wp2_with (go_at_call 16; (with_reducible refine (CK _ hB0).mono ?_); rintro e w1 ⟨rfl, hB1⟩; (have k1 := bk_on hK1 hB1); (have d1 := k1.cell); (have f1 := k1.free); have l1 := k1.lt)
  have r1 := (k1.set 0 (.int .i64 0)).set 1 (.slice none 0 0)
  have hBf := bset (bset (btr hB0 hB1) (w.heap.size + 1) 0 (.int .i64 0) (by omega)) (w.heap.size + 1) 1 (.slice none 0 0) (by omega)
  have q0' : ((w1.setCell ⟨w.heap.size + 1, 0, none⟩ (.int .i64 0)).setCell ⟨w.heap.size + 1, 1, none⟩ (.slice none 0 0)).cell? ⟨w.heap.size + 1, 0, none⟩ = some (.int .i64 0) := r1.cell 0
  have q1' : ((w1.setCell ⟨w.heap.size + 1, 0, none⟩ (.int .i64 0)).setCell ⟨w.heap.size + 1, 1, none⟩ (.slice none 0 0)).cell? ⟨w.heap.size + 1, 1, none⟩ = some (.slice none 0 0) := r1.cell 1
  exact bodyPost_ret (v := .tuple #[.agg #[.int .i64 0, .slice none 0 0], .int .i64 180]) (by simp [results, Try.results8, go_sem, q0', q1']) rfl ⟨rfl, hBf⟩
set_option maxHeartbeats 1000000 in
set_option maxRecDepth 100000 in
theorem rapply_no (t : Tb) (a : Option Addr) (c : Nat) (s : ByteArray) (q : Nat → Int) (aq : Option Addr) (m cq : Nat) (w : World) (H : TS w a c t.rows) (h : Rt t) (HQ : BL.Row aq q m w) (hm : m ≤ cq) (hc : cq ≤ 9223372036854775807) (hE : gE t.n s q m ≠ 0) :
    Calls Try.prog 8 #[t.v a c, .string s, .slice aq m cq] w fun e w' => e = .returned (.tuple #[.agg #[.int .i64 0, .slice none 0 0], .int .i64 (gE t.n s q m)]) ∧ Below w.heap.size w w' := by
  have CK := fun w' (h' : Below w.heap.size w w') => rcheck_t t a c w' (H.below h') h
  have AP := fun w' (h' : Below w.heap.size w w') => rfault_any t.n s q aq m cq w' (HQ.below h') hm hc
  obtain ⟨hB0, hK0, hK1⟩ := ta_boxes w t.n (.slice a t.rows.length c)
  have hE2 : (gE t.n s q m != 0) = true := bne_iff_ne.2 hE
  clear H h HQ hE
  generalize gE t.n s q m = E at *
  obtain ⟨n, rs⟩ := t
  simp only at *
  go_enter Try.func8, Try.ntmps8
  go_wp2_with (first
    | (go_at_call 16; (with_reducible refine (CK _ hB0).mono ?_); rintro e w1 ⟨rfl, hB1⟩; (have k0 := bk_on hK0 hB1); (have d0 := k0.cell); have l0 := k0.lt)
    | (go_at_call 17; (with_reducible refine (AP _ (btr hB0 hB1)).mono ?_); rintro e w2 ⟨rfl, hB2⟩; (have k1 := bk_on (bk_on hK1 hB1) hB2); (have d1 := k1.cell); (have f1 := k1.free); have l1 := k1.lt))
  have r1 := (k1.set 0 (.int .i64 0)).set 1 (.slice none 0 0)
  have hBf := bset (bset (btr (btr hB0 hB1) hB2) (w.heap.size + 1) 0 (.int .i64 0) (by omega)) (w.heap.size + 1) 1 (.slice none 0 0) (by omega)
  have q0' : ((w2.setCell ⟨w.heap.size + 1, 0, none⟩ (.int .i64 0)).setCell ⟨w.heap.size + 1, 1, none⟩ (.slice none 0 0)).cell? ⟨w.heap.size + 1, 0, none⟩ = some (.int .i64 0) := r1.cell 0
  have q1' : ((w2.setCell ⟨w.heap.size + 1, 0, none⟩ (.int .i64 0)).setCell ⟨w.heap.size + 1, 1, none⟩ (.slice none 0 0)).cell? ⟨w.heap.size + 1, 1, none⟩ = some (.slice none 0 0) := r1.cell 1
  exact bodyPost_ret (v := .tuple #[.agg #[.int .i64 0, .slice none 0 0], .int .i64 E]) (by simp [results, Try.results8, go_sem, q0', q1']) rfl ⟨rfl, hBf⟩
set_option maxHeartbeats 4000000 in
set_option maxRecDepth 100000 in
theorem rapply_yes (t : Tb) (a : Option Addr) (c : Nat) (i : Nat) (hi : i < 17) (q : Nat → Int) (aq : Option Addr) (cq : Nat) (w : World) (H : TS w a c t.rows) (hR : Rt t) (HQ : BL.Row aq q (cgk i) w) (hm : cgk i ≤ cq) (hc : cq ≤ 9223372036854775807) (hE : gE t.n (cgN i) q (cgk i) = 0) (hP : BL.Plc q (cgk i)) (hq : ∀ j, j < cgk i → q j < t.n) :
    Calls Try.prog 8 #[t.v a c, .string (cgN i), .slice aq (cgk i : Nat) cq] w fun e w' => ∃ v, e = .returned (.tuple #[.agg #[.int .i64 t.n, v], .int .i64 0]) ∧ OT w' w.heap.size v (t.rows.map (trR i q)) ∧ Below w.heap.size w w' := by
  obtain ⟨i7, hi7, hz7, hs7, hb7⟩ := info_parts Try.info29
  have HI7 := hid hi7
  have CK := fun w' (h' : Below w.heap.size w w') => rcheck_t t a c w' (H.below h') hR
  have FT := fun w' (h' : Below w.heap.size w w') => rfault_any t.n (cgN i) q aq (cgk i) cq w' (HQ.below h') hm hc
  rw [hE] at FT
  have hlen : t.rows.length ≤ 128 := by have := hR.len; have := hR.n1; omega
  have HRO := hid (fun j (h : j < t.rows.length) => hR.row j h)
  have HTS := hid (fun W (hb : Below w.heap.size w W) => H.below hb)
  have HTUR := hid (fun (j : Nat) (h : j < t.rows.length) W (hb : Below w.heap.size w W) => rturn_any i hi t.rows[j].ps (hR.row j h).ps.1 q aq cq W (HQ.below hb) hP (fun m hm' => ⟨(hP m hm').1, by rw [(hR.row j h).ps.2.1]; exact hq m hm'⟩) hm)
  have HTR := hid (fun (j : Nat) (h : j < t.rows.length) => trP_ok hi (hR.row j h).ps.1 hP (fun k hk => by rw [(hR.row j h).ps.2.1]; exact hq k hk))
  obtain ⟨hB0, hK0, hK1⟩ := ta_boxes w t.n (.slice a t.rows.length c)
  clear H hR HQ hE hP hq hi7
  obtain ⟨FR, hFR⟩ : ∃ FR, Hid (FR = trR i q) := ⟨_, rfl⟩
  rw [← hFR.out]
  generalize cgN i = s at *
  obtain ⟨n, rs⟩ := t
  simp only at *
  generalize cgk i = m at *
  go_enter Try.func8, Try.ntmps8
  go_wp2_with (first
    | (go_at_call 16; (with_reducible refine (CK _ hB0).mono ?_); rintro e w1 ⟨rfl, hB1⟩; (have k0 := bk_on hK0 hB1); (have d0 := k0.cell); have l0 := k0.lt)
    | (go_at_call 17; (with_reducible refine (FT _ (btr hB0 hB1)).mono ?_); rintro e w2 ⟨rfl, hB2⟩; (have k2 := bk_on (bk_on hK0 hB1) hB2); (have d2 := k2.cell); have l2 := k2.lt))
  have hA2 := btr (btr hB0 hB1) hB2
  have hz2 : w.heap.size + 1 < w2.heap.size := (bk_on (bk_on hK1 hB1) hB2).lt
  have HB0 := hid (bal hA2 (.cells #[.int .i64 n, .slice none 0 0] 24))
  have H00 := hid (k2.alloc (.cells #[.int .i64 n, .slice none 0 0] 24))
  have H10 := hid ((bk_on (bk_on hK1 hB1) hB2).alloc (.cells #[.int .i64 n, .slice none 0 0] 24))
  have H90 := hid (bk_new w2 #[.int .i64 n, .slice none 0 0] 24)
  clear hB0 hB1 hB2 hK0 hK1 k0 d0 l0 k2 d2 l2 CK FT hA2
  go_loopw [10] (fun v10 wx => ∃ (k : Nat) (v : Value), k ≤ rs.length ∧ v10 = .int .i64 (k : Nat) ∧ Hid (BK wx w.heap.size #[.int .i64 n, .slice a rs.length c] 24) ∧ Hid (BK wx (w.heap.size + 1) #[.int .i64 0, .slice none 0 0] 24) ∧ Hid (BK wx w2.heap.size #[.int .i64 n, v] 24) ∧ Hid (OT wx w.heap.size v ((rs.take k).map FR)) ∧ Hid (Below w.heap.size w wx)) (fun v10 _ => rs.length - (intOf v10).toNat)
  case atStart => exact ⟨0, .slice none 0 0, Nat.zero_le _, rfl, H00, H10, H90, OT.nil _ _, HB0⟩
  case round =>
    clear H00 H10 H90 HB0
    obtain ⟨k, v, hk, rfl, HK0, HK1, HK9, HO, HB⟩ := hrel
    obtain ⟨L, hL⟩ : ∃ L, Hid (L = (rs.take k).map FR) := ⟨_, rfl⟩
    have HLk : Hid (L.length = k) := by
      show _ = _
      rw [hL.out, List.length_map, List.length_take, Nat.min_eq_left hk]
    have HOL : Hid (OT wr w.heap.size v L) := by rw [hL.out]; exact HO
    clear HO
    have HO := HOL
    clear HOL
    obtain ⟨a1, c1, rfl⟩ := own_shape HO.out.own
    have d0 := HK0.out.cell
    have l0 := HK0.out.lt
    have d9 := HK9.out.cell
    have l9 := HK9.out.lt
    by_cases hlt : k < rs.length
    case neg =>
      obtain rfl : k = rs.length := by omega
      have f1 := HK1.out.free
      have d1 := HK1.out.cell
      have l1 := HK1.out.lt
      have r0 := HK1.out.set 0 (.int .i64 n)
      have r1 := r0.set 1 (.slice a1 L.length c1)
      have HO4 := hid ((HO.out.put HK1.out (by decide) 0 (.int .i64 n)).put r0 (by decide) 1 (.slice a1 L.length c1))
      have HB4 := hid (bset (bset HB.out (w.heap.size + 1) 0 (.int .i64 n) (by omega)) (w.heap.size + 1) 1 (.slice a1 L.length c1) (by omega))
      have q0 : ((wr.setCell ⟨w.heap.size + 1, 0, none⟩ (.int .i64 n)).setCell ⟨w.heap.size + 1, 1, none⟩ (.slice a1 L.length c1)).cell? ⟨w.heap.size + 1, 0, none⟩ = some (.int .i64 n) := r1.cell 0
      have q1 : ((wr.setCell ⟨w.heap.size + 1, 0, none⟩ (.int .i64 n)).setCell ⟨w.heap.size + 1, 1, none⟩ (.slice a1 L.length c1)).cell? ⟨w.heap.size + 1, 1, none⟩ = some (.slice a1 L.length c1) := r1.cell 1
      have HF : Hid (L = rs.map FR) := by show _ = _; rw [hL.out, List.take_length]
      go_wp2
      exact bodyPost_ret (v := .tuple #[.agg #[.int .i64 n, .slice a1 L.length c1], .int .i64 0]) (by simp [results, Try.results8, go_sem, q0, q1]) rfl ⟨_, rfl, by rw [← HF.out]; exact HO4.out, HB4.out⟩
    have hrk := pr_pv (HRO.out k hlt)
    obtain ⟨b, o, rfl, hRP⟩ := (HTS.out wr HB.out).at_ k hlt
    have HSW : Hid (∀ W, Below w.heap.size w W → W.cell? ⟨b, o + k * 4, none⟩ = some (.int .i64 (rs[k].ps.n : Int)) ∧ W.cell? ⟨b, o + k * 4 + 1, none⟩ = some (.int .u64 (rs[k].ps.x : Int)) ∧ W.cell? ⟨b, o + k * 4 + 2, none⟩ = some (.int .u64 (rs[k].ps.z : Int)) ∧ W.cell? ⟨b, o + k * 4 + 3, none⟩ = some (.int .i64 (rs[k].ps.f : Int))) := fun W hW => by
      obtain ⟨b', o', e, h⟩ := (HTS.out W hW).at_ k hlt
      cases e
      have h0 := h.c0 k hlt
      have h1 := h.c1 k hlt
      have h2 := h.c2 k hlt
      have h3 := h.c3 k hlt
      rw [hrk] at h0 h1 h2 h3
      exact ⟨h0, h1, h2, h3⟩
    have HTU := hid (fun W (hb : Below w.heap.size w W) => HTUR.out k hlt W hb)
    have hTok := HTR.out k hlt
    have HF : Hid (L ++ [⟨((trP i q rs[k].ps).n : Int), (trP i q rs[k].ps).x, (trP i q rs[k].ps).z, ((trP i q rs[k].ps).f : Int)⟩] = (rs.take (k + 1)).map FR) := by
      show _ = _
      rw [List.take_succ_eq_append_getElem hlt, List.map_append, hL.out, hFR.out]
      rfl
    have HW := hid ((⟨hTok.xl, hTok.zl⟩ : (⟨((trP i q rs[k].ps).n : Int), (trP i q rs[k].ps).x, (trP i q rs[k].ps).z, ((trP i q rs[k].ps).f : Int)⟩ : Pr).w64))
    clear hrk hRP HTUR HTR hTok HRO HTS hL
    generalize trP i q rs[k].ps = T at *
    generalize rs[k].ps = P at *
    obtain ⟨tn, tx, tz, tf⟩ := T
    obtain ⟨pn, px, pz, pf⟩ := P
    simp only at *
    have HLL : Hid (L.length ≤ 128) := by show _ ≤ _; rw [HLk.out]; omega
    have HSB : Hid (∀ W, Below wr.heap.size wr W → W.cell? ⟨w.heap.size, 1, none⟩ = some (.slice (some ⟨b, o, none⟩) rs.length c) ∧ W.cell? ⟨b, o + k * 4, none⟩ = some (.int .i64 (pn : Int)) ∧ W.cell? ⟨b, o + k * 4 + 1, none⟩ = some (.int .u64 (px : Int)) ∧ W.cell? ⟨b, o + k * 4 + 2, none⟩ = some (.int .u64 (pz : Int)) ∧ W.cell? ⟨b, o + k * 4 + 3, none⟩ = some (.int .i64 (pf : Int))) := fun W hW => ⟨(bk_on HK0.out hW).cell 1, HSW.out W (btr HB.out hW)⟩
    have HD9 := hid (bk_on HK9.out drew_ofr)
    clear HLk
    go_upto_region 10 with (fail)
    refine wp_region_noPanic ?_
    refine region_z (S := fun w' => w'.cell? ⟨w2.heap.size, 1, none⟩ = some (.slice a1 L.length c1) ∧ w'.cell? ⟨w.heap.size, 1, none⟩ = some (.slice (some ⟨b, o, none⟩) rs.length c) ∧ w'.cell? ⟨b, o + k * 4, none⟩ = some (.int .i64 (pn : Int)) ∧ w'.cell? ⟨b, o + k * 4 + 1, none⟩ = some (.int .u64 (px : Int)) ∧ w'.cell? ⟨b, o + k * 4 + 2, none⟩ = some (.int .u64 (pz : Int)) ∧ w'.cell? ⟨b, o + k * 4 + 3, none⟩ = some (.int .i64 (pf : Int))) 13 (by kernel_rfl) (⟨HD9.out.cell 1, HSB.out _ drew_ofr⟩) (fun hHeld => ?_)
    refine zAny_take (i := 0) (oi := { dst := some 34, op := Op.fieldAddr 24 (Operand.tmp 9) 1, type := 0, pos := "ref.go:248", after := #[], guard := none }) (v := ?_) rfl (by kernel_rfl) (by kernel_rfl) (by kernel_rfl) (by kernel_rfl) (fun _ _ _ h => h) (Or.inl ⟨by rfl, ?_⟩) (by assumption) ?_
    rotate_left
    (intro w0 hSw; (try dsimp only at hSw); go_simp; try (with_reducible rfl))
    (try simp only [Act.put, List.setIfInBounds_toArray, List.set_cons_zero, List.set_cons_succ])
    refine zAny_take (i := 1) (oi := { dst := some 35, op := Op.load 22 (Operand.tmp 34), type := 22, pos := "ref.go:248", after := #[{ on := 0, ground := Ground.data }], guard := none }) (v := ?_) rfl (by kernel_rfl) (by kernel_rfl) (by kernel_rfl) (by kernel_rfl) (fun _ _ _ h => h) (Or.inl ⟨by rfl, ?_⟩) (by assumption) ?_
    rotate_left
    (intro w0 hSw; (try dsimp only at hSw); go_simp; try (with_reducible rfl))
    (try simp only [Act.put, List.setIfInBounds_toArray, List.set_cons_zero, List.set_cons_succ])
    refine zAny_take (i := 2) (oi := { dst := some 36, op := Op.fieldAddr 24 (Operand.tmp 3) 1, type := 0, pos := "ref.go:248", after := #[], guard := none }) (v := ?_) rfl (by kernel_rfl) (by kernel_rfl) (by kernel_rfl) (by kernel_rfl) (fun _ _ _ h => h) (Or.inl ⟨by rfl, ?_⟩) (by assumption) ?_
    rotate_left
    (intro w0 hSw; (try dsimp only at hSw); go_simp; try (with_reducible rfl))
    (try simp only [Act.put, List.setIfInBounds_toArray, List.set_cons_zero, List.set_cons_succ])
    refine zAny_take (i := 3) (oi := { dst := some 37, op := Op.load 22 (Operand.tmp 36), type := 22, pos := "ref.go:248", after := #[{ on := 2, ground := Ground.data }], guard := none }) (v := ?_) rfl (by kernel_rfl) (by kernel_rfl) (by kernel_rfl) (by kernel_rfl) (fun _ _ _ h => h) (Or.inl ⟨by rfl, ?_⟩) (by assumption) ?_
    rotate_left
    (intro w0 hSw; (try dsimp only at hSw); go_simp; try (with_reducible rfl))
    (try simp only [Act.put, List.setIfInBounds_toArray, List.set_cons_zero, List.set_cons_succ])
    refine zAny_take (i := 4) (oi := { dst := some 38, op := Op.move (Operand.tmp 10), type := 3, pos := "ref.go:248", after := #[], guard := none }) (v := ?_) rfl (by kernel_rfl) (by kernel_rfl) (by kernel_rfl) (by kernel_rfl) (fun _ _ _ h => h) (Or.inl ⟨by rfl, ?_⟩) (by assumption) ?_
    rotate_left
    (intro w0 hSw; (try dsimp only at hSw); go_simp; try (with_reducible rfl))
    (try simp only [Act.put, List.setIfInBounds_toArray, List.set_cons_zero, List.set_cons_succ])
    refine zAny_take (i := 5) (oi := { dst := some 39, op := Op.indexAddr 22 (Operand.tmp 37) (Operand.tmp 38), type := 0, pos := "ref.go:248", after := #[{ on := 3, ground := Ground.data }, { on := 4, ground := Ground.data }], guard := none }) (v := ?_) rfl (by kernel_rfl) (by kernel_rfl) (by kernel_rfl) (by kernel_rfl) (fun _ _ _ h => h) (Or.inl ⟨by rfl, ?_⟩) (by assumption) ?_
    rotate_left
    (intro w0 hSw; (try dsimp only at hSw); go_simp; try (with_reducible rfl))
    (try simp only [Act.put, List.setIfInBounds_toArray, List.set_cons_zero, List.set_cons_succ])
    refine zAny_take (i := 6) (oi := { dst := some 40, op := Op.load 29 (Operand.tmp 39), type := 29, pos := "ref.go:248", after := #[{ on := 5, ground := Ground.data }], guard := none }) (v := ?_) rfl (by kernel_rfl) (by kernel_rfl) (by kernel_rfl) (by kernel_rfl) (fun _ _ _ h => h) (Or.inl ⟨by rfl, ?_⟩) (by assumption) ?_
    rotate_left
    (intro w0 hSw; (try dsimp only at hSw); go_simp; try (with_reducible rfl))
    (try simp only [Act.put, List.setIfInBounds_toArray, List.set_cons_zero, List.set_cons_succ])
    refine zAny_take (i := 7) (oi := { dst := some 41, op := Op.move (Operand.tmp 1), type := 9, pos := "ref.go:248", after := #[], guard := none }) (v := ?_) rfl (by kernel_rfl) (by kernel_rfl) (by kernel_rfl) (by kernel_rfl) (fun _ _ _ h => h) (Or.inl ⟨by rfl, ?_⟩) (by assumption) ?_
    rotate_left
    (intro w0 hSw; (try dsimp only at hSw); go_simp; try (with_reducible rfl))
    (try simp only [Act.put, List.setIfInBounds_toArray, List.set_cons_zero, List.set_cons_succ])
    refine zAny_take (i := 8) (oi := { dst := some 42, op := Op.move (Operand.tmp 2), type := 25, pos := "ref.go:248", after := #[], guard := none }) (v := ?_) rfl (by kernel_rfl) (by kernel_rfl) (by kernel_rfl) (by kernel_rfl) (fun _ _ _ h => h) (Or.inl ⟨by rfl, ?_⟩) (by assumption) ?_
    rotate_left
    (intro w0 hSw; (try dsimp only at hSw); go_simp; try (with_reducible rfl))
    (try simp only [Act.put, List.setIfInBounds_toArray, List.set_cons_zero, List.set_cons_succ])
    refine zAny_ready (rs := [9]) (by kernel_rfl) (by simp) (zReady.cons (o := { dst := some 43, op := Op.call { callee := Callee.value (Operand.func 18), args := #[Operand.tmp 40, Operand.tmp 41, Operand.tmp 42], argTypes := #[29, 9, 25] }, type := 29, pos := "ref.go:248", after := #[{ on := 6, ground := Ground.data }, { on := 7, ground := Ground.data }, { on := 8, ground := Ground.data }], guard := none }) rfl (fun K hK => ?_) zReady.nil)
    go_simp
    refine (HTU.out _ (btr HB.out drew_ofr)).mono ?_
    rintro e w1 ⟨rfl, hB1⟩
    have HK9b := hid (bk_on HD9.out hB1)
    have HBc := hid (btr drew_ofr hB1)
    have HS1 := hid (HSB.out _ HBc.out)
    clear hB1
    refine hK.out _ _ (fun _ => ⟨HK9b.out.cell 1, HS1.out⟩) (fun _ => ?_)
    clear hK K
    (try simp only [Act.put, List.setIfInBounds_toArray, List.set_cons_zero, List.set_cons_succ])
    refine zAny_ready (rs := [10]) (by kernel_rfl) (by simp) (zReady.cons (o := { dst := some 44, op := Op.buildSlice 22 1 #[(0, Operand.tmp 43)], type := 22, pos := "ref.go:248", after := #[{ on := 9, ground := Ground.data }], guard := none }) rfl (fun K hK => ?_) zReady.nil)
    have HS2 := hid (HSB.out _ (bal HBc.out (PL.pc (tn : Int) tx tz (tf : Int))))
    go_simp
    refine hK.out _ _ (fun _ => ⟨(HK9b.out.alloc _).cell 1, HS2.out⟩) (fun _ => ?_)
    clear hK K
    (try simp only [Act.put, List.setIfInBounds_toArray, List.set_cons_zero, List.set_cons_succ])
    refine zAny_ready (rs := [11]) (by kernel_rfl) (by simp) (zReady.cons (o := { dst := some 45, op := Op.call { callee := Callee.builtin Builtin.append, args := #[Operand.tmp 35, Operand.tmp 44], argTypes := #[22, 22] }, type := 22, pos := "ref.go:248", after := #[{ on := 1, ground := Ground.data }, { on := 10, ground := Ground.data }, { on := 9, ground := Ground.chain }], guard := none }) rfl (fun K hK => ?_) zReady.nil)
    have hB2 := bal HBc.out (PL.pc (tn : Int) tx tz (tf : Int))
    have hO2 := HO.out.own
    have hO3 := own_below hO2 hB2
    have hK1 := HK9b.out.alloc (PL.pc (tn : Int) tx tz (tf : Int))
    have hnew : ∀ j u, (Pr.cs ⟨(tn : Int), tx, tz, (tf : Int)⟩)[j]? = some u → (w1.alloc (PL.pc (tn : Int) tx tz (tf : Int))).cell? ((⟨w1.heap.size, 0, none⟩ : Addr).add j) = some u := fun j u hj => by
      have h := bk_new w1 #[.int .i64 (tn : Int), .int .u64 (tx : Int), .int .u64 (tz : Int), .int .i64 (tf : Int)] 29
      rw [WideShapes.add_plain, Nat.zero_add]
      rw [h.cell j, ← hj]
      exact List.getElem?_toArray
    have hLL := HLL.out
    refine step_own rfl _ _ 22 rfl w.heap.size 29 i7 _ 4 32 Try.underlying22 HI7.out hz7 hs7 hb7 rfl (by decide) _ L.length (prz L) rfl hO3 ⟨_, 0, none⟩ 1 1 (Pr.cs ⟨(tn : Int), tx, tz, (tf : Int)⟩) rfl rfl hnew (by intro u hu; simp [Pr.cs] at hu; rcases hu with rfl | rfl | rfl | rfl <;> rfl) (by unfold maxLen; omega) (by omega) (by have h1 := HB.out.size; have h2 := hB2.size; exact Nat.le_trans h1 h2) ?_
    intro v6 w6 hown6 hgrow6 _
    have hO6 := OT.app HO.out hown6 HW.out HO.out.w64 (by omega)
    obtain ⟨a6, c6, rfl⟩ := own_shape hown6
    have HB6 := hid (below_own (btr HB.out hB2) hO3 hgrow6)
    have HK0 := hid (bk_grown hO3 hgrow6 (bk_on HK0.out hB2) (by decide))
    have HK1 := hid (bk_grown hO3 hgrow6 (bk_on HK1.out hB2) (by decide))
    have HK6 := hid (bk_grown hO3 hgrow6 hK1 (by decide))
    have HO6 := hid hO6
    have HS6 := hid (HSW.out _ HB6.out)
    clear hgrow6 hown6 hO6 hO3 hO2 hK1 hB2 hnew hLL
    refine hK.out _ _ (fun _ => ⟨HK6.out.cell 1, HK0.out.cell 1, HS6.out⟩) (fun _ => ?_)
    clear hK K
    (try simp only [Act.put, List.setIfInBounds_toArray, List.set_cons_zero, List.set_cons_succ])
    have hH4 := (⟨HK6.out.cell 1, HK0.out.cell 1, HS6.out⟩ : (_ ∧ _ ∧ _))
    refine zAny_take (i := 12) (oi := { dst := some 46, op := Op.fieldAddr 24 (Operand.tmp 9) 1, type := 0, pos := "ref.go:248", after := #[{ on := 0, ground := Ground.phase }, { on := 1, ground := Ground.phase }, { on := 2, ground := Ground.phase }, { on := 3, ground := Ground.phase }, { on := 4, ground := Ground.phase }, { on := 5, ground := Ground.phase }, { on := 6, ground := Ground.phase }, { on := 7, ground := Ground.phase }, { on := 8, ground := Ground.phase }, { on := 9, ground := Ground.phase }, { on := 10, ground := Ground.phase }, { on := 11, ground := Ground.phase }], guard := none }) (v := ?_) rfl (by kernel_rfl) (by kernel_rfl) (by kernel_rfl) (by kernel_rfl) (fun _ _ _ h => h) (Or.inl ⟨by rfl, ?_⟩) (by assumption) ?_
    rotate_left
    (intro w0 hSw; (try dsimp only at hSw); go_simp; try (with_reducible rfl))
    (try simp only [Act.put, List.setIfInBounds_toArray, List.set_cons_zero, List.set_cons_succ])
    refine zAny_ready (rs := [13]) (by kernel_rfl) (by simp) (zReady.cons (o := { dst := none, op := Op.store 22 (Operand.tmp 46) (Operand.tmp 45), type := 0, pos := "ref.go:248", after := #[{ on := 12, ground := Ground.data }, { on := 11, ground := Ground.data }, { on := 11, ground := Ground.chain }, { on := 0, ground := Ground.phase }, { on := 1, ground := Ground.phase }, { on := 2, ground := Ground.phase }, { on := 3, ground := Ground.phase }, { on := 4, ground := Ground.phase }, { on := 5, ground := Ground.phase }, { on := 6, ground := Ground.phase }, { on := 7, ground := Ground.phase }, { on := 8, ground := Ground.phase }, { on := 9, ground := Ground.phase }, { on := 10, ground := Ground.phase }, { on := 11, ground := Ground.phase }], guard := none }) rfl (fun K hK => ?_) zReady.nil)
    have y1 := HK6.out.cell
    have y2 := HK6.out.free
    have y3 := HK6.out.lt
    go_simp
    refine hK.out _ _ (fun h => absurd rfl h) (fun _ => ?_)
    clear hK K hHeld
    (try simp only [Act.put, List.setIfInBounds_toArray, List.set_cons_zero, List.set_cons_succ])
    refine zAny_done (by kernel_rfl) ?_ _
    refine NoPanic.normal ?_
    have HO7 := hid (HO6.out.put HK6.out (by decide) 1 (.slice a6 (L.length + 1) c6))
    rw [HF.out] at HO7
    go_wp2
    exact ⟨⟨k + 1, .slice a6 (L.length + 1) c6, by omega, rfl, HK0.out.far (c := w2.heap.size) (by omega) _ _, HK1.out.far (c := w2.heap.size) (by omega) _ _, HK6.out.set 1 _, HO7.out, bset HB6.out w2.heap.size 1 _ (by omega)⟩, by simp only [intOf]; omega⟩
end Go.Proofs.Ytoddbaljnlhhaab
