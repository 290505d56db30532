/-
  Put together of: F0.
-/
import Derived.Test.YtoddbaljnlhhaabYC
import Derived.Test.YtoddbaljnlhhaabXY
import Derived.BigRegion
namespace Go.Proofs.Ytoddbaljnlhhaab
open Go.RowKit Go.Sort
open PL (pv PS bt)

theorem bk_drew {W : World} {b : Nat} {cs : Array Value} {T : TypeId} (h : BK W b cs T) : BK W.drew b cs T := h
theorem mixR_same (f : Pr → Pr) (rs : List Pr) (j : Nat) (h : j < rs.length) (he : f rs[j] = rs[j]) : mixR f rs (j + 1) = mixR f rs j := by
  rw [← mixR_set f rs j h, he]
  have h1 := mixR_at f rs j h
  have hl : j < (mixR f rs j).length := by rw [mixR_len]; exact h
  rw [List.getElem?_eq_getElem hl] at h1
  rw [← Option.some.inj h1]
  exact List.set_getElem_self hl
set_option maxHeartbeats 4000000 in
set_option maxRecDepth 100000 in
theorem chosen_any (N : Nat) (rs : List Pr) (a : Option Addr) (c : Nat) (q : Nat) (bit : Int) (w : World) (H : TS w a c rs) (hR : Rt ⟨(N : Nat), rs⟩) (hq : q < N) (hb : bit = 0 ∨ bit = 1) (i : Nat) (hi : i = ffN q (rs.drop N)) (hiN : i < N) (p : Pr) (hp : rs[N + i]? = some p) :
    Calls Try.prog 34 #[Tb.v ⟨(N : Nat), rs⟩ a c, .int .i64 (q : Nat), .int .i64 bit] w fun e w' => ∃ v, e = .returned (.agg #[.int .i64 (N : Nat), v]) ∧ OT w' w.heap.size v (chR rs N q bit i p) ∧ Below w.heap.size w w' := by
  have hn1 : ((N : Nat) : Int) ≤ 64 := hR.n1
  have hl : rs.length = 2 * N := by have h : ((rs.length : Nat) : Int) = 2 * (N : Nat) := hR.len; omega
  have hNi : N + i < rs.length := by omega
  have CO := hid (fun w' (h : Below w.heap.size w w') => copied_any ⟨(N : Nat), rs⟩ a c w' (H.below h) (by show rs.length ≤ 1000; omega))
  have FF := hid (fun w' (h : Below w.heap.size w w') => firstFlip_any N q rs a c w w' H h hl (by omega) (by omega))
  have hff : ffI q (rs.drop N) = (i : Int) := by
    unfold ffI
    rw [List.length_drop, ← hi, if_pos (by omega)]
  rw [hff] at FF
  have OZ := fun w => PL.one_z N q w (by omega) hq
  have hpe : rs[N + i] = p := by
    rw [List.getElem?_eq_getElem hNi] at hp
    exact Option.some.inj hp
  have hprow : rowOk (N : Nat) p := by rw [← hpe]; exact hR.row (N + i) hNi
  have hpps := hprow.ps
  have hrow := fun (j : Nat) (h : j < rs.length) => (show rowOk (N : Nat) rs[j] from hR.row j h)
  have HROW := hid hrow
  have HFL := hid (fun (j : Nat) (h : j < rs.length) w => flips_any rs[j] q w (H.w64 j h) (by omega))
  have hnn := fun (j : Nat) (h : j < rs.length) => (show p.ps.n = rs[j].ps.n by have := hpps.2.1; have := (hrow j h).ps.2.1; omega)
  have HML := hid (fun (j : Nat) (h : j < rs.length) w => PL.mul_yes p.ps rs[j].ps w hpps.1 (hrow j h).ps.1 (hnn j h))
  have HMO := hid (fun (j : Nat) (h : j < rs.length) => hpps.1.mul (hrow j h).ps.1 (hnn j h))
  have hpv := hpps.2.2
  have hpw : p.w64 := by rw [hpv]; exact ⟨hpps.1.xl, hpps.1.zl⟩
  have hzw : (⟨(N : Nat), 0, 2 ^ q, 2 * bit⟩ : Pr).w64 := ⟨by show 0 < 18446744073709551616; omega, PL.pow_lt (by omega)⟩
  have HHT := hid H
  obtain ⟨FR, hFR⟩ : ∃ FR, Hid (FR = chF q p) := ⟨_, rfl⟩
  have HRES : Hid (chR rs N q bit i p = ((rs.map FR).set i p).set (N + i) ⟨(N : Nat), 0, 2 ^ q, 2 * bit⟩) := by show _ = _; rw [hFR.out]; rfl
  obtain ⟨RS, hRS⟩ : ∃ RS, RS = chR rs N q bit i p := ⟨_, rfl⟩
  rw [← hRS] at HRES ⊢
  have HL := hid hl
  have HPW := hid hpw
  have HZW := hid hzw
  have HMX := hid (mixR_len FR rs)
  have HMA := hid (mixR_at FR rs)
  have HMS := hid (mixR_set FR rs)
  have HSM := hid (mixR_same FR rs)
  have HALL := hid (mixR_all FR rs)
  have hcap := H.cap
  have hcl := H.l
  obtain ⟨hB0, hK0, hK1⟩ := ta_boxes w (N : Nat) (.slice a rs.length c)
  have HPC := hid (fun W (h : Below w.heap.size w W) => by
    obtain ⟨b, o, e, r⟩ := (HHT.out.below h).at_ (N + i) hNi
    have m0 := r.c0 (N + i) hNi
    have m1 := r.c1 (N + i) hNi
    have m2 := r.c2 (N + i) hNi
    have m3 := r.c3 (N + i) hNi
    rw [hpe, hpv] at m0 m1 m2 m3
    exact (⟨b, o, e, r.lt, m0, m1, m2, m3⟩ : ∃ b o, a = some ⟨b, o, none⟩ ∧ b < W.heap.size ∧ W.cell? ⟨b, o + (N + i) * 4, none⟩ = some (.int .i64 (p.ps.n : Nat)) ∧ W.cell? ⟨b, o + (N + i) * 4 + 1, none⟩ = some (.int .u64 (p.ps.x : Nat)) ∧ W.cell? ⟨b, o + (N + i) * 4 + 2, none⟩ = some (.int .u64 (p.ps.z : Nat)) ∧ W.cell? ⟨b, o + (N + i) * 4 + 3, none⟩ = some (.int .i64 (p.ps.f : Nat))))
  have HPV := hid hpv
  clear H hR hl hpps hprow hrow hnn hpv hpw hzw hRS hff hi hpe hp
  obtain ⟨P, hP⟩ : ∃ P, Hid (P = p.ps) := ⟨_, rfl⟩
  rw [← hP.out] at HPC HML HMO HPV
  obtain ⟨Pn, Px, Pz, Pf⟩ := P
  obtain ⟨L, hL⟩ : ∃ L, Hid (L = N + i) := ⟨_, rfl⟩
  have hLI : ((N : Nat) : Int) + (i : Int) = (L : Int) := by rw [hL.out]; omega
  have hLr : L < rs.length := by rw [hL.out]; exact hNi
  rw [← hL.out] at HPC HRES
  simp only at *
  go_enter Try.func34, Try.ntmps34
  go_wp2_with (go_at_call 32; refine Hid.out ?_)
  refine hid ?_
  refine (CO.out _ hB0).mono ?_
  rintro e w1 ⟨vc, rfl, hO1, hB1⟩
  obtain ⟨a3, c3, rfl⟩ := own_shape hO1.own
  have hcap3 : rs.length ≤ c3 := by
    obtain ⟨a', c', e, h⟩ := hO1.ts
    cases e
    exact h.cap
  have hcl3 : c3 ≤ 9223372036854775807 := by
    obtain ⟨a', c', e, h⟩ := hO1.ts
    cases e
    exact h.l
  obtain ⟨g, cg, e, _, _, _, hgB, hgl⟩ := own_at hO1.own (show 0 < rs.length by omega)
  injection e with e1 _ e3
  subst e1
  subst e3
  obtain ⟨Z0, hZ0⟩ : ∃ Z0, Z0 = (w.alloc (.cells #[.int .i64 (N : Nat), .slice a rs.length c] 24)).alloc (.cells #[.int .i64 0, .slice none 0 0] 24) := ⟨_, rfl⟩
  have hz1 : w.heap.size + 1 < Z0.heap.size := by rw [hZ0]; exact hK1.lt
  rw [← hZ0] at hO1 hB0 hB1 hK0 hK1 hgB
  clear hZ0 CO
  have hK7 := bk_new w1 #[.int .i64 (N : Nat), .slice (some ⟨g, 0, none⟩) rs.length c3] 24
  have hA1 := bal (Below.refl w1.heap.size w1) (.cells #[.int .i64 (N : Nat), .slice (some ⟨g, 0, none⟩) rs.length c3] 24)
  have HB0 := hid hB0
  have HK0 := hid hK0
  have HK1 := hid hK1
  have k0 := bk_on hK0 (btr hB1 hA1)
  have d0 := k0.cell
  have l0 := k0.lt
  have hz0 := hB0.size
  clear hB0
  go_wp2_with (go_at_call 50; refine Hid.out ?_)
  refine hid ?_
  refine (FF.out _ (btr HB0.out (btr hB1 hA1))).mono ?_
  rintro e w2 ⟨rfl, hB2⟩
  have HB2 := hid (btr (btr hB1 hA1) hB2)
  have HO2 := hid ((hO1.below hA1).below hB2)
  have HK7 := hid (bk_on hK7 hB2)
  have hg2 : g < w2.heap.size := Nat.lt_of_lt_of_le hgl (btr hA1 hB2).size
  clear hK0 hK1 hK7 hA1 hB1 hO1 k0 d0 l0 hB2 hgl FF
  have k0 := bk_on HK0.out HB2.out
  have d0 := k0.cell
  have l0 := k0.lt
  obtain ⟨b, o, rfl, hbl, m0, m1, m2, m3⟩ := HPC.out w2 (btr HB0.out HB2.out)
  clear k0
  have hal := bal (Below.refl w2.heap.size w2) (PL.pc Pn Px Pz Pf)
  have HO3 : Hid (OT (w2.alloc (PL.pc Pn Px Pz Pf)) Z0.heap.size (.slice (some ⟨g, 0, none⟩) rs.length c3) (mixR FR rs 0)) := HO2.out.below hal
  have HK73 := hid (bk_on HK7.out hal)
  have HP9 := hid (PL.PB.new w2 Pn Px Pz Pf)
  have HB3 := hid (btr HB2.out hal)
  have hg1 : w1.heap.size < w2.heap.size := HK7.out.lt
  clear hal HO2 HK7 HB2
  go_wp2
  go_loopw [30] (fun v30 wx => ∃ j : Nat, j ≤ rs.length ∧ v30 = .int .i64 (j : Nat) ∧ Hid (OT wx Z0.heap.size (.slice (some ⟨g, 0, none⟩) rs.length c3) (mixR FR rs j)) ∧ Hid (BK wx w1.heap.size #[.int .i64 (N : Nat), .slice (some ⟨g, 0, none⟩) rs.length c3] 24) ∧ Hid (PL.PB wx w2.heap.size Pn Px Pz Pf) ∧ Hid (Below Z0.heap.size Z0 wx)) (fun v30 _ => rs.length - (intOf v30).toNat)
  case atStart => exact ⟨0, Nat.zero_le _, rfl, HO3, HK73, HP9, HB3⟩
  case round =>
    clear HO3 HK73 HP9 HB3 m0 m1 m2 m3 hbl d0 l0
    obtain ⟨j, hj, rfl, HO, HK7, HP9, HB⟩ := hrel
    by_cases hlt : j < rs.length
    case neg =>
      have hjl : j = rs.length := by omega
      have HOA : Hid (OT wr Z0.heap.size (.slice (some ⟨g, 0, none⟩) rs.length c3) (rs.map FR)) := by
        show OT _ _ _ _
        have e : mixR FR rs j = rs.map FR := by rw [hjl]; exact HALL.out
        rw [← e]
        exact HO.out
      clear HO hjl hj
      have k0 := bk_on HK0.out HB.out
      have d0 := k0.cell
      have l0 := k0.lt
      clear k0
      have hb0 : 0 ≤ bit := by omega
      have hb1 : bit ≤ 1 := by omega
      have hwb : IntKind.i64.wrap (2 * bit) = 2 * bit := by rw [IntKind.wrap_i64]; omega
      obtain ⟨Q2, hQ2⟩ : ∃ Q2, Hid (Q2 = 2 ^ q) := ⟨2 ^ q, rfl⟩
      rw [← hQ2.out] at OZ HRES HZW
      clear HML HMO HFL HSM HMS HMA HROW HALL HMX
      go_upto_region 11 with (go_at_call 24; (with_reducible refine (OZ _).mono ?_); rintro e w4 ⟨rfl, hB4⟩)
      have HPZ := hid (PL.PB.new w4 (N : Nat) 0 Q2 0)
      have hal := bal (Below.refl w4.heap.size w4) (PL.pc (N : Nat) 0 Q2 0)
      have HB4 := hid (btr hB4 hal)
      have hg4 : g < w4.heap.size := by have := hB4.size; have := HP9.out.lt; omega
      have HBZ := hid hB4.size
      obtain ⟨V, hV⟩ : ∃ V, V = w4.alloc (PL.pc (N : Nat) 0 Q2 0) := ⟨_, rfl⟩
      have hVV : V = w4.alloc (.cells #[.int .i64 (N : Int), .int .u64 0, .int .u64 (Q2 : Int), .int .i64 0] 29) := hV
      rw [← hV] at HPZ HB4
      rw [← hVV]
      clear hV hVV hal hB4
      obtain ⟨y0, y1, y2, y3, y4, y5, y6, y7⟩ := HPZ.out
      have ly := HPZ.out.lt
      go_upto_region 12 with (fail)
      have HPZ2 := hid (HPZ.out.set3 (2 * bit))
      have hne4 : w4.heap.size ≠ w2.heap.size := by have := HBZ.out; have := HP9.out.lt; omega
      have HP92 := hid ((HP9.out.below HB4.out).far hne4 3 (.int .i64 (2 * bit)))
      have hne7 : w4.heap.size ≠ w1.heap.size := by have := HBZ.out; have := HK7.out.lt; omega
      have HK72 := hid ((bk_on HK7.out HB4.out).far hne7 3 (.int .i64 (2 * bit)))
      have hwz : Z0.heap.size ≤ w4.heap.size := by have := HBZ.out; have := HB.out.size; omega
      have HB5 := hid (bset (btr HB.out HB4.out) w4.heap.size 3 (.int .i64 (2 * bit)) hwz)
      have hng4 : ∀ G, (Value.slice (some ⟨g, 0, none⟩) rs.length c3).ownBlock = some G → some G ≠ some w4.heap.size := fun G e h => by
        have e : some g = some G := e
        have := Option.some.inj e
        have := Option.some.inj h
        omega
      have HO5 : Hid (OT (V.setCell ⟨w4.heap.size, 3, none⟩ (.int .i64 (2 * bit))) Z0.heap.size (.slice (some ⟨g, 0, none⟩) rs.length c3) (rs.map FR)) := ⟨own_set (HOA.out.below HB4.out).own hng4 3 _, HOA.out.w64, HOA.out.l⟩
      obtain ⟨W, hW⟩ : ∃ W, W = V.setCell ⟨w4.heap.size, 3, none⟩ (.int .i64 (2 * bit)) := ⟨_, rfl⟩
      rw [← hW] at HPZ2 HP92 HK72 HB5 HO5 ⊢
      clear hW HPZ HP9 HK7 HB HB4 HOA y0 y1 y2 y3 y4 y5 y6 y7 ly hne4 hne7 hng4
      have k0 := bk_on HK0.out HB5.out
      have d0 := k0.cell
      have l0 := k0.lt
      have d7 := HK72.out.cell
      have l7 := HK72.out.lt
      obtain ⟨x0, x1, x2, x3, _, _, _, _⟩ := HP92.out
      have l9 := HP92.out.lt
      obtain ⟨y0, y1, y2, y3, _, _, _, _⟩ := HPZ2.out
      have ly := HPZ2.out.lt
      have hli : i < (rs.map FR).length := by rw [List.length_map]; omega
      have hlL : L < (rs.map FR).length := by rw [List.length_map]; exact hLr
      have hmap : (rs.map FR).length = rs.length := List.length_map ..
      have HMAP := hid hmap
      have A1 := HO5.out.at_ hli
      have A2 := HO5.out.at_ hlL
      generalize (rs.map FR)[i] = ri at A1
      generalize (rs.map FR)[L] = rl at A2
      obtain ⟨ri0, ri1, ri2, ri3⟩ := ri
      obtain ⟨rl0, rl1, rl2, rl3⟩ := rl
      obtain ⟨fz, u0, u1, u2, u3, _, gl⟩ := A1
      obtain ⟨_, v0, v1, v2, v3, _, _⟩ := A2
      have hiL : i < L := by rw [hL.out]; omega
      have HLI := hid hLI
      have hil : i < rs.length := by omega
      clear hmap hli hlL k0
      simp only at *
      have hwl : IntKind.i64.wrap (L : Int) = (L : Int) := by rw [IntKind.wrap_i64]; omega
      have hgz := hgB
      have hgw1 : w1.heap.size ≠ g := fun e => own_ne HO5.out.own HK72.out (by decide) g rfl (by rw [e])
      have hgw0 : w.heap.size ≠ g := by omega
      have hgw2 : w2.heap.size ≠ g := by omega
      have hgw4 : w4.heap.size ≠ g := by omega
      have hgx1 := hgw1.symm
      have hgx0 := hgw0.symm
      have hgx2 := hgw2.symm
      have hgx4 := hgw4.symm
      have o00 : ¬ L * 4 = i * 4 := by omega
      have q00 : ¬ i * 4 = L * 4 := by omega
      have o01 : ¬ L * 4 = i * 4 + 1 := by omega
      have q01 : ¬ i * 4 + 1 = L * 4 := by omega
      have o02 : ¬ L * 4 = i * 4 + 2 := by omega
      have q02 : ¬ i * 4 + 2 = L * 4 := by omega
      have o03 : ¬ L * 4 = i * 4 + 3 := by omega
      have q03 : ¬ i * 4 + 3 = L * 4 := by omega
      have o10 : ¬ L * 4 + 1 = i * 4 := by omega
      have q10 : ¬ i * 4 = L * 4 + 1 := by omega
      have o11 : ¬ L * 4 + 1 = i * 4 + 1 := by omega
      have q11 : ¬ i * 4 + 1 = L * 4 + 1 := by omega
      have o12 : ¬ L * 4 + 1 = i * 4 + 2 := by omega
      have q12 : ¬ i * 4 + 2 = L * 4 + 1 := by omega
      have o13 : ¬ L * 4 + 1 = i * 4 + 3 := by omega
      have q13 : ¬ i * 4 + 3 = L * 4 + 1 := by omega
      have o20 : ¬ L * 4 + 2 = i * 4 := by omega
      have q20 : ¬ i * 4 = L * 4 + 2 := by omega
      have o21 : ¬ L * 4 + 2 = i * 4 + 1 := by omega
      have q21 : ¬ i * 4 + 1 = L * 4 + 2 := by omega
      have o22 : ¬ L * 4 + 2 = i * 4 + 2 := by omega
      have q22 : ¬ i * 4 + 2 = L * 4 + 2 := by omega
      have o23 : ¬ L * 4 + 2 = i * 4 + 3 := by omega
      have q23 : ¬ i * 4 + 3 = L * 4 + 2 := by omega
      have o30 : ¬ L * 4 + 3 = i * 4 := by omega
      have q30 : ¬ i * 4 = L * 4 + 3 := by omega
      have o31 : ¬ L * 4 + 3 = i * 4 + 1 := by omega
      have q31 : ¬ i * 4 + 1 = L * 4 + 3 := by omega
      have o32 : ¬ L * 4 + 3 = i * 4 + 2 := by omega
      have q32 : ¬ i * 4 + 2 = L * 4 + 3 := by omega
      have o33 : ¬ L * 4 + 3 = i * 4 + 3 := by omega
      have q33 : ¬ i * 4 + 3 = L * 4 + 3 := by omega
      have hgx1b : g ≠ w.heap.size + 1 := by omega
      have FIN : Hid (∀ X, X = ((((((((W.setCell ⟨g, i * 4, none⟩ (.int .i64 (Pn : Int))).setCell ⟨g, i * 4 + 1, none⟩ (.int .u64 (Px : Int))).setCell ⟨g, i * 4 + 2, none⟩ (.int .u64 (Pz : Int))).setCell ⟨g, i * 4 + 3, none⟩ (.int .i64 (Pf : Int))).setCell ⟨g, L * 4, none⟩ (.int .i64 (N : Int))).setCell ⟨g, L * 4 + 1, none⟩ (.int .u64 0)).setCell ⟨g, L * 4 + 2, none⟩ (.int .u64 (Q2 : Int))).setCell ⟨g, L * 4 + 3, none⟩ (.int .i64 (2 * bit))).drew → OT X Z0.heap.size (.slice (some ⟨g, 0, none⟩) rs.length c3) RS ∧ BK X w1.heap.size #[.int .i64 (N : Nat), .slice (some ⟨g, 0, none⟩) rs.length c3] 24 ∧ BK X (w.heap.size + 1) #[.int .i64 0, .slice none 0 0] 24 ∧ Below Z0.heap.size Z0 X) := fun X hX => by
        subst hX
        have h1 : OT W Z0.heap.size (.slice (some ⟨g, 0, none⟩) (rs.map FR).length c3) (rs.map FR) := by rw [HMAP.out]; exact HO5.out
        have h2 := h1.set (by rw [HMAP.out]; exact hil) ⟨(Pn : Nat), Px, Pz, (Pf : Nat)⟩ (by have h := HPW.out; rw [HPV.out] at h; exact h)
        have hl2 : ((rs.map FR).set i ⟨(Pn : Nat), Px, Pz, (Pf : Nat)⟩).length = (rs.map FR).length := List.length_set
        rw [← hl2] at h2
        have h3 := h2.set (j := L) (by rw [hl2, HMAP.out]; exact hLr) ⟨(N : Nat), 0, Q2, 2 * bit⟩ HZW.out
        rw [hl2, HMAP.out] at h3
        have hRS : RS = ((rs.map FR).set i ⟨(Pn : Nat), Px, Pz, (Pf : Nat)⟩).set L ⟨(N : Nat), 0, Q2, 2 * bit⟩ := by rw [HRES.out, ← HPV.out]
        rw [hRS]
        exact ⟨h3.below (below_drew (Below.refl _ _)), bk_drew (((((((((((((((((HK72.out).far hgx1 (i * 4) (.int .i64 (Pn : Int)))).far hgx1 (i * 4 + 1) (.int .u64 (Px : Int)))).far hgx1 (i * 4 + 2) (.int .u64 (Pz : Int)))).far hgx1 (i * 4 + 3) (.int .i64 (Pf : Int)))).far hgx1 (L * 4) (.int .i64 (N : Int)))).far hgx1 (L * 4 + 1) (.int .u64 0))).far hgx1 (L * 4 + 2) (.int .u64 (Q2 : Int)))).far hgx1 (L * 4 + 3) (.int .i64 (2 * bit)))), bk_drew ((((((((((((((((((bk_on HK1.out HB5.out)).far hgx1b (i * 4) (.int .i64 (Pn : Int)))).far hgx1b (i * 4 + 1) (.int .u64 (Px : Int)))).far hgx1b (i * 4 + 2) (.int .u64 (Pz : Int)))).far hgx1b (i * 4 + 3) (.int .i64 (Pf : Int)))).far hgx1b (L * 4) (.int .i64 (N : Int)))).far hgx1b (L * 4 + 1) (.int .u64 0))).far hgx1b (L * 4 + 2) (.int .u64 (Q2 : Int)))).far hgx1b (L * 4 + 3) (.int .i64 (2 * bit)))), below_drew (bset (bset (bset (bset (bset (bset (bset (bset HB5.out g (i * 4) (.int .i64 (Pn : Int)) hgB) g (i * 4 + 1) (.int .u64 (Px : Int)) hgB) g (i * 4 + 2) (.int .u64 (Pz : Int)) hgB) g (i * 4 + 3) (.int .i64 (Pf : Int)) hgB) g (L * 4) (.int .i64 (N : Int)) hgB) g (L * 4 + 1) (.int .u64 0) hgB) g (L * 4 + 2) (.int .u64 (Q2 : Int)) hgB) g (L * 4 + 3) (.int .i64 (2 * bit)) hgB)⟩
      clear HRES HPW HZW HMAP HPV HK72 HK1 HB5 HO5 HPZ2 HP92 HHT HPC
      go_region
      generalize hX : World.drew _ = X
      obtain ⟨f1, f2, f3, f4⟩ := FIN.out X hX.symm
      have HF1 := hid f1
      have HF4 := hid f4
      have e2 := f2.cell
      have e3 := f2.lt
      have e4 := f3.cell
      have e5 := f3.free
      have e6 := f3.lt
      clear f1 f4 hX FIN
      clear u0 u1 u2 u3 v0 v1 v2 v3 x0 x1 x2 x3 y0 y1 y2 y3
      have r0 := f3.set 0 (.int .i64 (N : Nat))
      have r1 := r0.set 1 (.slice (some ⟨g, 0, none⟩) rs.length c3)
      have hng : ∀ G, (Value.slice (some ⟨g, 0, none⟩) rs.length c3).ownBlock = some G → some G ≠ some (w.heap.size + 1) := fun G e h => by
        have e : some g = some G := e
        have := Option.some.inj e
        have := Option.some.inj h
        omega
      have HOE : Hid (OT ((X.setCell ⟨w.heap.size + 1, 0, none⟩ (.int .i64 (N : Nat))).setCell ⟨w.heap.size + 1, 1, none⟩ (.slice (some ⟨g, 0, none⟩) rs.length c3)) w.heap.size (.slice (some ⟨g, 0, none⟩) rs.length c3) RS) :=
        (show OT _ Z0.heap.size _ _ from ⟨own_set (own_set HF1.out.own hng 0 _) hng 1 _, HF1.out.w64, HF1.out.l⟩).mono (by omega)
      have HBE := hid (bset (bset (btr HB0.out HF4.out) (w.heap.size + 1) 0 (.int .i64 (N : Nat)) (by omega)) (w.heap.size + 1) 1 (.slice (some ⟨g, 0, none⟩) rs.length c3) (by omega))
      have q0 : ((X.setCell ⟨w.heap.size + 1, 0, none⟩ (.int .i64 (N : Nat))).setCell ⟨w.heap.size + 1, 1, none⟩ (.slice (some ⟨g, 0, none⟩) rs.length c3)).cell? ⟨w.heap.size + 1, 0, none⟩ = some (.int .i64 (N : Nat)) := r1.cell 0
      have q1 : ((X.setCell ⟨w.heap.size + 1, 0, none⟩ (.int .i64 (N : Nat))).setCell ⟨w.heap.size + 1, 1, none⟩ (.slice (some ⟨g, 0, none⟩) rs.length c3)).cell? ⟨w.heap.size + 1, 1, none⟩ = some (.slice (some ⟨g, 0, none⟩) rs.length c3) := r1.cell 1
      go_wp2
      exact bodyPost_ret (v := .agg #[.int .i64 (N : Nat), .slice (some ⟨g, 0, none⟩) rs.length c3]) (by simp [results, Try.results34, go_sem, q0, q1]) rfl ⟨_, rfl, HOE.out, HBE.out⟩
    obtain ⟨b', o', e', rp⟩ := (HHT.out.below (btr HB0.out HB.out)).at_ j hlt
    cases e'
    have m0 := rp.c0 j hlt
    have m1 := rp.c1 j hlt
    have m2 := rp.c2 j hlt
    have m3 := rp.c3 j hlt
    have hbl := rp.lt
    have hrj := (HROW.out j hlt).ps.2.2
    rw [hrj] at m0 m1 m2 m3
    have FL := HFL.out j hlt
    have ML := HML.out j hlt
    have hMO := HMO.out j hlt
    have HST := hid (HMS.out j hlt)
    have HSMJ := hid (HSM.out j hlt)
    have HFR1 : Hid (flp q rs[j] = true → FR rs[j] = ⟨((⟨Pn, Px, Pz, Pf⟩ : PS).mul rs[j].ps).n, ((⟨Pn, Px, Pz, Pf⟩ : PS).mul rs[j].ps).x, ((⟨Pn, Px, Pz, Pf⟩ : PS).mul rs[j].ps).z, ((⟨Pn, Px, Pz, Pf⟩ : PS).mul rs[j].ps).f⟩) := fun h => by
      rw [hFR.out]
      unfold chF
      rw [if_pos h, hP.out]
    have HFR0 : Hid (flp q rs[j] = false → FR rs[j] = rs[j]) := fun h => by
      rw [hFR.out]
      unfold chF
      rw [if_neg (by rw [h]; decide)]
    have ev : rs[j].v = pv rs[j].ps.n rs[j].ps.x rs[j].ps.z rs[j].ps.f := by conv => lhs; rw [hrj]
    rw [ev] at FL
    have hjm : j < (mixR FR rs j).length := by rw [HMX.out j]; exact hlt
    have hmr : (mixR FR rs j)[j] = ⟨rs[j].ps.n, rs[j].ps.x, rs[j].ps.z, rs[j].ps.f⟩ := by
      have h := HMA.out j hlt
      rw [List.getElem?_eq_getElem hjm] at h
      rw [Option.some.inj h]
      exact hrj
    have hAT := fun W' (h : Below wr.heap.size wr W') => (HO.out.below h).at_ hjm
    rw [hmr] at hAT
    have HAT := hid hAT
    have hmx := HMX.out j
    have HSET := hid (fun (W : World) (h : OT W Z0.heap.size (.slice (some ⟨g, 0, none⟩) rs.length c3) (mixR FR rs j)) (r : Pr) (hr : r.w64) => (by
      have h' : OT W Z0.heap.size (.slice (some ⟨g, 0, none⟩) (mixR FR rs j).length c3) (mixR FR rs j) := by rw [hmx]; exact h
      have h2 := h'.set hjm r hr
      rw [hmx] at h2
      exact h2 : OT _ Z0.heap.size (.slice (some ⟨g, 0, none⟩) rs.length c3) ((mixR FR rs j).set j r)))
    clear hAT hmr hjm hmx ev hrj HFL HML HMO HMS HSM HROW HMA rp
    have HPB := hid (PL.PB.new wr rs[j].ps.n rs[j].ps.x rs[j].ps.z rs[j].ps.f)
    cases hfl : flp q rs[j] with
    | false =>
      have hN := HSMJ.out (HFR0.out hfl)
      have HN := hid hN
      rw [hfl] at FL
      clear HFR0 HFR1 HSMJ ML hMO HST HSET HAT hfl hN
      generalize rs[j].ps = S at *
      obtain ⟨sn, sx, sz, sf⟩ := S
      simp only at *
      have HK7b := hid (HK7.out.alloc (PL.pc sn sx sz sf))
      have HP9b := hid (HP9.out.alloc (PL.pc sn sx sz sf))
      have HOb := hid (HO.out.below (bal (Below.refl _ _) (PL.pc sn sx sz sf)))
      have HBb := hid (bal HB.out (PL.pc sn sx sz sf))
      rw [← HN.out] at HOb
      go_wp2_with (go_at_call 61; (with_reducible refine (FL _).mono ?_); rintro e w4 ⟨rfl, hB4⟩)
      exact ⟨⟨j + 1, by omega, rfl, HOb.out.below hB4, bk_on HK7b.out hB4, HP9b.out.below hB4, btr HBb.out hB4⟩, by simp only [intOf]; omega⟩
    | true =>
      have hN := HFR1.out hfl
      rw [hN] at HST
      rw [hfl] at FL
      clear HFR0 HFR1 HSMJ hfl hN
      have hMw := (show (⟨((⟨Pn, Px, Pz, Pf⟩ : PS).mul rs[j].ps).n, ((⟨Pn, Px, Pz, Pf⟩ : PS).mul rs[j].ps).x, ((⟨Pn, Px, Pz, Pf⟩ : PS).mul rs[j].ps).z, ((⟨Pn, Px, Pz, Pf⟩ : PS).mul rs[j].ps).f⟩ : Pr).w64 from ⟨hMO.xl, hMO.zl⟩)
      generalize (⟨Pn, Px, Pz, Pf⟩ : PS).mul rs[j].ps = M at *
      generalize rs[j].ps = S at *
      obtain ⟨sn, sx, sz, sf⟩ := S
      obtain ⟨mn, mx, mz, mf⟩ := M
      simp only at *
      have HMW := hid hMw
      have HAL := hid (bal (Below.refl wr.heap.size wr) (PL.pc sn sx sz sf))
      go_upto_region 8 with (go_at_call 61; (with_reducible refine (FL _).mono ?_); rintro e w4 ⟨rfl, hB4⟩)
      have HB4 := hid (btr HAL.out hB4)
      have HPB4 := hid (HPB.out.below hB4)
      have k7 := bk_on HK7.out HB4.out
      have d7 := k7.cell
      have l7 := k7.lt
      have p9 := HP9.out.below HB4.out
      have l9 := p9.lt
      have l11 := HPB4.out.lt
      obtain ⟨x0, x1, x2, x3, _, _, _, _⟩ := p9
      obtain ⟨y0, y1, y2, y3, _, _, _, _⟩ := HPB4.out
      have HDR := hid (drew_of hB4)
      clear hB4 hMw m0 m1 m2 m3 hbl hMO HPB
      go_region_with (go_at_call 48; (with_reducible refine (ML _).mono ?_); rintro e w5 ⟨rfl, hB5⟩; (have hh5 := btr HB4.out (btr HDR.out hB5)); (obtain ⟨fz, u0, u1, u2, u3, _, gl⟩ := HAT.out _ hh5); (have k5 := bk_on HK7.out hh5); (have d5 := k5.cell); have l5 := k5.lt)
      all_goals
        have hB6 := btr HB4.out (btr HDR.out hB5)
        have hO6 := HSET.out w5 (HO.out.below hB6) ⟨mn, mx, mz, mf⟩ HMW.out
        have k6 := bk_on HK7.out hB6
        have hne : g ≠ w1.heap.size := fun e => own_ne (HO.out.below hB6).own k6 (by decide) g rfl (by rw [e])
        have hn9 : g ≠ w2.heap.size := Nat.ne_of_lt hg2
        rw [HST.out] at hO6
        have HO6 := hid hO6
        have HK6 := hid ((((k6.far hne (j * 4) (.int .i64 (mn : Int))).far hne (j * 4 + 1) (.int .u64 (mx : Int))).far hne (j * 4 + 2) (.int .u64 (mz : Int))).far hne (j * 4 + 3) (.int .i64 (mf : Int)))
        have HP6 := hid (((((HP9.out.below hB6).far hn9 (j * 4) (.int .i64 (mn : Int))).far hn9 (j * 4 + 1) (.int .u64 (mx : Int))).far hn9 (j * 4 + 2) (.int .u64 (mz : Int))).far hn9 (j * 4 + 3) (.int .i64 (mf : Int)))
        have HBB := hid (bset (bset (bset (bset (btr HB.out hB6) g (j * 4) (.int .i64 (mn : Int)) hgB) g (j * 4 + 1) (.int .u64 (mx : Int)) hgB) g (j * 4 + 2) (.int .u64 (mz : Int)) hgB) g (j * 4 + 3) (.int .i64 (mf : Int)) hgB)
        clear hO6 k6 hne hn9
        go_wp2
        exact ⟨⟨j + 1, by omega, rfl, HO6, HK6, HP6, HBB⟩, by simp only [intOf]; omega⟩
end Go.Proofs.Ytoddbaljnlhhaab
