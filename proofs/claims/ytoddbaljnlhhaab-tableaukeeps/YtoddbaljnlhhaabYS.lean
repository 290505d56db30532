/-
  Put together of: JD.
-/
import Derived.Test.YtoddbaljnlhhaabYR
namespace Go.Proofs.Ytoddbaljnlhhaab
open Go.RowKit Go.Sort
open PL (pv PS bt)

set_option maxHeartbeats 4000000 in
set_option maxRecDepth 100000 in
theorem rproject_free (N : Nat) (rs : List Pr) (a : Option Addr) (c : Nat) (q : Nat) (bit : Int) (w : World) (H : TS w a c rs) (hR : Rt ⟨(N : Nat), rs⟩) (hq : q < N) (hb : bit = 0 ∨ bit = 1) (i : Nat) (hi : i = ffN q (rs.drop N)) (hiN : i < N) (p : Pr) (hp : rs[N + i]? = some p) :
    Calls Try.prog 9 #[Tb.v ⟨(N : Nat), rs⟩ a c, .int .i64 (q : Nat), .int .i64 bit] w fun e w' => ∃ v, e = .returned (.tuple #[.agg #[.int .i64 (N : Nat), v], .int .i64 0]) ∧ OT w' w.heap.size v (chR rs N q bit i p) ∧ Below w.heap.size w w' := by
  have hn1 : ((N : Nat) : Int) ≤ 64 := hR.n1
  have hl : rs.length = 2 * N := by have h : ((rs.length : Nat) : Int) = 2 * (N : Nat) := hR.len; omega
  have hNi : N + i < rs.length := by omega
  have hfnd : fndT ⟨(N : Nat), rs⟩ (q : Nat) = (0, false, 0) := by
    unfold fndT
    show (if 0 ≤ ((q : Nat) : Int) ∧ ((q : Nat) : Int) < ((N : Nat) : Int) then _ else _) = _
    rw [if_pos (by omega)]
    show (if 0 ≤ ffI ((q : Nat) : Int).toNat (rs.drop ((N : Nat) : Int).toNat) then _ else _) = _
    rw [Int.toNat_natCast, Int.toNat_natCast]
    unfold ffI
    rw [← hi, if_pos (show i < (rs.drop N).length by rw [List.length_drop]; omega), if_pos (by omega)]
  have hpe : rs[N + i] = p := by
    rw [List.getElem?_eq_getElem hNi] at hp
    exact Option.some.inj hp
  obtain ⟨hff0, hff1⟩ := ff_rows hl hi hiN
  have CK := fun w' (h : Below w.heap.size w w') => rcheck_t ⟨(N : Nat), rs⟩ a c w' (H.below h) hR
  have CP := hid (fun w' (h : Below w.heap.size w w') => rcopy_any ⟨(N : Nat), rs⟩ a c w' (H.below h) (by show rs.length ≤ 1000; omega))
  have CE := hid (fun w' (h : Below w.heap.size w w') => rfnd_any N rs a c q w' (H.below h) hR hq)
  rw [hfnd] at CE
  have ON : ∀ (f : Int) (w : World), Calls Try.prog 22 #[.int .i64 (N : Nat), .int .i64 (q : Nat), .int .u8 90, .int .i64 f] w fun e w' => e = .returned (pv (N : Nat) 0 (2 ^ q : Nat) f) ∧ RowKit.Below w.heap.size w w' := fun f w => ron_any (N : Nat) (q : Nat) 90 0 (2 ^ q : Nat) N f w (fun w => PL.rone_z N q w (by omega) hq)
  have hprow : rowOk (N : Nat) p := by rw [← hpe]; exact hR.row (N + i) hNi
  have hpps := hprow.ps
  have hrow := fun (j : Nat) (h : j < rs.length) => (show rowOk (N : Nat) rs[j] from hR.row j h)
  have HROW := hid hrow
  have hnn := fun (j : Nat) (h : j < rs.length) => (show p.ps.n = rs[j].ps.n by have := hpps.2.1; have := (hrow j h).ps.2.1; omega)
  have HML := hid (fun (j : Nat) (h : j < rs.length) w => rmulT_any p.ps rs[j].ps w hpps.1 (hrow j h).ps.1 (hnn j h))
  have HMO := hid (fun (j : Nat) (h : j < rs.length) => hpps.1.mul (hrow j h).ps.1 (hnn j h))
  have hpv := hpps.2.2
  have hpw : p.w64 := by rw [hpv]; exact ⟨hpps.1.xl, hpps.1.zl⟩
  have hzw : (⟨(N : Nat), 0, 2 ^ q, 2 * bit⟩ : Pr).w64 := ⟨by show 0 < 18446744073709551616; omega, PL.pow_lt (by omega)⟩
  have HHT := hid H
  have HBT := hid (fun (j : Nat) (h : j < rs.length) => PL.i_bit rs[j].x q (H.w64 j h).1)
  have HF0 := hid hff0
  have HF1 := hid hff1
  obtain ⟨FR, hFR⟩ : ∃ FR, Hid (FR = chF q p) := ⟨_, rfl⟩
  have HRES : Hid (chR rs N q bit i p = ((mixI FR i (N + i) rs rs.length).set i p).set (N + i) ⟨(N : Nat), 0, 2 ^ q, 2 * bit⟩) := by show _ = _; rw [mixI_end, hFR.out]; rfl
  obtain ⟨RS, hRS⟩ : ∃ RS, RS = chR rs N q bit i p := ⟨_, rfl⟩
  rw [← hRS] at HRES ⊢
  have HL := hid hl
  have HPW := hid hpw
  have HZW := hid hzw
  have hcap := H.cap
  have hcl := H.l
  obtain ⟨hB0, hK0, hL0⟩ := rp_boxes w (N : Nat) (.slice a rs.length c)
  have HPV := hid hpv
  have HPE := hid hpe
  obtain ⟨P, hP⟩ : ∃ P, Hid (P = p.ps) := ⟨_, rfl⟩
  rw [← hP.out] at HML HMO HPV
  have g3 : ¬ ((q : Nat) : Int) < 0 := by omega
  have g4 : ¬ ((N : Nat) : Int) ≤ (q : Nat) := by omega
  have g4' : ¬ N ≤ q := by omega
  have g5 : ¬ bit < 0 := by omega
  have g6 : ¬ 1 < bit := by omega
  clear H hR hl hpps hprow hrow hnn hpv hpw hzw hRS hff0 hff1 hi hp hfnd hpe
  obtain ⟨Pn, Px, Pz, Pf⟩ := P
  simp only at *
  go_enter Try.func9, Try.ntmps9
  go_wp2_with (first
    | (go_at_call 16; (with_reducible refine (CK _ hB0).mono ?_); rintro e w1 ⟨rfl, hB1⟩; (have k0 := bk_on hK0 hB1); (have d0 := k0.cell); (have l0 := k0.lt))
    | (go_at_call 19; refine Hid.out ?_))
  refine hid ?_
  refine (CP.out _ (btr hB0 hB1)).mono ?_
  rintro e w2 ⟨v, rfl, HO, hB2⟩
  have hlen0 : 0 < rs.length := by omega
  have HA1 := hid (btr (btr hB0 hB1) hB2)
  have HO := hid (OT.up HO (btr hB0 hB1).size)
  obtain ⟨a1, c1, rfl⟩ := own_shape HO.out.own
  have hc1 : rs.length ≤ c1 := by
    obtain ⟨a', c', e, h⟩ := HO.out.ts
    cases e
    exact h.cap
  obtain ⟨g, cg, e, _, _, _, hgB, hgl⟩ := own_at HO.out.own hlen0
  injection e with e1 _ e3
  subst e1
  subst e3
  have K0b := hid (bk_on k0 hB2)
  have K2 := hid (bk_on (bk_on hL0 hB1) hB2)
  have HA2 := hid (bal HA1.out (.cells #[.int .i64 (N : Nat), .slice (some ⟨g, 0, none⟩) rs.length c1] 24))
  have K0c := hid (K0b.out.alloc (.cells #[.int .i64 (N : Nat), .slice (some ⟨g, 0, none⟩) rs.length c1] 24))
  have d2 := K0c.out.cell
  have l2 := K0c.out.lt
  clear d0 l0 k0
  go_wp2_with (go_at_call 20; refine Hid.out ?_)
  refine hid ?_
  refine (CE.out _ HA2.out).mono ?_
  rintro e w3 ⟨rfl, hB3⟩
  have B2 := bk_new w2 #[.int .i64 (N : Nat), .slice (some ⟨g, 0, none⟩) rs.length c1] 24
  have K8 := hid (bk_on B2 hB3)
  have K6 := hid (bk_on (K2.out.alloc (.cells #[.int .i64 (N : Nat), .slice (some ⟨g, 0, none⟩) rs.length c1] 24)) hB3)
  have K3 := hid (bk_on K0c.out hB3)
  have HO3 := hid ((HO.out.below (bal (Below.refl w2.heap.size w2) (.cells #[.int .i64 (N : Nat), .slice (some ⟨g, 0, none⟩) rs.length c1] 24))).below hB3)
  have HB3 := hid (btr HA2.out hB3)
  have G2 : Hid (g < w2.heap.size) := hgl
  have GB : Hid (w.heap.size ≤ g) := hgB
  have L0 : Hid (w.heap.size + 1 < w2.heap.size) := K2.out.lt
  clear B2 hB3 HO K0b K0c HA2 HA1 K2 d2 l2 hgB hgl hB1 hB2 hK0 hL0 hB0 CK CP CE
  generalize w2.heap.size = b8 at *
  have d3 := K3.out.cell
  have l3 := K3.out.lt
  obtain ⟨b, o, rfl, rp0⟩ := (HHT.out.below HB3.out).at_ (N + i) hNi
  clear rp0
  go_wp2
  go_loop [11] (fun v => ∃ k : Nat, k ≤ i ∧ v = .int .i64 (k : Nat)) (fun v => i - (intOf v).toNat)
  case atStart => exact ⟨0, Nat.zero_le _, rfl⟩
  case round =>
    obtain ⟨k, hk, rfl⟩ := hrel
    have hNk : N + k < rs.length := Nat.lt_of_le_of_lt (Nat.add_le_add_left hk N) hNi
    obtain ⟨b', o', e', rp⟩ := (HHT.out.below HB3.out).at_ (N + k) hNk
    cases e'
    have m0 := rp.c0 (N + k) hNk
    have m1 := rp.c1 (N + k) hNk
    have m2 := rp.c2 (N + k) hNk
    have m3 := rp.c3 (N + k) hNk
    have hbl := rp.lt
    have eb := HBT.out (N + k) hNk
    obtain ⟨L, hL⟩ : ∃ L, Hid (L = N + k) := ⟨_, rfl⟩
    have hLI : ((N : Nat) : Int) + (k : Int) = (L : Int) := by rw [hL.out]; omega
    have hLr : L < rs.length := by rw [hL.out]; exact hNk
    by_cases hlt : k < i
    case pos =>
      have f0 : bt rs[N + k].x q = 0 := by
        have h := HF0.out k hNk hlt
        unfold flp at h
        rcases PL.bt01 rs[N + k].x q with e | e
        · exact e
        · rw [e] at h; cases h
      rw [f0] at eb
      generalize rs[N + k].x = X at m1 eb
      rw [← hL.out] at m1
      clear m0 m2 m3 rp f0
      go_wp2
      exact ⟨⟨k + 1, by omega, by go_num⟩, by simp only [intOf]; omega⟩
    obtain rfl : k = i := by omega
    have f1 : bt rs[N + k].x q = 1 := by
      have h := HF1.out hNk
      unfold flp at h
      exact beq_iff_eq.1 h
    rw [f1] at eb
    rw [HPE.out] at eb
    rw [HPE.out, ← hL.out] at m0 m1 m2 m3
    rw [HPV.out] at m0 m1 m2 m3 eb
    simp only at m0 m1 m2 m3 eb
    go_upto_region 17 with (fail)
    have HO4 : Hid (OT (w3.alloc (PL.pc Pn Px Pz Pf)) w.heap.size (.slice (some ⟨g, 0, none⟩) rs.length c1) (mixI FR k (N + k) rs 0)) := by
      show OT _ _ _ _
      rw [mixI_zero]
      exact HO3.out.below (bal (Below.refl _ _) _)
    have HP4 := hid (PL.PB.new w3 Pn Px Pz Pf)
    have HB4 := hid (bal HB3.out (PL.pc Pn Px Pz Pf))
    have K34 := hid (K3.out.alloc (PL.pc Pn Px Pz Pf))
    have K64 := hid (K6.out.alloc (PL.pc Pn Px Pz Pf))
    have K84 := hid (K8.out.alloc (PL.pc Pn Px Pz Pf))
    have L12 : Hid (b8 < w3.heap.size) := K8.out.lt
    generalize w3.heap.size = b12 at *
    have hkl : k < rs.length := by omega
    have HLr := hid hLr
    clear m0 m1 m2 m3 rp eb d3 l3 HO3 HB3 K3 K6 K8 hbl f1
    go_wp2
    go_loopw [13] (fun v13 wx => ∃ j : Nat, j ≤ rs.length ∧ v13 = .int .i64 (j : Nat) ∧ Hid (OT wx w.heap.size (.slice (some ⟨g, 0, none⟩) rs.length c1) (mixI FR k (N + k) rs j)) ∧ Hid (BK wx w.heap.size #[.int .i64 (N : Nat), .slice (some ⟨b, o, none⟩) rs.length c] 24) ∧ Hid (BK wx (w.heap.size + 1) #[.int .i64 0, .slice none 0 0] 24) ∧ Hid (BK wx b8 #[.int .i64 (N : Nat), .slice (some ⟨g, 0, none⟩) rs.length c1] 24) ∧ Hid (PL.PB wx b12 Pn Px Pz Pf) ∧ Hid (Below w.heap.size w wx)) (fun v13 _ => rs.length - (intOf v13).toNat)
    case atStart => exact ⟨0, Nat.zero_le _, rfl, HO4, K34, K64, K84, HP4, HB4⟩
    case round =>
      clear HO4 K34 K64 K84 HP4 HB4
      obtain ⟨j, hj, rfl, HO, K3, K6, K8, HP, HB⟩ := hrel
      have d3 := K3.out.cell
      have l3 := K3.out.lt
      have d8 := K8.out.cell
      have l8 := K8.out.lt
      by_cases hlt : j < rs.length
      case neg =>
        have hjl : j = rs.length := by omega
        have HE := HRES.out
        rw [← hL.out, ← hjl] at HE
        rw [hL.out.symm] at HO
        have hlm : (mixI FR k L rs j).length = rs.length := mixI_len j
        have hkm : k < (mixI FR k L rs j).length := by rw [hlm]; exact hkl
        have hpw := HPW.out
        rw [HPV.out] at HE hpw
        obtain ⟨fz, u0, u1, u2, u3, _, gl⟩ := HO.out.at_ hkm
        have hO5 : OT wr w.heap.size (.slice (some ⟨g, 0, none⟩) (mixI FR k L rs j).length c1) (mixI FR k L rs j) := by rw [hlm]; exact HO.out
        have hO5 := hO5.set hkm ⟨(Pn : Nat), Px, Pz, (Pf : Nat)⟩ hpw
        rw [hlm] at hO5
        have HO5 := hid hO5
        have HB5 := hid (bset (bset (bset (bset HB.out g (k * 4) (.int .i64 (Pn : Int)) GB.out) g (k * 4 + 1) (.int .u64 (Px : Int)) GB.out) g (k * 4 + 2) (.int .u64 (Pz : Int)) GB.out) g (k * 4 + 3) (.int .i64 (Pf : Int)) GB.out)
        have n8 : g ≠ b8 := Nat.ne_of_lt G2.out
        have n3 : g ≠ w.heap.size := fun e => own_ne HO.out.own K3.out (by decide) g rfl (by rw [e])
        have n6 : g ≠ w.heap.size + 1 := fun e => own_ne HO.out.own K6.out (by decide) g rfl (by rw [e])
        have K35 := hid ((((K3.out.far n3 (k * 4) (.int .i64 (Pn : Int))).far n3 (k * 4 + 1) (.int .u64 (Px : Int))).far n3 (k * 4 + 2) (.int .u64 (Pz : Int))).far n3 (k * 4 + 3) (.int .i64 (Pf : Int)))
        have K65 := hid ((((K6.out.far n6 (k * 4) (.int .i64 (Pn : Int))).far n6 (k * 4 + 1) (.int .u64 (Px : Int))).far n6 (k * 4 + 2) (.int .u64 (Pz : Int))).far n6 (k * 4 + 3) (.int .i64 (Pf : Int)))
        have K85 := hid ((((K8.out.far n8 (k * 4) (.int .i64 (Pn : Int))).far n8 (k * 4 + 1) (.int .u64 (Px : Int))).far n8 (k * 4 + 2) (.int .u64 (Pz : Int))).far n8 (k * 4 + 3) (.int .i64 (Pf : Int)))
        obtain ⟨x0, x1, x2, x3, _, _, _, _⟩ := HP.out
        have lx := HP.out.lt
        have HE := hid HE
        generalize (mixI FR k L rs j)[k] = rk at u0 u1 u2 u3
        generalize hRL : mixI FR k L rs j = ML at *
        clear hRL HBT HROW HML HMO hFR HRES HO K3 K6 K8 HP HB hO5
        obtain ⟨r0, r1, r2, r3⟩ := rk
        simp only at u0 u1 u2 u3
        go_upto_region 23 with (fail)
        generalize ((((wr.setCell ⟨g, k * 4, none⟩ (.int .i64 (Pn : Int))).setCell ⟨g, k * 4 + 1, none⟩ (.int .u64 (Px : Int))).setCell ⟨g, k * 4 + 2, none⟩ (.int .u64 (Pz : Int))).setCell ⟨g, k * 4 + 3, none⟩ (.int .i64 (Pf : Int))) = V5 at *
        clear d3 l3 d8 l8 x0 x1 x2 x3 lx fz u0 u1 u2 u3 gl
        have hw : IntKind.i64.wrap (2 * bit) = 2 * bit := by rw [IntKind.wrap_i64]; omega
        have hwl : IntKind.i64.wrap (L : Int) = (L : Int) := by rw [IntKind.wrap_i64]; have := HLr.out; omega
        have hbb0 : 0 ≤ bit := by omega
        clear hO5 hlt
        have hbb1 : bit ≤ 1 := by omega
        have hzz := HZW.out
        obtain ⟨Q2, hQ2⟩ : ∃ Q2, Hid (Q2 = 2 ^ q) := ⟨2 ^ q, rfl⟩
        have HE2 := HE.out
        rw [← hQ2.out] at HE2 hzz ON
        have HE := hid HE2
        have HZZ := hid hzz
        have hLm : L < (ML.set k ⟨(Pn : Nat), Px, Pz, (Pf : Nat)⟩).length := by rw [List.length_set, hlm]; exact HLr.out
        have hAT := fun W' (h : RowKit.Below V5.heap.size V5 W') => (HO5.out.below h).at_ hLm
        generalize (ML.set k ⟨(Pn : Nat), Px, Pz, (Pf : Nat)⟩)[L] = rl at hAT
        obtain ⟨l0, l1, l2, l3⟩ := rl
        simp only at hAT
        have HAT := hid hAT
        have HLM := hid hLm
        have HlM : Hid ((ML.set k ⟨(Pn : Nat), Px, Pz, (Pf : Nat)⟩).length = rs.length) := by show _ = _; rw [List.length_set]; exact hlm
        have d3 := K35.out.cell
        have e3 := K35.out.lt
        have d8 := K85.out.cell
        have e8 := K85.out.lt
        clear HE2 hzz hLm hAT hlm hkm hpw n8 n3 n6 HPV HPW HZW hQ2 hP
        generalize ML.set k ⟨(Pn : Nat), Px, Pz, (Pf : Nat)⟩ = MS at *
        go_region_with (go_at_call 22; (with_reducible refine (ON _ _).mono ?_); rintro e w6 ⟨rfl, hB6⟩; (have hh6 := btr (drew_ofr (W := V5)) hB6); (obtain ⟨fz, v0, v1, v2, v3, _, gl⟩ := HAT.out _ hh6); (have k8 := bk_on K85.out hh6); (have d8 := k8.cell); (have l8 := k8.lt); (have k3 := bk_on K35.out hh6); (have d3 := k3.cell); have l3 := k3.lt)
        all_goals
          have hm : OT w6 w.heap.size (.slice (some ⟨g, 0, none⟩) MS.length c1) MS := by rw [HlM.out]; exact HO5.out.below hh6
          have hO6 := hm.set HLM.out ⟨(N : Nat), 0, Q2, 2 * bit⟩ HZZ.out
          rw [HlM.out] at hO6
          rw [← HE.out] at hO6
          have k6 := bk_on K65.out hh6
          have n8 : g ≠ b8 := Nat.ne_of_lt G2.out
          have n6 : g ≠ w.heap.size + 1 := fun e => own_ne hm.own k6 (by decide) g rfl (by rw [e])
          have k6' := (((k6.far n6 (L * 4) (.int .i64 (N : Int))).far n6 (L * 4 + 1) (.int .u64 0)).far n6 (L * 4 + 2) (.int .u64 (Q2 : Int))).far n6 (L * 4 + 3) (.int .i64 (2 * bit))
          have k8' := (((k8.far n8 (L * 4) (.int .i64 (N : Int))).far n8 (L * 4 + 1) (.int .u64 0)).far n8 (L * 4 + 2) (.int .u64 (Q2 : Int))).far n8 (L * 4 + 3) (.int .i64 (2 * bit))
          have hb6 := bset (bset (bset (bset (btr HB5.out hh6) g (L * 4) (.int .i64 (N : Int)) GB.out) g (L * 4 + 1) (.int .u64 0) GB.out) g (L * 4 + 2) (.int .u64 (Q2 : Int)) GB.out) g (L * 4 + 3) (.int .i64 (2 * bit)) GB.out
          obtain ⟨X, hX⟩ : ∃ X, X = (((w6.setCell ⟨g, L * 4, none⟩ (.int .i64 (N : Int))).setCell ⟨g, L * 4 + 1, none⟩ (.int .u64 0)).setCell ⟨g, L * 4 + 2, none⟩ (.int .u64 (Q2 : Int))).setCell ⟨g, L * 4 + 3, none⟩ (.int .i64 (2 * bit)) := ⟨_, rfl⟩
          have HO6 : Hid (OT X w.heap.size (.slice (some ⟨g, 0, none⟩) rs.length c1) RS) := by rw [hX]; exact hO6
          rw [← hX] at k6' k8' hb6
          have HB6 := hid hb6
          clear hO6 k6 hm hb6 fz v0 v1 v2 v3 gl d3 l3 d8 l8 k3 k8
          have d8 := k8'.cell
          have l8 := k8'.lt
          have d6 := k6'.cell
          have f6 := k6'.free
          have l6 := k6'.lt
          have r0 := k6'.set 0 (.int .i64 (N : Nat))
          have r1 := r0.set 1 (.slice (some ⟨g, 0, none⟩) rs.length c1)
          have HO7 := hid ((HO6.out.put k6' (by decide) 0 (.int .i64 (N : Nat))).put r0 (by decide) 1 (.slice (some ⟨g, 0, none⟩) rs.length c1))
          have HB7 := hid (bset (bset HB6.out (w.heap.size + 1) 0 (.int .i64 (N : Nat)) (by omega)) (w.heap.size + 1) 1 (.slice (some ⟨g, 0, none⟩) rs.length c1) (by omega))
          have q0 : ((X.setCell ⟨w.heap.size + 1, 0, none⟩ (.int .i64 (N : Nat))).setCell ⟨w.heap.size + 1, 1, none⟩ (.slice (some ⟨g, 0, none⟩) rs.length c1)).cell? ⟨w.heap.size + 1, 0, none⟩ = some (.int .i64 (N : Nat)) := r1.cell 0
          have q1 : ((X.setCell ⟨w.heap.size + 1, 0, none⟩ (.int .i64 (N : Nat))).setCell ⟨w.heap.size + 1, 1, none⟩ (.slice (some ⟨g, 0, none⟩) rs.length c1)).cell? ⟨w.heap.size + 1, 1, none⟩ = some (.slice (some ⟨g, 0, none⟩) rs.length c1) := r1.cell 1
          try rw [← hX]
          clear r0 r1 hX
          go_wp2
          exact bodyPost_ret (v := .tuple #[.agg #[.int .i64 (N : Nat), .slice (some ⟨g, 0, none⟩) rs.length c1], .int .i64 0]) (by simp [results, Try.results9, go_sem, q0, q1]) rfl ⟨_, rfl, HO7.out, HB7.out⟩
      have hjm : j < (mixI FR k (N + k) rs j).length := by rw [mixI_len]; exact hlt
      have hrj := (HROW.out j hlt).ps.2.2
      have hmr : (mixI FR k (N + k) rs j)[j] = ⟨rs[j].ps.n, rs[j].ps.x, rs[j].ps.z, rs[j].ps.f⟩ := by
        have h := mixI_at (f := FR) (i := k) (L := N + k) hlt
        rw [List.getElem?_eq_getElem hjm] at h
        rw [Option.some.inj h]
        exact hrj
      have hAT := fun W' (h : Below wr.heap.size wr W') => (HO.out.below h).at_ hjm
      rw [hmr] at hAT
      have HAT := hid hAT
      have eb := HBT.out j hlt
      have ML := HML.out j hlt
      have hMO := HMO.out j hlt
      have HFR1 : Hid (bt rs[j].x q = 1 → FR rs[j] = ⟨((⟨Pn, Px, Pz, Pf⟩ : PS).mul rs[j].ps).n, ((⟨Pn, Px, Pz, Pf⟩ : PS).mul rs[j].ps).x, ((⟨Pn, Px, Pz, Pf⟩ : PS).mul rs[j].ps).z, ((⟨Pn, Px, Pz, Pf⟩ : PS).mul rs[j].ps).f⟩) := fun h => by
        rw [hFR.out]
        unfold chF
        rw [if_pos (by unfold flp; exact beq_iff_eq.2 h), hP.out]
      have HFR0 : Hid (bt rs[j].x q = 0 → FR rs[j] = rs[j]) := fun h => by
        rw [hFR.out]
        unfold chF
        rw [if_neg (by unfold flp; rw [h]; decide)]
      have HSTS := hid (fun (h1 : j ≠ k) (h2 : j ≠ N + k) => mixI_set (f := FR) hlt h1 h2)
      have HSKP : Hid (j = k ∨ j = N + k → mixI FR k (N + k) rs (j + 1) = mixI FR k (N + k) rs j) := fun h => mixI_skip h
      have HSAM := hid (fun (h : FR rs[j] = rs[j]) => mixI_same (f := FR) (i := k) (L := N + k) hlt h)
      obtain ⟨fz, u0, u1, u2, u3, _, gl⟩ := HAT.out wr (Below.refl _ _)
      have ex : (rs[j].x : Int) = (rs[j].ps.x : Int) := rfl
      rw [ex] at eb
      have hLn := hL.out
      clear hAT hmr hrj hjm ex
      by_cases hjk : j = k
      · have hN := hid (HSKP.out (.inl hjk))
        have h1 : ((j : Int) != (k : Int)) = false := by rw [hjk]; exact bne_self_eq_false' _
        clear HSTS HSKP HSAM HFR0 HFR1 ML hMO HAT hjk hLn eb u0 u1 u2 u3 fz
        go_wp2
        exact ⟨⟨j + 1, by omega, by go_num, by rw [hN.out]; exact HO, K3, K6, K8, HP, HB⟩, by simp only [intOf]; omega⟩
      have h1 : ((j : Int) != (k : Int)) = true := bne_iff_ne.2 (by omega)
      by_cases hjL : j = L
      · have hN := hid (HSKP.out (.inr (by omega)))
        have h2 : ((j : Int) != (L : Int)) = false := by rw [hjL]; exact bne_self_eq_false' _
        clear HSTS HSKP HSAM HFR0 HFR1 ML hMO HAT hjL hLn eb u0 u1 u2 u3 fz
        go_wp2
        exact ⟨⟨j + 1, by omega, by go_num, by rw [hN.out]; exact HO, K3, K6, K8, HP, HB⟩, by simp only [intOf]; omega⟩
      have h2 : ((j : Int) != (L : Int)) = true := bne_iff_ne.2 (by omega)
      have HST := hid (HSTS.out hjk (by omega))
      clear HSTS HSKP hLn hjk hjL
      rcases PL.bt01 rs[j].x q with hb0 | hb1
      · have hN := hid (HSAM.out (HFR0.out hb0))
        rw [show bt rs[j].x q = 0 from hb0] at eb
        clear HST HSAM HFR0 HFR1 ML hMO HAT hb0
        generalize rs[j].ps = S at *
        obtain ⟨sn, sx, sz, sf⟩ := S
        simp only at *
        go_wp2
        exact ⟨⟨j + 1, by omega, by go_num, by rw [hN.out]; exact HO, K3, K6, K8, HP, HB⟩, by simp only [intOf]; omega⟩
      · rw [show bt rs[j].x q = 1 from hb1] at eb
        have hN := HFR1.out hb1
        have HST2 := HST.out
        rw [hN] at HST2
        have HST := hid HST2
        have hMw := (show (⟨((⟨Pn, Px, Pz, Pf⟩ : PS).mul rs[j].ps).n, ((⟨Pn, Px, Pz, Pf⟩ : PS).mul rs[j].ps).x, ((⟨Pn, Px, Pz, Pf⟩ : PS).mul rs[j].ps).z, ((⟨Pn, Px, Pz, Pf⟩ : PS).mul rs[j].ps).f⟩ : Pr).w64 from ⟨hMO.xl, hMO.zl⟩)
        clear HST2 hN HFR0 HFR1 HSAM hb1
        generalize (⟨Pn, Px, Pz, Pf⟩ : PS).mul rs[j].ps = M at *
        generalize rs[j].ps = S at *
        obtain ⟨sn, sx, sz, sf⟩ := S
        obtain ⟨mn, mx, mz, mf⟩ := M
        simp only at *
        have HMW := hid hMw
        have HSET := hid (fun (W : World) (h : OT W w.heap.size (.slice (some ⟨g, 0, none⟩) rs.length c1) (mixI FR k (N + k) rs j)) (r : Pr) (hr : r.w64) => (by
          have hm : (mixI FR k (N + k) rs j).length = rs.length := mixI_len j
          have h' : OT W w.heap.size (.slice (some ⟨g, 0, none⟩) (mixI FR k (N + k) rs j).length c1) (mixI FR k (N + k) rs j) := by rw [hm]; exact h
          have h2 := h'.set (j := j) (by rw [hm]; exact hlt) r hr
          rw [hm] at h2
          exact h2 : OT _ w.heap.size (.slice (some ⟨g, 0, none⟩) rs.length c1) ((mixI FR k (N + k) rs j).set j r)))
        obtain ⟨x0, x1, x2, x3, _, _, _, _⟩ := HP.out
        have lx := HP.out.lt
        go_upto_region 21 with (fail)
        clear hMw hMO h1 h2 d3 l3
        go_region_with (go_at_call 21; (with_reducible refine (ML _).mono ?_); rintro e w5 ⟨rfl, hB5⟩; (have hh5 := btr (drew_ofr (W := wr)) hB5); (obtain ⟨fz, u0, u1, u2, u3, _, gl⟩ := HAT.out _ hh5); (have k5 := bk_on K8.out hh5); (have d5 := k5.cell); have l5 := k5.lt)
        all_goals
          have hB6 := btr (drew_ofr (W := wr)) hB5
          have hO6 := HSET.out w5 (HO.out.below hB6) ⟨(mn : Nat), mx, mz, (mf : Nat)⟩ HMW.out
          rw [HST.out] at hO6
          have k3 := bk_on K3.out hB6
          have k6 := bk_on K6.out hB6
          have k8 := bk_on K8.out hB6
          have p6 := HP.out.below hB6
          have n8 : g ≠ b8 := Nat.ne_of_lt G2.out
          have n12 : g ≠ b12 := by have := G2.out; have := L12.out; omega
          have n3 : g ≠ w.heap.size := fun e => own_ne (HO.out.below hB6).own k3 (by decide) g rfl (by rw [e])
          have n6 : g ≠ w.heap.size + 1 := fun e => own_ne (HO.out.below hB6).own k6 (by decide) g rfl (by rw [e])
          have HO6 := hid hO6
          have HK3 := hid ((((k3.far n3 (j * 4) (.int .i64 (mn : Int))).far n3 (j * 4 + 1) (.int .u64 (mx : Int))).far n3 (j * 4 + 2) (.int .u64 (mz : Int))).far n3 (j * 4 + 3) (.int .i64 (mf : Int)))
          have HK6 := hid ((((k6.far n6 (j * 4) (.int .i64 (mn : Int))).far n6 (j * 4 + 1) (.int .u64 (mx : Int))).far n6 (j * 4 + 2) (.int .u64 (mz : Int))).far n6 (j * 4 + 3) (.int .i64 (mf : Int)))
          have HK8 := hid ((((k8.far n8 (j * 4) (.int .i64 (mn : Int))).far n8 (j * 4 + 1) (.int .u64 (mx : Int))).far n8 (j * 4 + 2) (.int .u64 (mz : Int))).far n8 (j * 4 + 3) (.int .i64 (mf : Int)))
          have HP6 := hid ((((p6.far n12 (j * 4) (.int .i64 (mn : Int))).far n12 (j * 4 + 1) (.int .u64 (mx : Int))).far n12 (j * 4 + 2) (.int .u64 (mz : Int))).far n12 (j * 4 + 3) (.int .i64 (mf : Int)))
          have HBB := hid (bset (bset (bset (bset (btr HB.out hB6) g (j * 4) (.int .i64 (mn : Int)) GB.out) g (j * 4 + 1) (.int .u64 (mx : Int)) GB.out) g (j * 4 + 2) (.int .u64 (mz : Int)) GB.out) g (j * 4 + 3) (.int .i64 (mf : Int)) GB.out)
          clear hO6 k3 k6 k8 p6 n3 n6 n8 n12
          go_wp2
          exact ⟨⟨j + 1, by omega, by go_num, HO6, HK3, HK6, HK8, HP6, HBB⟩, by simp only [intOf]; omega⟩
end Go.Proofs.Ytoddbaljnlhhaab
