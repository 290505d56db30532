/-
  Put together of: E3.
-/
import Derived.Test.YtoddbaljnlhhaabXS
import Derived.Test.YtoddbaljnlhhaabXT
namespace Go.Proofs.Ytoddbaljnlhhaab
open Go.RowKit Go.Sort
open PL (pv PS bt cgk cgT)

theorem BL.Row.below {a : Option Addr} {p : Nat → Int} {n : Nat} {w w' : World} (h : BL.Row a p n w) (hb : Below w.heap.size w w') : BL.Row a p n w' := ⟨fun i hi => by
  obtain ⟨b, off, e, hc⟩ := h.at_ i hi
  exact ⟨b, off, e, (hb.cell (p := ⟨b, _, none⟩) (block_lt_of_cell hc)).trans hc⟩⟩
/-- A string turned by gate i on the qubits q. -/
def trP (i : Nat) (q : Nat → Int) (p : PS) : PS := ⟨p.n, (PL.trn (cgT i) q (cgk i) (p.x, p.z, p.f)).1, (PL.trn (cgT i) q (cgk i) (p.x, p.z, p.f)).2.1, (PL.trn (cgT i) q (cgk i) (p.x, p.z, p.f)).2.2⟩
/-- A part that is a string. -/
def PaOk (k : Nat) (a : PL.T3) : Prop := a.1 < 2 ^ k ∧ a.2.1 < 2 ^ k ∧ a.2.2 < 4
abbrev paS (k : Nat) (a : PL.T3) : PS := ⟨k, a.1, a.2.1, a.2.2⟩
theorem PaOk.ok {k : Nat} {a : PL.T3} (h : PaOk k a) (hk : k ≤ 2) : (paS k a).ok := ⟨by show k ≤ 64; omega, h.1, h.2.1, h.2.2⟩
theorem PaOk.lm {k : Nat} {a t : PL.T3} (h : PaOk k a) (g : PaOk k t) : PaOk k (PL.lm a t) := ⟨PL.xor_ltn h.1 g.1, PL.xor_ltn h.2.1 g.2.1, PL.mulF_lt _ _ _ _ _ _⟩
theorem cgT_ok : ∀ i, i < 17 → ∀ j, j < 2 * cgk i → (cgT i j).1 < 2 ^ cgk i ∧ (cgT i j).2.1 < 2 ^ cgk i ∧ (cgT i j).2.2 < 4 := by decide +kernel
theorem lrun_ok {i : Nat} (hi : i < 17) {x z : Nat} {a : PL.T3} (ha : PaOk (cgk i) a) : ∀ j, j ≤ cgk i → PaOk (cgk i) (PL.lrun (cgT i) (cgk i) x z a j)
  | 0, _ => ha
  | j + 1, hj => by
    have ih := lrun_ok hi ha (x := x) (z := z) j (by omega)
    have t1 : PaOk (cgk i) (cgT i j) := cgT_ok i hi j (by omega)
    have t2 : PaOk (cgk i) (cgT i (cgk i + j)) := cgT_ok i hi _ (by omega)
    show PaOk _ (PL.lstep _ _ _ _ _ _)
    unfold PL.lstep
    split
    · split
      · exact (ih.lm t1).lm t2
      · exact ih.lm t2
    · split
      · exact ih.lm t1
      · exact ih
theorem drew_of {a W : World} (_h : Below a.heap.size a W) : Below W.heap.size W W.drew := below_drew (Below.refl _ _)
/-- What is read of the row where the part is made. -/
abbrev TU (V W : World) (B f : Nat) : Prop := Below V.heap.size V W ∧ W.cell? ⟨B, 3, none⟩ = some (.int .i64 (f : Int))
theorem tu_keep {V W : World} {B f : Nat} (h : TU V V B f) (hB : B < V.heap.size) (hb : Below V.heap.size V W) : TU V W B f := ⟨hb, (hb.cell (p := ⟨B, 3, none⟩) hB).trans h.2⟩
theorem bdr {a w : World} (h : Below a.heap.size a w) (n : Nat) : Below a.heap.size a (w.drewN n) := below_drewN h n
set_option maxHeartbeats 2000000 in
set_option maxRecDepth 100000 in
theorem turned_any (i : Nat) (hi : i < 17) (p : PS) (hp : p.ok) (q : Nat → Int) (aq : Option Addr) (cq : Nat) (ta : Option Addr) (ct : Nat) (w : World) (HQ : BL.Row aq q (cgk i) w) (hP : BL.Plc q (cgk i)) (HT : TS w ta ct (cgRows i (2 * cgk i))) :
    Calls Try.prog 33 #[p.v, .slice aq (cgk i : Nat) cq, .slice ta (2 * cgk i : Nat) ct] w fun e w' => e = .returned (trP i q p).v ∧ Below w.heap.size w w' := by
  obtain ⟨K, hK⟩ : ∃ K, Hid (K = cgk i) := ⟨_, rfl⟩
  obtain ⟨M, hM⟩ : ∃ M, Hid (M = 2 * cgk i) := ⟨_, rfl⟩
  have hk12 := (PL.cgk_is i hi).1
  have hK2 : K ≤ 2 := by rw [hK.out]; omega
  have hMK : Hid (M = 2 * K) := by show M = 2 * K; rw [hM.out, hK.out]
  have PX := fun w (h : BL.Row aq q (cgk i) w) => BL.pick_any p.x aq q (cgk i) cq w hp.xl h hP
  have PZ := fun w (h : BL.Row aq q (cgk i) w) => BL.pick_any p.z aq q (cgk i) cq w hp.zl h hP
  have UX := fun v w (h : BL.Row aq q (cgk i) w) (hv : v < 2 ^ cgk i) (hv2 : v < 18446744073709551616) => BL.put_any p.x v aq q (cgk i) cq w hp.xl hv2 h hP hv
  have UZ := fun v w (h : BL.Row aq q (cgk i) w) (hv : v < 2 ^ cgk i) (hv2 : v < 18446744073709551616) => BL.put_any p.z v aq q (cgk i) cq w hp.zl hv2 h hP hv
  have lx := BL.pickN_low p.x q (cgk i)
  have lz := BL.pickN_low p.z q (cgk i)
  obtain ⟨x, hx⟩ : ∃ x, Hid (x = BL.pickN p.x q (cgk i)) := ⟨_, rfl⟩
  obtain ⟨z, hz⟩ : ∃ z, Hid (z = BL.pickN p.z q (cgk i)) := ⟨_, rfl⟩
  rw [← hx.out] at lx PX
  rw [← hz.out] at lz PZ
  have h4 : ∀ y, y < 2 ^ cgk i → y < 4 := fun y => PL.two_pow4 hi
  have x4 := h4 x lx
  have z4 := h4 z lz
  have hxz := PL.i_and x z (by omega) (by omega)
  have CN := fun w => PL.count_any (x &&& z) w (PL.and_lt (by omega))
  have hp64 := PL.pop_le 64 (x &&& z)
  have hf := hp.f1
  have e3 := PL.and3 ((p.f : Int) + (PL.pop 64 (x &&& z) : Nat))
  obtain ⟨F, hF⟩ : ∃ F, Hid (F = (p.f + PL.pop 64 (x &&& z)) % 4) := ⟨_, rfl⟩
  have hF4 : F < 4 := by rw [hF.out]; exact Nat.mod_lt _ (by omega)
  have e4 : ((p.f : Int) + (PL.pop 64 (x &&& z) : Nat)) % 4 = (F : Int) := by rw [hF.out]; omega
  rw [e4] at e3
  have HRUN := hid (fun j hj => lrun_ok hi (x := x) (z := z) (a := (0, 0, F)) ⟨Nat.two_pow_pos _, Nat.two_pow_pos _, hF4⟩ j hj)
  have HRES : Hid (trP i q p = ⟨p.n, BL.putN (PL.lrun (cgT i) (cgk i) x z (0, 0, F) (cgk i)).1 q p.x (cgk i), BL.putN (PL.lrun (cgT i) (cgk i) x z (0, 0, F) (cgk i)).2.1 q p.z (cgk i), (PL.lrun (cgT i) (cgk i) x z (0, 0, F) (cgk i)).2.2⟩) := by
    show _ = _
    rw [hx.out, hz.out, hF.out, hx.out, hz.out]
    rfl
  have HTK := hid (cgT_ok i hi)
  have HQH := hid HQ
  have HTH := hid HT
  rw [← hM.out] at HTH HTK ⊢
  rw [← hK.out] at PX PZ UX UZ lx lz HRUN HRES HTK HQH ⊢
  clear e4 HQ HT hP hk12 h4
  obtain ⟨pn, px, pz, pf⟩ := p
  simp only at *
  generalize PL.pop 64 (x &&& z) = P at *
  obtain ⟨hW, b1, b2⟩ : Below w.heap.size w ((w.alloc (PL.pc pn px pz pf)).alloc (.cells #[.int .i64 0, .int .u64 0, .int .u64 0, .int .i64 0] 29)) ∧ PL.PB ((w.alloc (PL.pc pn px pz pf)).alloc (.cells #[.int .i64 0, .int .u64 0, .int .u64 0, .int .i64 0] 29)) w.heap.size pn px pz pf ∧ PL.PB ((w.alloc (PL.pc pn px pz pf)).alloc (.cells #[.int .i64 0, .int .u64 0, .int .u64 0, .int .i64 0] 29)) (w.heap.size + 1) 0 0 0 0 := PL.two_boxes w pn px pz pf 0 0 0 0
  go_enter Try.func33, Try.ntmps33
  go_upto_region 3 with (first
    | (go_at_call 58; (with_reducible refine (PX _ (HQH.out.below hW)).mono ?_); rintro e w1 ⟨rfl, rfl⟩)
    | (go_at_call 58; (with_reducible refine (PZ _ (HQH.out.below hW)).mono ?_); rintro e w1 ⟨rfl, rfl⟩))
  have hwr : IntKind.i64.wrap ((pf : Int) + (P : Int)) = (pf : Int) + (P : Int) := by rw [IntKind.wrap_i64]; omega
  clear PX PZ
  have HW := hid hW
  have HB1 := hid b1
  have HB2 := hid b2
  obtain ⟨V, hV⟩ : ∃ V, V = (w.alloc (PL.pc pn px pz pf)).alloc (.cells #[.int .i64 0, .int .u64 0, .int .u64 0, .int .i64 0] 29) := ⟨_, rfl⟩
  rw [← hV] at HW HB1 HB2 ⊢
  clear hV hW b1 b2
  have hR : TU V V w.heap.size pf := ⟨Below.refl _ _, HB1.out.c3⟩
  have HR := hid hR
  have hV := Below.refl V.heap.size V
  have z1 := HB1.out.lt
  clear hR
  go_cut [11] from 27 to 37 (fun v11 W => ∃ B7, v11 = Value.pointer (some ⟨B7, 0, none⟩) ∧ Below V.heap.size V W ∧ V.heap.size ≤ B7 ∧ PL.PB W B7 K 0 0 F)
  case first =>
    go_region_held3 (fun w' => TU V w' w.heap.size pf)
      ((refine tu_keep HR.out z1 ?_; first | exact below_drew hV | exact below_drew (bal hV _) | exact btr (And.left (by assumption)) hN | exact bdr (And.left (by assumption)) _ | exact bal (And.left (by assumption)) _ | exact bset (bset (bset (bset hV _ _ _ (Nat.le_refl _)) _ _ _ (Nat.le_refl _)) _ _ _ (Nat.le_refl _)) _ _ _ (Nat.le_refl _)))
      (first | (go_at_call 59; (with_reducible refine (CN _).mono ?_); rintro e w2 ⟨rfl, rfl⟩))
    all_goals
      go_wp2
      go_meet
      case rel => exact ⟨_, rfl, by first | exact below_drew (bal hV _) | exact bal hV _, Nat.le_refl _, by first | exact (PL.PB.new V K 0 0 F).drew | exact PL.PB.new V K 0 0 F⟩
  case rest =>
    obtain ⟨B7, rfl, hB, hB7, p7⟩ := hcut
    have HP7 := hid p7
    have HB0 := hid (btr HW.out hB)
    have HP1 := hid (HB1.out.below hB)
    have HP2 := hid (HB2.out.below hB)
    have hB7a : w.heap.size + 2 ≤ B7 := by have := HB2.out.lt; omega
    clear hB p7 hV HR z1 HB1 HB2 HW CN e3 hwr hxz hp64 hf
    clear hB7
    go_wp2
    go_loopw [40] (fun v40 wx => ∃ (j : Nat) (a : PL.T3), j ≤ K ∧ v40 = .int .i64 (j : Nat) ∧ Hid (a = PL.lrun (cgT i) K x z (0, 0, F) j) ∧ Hid (PL.PB wx B7 K a.1 a.2.1 a.2.2) ∧ Hid (PL.PB wx w.heap.size pn px pz pf) ∧ Hid (PL.PB wx (w.heap.size + 1) 0 0 0 0) ∧ Hid (Below w.heap.size w wx)) (fun v40 _ => K - (intOf v40).toNat)
    case atStart => exact ⟨0, (0, 0, F), Nat.zero_le _, rfl, rfl, HP7, HP1, HP2, HB0⟩
    case round =>
      clear HP7 HP1 HP2 HB0
      obtain ⟨j, a, hj, rfl, HA, HP7, HP1, HP2, HB0⟩ := hrel
      by_cases hlt : j < K
      case neg =>
        obtain rfl : j = K := by omega
        have ha := HRUN.out j (Nat.le_refl _)
        rw [← HA.out] at ha HRES
        have h4 : ∀ y, y < 2 ^ j → y < 18446744073709551616 := fun y hy => PL.lt64 hy (by omega)
        obtain ⟨X, Z, f⟩ := a
        simp only at *
        have UX2 := UX X wr (HQH.out.below HB0.out) ha.1 (h4 _ ha.1)
        have UZ2 := fun w h => UZ Z w h ha.2.1 (h4 _ ha.2.1)
        generalize BL.putN X q px j = X' at *
        generalize BL.putN Z q pz j = Z' at *
        clear UX UZ HRUN HTK ha
        obtain ⟨a0, a1, a2, a3, a4, a5, a6, a7⟩ := HP1.out
        obtain ⟨c0, c1, c2, c3, c4, c5, c6, c7⟩ := HP7.out
        obtain ⟨d0, d1, d2, d3, d4, d5, d6, d7⟩ := HP2.out
        go_wp2_with (first
          | (go_at_call 60; (with_reducible refine UX2.mono ?_); rintro e w1 ⟨rfl, m, rfl⟩)
          | (go_at_call 60; (with_reducible refine (UZ2 _ (HQH.out.below (bset (bdr HB0.out m) w.heap.size 1 (.int .u64 (X' : Int)) (Nat.le_refl _)))).mono ?_); rintro e w1 ⟨rfl, m2, rfl⟩))
        have hne : w.heap.size ≠ w.heap.size + 1 := by omega
        have r := ((((((((HP2.out.drewN m).far hne 1 (.int .u64 (X' : Int))).drewN m2).far hne 2 (.int .u64 (Z' : Int))).far hne 3 (.int .i64 (f : Int))).set0 (pn : Int)).set1 X').set2 Z').set3 (f : Int)
        have hBf := bset (bset (bset (bset (bset (bset (bdr (bset (bdr HB0.out m) w.heap.size 1 (.int .u64 (X' : Int)) (Nat.le_refl _)) m2) w.heap.size 2 (.int .u64 (Z' : Int)) (Nat.le_refl _)) w.heap.size 3 (.int .i64 (f : Int)) (Nat.le_refl _)) (w.heap.size + 1) 0 (.int .i64 (pn : Int)) (by omega)) (w.heap.size + 1) 1 (.int .u64 (X' : Int)) (by omega)) (w.heap.size + 1) 2 (.int .u64 (Z' : Int)) (by omega)) (w.heap.size + 1) 3 (.int .i64 (f : Int)) (by omega)
        obtain ⟨q0, q1, q2, q3, _, _, _, _⟩ := r
        exact bodyPost_ret (v := pv pn X' Z' f) (by simp [results, Try.results33, go_sem, q0, q1, q2, q3]) rfl ⟨by rw [HRES.out], hBf⟩
      have hj64 : j < 64 := by omega
      have ex := PL.i_bit x j (by omega)
      have ez := PL.i_bit z j (by omega)
      have hMj : j < M := by have := hMK.out; omega
      have hMj2 : K + j < M := by have := hMK.out; omega
      have hlen : (cgRows i M).length = M := cgRows_len i M
      have hg : ∀ l, l < M → (cgRows i M)[l]? = some (cgRow i l) := fun l hl => by simp [cgRows, hl]
      have HTC : Hid (∀ l, l < M → ∀ W, Below w.heap.size w W → ∃ b o, ta = some ⟨b, o, none⟩ ∧ b < W.heap.size ∧ W.cell? ⟨b, o + l * 4, none⟩ = some (.int .i64 (K : Nat)) ∧ W.cell? ⟨b, o + l * 4 + 1, none⟩ = some (.int .u64 ((cgT i l).1 : Nat)) ∧ W.cell? ⟨b, o + l * 4 + 2, none⟩ = some (.int .u64 ((cgT i l).2.1 : Nat)) ∧ W.cell? ⟨b, o + l * 4 + 3, none⟩ = some (.int .i64 ((cgT i l).2.2 : Nat))) := fun l hl W hB => by
        have hl2 : l < (cgRows i M).length := by rw [hlen]; exact hl
        obtain ⟨b, o, e, rp⟩ := (HTH.out.below hB).at_ l hl2
        have hg1 : (cgRows i M)[l]'hl2 = ⟨(K : Nat), (cgT i l).1, (cgT i l).2.1, ((cgT i l).2.2 : Nat)⟩ := by
          have h := hg l hl
          rw [List.getElem?_eq_getElem hl2] at h
          rw [Option.some.inj h]
          unfold cgRow
          rw [← hK.out]
        have m0 := rp.c0 l hl2
        have m1 := rp.c1 l hl2
        have m2 := rp.c2 l hl2
        have m3 := rp.c3 l hl2
        rw [hg1] at m0 m1 m2 m3
        exact ⟨b, o, e, rp.lt, m0, m1, m2, m3⟩
      have hT1 : PaOk K (cgT i j) := HTK.out j hMj
      have hT2 : PaOk K (cgT i (K + j)) := HTK.out (K + j) hMj2
      have ha := HRUN.out j (by omega)
      rw [← HA.out] at ha
      have HN : Hid (PL.lrun (cgT i) K x z (0, 0, F) (j + 1) = if bt z j = 1 then PL.lm (if bt x j = 1 then PL.lm a (cgT i j) else a) (cgT i (K + j)) else if bt x j = 1 then PL.lm a (cgT i j) else a) := by show _ = _; rw [HA.out]; rfl
      have HC1 := hid (HTC.out j hMj)
      obtain ⟨l, hl⟩ : ∃ l, Hid (l = K + j) := ⟨_, rfl⟩
      have hKl : (K : Int) + (j : Int) = (l : Int) := by rw [hl.out]; omega
      have hwl : IntKind.i64.wrap ((K : Int) + (j : Int)) = (l : Int) := by rw [hKl, IntKind.wrap_i64]; omega
      have hwl2 : IntKind.i64.wrap (l : Int) = (l : Int) := by rw [IntKind.wrap_i64]; omega
      have HC2 := hid (HTC.out (K + j) hMj2)
      rw [← hl.out] at HC2 HN hT2 hMj2
      have hcap := HTH.out.cap
      have hcl := HTH.out.l
      rw [hlen] at hcap
      clear hg hlen HRUN HTK UX UZ HTC HTH HA
      generalize cgT i j = T1 at *
      generalize cgT i l = T2 at *
      have HMJ := hid hMj
      have HMJ2 := hid hMj2
      have hwz : w.heap.size ≤ B7 := by omega
      have hB7n : w.heap.size ≠ B7 := by omega
      have hB7m : w.heap.size + 1 ≠ B7 := by omega
      rcases PL.bt01 x j with hbx | hbx
      · rcases PL.bt01 z j with hbz | hbz
        · have HNX : Hid (PL.lrun (cgT i) K x z (0, 0, F) (j + 1) = a) := by
            show _ = _
            rw [HN.out, hbx, hbz]
            rfl
          rw [hbx] at ex
          rw [hbz] at ez
          clear HN hbx hbz
          obtain ⟨ax, az, af⟩ := a
          obtain ⟨T1x, T1z, T1f⟩ := T1
          obtain ⟨T2x, T2z, T2f⟩ := T2
          simp only at *
          go_wp2
          exact ⟨⟨j + 1, (ax, az, af), by omega, rfl, HNX.out.symm, HP7, HP1, HP2, HB0⟩, by simp only [intOf]; omega⟩
        · have HNX : Hid (PL.lrun (cgT i) K x z (0, 0, F) (j + 1) = PL.lm a T2) := by
            show _ = _
            rw [HN.out, hbx, hbz]
            rfl
          rw [hbx] at ex
          rw [hbz] at ez
          clear HN hbx hbz
          have ML2 := fun w => PL.mul_yes (paS K a) (paS K T2) w (ha.ok hK2) (hT2.ok hK2) rfl
          rw [show (paS K a).mul (paS K T2) = paS K (PL.lm a T2) from rfl] at ML2
          generalize PL.lm a T2 = R2 at *
          obtain ⟨ax, az, af⟩ := a
          obtain ⟨T1x, T1z, T1f⟩ := T1
          obtain ⟨T2x, T2z, T2f⟩ := T2
          obtain ⟨R2x, R2z, R2f⟩ := R2
          simp only at *
          obtain ⟨b2, o2, e2, hbl, m0, m1, m2, m3⟩ := HC2.out _ HB0.out
          subst e2
          obtain ⟨c0, c1, c2, c3, f0, f1, f2, f3⟩ := HP7.out
          have l7 := HP7.out.lt
          have HDR := hid (drew_of HB0.out)
          go_upto_region 10 with (fail)
          go_region_with (go_at_call 48; (with_reducible refine (ML2 _).mono ?_); rintro e w2 ⟨rfl, hB2⟩; (have k7 := HP7.out.below (btr HDR.out hB2)); (obtain ⟨c0, c1, c2, c3, f0, f1, f2, f3⟩ := k7); have l7 := (HP7.out.below (btr HDR.out hB2)).lt)
          all_goals
            have HQ7 := hid (((((HP7.out.below (btr HDR.out hB2)).set0 (K : Int)).set1 R2x).set2 R2z).set3 (R2f : Int))
            have HQ1 := hid (((((HP1.out.below (btr HDR.out hB2)).far hB7n.symm 0 (.int .i64 (K : Int))).far hB7n.symm 1 (.int .u64 (R2x : Int))).far hB7n.symm 2 (.int .u64 (R2z : Int))).far hB7n.symm 3 (.int .i64 (R2f : Int)))
            have HQ2 := hid (((((HP2.out.below (btr HDR.out hB2)).far hB7m.symm 0 (.int .i64 (K : Int))).far hB7m.symm 1 (.int .u64 (R2x : Int))).far hB7m.symm 2 (.int .u64 (R2z : Int))).far hB7m.symm 3 (.int .i64 (R2f : Int)))
            have HQ0 := hid (bset (bset (bset (bset (btr HB0.out (btr HDR.out hB2)) B7 0 (.int .i64 (K : Int)) hwz) B7 1 (.int .u64 (R2x : Int)) hwz) B7 2 (.int .u64 (R2z : Int)) hwz) B7 3 (.int .i64 (R2f : Int)) hwz)
            go_wp2
            exact ⟨⟨j + 1, (R2x, R2z, R2f), by omega, rfl, HNX.out.symm, HQ7, HQ1, HQ2, HQ0⟩, by simp only [intOf]; omega⟩
      · rcases PL.bt01 z j with hbz | hbz
        · have HNX : Hid (PL.lrun (cgT i) K x z (0, 0, F) (j + 1) = PL.lm a T1) := by
            show _ = _
            rw [HN.out, hbx, hbz]
            rfl
          rw [hbx] at ex
          rw [hbz] at ez
          clear HN hbx hbz
          have ML1 := fun w => PL.mul_yes (paS K a) (paS K T1) w (ha.ok hK2) (hT1.ok hK2) rfl
          have hR1 := ha.lm hT1
          rw [show (paS K a).mul (paS K T1) = paS K (PL.lm a T1) from rfl] at ML1
          generalize PL.lm a T1 = R1 at *
          obtain ⟨ax, az, af⟩ := a
          obtain ⟨T1x, T1z, T1f⟩ := T1
          obtain ⟨T2x, T2z, T2f⟩ := T2
          obtain ⟨R1x, R1z, R1f⟩ := R1
          simp only at *
          obtain ⟨b1, o1, rfl, hbl, m0, m1, m2, m3⟩ := HC1.out _ HB0.out
          obtain ⟨c0, c1, c2, c3, f0, f1, f2, f3⟩ := HP7.out
          have l7 := HP7.out.lt
          go_upto_region 8 with (fail)
          have HDR := hid (drew_of HB0.out)
          go_cut [] from 49 to 56 (fun W => PL.PB W B7 K R1x R1z R1f ∧ PL.PB W w.heap.size pn px pz pf ∧ PL.PB W (w.heap.size + 1) 0 0 0 0 ∧ Below w.heap.size w W)
          case first =>
            go_region_with (go_at_call 48; (with_reducible refine (ML1 _).mono ?_); rintro e w2 ⟨rfl, hB2⟩; (have k7 := HP7.out.below (btr HDR.out hB2)); (obtain ⟨c0, c1, c2, c3, f0, f1, f2, f3⟩ := k7); have l7 := (HP7.out.below (btr HDR.out hB2)).lt)
            all_goals
              go_wp2
              go_meet
              case rel => exact ⟨((((HP7.out.below (btr HDR.out hB2)).set0 (K : Int)).set1 _).set2 _).set3 _, ((((HP1.out.below (btr HDR.out hB2)).far hB7n.symm _ _).far hB7n.symm _ _).far hB7n.symm _ _).far hB7n.symm _ _, ((((HP2.out.below (btr HDR.out hB2)).far hB7m.symm _ _).far hB7m.symm _ _).far hB7m.symm _ _).far hB7m.symm _ _, bset (bset (bset (bset (btr HB0.out (btr HDR.out hB2)) B7 0 _ hwz) B7 1 _ hwz) B7 2 _ hwz) B7 3 _ hwz⟩
          case rest =>
            obtain ⟨p7, p1, p2, hB⟩ := hcut
            have HP7 := hid p7
            have HP1 := hid p1
            have HP2 := hid p2
            have HB0 := hid hB
            clear p7 p1 p2 hB HDR c0 c1 c2 c3 f0 f1 f2 f3 l7 m0 m1 m2 m3 hbl
            go_wp2
            exact ⟨⟨j + 1, (R1x, R1z, R1f), by omega, rfl, HNX.out.symm, HP7, HP1, HP2, HB0⟩, by simp only [intOf]; omega⟩
        · have HNX : Hid (PL.lrun (cgT i) K x z (0, 0, F) (j + 1) = PL.lm (PL.lm a T1) T2) := by
            show _ = _
            rw [HN.out, hbx, hbz]
            rfl
          rw [hbx] at ex
          rw [hbz] at ez
          clear HN hbx hbz
          have ML1 := fun w => PL.mul_yes (paS K a) (paS K T1) w (ha.ok hK2) (hT1.ok hK2) rfl
          have hR1 := ha.lm hT1
          rw [show (paS K a).mul (paS K T1) = paS K (PL.lm a T1) from rfl] at ML1
          generalize PL.lm a T1 = R1 at *
          have ML2 := fun w => PL.mul_yes (paS K R1) (paS K T2) w (hR1.ok hK2) (hT2.ok hK2) rfl
          rw [show (paS K R1).mul (paS K T2) = paS K (PL.lm R1 T2) from rfl] at ML2
          generalize PL.lm R1 T2 = R2 at *
          obtain ⟨ax, az, af⟩ := a
          obtain ⟨T1x, T1z, T1f⟩ := T1
          obtain ⟨T2x, T2z, T2f⟩ := T2
          obtain ⟨R1x, R1z, R1f⟩ := R1
          obtain ⟨R2x, R2z, R2f⟩ := R2
          simp only at *
          obtain ⟨b1, o1, rfl, hbl, m0, m1, m2, m3⟩ := HC1.out _ HB0.out
          obtain ⟨c0, c1, c2, c3, f0, f1, f2, f3⟩ := HP7.out
          have l7 := HP7.out.lt
          go_upto_region 8 with (fail)
          have HDR := hid (drew_of HB0.out)
          go_cut [] from 49 to 56 (fun W => PL.PB W B7 K R1x R1z R1f ∧ PL.PB W w.heap.size pn px pz pf ∧ PL.PB W (w.heap.size + 1) 0 0 0 0 ∧ Below w.heap.size w W)
          case first =>
            go_region_with (go_at_call 48; (with_reducible refine (ML1 _).mono ?_); rintro e w2 ⟨rfl, hB2⟩; (have k7 := HP7.out.below (btr HDR.out hB2)); (obtain ⟨c0, c1, c2, c3, f0, f1, f2, f3⟩ := k7); have l7 := (HP7.out.below (btr HDR.out hB2)).lt)
            all_goals
              go_wp2
              go_meet
              case rel => exact ⟨((((HP7.out.below (btr HDR.out hB2)).set0 (K : Int)).set1 _).set2 _).set3 _, ((((HP1.out.below (btr HDR.out hB2)).far hB7n.symm _ _).far hB7n.symm _ _).far hB7n.symm _ _).far hB7n.symm _ _, ((((HP2.out.below (btr HDR.out hB2)).far hB7m.symm _ _).far hB7m.symm _ _).far hB7m.symm _ _).far hB7m.symm _ _, bset (bset (bset (bset (btr HB0.out (btr HDR.out hB2)) B7 0 _ hwz) B7 1 _ hwz) B7 2 _ hwz) B7 3 _ hwz⟩
          case rest =>
            obtain ⟨p7, p1, p2, hB⟩ := hcut
            have HP7 := hid p7
            have HP1 := hid p1
            have HP2 := hid p2
            have HB0 := hid hB
            clear p7 p1 p2 hB HDR c0 c1 c2 c3 f0 f1 f2 f3 l7 m0 m1 m2 m3 hbl
            obtain ⟨b2, o2, e2, hbl, m0, m1, m2, m3⟩ := HC2.out _ HB0.out
            cases e2
            obtain ⟨c0, c1, c2, c3, f0, f1, f2, f3⟩ := HP7.out
            have l7 := HP7.out.lt
            have HDR := hid (drew_of HB0.out)
            go_upto_region 10 with (fail)
            go_region_with (go_at_call 48; (with_reducible refine (ML2 _).mono ?_); rintro e w2 ⟨rfl, hB2⟩; (have k7 := HP7.out.below (btr HDR.out hB2)); (obtain ⟨c0, c1, c2, c3, f0, f1, f2, f3⟩ := k7); have l7 := (HP7.out.below (btr HDR.out hB2)).lt)
            all_goals
              have HQ7 := hid (((((HP7.out.below (btr HDR.out hB2)).set0 (K : Int)).set1 R2x).set2 R2z).set3 (R2f : Int))
              have HQ1 := hid (((((HP1.out.below (btr HDR.out hB2)).far hB7n.symm 0 (.int .i64 (K : Int))).far hB7n.symm 1 (.int .u64 (R2x : Int))).far hB7n.symm 2 (.int .u64 (R2z : Int))).far hB7n.symm 3 (.int .i64 (R2f : Int)))
              have HQ2 := hid (((((HP2.out.below (btr HDR.out hB2)).far hB7m.symm 0 (.int .i64 (K : Int))).far hB7m.symm 1 (.int .u64 (R2x : Int))).far hB7m.symm 2 (.int .u64 (R2z : Int))).far hB7m.symm 3 (.int .i64 (R2f : Int)))
              have HQ0 := hid (bset (bset (bset (bset (btr HB0.out (btr HDR.out hB2)) B7 0 (.int .i64 (K : Int)) hwz) B7 1 (.int .u64 (R2x : Int)) hwz) B7 2 (.int .u64 (R2z : Int)) hwz) B7 3 (.int .i64 (R2f : Int)) hwz)
              go_wp2
              exact ⟨⟨j + 1, (R2x, R2z, R2f), by omega, rfl, HNX.out.symm, HQ7, HQ1, HQ2, HQ0⟩, by simp only [intOf]; omega⟩
end Go.Proofs.Ytoddbaljnlhhaab
