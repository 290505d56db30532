/-
  tableau: the value of a string.
-/
import Derived.Test.YtoddbaljnlhhaaaA2
namespace Go.Proofs.Ytoddbaljnlhhaaa
open Go.RowKit Go.Sort
open PL (pv PS)

/-- A row as a string. -/
def Pr.ps (r : Pr) : PS := ⟨r.n.toNat, r.x, r.z, r.f.toNat⟩
theorem rowOk.ps {n : Int} {r : Pr} (h : rowOk n r) : r.ps.ok ∧ (r.ps.n : Int) = n ∧ r = ⟨r.ps.n, r.ps.x, r.ps.z, r.ps.f⟩ := by
  obtain ⟨p, hp, _, he⟩ := PL.Good.of h.1
  have e : r.ps = p := by rw [he]; rfl
  have hn := h.2.1
  rw [e]
  exact ⟨hp, by rw [he] at hn; exact hn, he⟩
def nthP (rows : List Pr) (k : Nat) : PS := (rows.getD k ⟨0, 0, 0, 0⟩).ps
theorem nthP_at {rows : List Pr} {k : Nat} (h : k < rows.length) : nthP rows k = rows[k].ps := by
  unfold nthP
  rw [List.getD_eq_getElem?_getD, List.getElem?_eq_getElem h]
  rfl
abbrev comS (a b : PS) : Prop := PL.comB a.x a.z b.x b.z = 0
/-- The product of the stabilizers whose partners don't commute with p; none, if one of them does not commute itself. -/
def vgo (rows : List Pr) (N : Nat) (p : PS) : Nat → Nat → PS → Option PS
  | 0, _, acc => some acc
  | f + 1, k, acc => if comS (nthP rows (N + k)) p then vgo rows N p f (k + 1) (if comS (nthP rows k) p then acc else acc.mul (nthP rows (N + k))) else none
def eyeP (n : Nat) : PS := ⟨n, 0, 0, 0⟩
def eqP (a b : PS) : Bool := a.n == b.n && (a.x == b.x && (a.z == b.z && a.f == b.f))
def valO (p : PS) : Option PS → Int
  | none => 0
  | some q => if eqP q p = true then 1 else -1
def valT (t : Tb) (p : PS) : Int := valO p (vgo t.rows t.n.toNat p t.n.toNat 0 (eyeP t.n.toNat))
theorem Rt.ps {t : Tb} (h : Rt t) {k : Nat} (hk : k < t.rows.length) : (nthP t.rows k).ok ∧ ((nthP t.rows k).n : Int) = t.n ∧ t.rows[k] = ⟨(nthP t.rows k).n, (nthP t.rows k).x, (nthP t.rows k).z, (nthP t.rows k).f⟩ := by
  rw [nthP_at hk]
  exact (h.row k hk).ps
theorem com_t (p q : PS) (w : World) (hp : p.ok) (hq : q.ok) (hn : p.n = q.n) (h : comS p q) : Calls Try.prog 47 #[p.v, q.v] w fun e w' => e = .returned (.bool true) ∧ Below w.heap.size w w' := by
  have h1 := commute_any p q w hp hq hn
  rw [decide_eq_true (show PL.comB p.x p.z q.x q.z = 0 from h)] at h1
  exact h1
theorem com_f (p q : PS) (w : World) (hp : p.ok) (hq : q.ok) (hn : p.n = q.n) (h : ¬ comS p q) : Calls Try.prog 47 #[p.v, q.v] w fun e w' => e = .returned (.bool false) ∧ Below w.heap.size w w' := by
  have h1 := commute_any p q w hp hq hn
  rw [decide_eq_false (show ¬ PL.comB p.x p.z q.x q.z = 0 from h)] at h1
  exact h1
/-- What the comparison of a destabilizer reads. -/
abbrev K7 (V W : World) (h B1 b o k : Nat) (a : Option Addr) (l c : Nat) (pn px pz pf dn dx dz df : Nat) : Prop := Below V.heap.size V W ∧ W.cell? ⟨h, 1, none⟩ = some (.slice a l c) ∧ W.cell? ⟨B1, 0, none⟩ = some (.int .i64 (pn : Int)) ∧ W.cell? ⟨B1, 1, none⟩ = some (.int .u64 (px : Int)) ∧ W.cell? ⟨B1, 2, none⟩ = some (.int .u64 (pz : Int)) ∧ W.cell? ⟨B1, 3, none⟩ = some (.int .i64 (pf : Int)) ∧ W.cell? ⟨b, o + k * 4, none⟩ = some (.int .i64 (dn : Int)) ∧ W.cell? ⟨b, o + k * 4 + 1, none⟩ = some (.int .u64 (dx : Int)) ∧ W.cell? ⟨b, o + k * 4 + 2, none⟩ = some (.int .u64 (dz : Int)) ∧ W.cell? ⟨b, o + k * 4 + 3, none⟩ = some (.int .i64 (df : Int))
theorem k7_keep {V W : World} {h B1 b o k : Nat} {a : Option Addr} {l c : Nat} {pn px pz pf dn dx dz df : Nat} (H : K7 V V h B1 b o k a l c pn px pz pf dn dx dz df) (h1 : h < V.heap.size) (h2 : B1 < V.heap.size) (h3 : b < V.heap.size) (hb : Below V.heap.size V W) : K7 V W h B1 b o k a l c pn px pz pf dn dx dz df := by
  obtain ⟨_, c0, e0, e1, e2, e3, f0, f1, f2, f3⟩ := H
  have g : ∀ x y, x < V.heap.size → W.cell? ⟨x, y, none⟩ = V.cell? ⟨x, y, none⟩ := fun x y hx => hb.cell (p := ⟨x, y, none⟩) hx
  exact ⟨hb, (g _ _ h1).trans c0, (g _ _ h2).trans e0, (g _ _ h2).trans e1, (g _ _ h2).trans e2, (g _ _ h2).trans e3, (g _ _ h3).trans f0, (g _ _ h3).trans f1, (g _ _ h3).trans f2, (g _ _ h3).trans f3⟩
set_option maxHeartbeats 2000000 in
set_option maxRecDepth 100000 in
theorem value_any (t : Tb) (a : Option Addr) (c : Nat) (p : PS) (w : World) (H : TS w a c t.rows) (hR : Rt t) (hp : p.ok) (hpn : (p.n : Int) = t.n) :
    Calls Try.prog 45 #[t.v a c, p.v] w fun e w' => e = .returned (.int .i64 (valT t p)) ∧ Below w.heap.size w w' := by
  have hn0 := hR.n0
  have hn1 := hR.n1
  have hlen := hR.len
  obtain ⟨n, rs⟩ := t
  simp only at *
  obtain ⟨N, rfl⟩ := Int.eq_ofNat_of_zero_le hn0
  have hN : N ≤ 64 := by omega
  have hl : rs.length = 2 * N := by omega
  have HROW : Hid (∀ k (hk : k < rs.length), (nthP rs k).ok ∧ (nthP rs k).n = N ∧ rs[k] = ⟨(nthP rs k).n, (nthP rs k).x, (nthP rs k).z, (nthP rs k).f⟩) := fun k hk => by
    obtain ⟨h1, h2, h3⟩ := hR.ps hk
    have h2 : ((nthP rs k).n : Int) = (N : Int) := h2
    exact ⟨h1, by omega, h3⟩
  obtain ⟨RES, hres⟩ : ∃ RES, RES = vgo rs N p N 0 (eyeP N) := ⟨_, rfl⟩
  have hv : valT ⟨(N : Int), rs⟩ p = valO p RES := by rw [hres]; rfl
  rw [hv]
  have hpn' : p.n = N := by omega
  have EY := fun w => PL.eye_yes N w hN
  have ST := hid (fun w' => stab_any N rs a c w w' H (by omega) (by omega))
  have HH := hid H
  have HP := hid hp
  have HPN := hid hpn'
  have HRES := hid hres
  have hcap := H.cap
  have hcl := H.l
  have HL := hid hl
  have hl1 : rs.length ≤ 128 := by omega
  have hl2 : N ≤ rs.length := by omega
  clear hR hp hpn hpn' hres hv H hn0 hn1 hlen hl
  obtain ⟨pn, px, pz, pf⟩ := p
  simp only at *
  have hK0 : BK ((w.alloc (.cells #[.int .i64 (N : Int), .slice a rs.length c] 24)).alloc (PL.pc pn px pz pf)) w.heap.size #[.int .i64 (N : Int), .slice a rs.length c] 24 := (bk_new w _ _).alloc _
  have hP0 : PL.PB ((w.alloc (.cells #[.int .i64 (N : Int), .slice a rs.length c] 24)).alloc (PL.pc pn px pz pf)) (w.heap.size + 1) pn px pz pf := by
    have h := PL.PB.new (w.alloc (.cells #[.int .i64 (N : Int), .slice a rs.length c] 24)) pn px pz pf
    rwa [PL.alz] at h
  have hB0 : Below w.heap.size w ((w.alloc (.cells #[.int .i64 (N : Int), .slice a rs.length c] 24)).alloc (PL.pc pn px pz pf)) := bal (bal (Below.refl _ _) _) _
  go_enter Try.func45, Try.ntmps45
  go_upto_region 2 with (go_at_call 66; (with_reducible refine (EY _).mono ?_); rintro e w1 ⟨rfl, hB1⟩)
  have hK1 := (bk_on hK0 hB1).alloc (PL.pc N 0 0 0)
  have hP1 := (hP0.below hB1).alloc (PL.pc N 0 0 0)
  have hE1 := PL.PB.new w1 N 0 0 0
  have hA1 := bal (btr hB0 hB1) (PL.pc N 0 0 0)
  have hb1 : w.heap.size + 2 ≤ w1.heap.size := by have := hB1.size; simp at this; omega
  generalize hV : w1.alloc (PL.pc N 0 0 0) = V at *
  generalize w1.heap.size = B5 at *
  clear hV hK0 hP0 hB0 hB1 EY
  have d1 := hK1.cell
  have l1 := hK1.lt
  go_upto_region 3 with (go_at_call 46; refine Hid.out ?_)
  refine hid ?_
  refine (ST.out _).mono ?_
  rintro e w2 ⟨a2, rfl, hT2, hB2⟩
  have HT2 := hid hT2
  have HK2 := hid (bk_on hK1 hB2)
  have HP2 := hid (hP1.below hB2)
  have HE2 := hid (hE1.below hB2)
  have HA2 := hid (btr hA1 hB2)
  have hdl : (rs.drop N).length = N := by rw [List.length_drop, HL.out]; omega
  have HEO : Hid ((eyeP N).ok ∧ (eyeP N).n = N) := ⟨⟨hN, Nat.two_pow_pos _, Nat.two_pow_pos _, by show 0 < 4; omega⟩, rfl⟩
  have HDL := hid hdl
  generalize hRD : rs.drop N = SD at *
  have HSD := hid hRD
  clear hT2 hK1 hP1 hE1 hA1 hB2 ST d1 l1 hRD hdl
  have hdl2 : SD.length ≤ 64 := by rw [HDL.out]; exact hN
  go_wp2
  go_loopw [18] (fun v18 wx => ∃ (k : Nat) (acc : PS), k ≤ SD.length ∧ v18 = .int .i64 (k : Nat) ∧ Hid (BK wx w.heap.size #[.int .i64 (N : Int), .slice a rs.length c] 24) ∧ Hid (PL.PB wx (w.heap.size + 1) pn px pz pf) ∧ Hid (PL.PB wx B5 acc.n acc.x acc.z acc.f) ∧ Hid (Below w.heap.size w wx) ∧ Hid (acc.ok ∧ acc.n = N) ∧ Hid (vgo rs N ⟨pn, px, pz, pf⟩ (N - k) k acc = RES)) (fun v18 _ => SD.length - (intOf v18).toNat)
  case atStart => exact ⟨0, eyeP N, Nat.zero_le _, rfl, HK2, HP2, HE2, HA2, HEO, HRES.out.symm⟩
  case round =>
    clear HK2 HP2 HE2 HA2 HEO HRES
    obtain ⟨k, acc, hk, rfl, HK, HPB, HAC, HA, HOK, HRS⟩ := hrel
    have d1 := HK.out.cell
    have l1 := HK.out.lt
    have l2 := HPB.out.lt
    have l3 := HAC.out.lt
    obtain ⟨p0, p1, p2, p3, _, _, _, _⟩ := HPB.out
    obtain ⟨q0, q1, q2, q3, f0, f1, f2, f3⟩ := HAC.out
    by_cases hlt : k < SD.length
    case neg =>
      obtain rfl : k = SD.length := by omega
      have HRE : Hid (some acc = RES) := by show _ = _; rw [← HRS.out, HDL.out, Nat.sub_self]; rfl
      clear HRS HOK
      obtain ⟨an, ax, az, af⟩ := acc
      simp only at *
      go_wp2
      all_goals
        go_ret
        refine ⟨?_, HA.out⟩
        rw [← HRE.out]
        show Ending.returned (.int .i64 _) = Ending.returned (.int .i64 (if eqP ⟨an, ax, az, af⟩ ⟨pn, px, pz, pf⟩ = true then 1 else -1))
        by_cases hE : an = pn ∧ ax = px ∧ az = pz ∧ af = pf
        · rw [if_pos (by unfold eqP; simp only [Bool.and_eq_true, beq_iff_eq]; exact hE)]
          first | done | rfl | (exfalso; omega)
        · rw [if_neg (by unfold eqP; simp only [Bool.and_eq_true, beq_iff_eq]; exact hE)]
          first | done | rfl | (exfalso; omega)
    have hkN : k < N := by rw [← HDL.out]; exact hlt
    obtain ⟨b', o', rfl, r⟩ := (HT2.out.below HA.out).at_ k hlt
    obtain ⟨hs1, hs2, hs3⟩ := HROW.out (N + k) (by rw [HL.out]; omega)
    obtain ⟨hd1, hd2, hd3⟩ := HROW.out k (by omega)
    have hsk : SD[k] = rs[N + k]'(by rw [HL.out]; omega) := by
      have h : (rs.drop N)[k]'(by rw [HSD.out]; exact hlt) = rs[N + k]'(by rw [HL.out]; omega) := List.getElem_drop
      simp only [HSD.out] at h
      exact h
    have m0 := r.c0 k hlt
    have m1 := r.c1 k hlt
    have m2 := r.c2 k hlt
    have m3 := r.c3 k hlt
    have hbl := r.lt
    rw [hsk, hs3] at m0 m1 m2 m3
    have hrec : RES = if comS (nthP rs (N + k)) ⟨pn, px, pz, pf⟩ then vgo rs N ⟨pn, px, pz, pf⟩ (N - (k + 1)) (k + 1) (if comS (nthP rs k) ⟨pn, px, pz, pf⟩ then acc else acc.mul (nthP rs (N + k))) else none := by
      rw [← HRS.out]
      obtain ⟨f, hf⟩ : ∃ f, N - k = f + 1 := ⟨N - k - 1, by omega⟩
      have hf2 : N - (k + 1) = f := by omega
      rw [hf, hf2]
      rfl
    have HREC := hid hrec
    clear r hrec hsk hs3 HRS
    obtain ⟨sp, hsp⟩ : ∃ sp, sp = nthP rs (N + k) := ⟨_, rfl⟩
    obtain ⟨dp, hdp⟩ : ∃ dp, dp = nthP rs k := ⟨_, rfl⟩
    obtain ⟨b1, o1, rfl, r⟩ := (HH.out.below HA.out).at_ k (by omega)
    have n0 := r.c0 k (by omega)
    have n1 := r.c1 k (by omega)
    have n2 := r.c2 k (by omega)
    have n3 := r.c3 k (by omega)
    have hbl1 := r.lt
    rw [hd3] at n0 n1 n2 n3
    rw [← hsp] at hs1 hs2 m0 m1 m2 m3
    rw [← hdp] at hd1 hd2 n0 n1 n2 n3
    rw [← hsp, ← hdp] at HREC
    have CST := fun w => com_t sp ⟨pn, px, pz, pf⟩ w hs1 HP.out (hs2.trans HPN.out.symm)
    have CSF := fun w => com_f sp ⟨pn, px, pz, pf⟩ w hs1 HP.out (hs2.trans HPN.out.symm)
    have CDT := fun w => com_t dp ⟨pn, px, pz, pf⟩ w hd1 HP.out (hd2.trans HPN.out.symm)
    have CDF := fun w => com_f dp ⟨pn, px, pz, pf⟩ w hd1 HP.out (hd2.trans HPN.out.symm)
    have ML := fun w => PL.mul_yes acc sp w HOK.out.1 hs1 (HOK.out.2.trans hs2.symm)
    have HMO : Hid ((acc.mul sp).ok ∧ (acc.mul sp).n = N) := ⟨HOK.out.1.mul hs1 (HOK.out.2.trans hs2.symm), HOK.out.2⟩
    have hkr : k < rs.length := by omega
    clear r hd3 hsp hdp hs1 hs2 hd1 hd2
    generalize acc.mul sp = am at *
    have hb5 : w.heap.size + 2 ≤ B5 := hb1
    by_cases hcs : comS sp ⟨pn, px, pz, pf⟩
    case neg =>
      have HRN : Hid (RES = none) := by show _ = _; rw [HREC.out, if_neg hcs]
      have CS2 := fun w => CSF w hcs
      clear HREC CST CSF CDT CDF ML hcs
      obtain ⟨sn, sx, sz, sf⟩ := sp
      simp only at *
      have hP1 := HPB.out.alloc (PL.pc sn sx sz sf)
      go_wp2_with (go_at_call 47; (with_reducible refine (CS2 _).mono ?_); rintro e w3 ⟨rfl, hB3⟩)
      go_ret
      exact ⟨by rw [HRN.out]; rfl, btr (bal HA.out _) hB3⟩
    have CS2 := fun w => CST w hcs
    have HREC2 : Hid (RES = vgo rs N ⟨pn, px, pz, pf⟩ (N - (k + 1)) (k + 1) (if comS dp ⟨pn, px, pz, pf⟩ then acc else am)) := by show _ = _; rw [HREC.out, if_pos hcs]
    clear HREC CST CSF hcs
    obtain ⟨sn, sx, sz, sf⟩ := sp
    obtain ⟨dn, dx, dz, df⟩ := dp
    simp only at *
    go_upto_region 7 with (go_at_call 47; (with_reducible refine (CS2 _).mono ?_); rintro e w3 ⟨rfl, hB3⟩)
    have hV0 := bal (Below.refl wr.heap.size wr) (PL.pc sn sx sz sf)
    have hV3 := btr hV0 hB3
    have HS3 := hid ((PL.PB.new wr sn sx sz sf).below hB3)
    have HK3 := hid (bk_on HK.out hV3)
    have HP3 := hid (HPB.out.below hV3)
    have HC3 := hid (HAC.out.below hV3)
    have HA3 := hid (btr HA.out hV3)
    have g : ∀ y, w3.cell? ⟨b1, y, none⟩ = wr.cell? ⟨b1, y, none⟩ := fun y => hV3.cell (p := ⟨b1, y, none⟩) hbl1
    have HOC : Hid (K7 w3 w3 w.heap.size (w.heap.size + 1) b1 o1 k (some ⟨b1, o1, none⟩) rs.length c pn px pz pf dn dx dz df) := ⟨Below.refl _ _, HK3.out.cell 1, HP3.out.c0, HP3.out.c1, HP3.out.c2, HP3.out.c3, (g _).trans n0, (g _).trans n1, (g _).trans n2, (g _).trans n3⟩
    have z1 := HK3.out.lt
    have z2 := HP3.out.lt
    have z3 : b1 < w3.heap.size := Nat.lt_of_lt_of_le hbl1 hV3.size
    have hRf := Below.refl w3.heap.size w3
    generalize wr.heap.size = B8 at *
    clear hV0 hV3 hB3 g HK HPB HAC HA d1 l1 l2 l3 p0 p1 p2 p3 q0 q1 q2 q3 f0 f1 f2 f3 m0 m1 m2 m3 n0 n1 n2 n3 hbl hbl1 CS2
    by_cases hcd : comS ⟨dn, dx, dz, df⟩ ⟨pn, px, pz, pf⟩
    · have CD2 := fun w => CDT w hcd
      have HR3 : Hid (vgo rs N ⟨pn, px, pz, pf⟩ (N - (k + 1)) (k + 1) acc = RES) := by show _ = _; rw [HREC2.out, if_pos hcd]
      clear CDT CDF hcd HREC2 ML
      go_region_held3 (fun w' => K7 w3 w' w.heap.size (w.heap.size + 1) b1 o1 k (some ⟨b1, o1, none⟩) rs.length c pn px pz pf dn dx dz df)
        ((refine k7_keep HOC.out z1 z2 z3 ?_; first | exact below_drew hRf | exact btr (And.left (by assumption)) hN))
        (first | (go_at_call 47; (with_reducible refine (CD2 _).mono ?_); rintro e w4 ⟨rfl, hN⟩))
      have hb4 : Below w3.heap.size w3 w4 := by first | exact And.left (by assumption) | exact btr (below_drew hRf) hN
      go_wp2
      exact ⟨⟨k + 1, acc, by omega, rfl, bk_on HK3.out hb4, HP3.out.below hb4, HC3.out.below hb4, btr HA3.out hb4, HOK, HR3⟩, by simp only [intOf]; omega⟩
    · have CD2 := fun w => CDF w hcd
      have HR3 : Hid (vgo rs N ⟨pn, px, pz, pf⟩ (N - (k + 1)) (k + 1) am = RES) := by show _ = _; rw [HREC2.out, if_neg hcd]
      clear CDT CDF hcd HREC2
      obtain ⟨an, ax, az, af⟩ := acc
      obtain ⟨tn, tx, tz, tf⟩ := am
      simp only at *
      go_region_held3 (fun w' => K7 w3 w' w.heap.size (w.heap.size + 1) b1 o1 k (some ⟨b1, o1, none⟩) rs.length c pn px pz pf dn dx dz df)
        ((refine k7_keep HOC.out z1 z2 z3 ?_; first | exact below_drew hRf | exact btr (And.left (by assumption)) hN))
        (first | (go_at_call 47; (with_reducible refine (CD2 _).mono ?_); rintro e w4 ⟨rfl, hN⟩))
      have hb4 : Below w3.heap.size w3 w4 := by first | exact And.left (by assumption) | exact btr (below_drew hRf) hN
      have HS4 := hid (HS3.out.below hb4)
      have HC4 := hid (HC3.out.below hb4)
      obtain ⟨s0, s1, s2, s3, _, _, _, _⟩ := HS4.out
      obtain ⟨c0, c1, c2, c3, _, _, _, _⟩ := HC4.out
      have y1 := HS4.out.lt
      have y2 := HC4.out.lt
      go_wp2_with (go_at_call 33; (with_reducible refine (ML _).mono ?_); rintro e w5 ⟨rfl, hB5⟩; (have hC5 := HC4.out.below hB5); obtain ⟨e0, e1, e2, e3, g0, g1, g2, g3⟩ := hC5; have y3 := (HC4.out.below hB5).lt)
      have hb5' := btr hb4 hB5
      have hC5 := HC4.out.below hB5
      have hK5 := bk_on HK3.out hb5'
      have hP5 := HP3.out.below hb5'
      have hA5 := btr HA3.out hb5'
      exact ⟨⟨k + 1, ⟨tn, tx, tz, tf⟩, by omega, rfl, (((hK5.far (c := B5) (by omega) _ _).far (c := B5) (by omega) _ _).far (c := B5) (by omega) _ _).far (c := B5) (by omega) _ _, (((hP5.far (R := B5) (by omega) _ _).far (R := B5) (by omega) _ _).far (R := B5) (by omega) _ _).far (R := B5) (by omega) _ _, (((hC5.set0 _).set1 _).set2 _).set3 _, bset (bset (bset (bset hA5 _ _ _ (by omega)) _ _ _ (by omega)) _ _ _ (by omega)) _ _ _ (by omega), HMO, HR3⟩, by simp only [intOf]; omega⟩
end Go.Proofs.Ytoddbaljnlhhaaa
