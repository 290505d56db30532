/-
  Put together of: J0.
-/
import Derived.Test.YtoddbaljnlhhaabXK
import Derived.BigRegion
namespace Go.Proofs.Ytoddbaljnlhhaab
open Go.RowKit Go.Sort
open PL (pv PS)

theorem rcom_t (p q : PS) (w : World) (hp : p.ok) (hq : q.ok) (hn : p.n = q.n) (h : comS p q) : Calls Try.prog 36 #[p.v, q.v] w fun e w' => e = .returned (.bool true) ∧ Below w.heap.size w w' := by
  have h1 := rcom_any p q w hp hq hn
  rw [decide_eq_true (show PL.comB p.x p.z q.x q.z = 0 from h)] at h1
  exact h1
theorem rcom_f (p q : PS) (w : World) (hp : p.ok) (hq : q.ok) (hn : p.n = q.n) (h : ¬ comS p q) : Calls Try.prog 36 #[p.v, q.v] w fun e w' => e = .returned (.bool false) ∧ Below w.heap.size w w' := by
  have h1 := rcom_any p q w hp hq hn
  rw [decide_eq_false (show ¬ PL.comB p.x p.z q.x q.z = 0 from h)] at h1
  exact h1
/-- What inGroup tells. -/
def inGV (p : PS) : Option PS → Value
  | none => .tuple #[pv 0 0 0 0, .bool false]
  | some q => .tuple #[q.v, .bool (q.x == p.x && q.z == p.z)]
/-- What the comparisons read. -/
abbrev K14 (V W : World) (h b o k : Nat) (n : Int) (a : Option Addr) (l c : Nat) (pn px pz pf dn dx dz df : Nat) : Prop := Below V.heap.size V W ∧ W.cell? ⟨h, 0, none⟩ = some (.int .i64 n) ∧ W.cell? ⟨h, 1, none⟩ = some (.slice a l c) ∧ W.cell? ⟨h + 1, 0, none⟩ = some (.int .i64 (pn : Int)) ∧ W.cell? ⟨h + 1, 1, none⟩ = some (.int .u64 (px : Int)) ∧ W.cell? ⟨h + 1, 2, none⟩ = some (.int .u64 (pz : Int)) ∧ W.cell? ⟨h + 1, 3, none⟩ = some (.int .i64 (pf : Int)) ∧ W.cell? ⟨b, o + k * 4, none⟩ = some (.int .i64 (dn : Int)) ∧ W.cell? ⟨b, o + k * 4 + 1, none⟩ = some (.int .u64 (dx : Int)) ∧ W.cell? ⟨b, o + k * 4 + 2, none⟩ = some (.int .u64 (dz : Int)) ∧ W.cell? ⟨b, o + k * 4 + 3, none⟩ = some (.int .i64 (df : Int))
theorem k14_keep {V W : World} {h b o k : Nat} {n : Int} {a : Option Addr} {l c : Nat} {pn px pz pf dn dx dz df : Nat} (H : K14 V V h b o k n a l c pn px pz pf dn dx dz df) (h2 : h + 1 < V.heap.size) (h3 : b < V.heap.size) (hb : Below V.heap.size V W) : K14 V W h b o k n a l c pn px pz pf dn dx dz df := by
  obtain ⟨_, c0, c1, e0, e1, e2, e3, f0, f1, f2, f3⟩ := H
  have g : ∀ x y, x < V.heap.size → W.cell? ⟨x, y, none⟩ = V.cell? ⟨x, y, none⟩ := fun x y hx => hb.cell (p := ⟨x, y, none⟩) hx
  have h1 : h < V.heap.size := by omega
  exact ⟨hb, (g _ _ h1).trans c0, (g _ _ h1).trans c1, (g _ _ h2).trans e0, (g _ _ h2).trans e1, (g _ _ h2).trans e2, (g _ _ h2).trans e3, (g _ _ h3).trans f0, (g _ _ h3).trans f1, (g _ _ h3).trans f2, (g _ _ h3).trans f3⟩
theorem drew_ofr {W : World} : Below W.heap.size W W.drew := below_drew (Below.refl _ _)
set_option maxHeartbeats 20000000 in
set_option maxRecDepth 100000 in
theorem inGroup_any (N : Nat) (rs : List Pr) (a : Option Addr) (c : Nat) (p : PS) (w : World) (H : TS w a c rs) (hR : Rt ⟨(N : Nat), rs⟩) (hp : p.ok) (hpn : p.n = N) :
    Calls Try.prog 41 #[Tb.v ⟨(N : Nat), rs⟩ a c, p.v] w fun e w' => e = .returned (inGV p (vgo rs N p N 0 (eyeP N))) ∧ Below w.heap.size w w' := by
  have hn1 : ((N : Nat) : Int) ≤ 64 := hR.n1
  have hN : N ≤ 64 := by omega
  have hl : rs.length = 2 * N := by have h : ((rs.length : Nat) : Int) = 2 * (N : Nat) := hR.len; omega
  have HROW : Hid (∀ k (hk : k < rs.length), (nthP rs k).ok ∧ (nthP rs k).n = N ∧ rs[k] = ⟨(nthP rs k).n, (nthP rs k).x, (nthP rs k).z, (nthP rs k).f⟩) := fun k hk => by
    obtain ⟨h1, h2, h3⟩ := hR.ps hk
    have h2 : ((nthP rs k).n : Int) = (N : Int) := h2
    exact ⟨h1, by omega, h3⟩
  obtain ⟨RES, hres⟩ : ∃ RES, RES = vgo rs N p N 0 (eyeP N) := ⟨_, rfl⟩
  rw [← hres]
  have HRES := hid hres
  have HH := hid H
  have HP := hid hp
  have HPN := hid hpn
  have HL := hid hl
  have hcap := H.cap
  have hcl := H.l
  have hl1 : rs.length ≤ 128 := by omega
  have hl2 : N ≤ rs.length := by omega
  clear hR hp hpn hres H hl hn1
  obtain ⟨pn, px, pz, pf⟩ := p
  simp only at *
  obtain ⟨hB0, hK0, hP0⟩ : Below w.heap.size w ((((w.alloc (.cells #[.int .i64 (N : Int), .slice a rs.length c] 24)).alloc (PL.pc pn px pz pf)).alloc (.cells #[.int .i64 0, .int .u64 0, .int .u64 0, .int .i64 0] 29)).alloc (.cells #[.int .i64 (N : Int), .int .u64 0, .int .u64 0, .int .i64 0] 29)) ∧ BK ((((w.alloc (.cells #[.int .i64 (N : Int), .slice a rs.length c] 24)).alloc (PL.pc pn px pz pf)).alloc (.cells #[.int .i64 0, .int .u64 0, .int .u64 0, .int .i64 0] 29)).alloc (.cells #[.int .i64 (N : Int), .int .u64 0, .int .u64 0, .int .i64 0] 29)) w.heap.size #[.int .i64 (N : Int), .slice a rs.length c] 24 ∧ PL.PB ((((w.alloc (.cells #[.int .i64 (N : Int), .slice a rs.length c] 24)).alloc (PL.pc pn px pz pf)).alloc (.cells #[.int .i64 0, .int .u64 0, .int .u64 0, .int .i64 0] 29)).alloc (.cells #[.int .i64 (N : Int), .int .u64 0, .int .u64 0, .int .i64 0] 29)) (w.heap.size + 1) pn px pz pf := by
    refine ⟨bal (bal (bal (bal (Below.refl _ _) _) _) _) _, (((bk_new w _ _).alloc _).alloc _).alloc _, PL.PB.alloc (PL.PB.alloc ?_ _) _⟩
    have h := PL.PB.new (w.alloc (.cells #[.int .i64 (N : Int), .slice a rs.length c] 24)) pn px pz pf
    rwa [PL.alz] at h
  have hR0 : PL.PB ((((w.alloc (.cells #[.int .i64 (N : Int), .slice a rs.length c] 24)).alloc (PL.pc pn px pz pf)).alloc (.cells #[.int .i64 0, .int .u64 0, .int .u64 0, .int .i64 0] 29)).alloc (.cells #[.int .i64 (N : Int), .int .u64 0, .int .u64 0, .int .i64 0] 29)) (w.heap.size + 1 + 1) 0 0 0 0 := by
    refine PL.PB.alloc ?_ _
    have h := PL.PB.new ((w.alloc (.cells #[.int .i64 (N : Int), .slice a rs.length c] 24)).alloc (PL.pc pn px pz pf)) 0 0 0 0
    rw [PL.alz, PL.alz] at h
    exact h
  have hE0 : PL.PB ((((w.alloc (.cells #[.int .i64 (N : Int), .slice a rs.length c] 24)).alloc (PL.pc pn px pz pf)).alloc (.cells #[.int .i64 0, .int .u64 0, .int .u64 0, .int .i64 0] 29)).alloc (.cells #[.int .i64 (N : Int), .int .u64 0, .int .u64 0, .int .i64 0] 29)) (w.heap.size + 1 + 1 + 1) N 0 0 0 := by
    have h := PL.PB.new (((w.alloc (.cells #[.int .i64 (N : Int), .slice a rs.length c] 24)).alloc (PL.pc pn px pz pf)).alloc (.cells #[.int .i64 0, .int .u64 0, .int .u64 0, .int .i64 0] 29)) N 0 0 0
    rw [PL.alz, PL.alz, PL.alz] at h
    exact h
  have HEO : Hid ((eyeP N).ok ∧ (eyeP N).n = N) := ⟨⟨hN, Nat.two_pow_pos _, Nat.two_pow_pos _, by show 0 < 4; omega⟩, rfl⟩
  have HK0 := hid hK0
  have HP0 := hid hP0
  have HR0 := hid hR0
  have HE0 := hid hE0
  have HB0 := hid hB0
  clear hK0 hP0 hR0 hE0 hB0
  go_enter Try.func41, Try.ntmps41
  go_wp2
  go_loopw [7] (fun v7 wx => ∃ (k : Nat) (acc : PS), k ≤ N ∧ v7 = .int .i64 (k : Nat) ∧ Hid (BK wx w.heap.size #[.int .i64 (N : Int), .slice a rs.length c] 24) ∧ Hid (PL.PB wx (w.heap.size + 1) pn px pz pf) ∧ Hid (PL.PB wx (w.heap.size + 1 + 1) 0 0 0 0) ∧ Hid (PL.PB wx (w.heap.size + 1 + 1 + 1) acc.n acc.x acc.z acc.f) ∧ Hid (Below w.heap.size w wx) ∧ Hid (acc.ok ∧ acc.n = N) ∧ Hid (vgo rs N ⟨pn, px, pz, pf⟩ (N - k) k acc = RES)) (fun v7 _ => N - (intOf v7).toNat)
  case atStart => exact ⟨0, eyeP N, Nat.zero_le _, rfl, HK0, HP0, HR0, HE0, HB0, HEO, HRES.out.symm⟩
  case round =>
    clear HK0 HP0 HR0 HE0 HB0 HEO HRES
    obtain ⟨k, acc, hk, rfl, HK, HPB, HR, HAC, HA, HOK, HRS⟩ := hrel
    have d1 := HK.out.cell
    have l1 := HK.out.lt
    by_cases hlt : k < N
    case neg =>
      obtain rfl : k = N := by omega
      have HRE : Hid (some acc = RES) := by show _ = _; rw [← HRS.out, Nat.sub_self]; rfl
      clear HRS
      obtain ⟨an, ax, az, af⟩ := acc
      simp only at *
      obtain ⟨p0, p1, p2, p3, _, _, _, _⟩ := HPB.out
      obtain ⟨c0, c1, c2, c3, _, _, _, _⟩ := HAC.out
      obtain ⟨x0, x1, x2, x3, y0, y1, y2, y3⟩ := HR.out
      have lp := HPB.out.lt
      have lc := HAC.out.lt
      have lr := HR.out.lt
      have hx3 : w.heap.size + 1 + 1 + 1 ≠ w.heap.size + 1 + 1 := by omega
      have hx4 := hx3.symm
      have hx5 : w.heap.size + 1 ≠ w.heap.size + 1 + 1 := by omega
      have hx6 := hx5.symm
      have hpL : w.heap.size + 1 < w.heap.size + 1 + 1 := by omega
      have FIN : Hid (∀ X, X = ((((wr.setCell ⟨w.heap.size + 1 + 1, 0, none⟩ (.int .i64 (an : Int))).setCell ⟨w.heap.size + 1 + 1, 1, none⟩ (.int .u64 (ax : Int))).setCell ⟨w.heap.size + 1 + 1, 2, none⟩ (.int .u64 (az : Int))).setCell ⟨w.heap.size + 1 + 1, 3, none⟩ (.int .i64 (af : Int))).drew → X.cell? ⟨w.heap.size + 1 + 1, 0, none⟩ = some (.int .i64 (an : Int)) ∧ X.cell? ⟨w.heap.size + 1 + 1, 1, none⟩ = some (.int .u64 (ax : Int)) ∧ X.cell? ⟨w.heap.size + 1 + 1, 2, none⟩ = some (.int .u64 (az : Int)) ∧ X.cell? ⟨w.heap.size + 1 + 1, 3, none⟩ = some (.int .i64 (af : Int)) ∧ Below w.heap.size w X) := fun X hX => by
        subst hX
        have r := (((((HR.out.set0 (an : Int)).set1 ax).set2 az).set3 (af : Int))).drew
        exact ⟨r.c0, r.c1, r.c2, r.c3, below_drew (bset (bset (bset (bset HA.out (w.heap.size + 1 + 1) 0 (.int .i64 (an : Int)) (by omega)) (w.heap.size + 1 + 1) 1 (.int .u64 (ax : Int)) (by omega)) (w.heap.size + 1 + 1) 2 (.int .u64 (az : Int)) (by omega)) (w.heap.size + 1 + 1) 3 (.int .i64 (af : Int)) (by omega))⟩
      go_upto_region 9 with (fail)
      clear HK HA HR HPB HAC HOK d1 l1
      by_cases h1 : ax = px
      · subst h1
        by_cases h2 : az = pz
        · subst h2
          have HNE : True := trivial

          go_region
          all_goals
            generalize hX : World.drew _ = X
            obtain ⟨q0, q1, q2, q3, hBf⟩ := FIN.out X hX.symm
            clear hX
            go_wp2
            exact bodyPost_ret (v := .tuple #[.agg #[.int .i64 (an : Int), .int .u64 (ax : Int), .int .u64 (az : Int), .int .i64 (af : Int)], .bool true]) (by simp [results, Try.results41, go_sem, q0, q1, q2, q3]) rfl ⟨by rw [← HRE.out]; show _ = Ending.returned (.tuple #[_, .bool (_ == _ && _ == _)]); simp, hBf⟩
        · have h2' : ¬ (az : Int) = (pz : Int) := by omega
          have HNE : ¬ az = pz := h2
          have hbq : ((az : Int) == (pz : Int)) = false := by simp [h2']

          go_region
          all_goals
            generalize hX : World.drew _ = X
            obtain ⟨q0, q1, q2, q3, hBf⟩ := FIN.out X hX.symm
            clear hX
            go_wp2
            exact bodyPost_ret (v := .tuple #[.agg #[.int .i64 (an : Int), .int .u64 (ax : Int), .int .u64 (az : Int), .int .i64 (af : Int)], .bool false]) (by simp [results, Try.results41, go_sem, q0, q1, q2, q3]) rfl ⟨by rw [← HRE.out]; show _ = Ending.returned (.tuple #[_, .bool (_ == _ && _ == _)]); simp [HNE], hBf⟩
      · have h1' : ¬ (ax : Int) = (px : Int) := by omega
        have HNE : ¬ ax = px := h1
        have hbq : ((ax : Int) == (px : Int)) = false := by simp [h1']

        go_region
        all_goals
          generalize hX : World.drew _ = X
          obtain ⟨q0, q1, q2, q3, hBf⟩ := FIN.out X hX.symm
          clear hX
          go_wp2
          exact bodyPost_ret (v := .tuple #[.agg #[.int .i64 (an : Int), .int .u64 (ax : Int), .int .u64 (az : Int), .int .i64 (af : Int)], .bool false]) (by simp [results, Try.results41, go_sem, q0, q1, q2, q3]) rfl ⟨by rw [← HRE.out]; show _ = Ending.returned (.tuple #[_, .bool (_ == _ && _ == _)]); simp [HNE], hBf⟩
    obtain ⟨L, hL⟩ : ∃ L, Hid (L = N + k) := ⟨_, rfl⟩
    have hLI : ((N : Nat) : Int) + (k : Int) = (L : Int) := by rw [hL.out]; omega
    have hLr : L < rs.length := by rw [hL.out, HL.out]; omega
    have hwl : IntKind.i64.wrap (((N : Nat) : Int) + (k : Int)) = (L : Int) := by rw [hLI, IntKind.wrap_i64]; omega
    have hwl2 : IntKind.i64.wrap (L : Int) = (L : Int) := by rw [IntKind.wrap_i64]; omega
    have hkr : k < rs.length := by omega
    obtain ⟨hs1, hs2, hs3⟩ := HROW.out L hLr
    obtain ⟨hd1, hd2, hd3⟩ := HROW.out k hkr
    have hrec : RES = if comS (nthP rs L) ⟨pn, px, pz, pf⟩ then vgo rs N ⟨pn, px, pz, pf⟩ (N - (k + 1)) (k + 1) (if comS (nthP rs k) ⟨pn, px, pz, pf⟩ then acc else acc.mul (nthP rs L)) else none := by
      rw [← HRS.out, hL.out]
      obtain ⟨f, hf⟩ : ∃ f, N - k = f + 1 := ⟨N - k - 1, by omega⟩
      have hf2 : N - (k + 1) = f := by omega
      rw [hf, hf2]
      rfl
    have HREC := hid hrec
    clear hrec HRS
    obtain ⟨sp, hsp⟩ : ∃ sp, sp = nthP rs L := ⟨_, rfl⟩
    obtain ⟨dp, hdp⟩ : ∃ dp, dp = nthP rs k := ⟨_, rfl⟩
    rw [← hsp] at hs1 hs2 hs3 HREC
    rw [← hdp] at hd1 hd2 hd3 HREC
    have HS3 := hid hs3
    have HD3 := hid hd3
    have HCL := hid (fun W (h : Below w.heap.size w W) => by
      obtain ⟨b, o, e, r⟩ := (HH.out.below h).at_ L hLr
      have m0 := r.c0 L hLr
      have m1 := r.c1 L hLr
      have m2 := r.c2 L hLr
      have m3 := r.c3 L hLr
      have n0 := r.c0 k hkr
      have n1 := r.c1 k hkr
      have n2 := r.c2 k hkr
      have n3 := r.c3 k hkr
      rw [HS3.out] at m0 m1 m2 m3
      rw [HD3.out] at n0 n1 n2 n3
      exact (⟨b, o, e, r.lt, m0, m1, m2, m3, n0, n1, n2, n3⟩ : ∃ b o, a = some ⟨b, o, none⟩ ∧ b < W.heap.size ∧ W.cell? ⟨b, o + L * 4, none⟩ = some (.int .i64 (sp.n : Nat)) ∧ W.cell? ⟨b, o + L * 4 + 1, none⟩ = some (.int .u64 (sp.x : Nat)) ∧ W.cell? ⟨b, o + L * 4 + 2, none⟩ = some (.int .u64 (sp.z : Nat)) ∧ W.cell? ⟨b, o + L * 4 + 3, none⟩ = some (.int .i64 (sp.f : Nat)) ∧ W.cell? ⟨b, o + k * 4, none⟩ = some (.int .i64 (dp.n : Nat)) ∧ W.cell? ⟨b, o + k * 4 + 1, none⟩ = some (.int .u64 (dp.x : Nat)) ∧ W.cell? ⟨b, o + k * 4 + 2, none⟩ = some (.int .u64 (dp.z : Nat)) ∧ W.cell? ⟨b, o + k * 4 + 3, none⟩ = some (.int .i64 (dp.f : Nat))))
    have CST := fun w => rcom_t sp ⟨pn, px, pz, pf⟩ w hs1 HP.out (hs2.trans HPN.out.symm)
    have CSF := fun w => rcom_f sp ⟨pn, px, pz, pf⟩ w hs1 HP.out (hs2.trans HPN.out.symm)
    have CDT := fun w => rcom_t dp ⟨pn, px, pz, pf⟩ w hd1 HP.out (hd2.trans HPN.out.symm)
    have CDF := fun w => rcom_f dp ⟨pn, px, pz, pf⟩ w hd1 HP.out (hd2.trans HPN.out.symm)
    have ML := fun w => rmulT_any acc sp w HOK.out.1 hs1 (HOK.out.2.trans hs2.symm)
    have HMO : Hid ((acc.mul sp).ok ∧ (acc.mul sp).n = N) := ⟨HOK.out.1.mul hs1 (HOK.out.2.trans hs2.symm), HOK.out.2⟩
    clear hs3 hd3 hsp hdp hs1 hs2 hd1 hd2
    generalize acc.mul sp = am at *
    obtain ⟨b, o, rfl, hbl, m0, m1, m2, m3, n0, n1, n2, n3⟩ := HCL.out wr HA.out
    have HOC1 : Hid (K14 wr wr w.heap.size b o L (N : Nat) (some ⟨b, o, none⟩) rs.length c pn px pz pf sp.n sp.x sp.z sp.f) := ⟨Below.refl _ _, HK.out.cell 0, HK.out.cell 1, HPB.out.c0, HPB.out.c1, HPB.out.c2, HPB.out.c3, m0, m1, m2, m3⟩
    have z1 := HPB.out.lt
    have hRf := Below.refl wr.heap.size wr
    clear n0 n1 n2 n3
    by_cases hcs : comS sp ⟨pn, px, pz, pf⟩
    case neg =>
      have HRN : Hid (RES = none) := by show _ = _; rw [HREC.out, if_neg hcs]
      have CS2 := fun w => CSF w hcs
      clear HREC CST CSF CDT CDF ML hcs HCL
      obtain ⟨sn, sx, sz, sf⟩ := sp
      simp only at *
      go_upto_region 5 with (fail)
      go_region_held3 (fun w' => K14 wr w' w.heap.size b o L (N : Nat) (some ⟨b, o, none⟩) rs.length c pn px pz pf sn sx sz sf)
        ((refine k14_keep HOC1.out z1 hbl ?_; first | exact below_drew hRf | exact btr (And.left (by assumption)) hN))
        (first | (go_at_call 36; (with_reducible refine (CS2 _).mono ?_); rintro e w1 ⟨rfl, hN⟩))
      have hb1 : Below wr.heap.size wr w1 := by first | exact And.left (by assumption) | exact btr (below_drew hRf) hN
      have hR1 := HR.out.below hb1
      obtain ⟨x0, x1, x2, x3, y0, y1, y2, y3⟩ := hR1
      have lR := (HR.out.below hb1).lt
      have hA1 := btr HA.out hb1
      go_wp2
      have r := (((((HR.out.below hb1).set0 0).set1 0).set2 0).set3 0)
      have q0 : ((((w1.setCell ⟨w.heap.size + 1 + 1, 0, none⟩ (.int .i64 0)).setCell ⟨w.heap.size + 1 + 1, 1, none⟩ (.int .u64 0)).setCell ⟨w.heap.size + 1 + 1, 2, none⟩ (.int .u64 0)).setCell ⟨w.heap.size + 1 + 1, 3, none⟩ (.int .i64 0)).cell? ⟨w.heap.size + 1 + 1, 0, none⟩ = some (.int .i64 0) := r.c0
      have q1 : ((((w1.setCell ⟨w.heap.size + 1 + 1, 0, none⟩ (.int .i64 0)).setCell ⟨w.heap.size + 1 + 1, 1, none⟩ (.int .u64 0)).setCell ⟨w.heap.size + 1 + 1, 2, none⟩ (.int .u64 0)).setCell ⟨w.heap.size + 1 + 1, 3, none⟩ (.int .i64 0)).cell? ⟨w.heap.size + 1 + 1, 1, none⟩ = some (.int .u64 0) := r.c1
      have q2 : ((((w1.setCell ⟨w.heap.size + 1 + 1, 0, none⟩ (.int .i64 0)).setCell ⟨w.heap.size + 1 + 1, 1, none⟩ (.int .u64 0)).setCell ⟨w.heap.size + 1 + 1, 2, none⟩ (.int .u64 0)).setCell ⟨w.heap.size + 1 + 1, 3, none⟩ (.int .i64 0)).cell? ⟨w.heap.size + 1 + 1, 2, none⟩ = some (.int .u64 0) := r.c2
      have q3 : ((((w1.setCell ⟨w.heap.size + 1 + 1, 0, none⟩ (.int .i64 0)).setCell ⟨w.heap.size + 1 + 1, 1, none⟩ (.int .u64 0)).setCell ⟨w.heap.size + 1 + 1, 2, none⟩ (.int .u64 0)).setCell ⟨w.heap.size + 1 + 1, 3, none⟩ (.int .i64 0)).cell? ⟨w.heap.size + 1 + 1, 3, none⟩ = some (.int .i64 0) := r.c3
      have hBf := bset (bset (bset (bset hA1 (w.heap.size + 1 + 1) 0 (.int .i64 0) (by omega)) (w.heap.size + 1 + 1) 1 (.int .u64 0) (by omega)) (w.heap.size + 1 + 1) 2 (.int .u64 0) (by omega)) (w.heap.size + 1 + 1) 3 (.int .i64 0) (by omega)
      rw [HRN.out]
      exact bodyPost_ret (v := .tuple #[.agg #[.int .i64 0, .int .u64 0, .int .u64 0, .int .i64 0], .bool false]) (by simp [results, Try.results41, go_sem, q0, q1, q2, q3]) rfl ⟨rfl, hBf⟩
    have CS2 := fun w => CST w hcs
    have HREC2 : Hid (RES = vgo rs N ⟨pn, px, pz, pf⟩ (N - (k + 1)) (k + 1) (if comS dp ⟨pn, px, pz, pf⟩ then acc else am)) := by show _ = _; rw [HREC.out, if_pos hcs]
    clear HREC CST CSF hcs
    obtain ⟨sn, sx, sz, sf⟩ := sp
    obtain ⟨dn, dx, dz, df⟩ := dp
    simp only at *
    go_upto_region 5 with (fail)
    go_region_held3 (fun w' => K14 wr w' w.heap.size b o L (N : Nat) (some ⟨b, o, none⟩) rs.length c pn px pz pf sn sx sz sf)
      ((refine k14_keep HOC1.out z1 hbl ?_; first | exact below_drew hRf | exact btr (And.left (by assumption)) hN))
      (first | (go_at_call 36; (with_reducible refine (CS2 _).mono ?_); rintro e w1 ⟨rfl, hN⟩))
    have hb1 : Below wr.heap.size wr w1 := by first | exact And.left (by assumption) | exact btr (below_drew hRf) hN
    have HKb := hid (bk_on HK.out hb1)
    have HPb := hid (HPB.out.below hb1)
    have HRb := hid (HR.out.below hb1)
    have HCb := hid (HAC.out.below hb1)
    have HAb := hid (btr HA.out hb1)
    obtain ⟨b', o', e', hbl', m0', m1', m2', m3', n0, n1, n2, n3⟩ := HCL.out w1 HAb.out
    injection e' with e'
    injection e' with e1 e2
    subst e1 e2
    have HOC2 : Hid (K14 w1 w1 w.heap.size b o k (N : Nat) (some ⟨b, o, none⟩) rs.length c pn px pz pf dn dx dz df) := ⟨Below.refl _ _, HKb.out.cell 0, HKb.out.cell 1, HPb.out.c0, HPb.out.c1, HPb.out.c2, HPb.out.c3, n0, n1, n2, n3⟩
    have y1 := HPb.out.lt
    have hRf1 := Below.refl w1.heap.size w1
    clear m0 m1 m2 m3 m0' m1' m2' m3' n0 n1 n2 n3 HK HPB HR HAC HOC1 hb1 hRf z1 hbl d1 l1
    by_cases hcd : comS ⟨dn, dx, dz, df⟩ ⟨pn, px, pz, pf⟩
    · have CD2 := fun w => CDT w hcd
      have HR3 : Hid (vgo rs N ⟨pn, px, pz, pf⟩ (N - (k + 1)) (k + 1) acc = RES) := by show _ = _; rw [HREC2.out, if_pos hcd]
      clear CDT CDF hcd HREC2 ML HCL
      go_upto_region 7 with (fail)
      go_region_held3 (fun w' => K14 w1 w' w.heap.size b o k (N : Nat) (some ⟨b, o, none⟩) rs.length c pn px pz pf dn dx dz df)
        ((refine k14_keep HOC2.out y1 hbl' ?_; first | exact below_drew hRf1 | exact btr (And.left (by assumption)) hN))
        (first | (go_at_call 36; (with_reducible refine (CD2 _).mono ?_); rintro e w2 ⟨rfl, hN⟩))
      have hb2 : Below w1.heap.size w1 w2 := by first | exact And.left (by assumption) | exact btr (below_drew hRf1) hN
      go_wp2
      exact ⟨⟨k + 1, acc, by omega, rfl, bk_on HKb.out hb2, HPb.out.below hb2, HRb.out.below hb2, HCb.out.below hb2, btr HAb.out hb2, HOK, HR3⟩, by simp only [intOf]; omega⟩
    · have CD2 := fun w => CDF w hcd
      have HR3 : Hid (vgo rs N ⟨pn, px, pz, pf⟩ (N - (k + 1)) (k + 1) am = RES) := by show _ = _; rw [HREC2.out, if_neg hcd]
      clear CDT CDF hcd HREC2
      go_upto_region 7 with (fail)
      go_region_held3 (fun w' => K14 w1 w' w.heap.size b o k (N : Nat) (some ⟨b, o, none⟩) rs.length c pn px pz pf dn dx dz df)
        ((refine k14_keep HOC2.out y1 hbl' ?_; first | exact below_drew hRf1 | exact btr (And.left (by assumption)) hN))
        (first | (go_at_call 36; (with_reducible refine (CD2 _).mono ?_); rintro e w2 ⟨rfl, hN⟩))
      have hb2 : Below w1.heap.size w1 w2 := by first | exact And.left (by assumption) | exact btr (below_drew hRf1) hN
      have HKc := hid (bk_on HKb.out hb2)
      have HPc := hid (HPb.out.below hb2)
      have HRc := hid (HRb.out.below hb2)
      have HCc := hid (HCb.out.below hb2)
      have HAc := hid (btr HAb.out hb2)
      obtain ⟨b', o', e', hbl2, m0, m1, m2, m3, _, _, _, _⟩ := HCL.out w2 HAc.out
      injection e' with e'
      injection e' with e1 e2
      subst e1 e2
      have d1 := HKc.out.cell
      have l1 := HKc.out.lt
      obtain ⟨c0, c1, c2, c3, f0, f1, f2, f3⟩ := HCc.out
      have l3 := HCc.out.lt
      clear HOC2 hb2 hRf1 y1 hbl' HKb HPb HRb HCb HAb HCL CD2
      obtain ⟨an, ax, az, af⟩ := acc
      obtain ⟨tn, tx, tz, tf⟩ := am
      simp only at *
      have HDR := hid (drew_ofr (W := w2))
      go_upto_region 8 with (fail)
      go_region_with (go_at_call 21; (with_reducible refine (ML _).mono ?_); rintro e w3 ⟨rfl, hB3⟩; (have k7 := HCc.out.below (btr HDR.out hB3)); (obtain ⟨c0, c1, c2, c3, f0, f1, f2, f3⟩ := k7); have l7 := (HCc.out.below (btr HDR.out hB3)).lt)
      all_goals
        have hh := btr HDR.out hB3
        have hx1 : w.heap.size + 1 + 1 + 1 ≠ w.heap.size := by omega
        have hx2 : w.heap.size + 1 + 1 + 1 ≠ w.heap.size + 1 := by omega
        have hx3 : w.heap.size + 1 + 1 + 1 ≠ w.heap.size + 1 + 1 := by omega
        have HKd := hid (((((bk_on HKc.out hh).far hx1 0 (.int .i64 (tn : Int))).far hx1 1 (.int .u64 (tx : Int))).far hx1 2 (.int .u64 (tz : Int))).far hx1 3 (.int .i64 (tf : Int)))
        have HPd := hid (((((HPc.out.below hh).far hx2 0 (.int .i64 (tn : Int))).far hx2 1 (.int .u64 (tx : Int))).far hx2 2 (.int .u64 (tz : Int))).far hx2 3 (.int .i64 (tf : Int)))
        have HRd := hid (((((HRc.out.below hh).far hx3 0 (.int .i64 (tn : Int))).far hx3 1 (.int .u64 (tx : Int))).far hx3 2 (.int .u64 (tz : Int))).far hx3 3 (.int .i64 (tf : Int)))
        have HCd := hid (((((HCc.out.below hh).set0 (tn : Int)).set1 tx).set2 tz).set3 (tf : Int))
        have HAd := hid (bset (bset (bset (bset (btr HAc.out hh) (w.heap.size + 1 + 1 + 1) 0 (.int .i64 (tn : Int)) (by omega)) (w.heap.size + 1 + 1 + 1) 1 (.int .u64 (tx : Int)) (by omega)) (w.heap.size + 1 + 1 + 1) 2 (.int .u64 (tz : Int)) (by omega)) (w.heap.size + 1 + 1 + 1) 3 (.int .i64 (tf : Int)) (by omega))
        go_wp2
        exact ⟨⟨k + 1, ⟨tn, tx, tz, tf⟩, by omega, rfl, HKd, HPd, HRd, HCd, HAd, HMO, HR3⟩, by simp only [intOf]; omega⟩
end Go.Proofs.Ytoddbaljnlhhaab
