/-
  tableau: the reference's Check.
-/
import Derived.Test.YtoddbaljnlhhaaaXD
namespace Go.Proofs.Ytoddbaljnlhhaaa
open Go.RowKit Go.Sort
open PL (pv PS)

theorem comB_symm (x z x' z' : Nat) : PL.comB x z x' z' = PL.comB x' z' x z := by
  rw [PL.comB_is, PL.comB_is, Nat.and_comm x z', Nat.and_comm z x']
  congr 1
  omega
theorem rcom_any (p q : PS) (w : World) (hp : p.ok) (hq : q.ok) (hn : p.n = q.n) :
    Calls Try.prog 48 #[p.v, q.v] w fun e w' => e = .returned (.bool (decide (PL.comB p.x p.z q.x q.z = 0))) ∧ Below w.heap.size w w' := by
  have C := fun w => PL.rcommute_yes p q w hp hq hn
  generalize decide (PL.comB p.x p.z q.x q.z = 0) = r at *
  clear hp hq hn
  obtain ⟨n, x, z, f⟩ := p
  obtain ⟨n', x', z', f'⟩ := q
  obtain ⟨hW, b1, b2⟩ := PL.two_boxes w n x z f n' x' z' f'
  go_enter Try.func48, Try.ntmps48
  go_wp2_with (go_at_call 34; (with_reducible refine (C _).mono ?_); rintro e w1 ⟨rfl, hB1⟩)
  go_ret
  exact ⟨rfl, btr hW hB1⟩
/-- What the reference's comparison of two rows reads. -/
abbrev K12 (V W : World) (h B1 b o k : Nat) (n : Int) (a : Option Addr) (l c : Nat) (pn px pz pf qn qx qz qf : Nat) : Prop := Below V.heap.size V W ∧ W.cell? ⟨h, 0, none⟩ = some (.int .i64 n) ∧ W.cell? ⟨h, 1, none⟩ = some (.slice a l c) ∧ W.cell? ⟨B1, 0, none⟩ = some (.int .i64 (pn : Int)) ∧ W.cell? ⟨B1, 1, none⟩ = some (.int .u64 (px : Int)) ∧ W.cell? ⟨B1, 2, none⟩ = some (.int .u64 (pz : Int)) ∧ W.cell? ⟨B1, 3, none⟩ = some (.int .i64 (pf : Int)) ∧ W.cell? ⟨b, o + k * 4, none⟩ = some (.int .i64 (qn : Int)) ∧ W.cell? ⟨b, o + k * 4 + 1, none⟩ = some (.int .u64 (qx : Int)) ∧ W.cell? ⟨b, o + k * 4 + 2, none⟩ = some (.int .u64 (qz : Int)) ∧ W.cell? ⟨b, o + k * 4 + 3, none⟩ = some (.int .i64 (qf : Int))
theorem k12_keep {V W : World} {h B1 b o k : Nat} {n : Int} {a : Option Addr} {l c : Nat} {pn px pz pf qn qx qz qf : Nat} (H : K12 V V h B1 b o k n a l c pn px pz pf qn qx qz qf) (h1 : h < V.heap.size) (h2 : B1 < V.heap.size) (h3 : b < V.heap.size) (hb : Below V.heap.size V W) : K12 V W h B1 b o k n a l c pn px pz pf qn qx qz qf := by
  obtain ⟨_, c0, c1, e0, e1, e2, e3, f0, f1, f2, f3⟩ := H
  have g : ∀ x y, x < V.heap.size → W.cell? ⟨x, y, none⟩ = V.cell? ⟨x, y, none⟩ := fun x y hx => hb.cell (p := ⟨x, y, none⟩) hx
  exact ⟨hb, (g _ _ h1).trans c0, (g _ _ h1).trans c1, (g _ _ h2).trans e0, (g _ _ h2).trans e1, (g _ _ h2).trans e2, (g _ _ h2).trans e3, (g _ _ h3).trans f0, (g _ _ h3).trans f1, (g _ _ h3).trans f2, (g _ _ h3).trans f3⟩
set_option maxHeartbeats 2000000 in
set_option maxRecDepth 100000 in
theorem rcheck_all (t : Tb) (a : Option Addr) (c : Nat) (w : World) (H : TS w a c t.rows) (E : Int) (h1 : Rt t → E = 0) (h2 : ¬ Rt t → E = 180) :
    Calls Try.prog 19 #[t.v a c] w fun e w' => e = .returned (.int .i64 E) ∧ Below w.heap.size w w' := by
  have hcap := H.cap
  by_cases hs0 : t.n < 0
  case pos =>
    obtain rfl : E = 180 := h2 (fun h => by have := h.n0; omega)
    clear H h1 h2
    obtain ⟨n, rs⟩ := t
    simp only at *
    go_enter Try.func19, Try.ntmps19
    go_wp2
    go_ret
    exact ⟨rfl, bal (Below.refl _ _) _⟩
  by_cases hs1 : 64 < t.n
  case pos =>
    obtain rfl : E = 180 := h2 (fun h => by have := h.n1; omega)
    clear H h1 h2
    obtain ⟨n, rs⟩ := t
    simp only at *
    go_enter Try.func19, Try.ntmps19
    go_wp2
    go_ret
    exact ⟨rfl, bal (Below.refl _ _) _⟩
  have hs : 0 ≤ t.n ∧ t.n ≤ 64 := by omega
  by_cases hl : (t.rows.length : Int) = 2 * t.n
  case neg =>
    obtain rfl : E = 180 := h2 (fun h => hl h.len)
    have hne : ((t.rows.length : Int) != 2 * t.n) = true := bne_iff_ne.2 hl
    clear h1 h2 hl H
    obtain ⟨n, rs⟩ := t
    simp only at *
    go_enter Try.func19, Try.ntmps19
    go_wp2
    go_ret
    exact ⟨rfl, bal (Below.refl _ _) _⟩
  have hle : ((t.rows.length : Int) != 2 * t.n) = false := by rw [hl]; exact bne_self_eq_false' _
  have HH := hid H
  have HL := hid hl
  have hcl := H.l
  have HE1 := hid (fun h => h1 (RtU.all hs.1 hs.2 hl h))
  have HE2 := hid h2
  have HZ := hid (RtU.zero t)
  have hlen : t.rows.length ≤ 128 := by omega
  clear h1 h2 hl H
  obtain ⟨n, rs⟩ := t
  simp only at *
  go_enter Try.func19, Try.ntmps19
  go_wp2
  go_loopw [3] (fun v3 wx => ∃ j : Nat, j ≤ rs.length ∧ v3 = .int .i64 (j : Nat) ∧ Hid (BK wx w.heap.size #[.int .i64 n, .slice a rs.length c] 24) ∧ Hid (Below w.heap.size w wx) ∧ Hid (RtU ⟨n, rs⟩ j)) (fun v3 _ => rs.length - (intOf v3).toNat)
  case atStart => exact ⟨0, Nat.zero_le _, rfl, bk_new _ _ _, bal (Below.refl _ _) _, HZ⟩
  case round =>
    clear HZ
    obtain ⟨j, hj, rfl, HBK, HB, HU⟩ := hrel
    have d1 := HBK.out.cell
    have l1 := HBK.out.lt
    by_cases hlt : j < rs.length
    case neg =>
      obtain rfl : j = rs.length := by omega
      obtain rfl : E = 0 := HE1.out HU.out
      go_wp2
      go_ret
      exact ⟨rfl, HB.out⟩
    obtain ⟨b', o', rfl, r⟩ := (HH.out.below HB.out).at_ j hlt
    have m0 := r.c0 j hlt
    have m1 := r.c1 j hlt
    have m2 := r.c2 j hlt
    have m3 := r.c3 j hlt
    have hbl := r.lt
    have hw := HH.out.w64 j hlt
    have HRJ : Hid (¬ rowOk n rs[j] → E = 180) := fun h => HE2.out (fun hr => h (hr.row j hlt))
    have HCJ : Hid (rowOk n rs[j] → (∀ k (hk : k < j), comP rs[j] (rs[k]'(Nat.lt_trans hk hlt)) ↔ ¬ (j : Int) = (k : Int) + n) → RtU ⟨n, rs⟩ (j + 1)) := fun h1 h2 => HU.out.next hlt h1 h2
    have HCN : Hid (∀ k (hk : k < j), ¬ (comP rs[j] (rs[k]'(Nat.lt_trans hk hlt)) ↔ ¬ (j : Int) = (k : Int) + n) → E = 180) := fun k hk h => HE2.out (fun hr => h (hr.com j hlt k hk))
    have HRK : Hid (∀ k (hk : k < j), rowOk n (rs[k]'(Nat.lt_trans hk hlt))) := fun k hk => (HU.out k (Nat.lt_trans hk hlt) hk).1
    clear r
    by_cases hg : rs[j].gd
    case neg =>
      have CK := fun w => PL.rcheck_no rs[j].n rs[j].x rs[j].z rs[j].f w hw.1 hw.2 hg
      obtain rfl : E = 180 := HRJ.out (fun h => hg h.1)
      clear HRJ HCJ HCN HRK
      generalize rs[j] = r at *
      obtain ⟨rn, rx, rz, rf⟩ := r
      simp only at *
      go_wp2_with (go_at_call 38; (with_reducible refine (CK _).mono ?_); rintro e w1 ⟨rfl, hB1⟩)
      go_ret
      exact ⟨rfl, btr (bal HB.out _) hB1⟩
    obtain ⟨p, hp, hpv, hpe⟩ := PL.Good.of hg
    have CK := fun w => PL.rcheck_yes p hp w
    have HP := hid hp
    have HPE := hid hpe
    have hf4 := hp.f1
    clear hg hw hpv
    rw [hpe] at m0 m1 m2 m3
    have htm : (p.f : Int).tmod 2 = (p.f : Int) % 2 := Int.tmod_eq_emod_of_nonneg (by omega)
    by_cases hn : (p.n : Int) = n
    case neg =>
      obtain rfl : E = 180 := HRJ.out (fun h => hn (by have := h.2.1; rw [HPE.out] at this; exact this))
      have hnb : ((p.n : Int) != n) = true := bne_iff_ne.2 hn
      clear HRJ HCJ HCN HRK hp hpe HP HPE hn
      obtain ⟨pn, px, pz, pf⟩ := p
      simp only at *
      go_wp2_with (go_at_call 38; (with_reducible refine (CK _).mono ?_); rintro e w1 ⟨rfl, hB1⟩; (have q1 := (PL.PB.new wr pn px pz pf).below hB1); obtain ⟨c0, c1, c2, c3, _, _, _, _⟩ := q1; (have k1 := bk_on (HBK.out.alloc (PL.pc pn px pz pf)) hB1); (have d1 := k1.cell); (have l1 := k1.lt); have l2 := ((PL.PB.new wr pn px pz pf).below hB1).lt)
      go_ret
      exact ⟨rfl, btr (bal HB.out _) hB1⟩
    have hnb : ((p.n : Int) != n) = false := bne_eq_false_iff_eq.2 hn
    by_cases ho : (p.f : Int) % 2 = 0
    case neg =>
      obtain rfl : E = 180 := HRJ.out (fun h => by have := h.2.2; rw [HPE.out] at this; exact ho this)
      have hob : ((p.f : Int) % 2 != 0) = true := bne_iff_ne.2 ho
      clear HRJ HCJ HCN HRK hp hpe HP HPE ho hn
      obtain ⟨pn, px, pz, pf⟩ := p
      simp only at *
      go_wp2_with (go_at_call 38; (with_reducible refine (CK _).mono ?_); rintro e w1 ⟨rfl, hB1⟩; (have q1 := (PL.PB.new wr pn px pz pf).below hB1); obtain ⟨c0, c1, c2, c3, _, _, _, _⟩ := q1; (have k1 := bk_on (HBK.out.alloc (PL.pc pn px pz pf)) hB1); (have d1 := k1.cell); (have l1 := k1.lt); have l2 := ((PL.PB.new wr pn px pz pf).below hB1).lt)
      go_ret
      exact ⟨rfl, btr (bal HB.out _) hB1⟩
    have hob : ((p.f : Int) % 2 != 0) = false := bne_eq_false_iff_eq.2 ho
    have HRO : Hid (rowOk n rs[j]) := by
      show rowOk n rs[j]
      refine ⟨?_, ?_, ?_⟩
      · rw [HPE.out]; exact ⟨by show (0 : Int) ≤ p.n; omega, by have := HP.out.n1; show (p.n : Int) ≤ 64; omega, HP.out.x1, HP.out.z1, by show (0 : Int) ≤ p.f; omega, by have := HP.out.f1; show (p.f : Int) ≤ 3; omega⟩
      · rw [HPE.out]; exact hn
      · rw [HPE.out]; exact ho
    have HNX := hid (HCJ.out HRO.out)
    have HN := hid hn
    clear HRJ HCJ hp hpe ho hn
    obtain ⟨pn, px, pz, pf⟩ := p
    simp only at *
    go_upto_region 9 with (go_at_call 38; (with_reducible refine (CK _).mono ?_); rintro e w1 ⟨rfl, hB1⟩; (have q1 := (PL.PB.new wr pn px pz pf).below hB1); obtain ⟨c0, c1, c2, c3, _, _, _, _⟩ := q1; (have k1 := bk_on (HBK.out.alloc (PL.pc pn px pz pf)) hB1); (have d1 := k1.cell); (have l1 := k1.lt); have l2 := ((PL.PB.new wr pn px pz pf).below hB1).lt)
    have HQ2 := hid ((PL.PB.new wr pn px pz pf).below hB1)
    have HK2 := hid k1
    have HA2 := hid (btr (bal HB.out (PL.pc pn px pz pf)) hB1)
    have hB1g : w.heap.size ≤ wr.heap.size := HB.out.size
    have HLT := hid hlt
    clear CK HBK hB1 k1 HB c0 c1 c2 c3 m0 m1 m2 m3 hbl d1 l1 l2
    generalize wr.heap.size = B1 at *
    go_wp2
    go_loopw [5] (fun v5 wx => ∃ k : Nat, k ≤ j ∧ v5 = .int .i64 (k : Nat) ∧ Hid (BK wx w.heap.size #[.int .i64 n, .slice (some ⟨b', o', none⟩) rs.length c] 24) ∧ Hid (PL.PB wx B1 pn px pz pf) ∧ Hid (Below w.heap.size w wx) ∧ Hid (∀ i (hi : i < j), i < k → (comP rs[j] (rs[i]'(Nat.lt_trans hi HLT.out)) ↔ ¬ (j : Int) = (i : Int) + n))) (fun v5 _ => j - (intOf v5).toNat)
    case atStart => exact ⟨0, Nat.zero_le _, rfl, HK2, HQ2, HA2, fun i _ h => absurd h (Nat.not_lt_zero _)⟩
    case round =>
      clear HK2 HQ2 HA2
      obtain ⟨k, hk, rfl, HK2, HQ2, HA2, HCM⟩ := hrel
      by_cases hkl : k < j
      case neg =>
        obtain rfl : k = j := by omega
        have HR := hid (HNX.out (fun i hi => HCM.out i hi hi))
        go_wp2
        exact ⟨⟨k + 1, by omega, rfl, HK2, HA2, HR⟩, by simp only [intOf]; omega⟩
      have hkr : k < rs.length := by omega
      obtain ⟨b2, o2, e2, r⟩ := (HH.out.below HA2.out).at_ k hkr
      cases e2
      have m0 := r.c0 k hkr
      have m1 := r.c1 k hkr
      have m2 := r.c2 k hkr
      have m3 := r.c3 k hkr
      have hbl := r.lt
      clear r
      obtain ⟨hg2, hn2, _⟩ := HRK.out k hkl
      obtain ⟨p2, hp2, _, hpe2⟩ := PL.Good.of hg2
      rw [hpe2] at m0 m1 m2 m3 hn2
      have hnn : p2.n = pn := by have h1 := HN.out; have h2 : (p2.n : Int) = n := hn2; omega
      have CM := fun w => rcom_any p2 ⟨pn, px, pz, pf⟩ w hp2 HP.out hnn
      have HCQ : Hid ((PL.comB p2.x p2.z px pz = 0 ↔ ¬ (j : Int) = (k : Int) + n) → ∀ i (hi : i < j), i < k + 1 → (comP rs[j] (rs[i]'(Nat.lt_trans hi HLT.out)) ↔ ¬ (j : Int) = (i : Int) + n)) := fun h i hi hik => by
        by_cases e : i = k
        · subst e
          have e1 : rs[j]'HLT.out = ⟨pn, px, pz, pf⟩ := HPE.out
          have e3 : rs[i]'hkr = ⟨p2.n, p2.x, p2.z, p2.f⟩ := hpe2
          show comP (rs[j]'HLT.out) (rs[i]'hkr) ↔ _
          rw [e1, e3]
          rw [comB_symm] at h
          exact h
        · exact HCM.out i hi (by omega)
      have HCR : Hid (¬ (PL.comB p2.x p2.z px pz = 0 ↔ ¬ (j : Int) = (k : Int) + n) → E = 180) := fun h => HCN.out k hkl (fun h2 => h (by
        have e1 : rs[j]'HLT.out = ⟨pn, px, pz, pf⟩ := HPE.out
        have e3 : rs[k]'hkr = ⟨p2.n, p2.x, p2.z, p2.f⟩ := hpe2
        have h3 : comP (rs[j]'HLT.out) (rs[k]'hkr) ↔ ¬ (j : Int) = (k : Int) + n := h2
        rw [e1, e3] at h3
        rw [comB_symm]
        exact h3))
      obtain ⟨qn, qx, qz, qf⟩ := p2
      simp only at *
      clear hpe2 hg2 hn2 hp2 hnn HCM
      have HOC : Hid (K12 wr wr w.heap.size B1 b' o' k n (some ⟨b', o', none⟩) rs.length c pn px pz pf qn qx qz qf) := ⟨Below.refl _ _, HK2.out.cell 0, HK2.out.cell 1, HQ2.out.c0, HQ2.out.c1, HQ2.out.c2, HQ2.out.c3, m0, m1, m2, m3⟩
      have z1 := HK2.out.lt
      have z2 := HQ2.out.lt
      obtain ⟨bc, hbc⟩ : ∃ bc, bc = decide (PL.comB qx qz px pz = 0) := ⟨_, rfl⟩
      rw [← hbc] at CM
      obtain ⟨bp, hbp⟩ : ∃ bp, ((j : Int) - (k : Int) == n) = bp := ⟨_, rfl⟩
      have HI : Hid ((PL.comB qx qz px pz = 0 ↔ ¬ (j : Int) = (k : Int) + n) ↔ (bc == bp) = false) := by
        show _ ↔ _
        have hjk : ((j : Int) - (k : Int) == n) = ((j : Int) == (k : Int) + n) := by
          by_cases h : (j : Int) = (k : Int) + n
          · rw [beq_iff_eq.2 h]; exact beq_iff_eq.2 (by omega)
          · rw [beq_eq_false_iff_ne.2 h]; exact beq_eq_false_iff_ne.2 (by omega)
        rw [hbc, ← hbp, hjk]
        by_cases h1 : PL.comB qx qz px pz = 0
        · by_cases h2 : (j : Int) = (k : Int) + n
          · rw [decide_eq_true h1, beq_iff_eq.2 h2]; simp [h1, h2]
          · rw [decide_eq_true h1, beq_eq_false_iff_ne.2 h2]; simp [h1, h2]
        · by_cases h2 : (j : Int) = (k : Int) + n
          · rw [decide_eq_false h1, beq_iff_eq.2 h2]; simp [h1, h2]
          · rw [decide_eq_false h1, beq_eq_false_iff_ne.2 h2]; simp [h1, h2]
      have hRf := Below.refl wr.heap.size wr
      have hwp : IntKind.i64.wrap ((j : Int) - (k : Int)) = (j : Int) - (k : Int) := by rw [IntKind.wrap_i64]; omega
      clear hbc m0 m1 m2 m3
      cases hcc : (bc == bp) with
      | true =>
        obtain rfl : E = 180 := HCR.out (fun h => by rw [HI.out.1 h] at hcc; cases hcc)
        go_upto_region 12 with (fail)
        go_region_held3 (fun w' => K12 wr w' w.heap.size B1 b' o' k n (some ⟨b', o', none⟩) rs.length c pn px pz pf qn qx qz qf)
          ((refine k12_keep HOC.out z1 z2 hbl ?_; first | exact below_drew hRf | exact btr (And.left (by assumption)) hN))
          (first | (go_at_call 48; (with_reducible refine (CM _).mono ?_); rintro e w1 ⟨rfl, hN⟩))
        have hb1 : Below wr.heap.size wr w1 := by first | exact And.left (by assumption) | exact btr (below_drew hRf) hN
        go_wp2
        go_ret
        exact ⟨rfl, btr HA2.out hb1⟩
      | false =>
        have HCY := hid (HCQ.out (HI.out.2 hcc))
        go_upto_region 12 with (fail)
        go_region_held3 (fun w' => K12 wr w' w.heap.size B1 b' o' k n (some ⟨b', o', none⟩) rs.length c pn px pz pf qn qx qz qf)
          ((refine k12_keep HOC.out z1 z2 hbl ?_; first | exact below_drew hRf | exact btr (And.left (by assumption)) hN))
          (first | (go_at_call 48; (with_reducible refine (CM _).mono ?_); rintro e w1 ⟨rfl, hN⟩))
        have hb1 : Below wr.heap.size wr w1 := by first | exact And.left (by assumption) | exact btr (below_drew hRf) hN
        go_wp2
        exact ⟨⟨k + 1, by omega, rfl, bk_on HK2.out hb1, HQ2.out.below hb1, btr HA2.out hb1, HCY⟩, by simp only [intOf]; omega⟩
end Go.Proofs.Ytoddbaljnlhhaaa
