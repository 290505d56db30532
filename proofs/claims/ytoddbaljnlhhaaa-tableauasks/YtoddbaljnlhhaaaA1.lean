/-
  tableau: Check.
-/
import Derived.Test.YtoddbaljnlhhaaaA0
namespace Go.Proofs.Ytoddbaljnlhhaaa
open Go.RowKit Go.Sort
open PL (pv PS)

theorem odd_any (p : PS) (w : World) (hp : p.ok) : Calls Try.prog 44 #[p.v] w fun e w' => e = .returned (.bool (decide ((p.f : Int) % 2 = 1))) ∧ Below w.heap.size w w' := by
  have hf := hp.f1
  have e1 := PL.and1 p.f (by omega)
  have e2 : ((p.f : Int) % 2 == 1) = decide ((p.f : Int) % 2 = 1) := by
    by_cases h : (p.f : Int) % 2 = 1
    · rw [decide_eq_true h]; exact beq_iff_eq.2 h
    · rw [decide_eq_false h]; exact beq_eq_false_iff_ne.2 h
  generalize decide ((p.f : Int) % 2 = 1) = r at *
  clear hp
  obtain ⟨n, x, z, f⟩ := p
  simp only at *
  go_enter Try.func44, Try.ntmps44
  go_wp2
  go_ret
  exact ⟨rfl, bal (Below.refl _ _) _⟩
/-- What the comparison of two rows reads. -/
abbrev K11 (V W : World) (h B1 B2 : Nat) (n : Int) (pn px pz pf qn qx qz qf : Nat) : Prop := Below V.heap.size V W ∧ W.cell? ⟨h, 0, none⟩ = some (.int .i64 n) ∧ W.cell? ⟨B1, 0, none⟩ = some (.int .i64 (pn : Int)) ∧ W.cell? ⟨B1, 1, none⟩ = some (.int .u64 (px : Int)) ∧ W.cell? ⟨B1, 2, none⟩ = some (.int .u64 (pz : Int)) ∧ W.cell? ⟨B1, 3, none⟩ = some (.int .i64 (pf : Int)) ∧ W.cell? ⟨B2, 0, none⟩ = some (.int .i64 (qn : Int)) ∧ W.cell? ⟨B2, 1, none⟩ = some (.int .u64 (qx : Int)) ∧ W.cell? ⟨B2, 2, none⟩ = some (.int .u64 (qz : Int)) ∧ W.cell? ⟨B2, 3, none⟩ = some (.int .i64 (qf : Int))
theorem k11_keep {V W : World} {h B1 B2 : Nat} {n : Int} {pn px pz pf qn qx qz qf : Nat} (H : K11 V V h B1 B2 n pn px pz pf qn qx qz qf) (h1 : h < V.heap.size) (h2 : B1 < V.heap.size) (h3 : B2 < V.heap.size) (hb : Below V.heap.size V W) : K11 V W h B1 B2 n pn px pz pf qn qx qz qf := by
  obtain ⟨_, c0, e0, e1, e2, e3, f0, f1, f2, f3⟩ := H
  have g : ∀ x y, x < V.heap.size → W.cell? ⟨x, y, none⟩ = V.cell? ⟨x, y, none⟩ := fun x y hx => hb.cell (p := ⟨x, y, none⟩) hx
  exact ⟨hb, (g _ _ h1).trans c0, (g _ _ h2).trans e0, (g _ _ h2).trans e1, (g _ _ h2).trans e2, (g _ _ h2).trans e3, (g _ _ h3).trans f0, (g _ _ h3).trans f1, (g _ _ h3).trans f2, (g _ _ h3).trans f3⟩
/-- The first j rows are right. -/
def RtU (t : Tb) (j : Nat) : Prop := ∀ i (h : i < t.rows.length), i < j → rowOk t.n t.rows[i] ∧ ∀ k (hk : k < i), comP t.rows[i] (t.rows[k]'(Nat.lt_trans hk h)) ↔ ¬ (i : Int) = (k : Int) + t.n
theorem RtU.zero (t : Tb) : RtU t 0 := fun _ _ h => absurd h (Nat.not_lt_zero _)
theorem RtU.all {t : Tb} (h0 : 0 ≤ t.n) (h1 : t.n ≤ 64) (hl : (t.rows.length : Int) = 2 * t.n) (h : RtU t t.rows.length) : Rt t := ⟨h0, h1, hl, fun j hj => (h j hj hj).1, fun j hj => (h j hj hj).2⟩
theorem RtU.next {t : Tb} {j : Nat} (hj : j < t.rows.length) (h : RtU t j) (hr : rowOk t.n t.rows[j]) (hc : ∀ k (hk : k < j), comP t.rows[j] (t.rows[k]'(Nat.lt_trans hk hj)) ↔ ¬ (j : Int) = (k : Int) + t.n) : RtU t (j + 1) := fun i hi hij => by
  by_cases e : i = j
  · subst e; exact ⟨hr, hc⟩
  · exact h i hi (by omega)
set_option maxHeartbeats 2000000 in
set_option maxRecDepth 100000 in
theorem check_all (t : Tb) (a : Option Addr) (c : Nat) (w : World) (H : TS w a c t.rows) (E : Int) (h1 : Rt t → E = 0) (h2 : ¬ Rt t → E = 180) :
    Calls Try.prog 18 #[t.v a c] w fun e w' => e = .returned (.int .i64 E) ∧ Below w.heap.size w w' := by
  have SZ := fun w => sized_any t.n w
  by_cases hs : 0 ≤ t.n ∧ t.n ≤ 64
  case neg =>
    obtain rfl : E = 180 := h2 (fun h => hs ⟨h.n0, h.n1⟩)
    rw [decide_eq_false hs] at SZ
    clear H h1 h2 hs
    obtain ⟨n, rs⟩ := t
    go_enter Try.func18, Try.ntmps18
    go_wp2_with (go_at_call 40; (with_reducible refine (SZ _).mono ?_); rintro e w1 ⟨rfl, rfl⟩)
    go_ret
    exact ⟨rfl, bal (Below.refl _ _) _⟩
  rw [decide_eq_true hs] at SZ
  by_cases hl : (t.rows.length : Int) = 2 * t.n
  case neg =>
    obtain rfl : E = 180 := h2 (fun h => hl h.len)
    have hne : ((t.rows.length : Int) != 2 * t.n) = true := bne_iff_ne.2 hl
    clear h1 h2 hl
    have hcap := H.cap
    obtain ⟨n, rs⟩ := t
    simp only at *
    go_enter Try.func18, Try.ntmps18
    go_wp2_with (go_at_call 40; (with_reducible refine (SZ _).mono ?_); rintro e w1 ⟨rfl, rfl⟩)
    go_ret
    exact ⟨rfl, bal (Below.refl _ _) _⟩
  have hle : ((t.rows.length : Int) != 2 * t.n) = false := by rw [hl]; exact bne_self_eq_false' _
  have HH := hid H
  have HL := hid hl
  have hcap := H.cap
  have hcl := H.l
  have HE1 := hid (fun h => h1 (RtU.all hs.1 hs.2 hl h))
  have HE2 := hid h2
  have HZ := hid (RtU.zero t)
  have hlen : t.rows.length ≤ 128 := by omega
  clear h1 h2 hl H
  obtain ⟨n, rs⟩ := t
  simp only at *
  go_enter Try.func18, Try.ntmps18
  go_wp2_with (go_at_call 40; (with_reducible refine (SZ _).mono ?_); rintro e w1 ⟨rfl, rfl⟩)
  go_loopw [23] (fun v23 wx => ∃ j : Nat, j ≤ rs.length ∧ v23 = .int .i64 (j : Nat) ∧ Hid (BK wx w.heap.size #[.int .i64 n, .slice a rs.length c] 24) ∧ Hid (Below w.heap.size w wx) ∧ Hid (RtU ⟨n, rs⟩ j)) (fun v23 _ => rs.length - (intOf v23).toNat)
  case atStart => exact ⟨0, Nat.zero_le _, rfl, bk_new _ _ _, bal (Below.refl _ _) _, HZ⟩
  case round =>
    clear HZ SZ
    obtain ⟨j, hj, rfl, HBK, HB, HU⟩ := hrel
    by_cases hlt : j < rs.length
    case neg =>
      obtain rfl : j = rs.length := by omega
      obtain rfl : E = 0 := HE1.out HU.out
      go_wp2
      go_ret
      exact ⟨rfl, HB.out⟩
    obtain ⟨b', o', rfl, r⟩ := (HH.out.below HB.out).at_ j hlt
    have m0 := r.c0 j hlt
    have m1 := r.c1 j hlt
    have m2 := r.c2 j hlt
    have m3 := r.c3 j hlt
    have hbl := r.lt
    have d1 := HBK.out.cell
    have l1 := HBK.out.lt
    have hw := HH.out.w64 j hlt
    have HRJ : Hid (¬ rowOk n rs[j] → E = 180) := fun h => HE2.out (fun hr => h (hr.row j hlt))
    have HCJ : Hid (rowOk n rs[j] → (∀ k (hk : k < j), comP rs[j] (rs[k]'(Nat.lt_trans hk hlt)) ↔ ¬ (j : Int) = (k : Int) + n) → RtU ⟨n, rs⟩ (j + 1)) := fun h1 h2 => HU.out.next hlt h1 h2
    have HCN : Hid (∀ k (hk : k < j), ¬ (comP rs[j] (rs[k]'(Nat.lt_trans hk hlt)) ↔ ¬ (j : Int) = (k : Int) + n) → E = 180) := fun k hk h => HE2.out (fun hr => h (hr.com j hlt k hk))
    have HRK : Hid (∀ k (hk : k < j), rowOk n (rs[k]'(Nat.lt_trans hk hlt))) := fun k hk => (HU.out k (Nat.lt_trans hk hlt) hk).1
    clear r
    by_cases hg : rs[j].gd
    case neg =>
      have CK := fun w => PL.check_no rs[j].n rs[j].x rs[j].z rs[j].f w hw.1 hw.2 hg
      obtain rfl : E = 180 := HRJ.out (fun h => hg h.1)
      clear HRJ HCJ HCN HRK
      generalize rs[j] = r at *
      obtain ⟨rn, rx, rz, rf⟩ := r
      simp only at *
      go_wp2_with (go_at_call 43; (with_reducible refine (CK _).mono ?_); rintro e w1 ⟨rfl, hB1⟩)
      go_ret
      exact ⟨rfl, btr (bal HB.out _) hB1⟩
    obtain ⟨p, hp, hpv, hpe⟩ := PL.Good.of hg
    have CK := fun w => PL.PS.ok.check hp w
    have OD := fun w => odd_any p w hp
    have HP := hid hp
    have HPE := hid hpe
    clear hg hw hpv
    rw [hpe] at m0 m1 m2 m3
    by_cases hn : (p.n : Int) = n
    case neg =>
      obtain rfl : E = 180 := HRJ.out (fun h => hn (by have := h.2.1; rw [HPE.out] at this; exact this))
      have hnb : ((p.n : Int) != n) = true := bne_iff_ne.2 hn
      clear HRJ HCJ HCN HRK OD hp hpe HP HPE hn
      obtain ⟨pn, px, pz, pf⟩ := p
      simp only at *
      go_wp2_with (go_at_call 43; (with_reducible refine (CK _).mono ?_); rintro e w1 ⟨rfl, hB1⟩; (have q1 := (PL.PB.new wr pn px pz pf).below hB1); obtain ⟨c0, c1, c2, c3, _, _, _, _⟩ := q1; (have k1 := bk_on (HBK.out.alloc (PL.pc pn px pz pf)) hB1); (have d1 := k1.cell); (have l1 := k1.lt); have l2 := ((PL.PB.new wr pn px pz pf).below hB1).lt)
      go_ret
      exact ⟨rfl, btr (bal HB.out _) hB1⟩
    have hnb : ((p.n : Int) != n) = false := bne_eq_false_iff_eq.2 hn
    by_cases ho : (p.f : Int) % 2 = 1
    case pos =>
      obtain rfl : E = 180 := HRJ.out (fun h => by have := h.2.2; rw [HPE.out] at this; have h3 : (p.f : Int) % 2 = 0 := this; omega)
      rw [decide_eq_true ho] at OD
      clear HRJ HCJ HCN HRK hp hpe HP HPE ho hn
      obtain ⟨pn, px, pz, pf⟩ := p
      simp only at *
      go_wp2_with (first
        | (go_at_call 43; (with_reducible refine (CK _).mono ?_); rintro e w1 ⟨rfl, hB1⟩; (have q1 := (PL.PB.new wr pn px pz pf).below hB1); obtain ⟨c0, c1, c2, c3, _, _, _, _⟩ := q1; (have k1 := bk_on (HBK.out.alloc (PL.pc pn px pz pf)) hB1); (have d1 := k1.cell); (have l1 := k1.lt); have l2 := ((PL.PB.new wr pn px pz pf).below hB1).lt)
        | (go_at_call 44; (with_reducible refine (OD _).mono ?_); rintro e w2 ⟨rfl, hB2⟩))
      go_ret
      exact ⟨rfl, btr (btr (bal HB.out _) hB1) hB2⟩
    rw [decide_eq_false ho] at OD
    have HRO : Hid (rowOk n rs[j]) := by
      show rowOk n rs[j]
      refine ⟨?_, ?_, ?_⟩
      · rw [HPE.out]; exact ⟨by show (0 : Int) ≤ p.n; omega, by have := HP.out.n1; show (p.n : Int) ≤ 64; omega, HP.out.x1, HP.out.z1, by show (0 : Int) ≤ p.f; omega, by have := HP.out.f1; show (p.f : Int) ≤ 3; omega⟩
      · rw [HPE.out]; exact hn
      · rw [HPE.out]; show (p.f : Int) % 2 = 0; omega
    have HNX := hid (HCJ.out HRO.out)
    have HN := hid hn
    have HNOT : Hid (∀ k (hk : k < j), rs[j] = ⟨p.n, p.x, p.z, p.f⟩) := fun _ _ => HPE.out
    clear HRJ HCJ hp hpe ho hn
    obtain ⟨pn, px, pz, pf⟩ := p
    simp only at *
    go_upto_region 8 with (first
      | (go_at_call 43; (with_reducible refine (CK _).mono ?_); rintro e w1 ⟨rfl, hB1⟩; (have q1 := (PL.PB.new wr pn px pz pf).below hB1); obtain ⟨c0, c1, c2, c3, _, _, _, _⟩ := q1; (have k1 := bk_on (HBK.out.alloc (PL.pc pn px pz pf)) hB1); (have d1 := k1.cell); (have l1 := k1.lt); have l2 := ((PL.PB.new wr pn px pz pf).below hB1).lt)
      | (go_at_call 44; (with_reducible refine (OD _).mono ?_); rintro e w2 ⟨rfl, hB2⟩))
    have HQ2 := hid (((PL.PB.new wr pn px pz pf).below hB1).below hB2)
    have HK2 := hid (bk_on k1 hB2)
    have HA2 := hid (btr (btr (bal HB.out (PL.pc pn px pz pf)) hB1) hB2)
    have HA2a := hid HB.out.size
    have d1 := HK2.out.cell
    have l1 := HK2.out.lt
    have HLT := hid hlt
    clear CK OD HBK hB1 hB2 k1 HB c0 c1 c2 c3 m0 m1 m2 m3 hbl
    have hB1g : w.heap.size ≤ wr.heap.size := HA2a.out
    clear HA2a
    generalize wr.heap.size = B1 at *
    go_wp2
    go_loopw [47] (fun v47 wx => ∃ k : Nat, k ≤ j ∧ v47 = .int .i64 (k : Nat) ∧ Hid (BK wx w.heap.size #[.int .i64 n, .slice (some ⟨b', o', none⟩) rs.length c] 24) ∧ Hid (PL.PB wx B1 pn px pz pf) ∧ Hid (Below w.heap.size w wx) ∧ Hid (∀ i (hi : i < j), i < k → (comP rs[j] (rs[i]'(Nat.lt_trans hi HLT.out)) ↔ ¬ (j : Int) = (i : Int) + n))) (fun v47 _ => j - (intOf v47).toNat)
    case atStart => exact ⟨0, Nat.zero_le _, rfl, HK2, HQ2, HA2, fun i _ h => absurd h (Nat.not_lt_zero _)⟩
    case round =>
      clear HK2 HQ2 HA2 d1 l1
      obtain ⟨k, hk, rfl, HK2, HQ2, HA2, HCM⟩ := hrel
      have d1 := HK2.out.cell
      have l1 := HK2.out.lt
      have l2 := HQ2.out.lt
      by_cases hkl : k < j
      case neg =>
        obtain rfl : k = j := by omega
        have HR := hid (HNX.out (fun i hi => HCM.out i hi hi))
        go_wp2
        exact ⟨⟨k + 1, by omega, rfl, HK2, HA2, HR⟩, by simp only [intOf]; omega⟩
      have hkr : k < rs.length := by omega
      obtain ⟨b2, o2, e2, r⟩ := (HH.out.below HA2.out).at_ k hkr
      cases e2
      have m0 := r.c0 k hkr
      have m1 := r.c1 k hkr
      have m2 := r.c2 k hkr
      have m3 := r.c3 k hkr
      have hbl := r.lt
      clear r
      obtain ⟨hg2, hn2, _⟩ := HRK.out k hkl
      obtain ⟨p2, hp2, _, hpe2⟩ := PL.Good.of hg2
      rw [hpe2] at m0 m1 m2 m3 hn2
      have hnn : pn = p2.n := by have h1 := HN.out; have h2 : (p2.n : Int) = n := hn2; omega
      have CM := fun w => commute_any ⟨pn, px, pz, pf⟩ p2 w HP.out hp2 hnn
      have HCQ : Hid ((PL.comB px pz p2.x p2.z = 0 ↔ ¬ (j : Int) = (k : Int) + n) → ∀ i (hi : i < j), i < k + 1 → (comP rs[j] (rs[i]'(Nat.lt_trans hi HLT.out)) ↔ ¬ (j : Int) = (i : Int) + n)) := fun h i hi hik => by
        by_cases e : i = k
        · subst e
          have e1 : rs[j]'HLT.out = ⟨pn, px, pz, pf⟩ := HPE.out
          have e3 : rs[i]'hkr = ⟨p2.n, p2.x, p2.z, p2.f⟩ := hpe2
          show comP (rs[j]'HLT.out) (rs[i]'hkr) ↔ _
          rw [e1, e3]
          exact h
        · exact HCM.out i hi (by omega)
      have HCR : Hid (¬ (PL.comB px pz p2.x p2.z = 0 ↔ ¬ (j : Int) = (k : Int) + n) → E = 180) := fun h => HCN.out k hkl (fun h2 => h (by
        have e1 : rs[j]'HLT.out = ⟨pn, px, pz, pf⟩ := HPE.out
        have e3 : rs[k]'hkr = ⟨p2.n, p2.x, p2.z, p2.f⟩ := hpe2
        have h3 : comP (rs[j]'HLT.out) (rs[k]'hkr) ↔ ¬ (j : Int) = (k : Int) + n := h2
        rw [e1, e3] at h3
        exact h3))
      obtain ⟨qn, qx, qz, qf⟩ := p2
      simp only at *
      clear hpe2 hg2 hn2 hp2 hnn HCM
      have hpb := HQ2.out
      clear hpb
      obtain ⟨V, hV⟩ : ∃ V, V = wr.alloc (.cells #[.int .i64 (qn : Int), .int .u64 (qx : Int), .int .u64 (qz : Int), .int .i64 (qf : Int)] 27) := ⟨_, rfl⟩
      have hQN : PL.PB V wr.heap.size qn qx qz qf := by rw [hV]; exact PL.PB.new wr qn qx qz qf
      have hWV : Below wr.heap.size wr V := by rw [hV]; exact bal (Below.refl _ _) _
      have hQ2 := HQ2.out.below hWV
      have hK2 := bk_on HK2.out hWV
      have HOC : Hid (K11 V V w.heap.size B1 wr.heap.size n pn px pz pf qn qx qz qf) := ⟨Below.refl _ _, hK2.cell 0, hQ2.c0, hQ2.c1, hQ2.c2, hQ2.c3, hQN.c0, hQN.c1, hQN.c2, hQN.c3⟩
      have z1 := hK2.lt
      have z2 := hQ2.lt
      have z3 := hQN.lt
      have HA3 := hid (btr HA2.out hWV)
      have HV := hid hV
      have HQ3 := hid hQ2
      have HK3 := hid hK2
      obtain ⟨bc, hbc⟩ : ∃ bc, bc = decide (PL.comB px pz qx qz = 0) := ⟨_, rfl⟩
      rw [← hbc] at CM
      obtain ⟨bp, hbp⟩ : ∃ bp, ((j : Int) == (k : Int) + n) = bp := ⟨_, rfl⟩
      have HI : Hid ((PL.comB px pz qx qz = 0 ↔ ¬ (j : Int) = (k : Int) + n) ↔ (bc == bp) = false) := by
        show _ ↔ _
        rw [hbc, ← hbp]
        by_cases h1 : PL.comB px pz qx qz = 0
        · by_cases h2 : (j : Int) = (k : Int) + n
          · rw [decide_eq_true h1, beq_iff_eq.2 h2]; simp [h1, h2]
          · rw [decide_eq_true h1, beq_eq_false_iff_ne.2 h2]; simp [h1, h2]
        · by_cases h2 : (j : Int) = (k : Int) + n
          · rw [decide_eq_false h1, beq_iff_eq.2 h2]; simp [h1, h2]
          · rw [decide_eq_false h1, beq_eq_false_iff_ne.2 h2]; simp [h1, h2]
      have hRf := Below.refl V.heap.size V
      have hwp : IntKind.i64.wrap ((k : Int) + n) = (k : Int) + n := by rw [IntKind.wrap_i64]; omega
      clear hQN hWV hQ2 hK2 hV hbc HQ2 HK2 HA2
      cases hcc : (bc == bp) with
      | true =>
        obtain rfl : E = 180 := HCR.out (fun h => by rw [HI.out.1 h] at hcc; cases hcc)
        go_upto_region 11 with (fail)
        rw [show wr.alloc (.cells #[.int .i64 (qn : Int), .int .u64 (qx : Int), .int .u64 (qz : Int), .int .i64 (qf : Int)] 27) = V from HV.out.symm]
        go_region_held3 (fun w' => K11 V w' w.heap.size B1 wr.heap.size n pn px pz pf qn qx qz qf)
          ((refine k11_keep HOC.out z1 z2 z3 ?_; first | exact below_drew hRf | exact btr (And.left (by assumption)) hN))
          (first | (go_at_call 47; (with_reducible refine (CM _).mono ?_); rintro e w1 ⟨rfl, hN⟩))
        have hb1 : Below V.heap.size V w1 := by first | exact And.left (by assumption) | exact btr (below_drew hRf) hN
        go_wp2
        go_ret
        exact ⟨rfl, btr HA3.out hb1⟩
      | false =>
        have HCY := hid (HCQ.out (HI.out.2 hcc))
        go_upto_region 11 with (fail)
        rw [show wr.alloc (.cells #[.int .i64 (qn : Int), .int .u64 (qx : Int), .int .u64 (qz : Int), .int .i64 (qf : Int)] 27) = V from HV.out.symm]
        go_region_held3 (fun w' => K11 V w' w.heap.size B1 wr.heap.size n pn px pz pf qn qx qz qf)
          ((refine k11_keep HOC.out z1 z2 z3 ?_; first | exact below_drew hRf | exact btr (And.left (by assumption)) hN))
          (first | (go_at_call 47; (with_reducible refine (CM _).mono ?_); rintro e w1 ⟨rfl, hN⟩))
        have hb1 : Below V.heap.size V w1 := by first | exact And.left (by assumption) | exact btr (below_drew hRf) hN
        go_wp2
        exact ⟨⟨k + 1, by omega, rfl, bk_on HK3.out hb1, HQ3.out.below hb1, btr HA3.out hb1, HCY⟩, by simp only [intOf]; omega⟩
end Go.Proofs.Ytoddbaljnlhhaaa
