/-
  The law ParsePlaces.
-/
import Derived.Test.YtiepbfeliehjnaaDoorQ2
import Derived.Test.YtiepbfeliehjnaaDoorN4
namespace Go.Proofs.YtiepbfeliehjnaaDoor
open Go.RowKit Go.Sort

set_option maxHeartbeats 8000000 in
set_option maxRecDepth 100000 in
theorem places_any (s : ByteArray) (w : World) (hs : s.size ≤ 9223372036854775807) (hv : VR w) :
    Calls Tryd.prog 6 #[.string s] w fun e w' => e = .returned (.bool true) ∧ Below w.heap.size w w' := by
  obtain ⟨rs, a, e, ho⟩ := pout_ex s
  have AW := awake_any w hv
  have PA := fun w1 h => parse_any s rs a e w1 hs h ho
  have HV : Hid (VR w) := hv
  clear hv
  rcases ho.cases with ⟨h0, h1, rfl, h3, h4⟩ | ⟨rfl, rfl, hs6, l, hp, hout, hpr⟩
  · have e1 : ((e : Int) != 0) = true := by simp; omega
    clear ho h0
    go_enter Tryd.func6, Tryd.ntmps6
    go_wp2_with (first
      | (go_at_call 8; (with_reducible refine AW.mono ?_); rintro x w1 ⟨rfl, hB1⟩)
      | (go_at_call 10; (with_reducible refine (PA w1 (HV.out.below hB1)).mono ?_); rintro x w2 ⟨v, rfl, hO2, hB2⟩; obtain ⟨a2, c2, rfl⟩ := hO2.shape))
    go_ret
    exact ⟨rfl, btr hB1 hB2⟩
  obtain ⟨hrise, hmark, hplr, hrows, hpl⟩ := rows_places hp hpr
  have SC := fun w1 => scan_any s l 0 0 w1 hs hout
  have hll := hp.count
  have hrl : rs.length ≤ 65536 := by
    obtain ⟨⟨ms, hsub, hlen, _⟩, _⟩ := prog_marks _ _ _ hpr
    have := hsub.length_le
    omega
  have H1 : Hid (∀ a b (h1 : a < l.length) (h2 : b < l.length), a < b → l[a].p < l[b].p) := hrise
  have H2 : Hid (∀ k (h : k < rs.length), ∃ q, ∃ hq : q < l.length, l[q].p = rs[k].place ∧ l[q].t = hdT rs[k]) := hmark
  have H3 : Hid (∀ a b (h1 : a < rs.length) (h2 : b < rs.length), a < b → rs[a].place < rs[b].place) := hplr
  have H4 : Hid (∀ k (h : k < rs.length), 0 ≤ rs[k].rows ∧ rs[k].rows + k + 1 ≤ rs.length) := hrows
  have H5 : Hid (∀ k (h : k < rs.length), 0 ≤ rs[k].place ∧ rs[k].place < s.size) := hpl
  clear hrise hmark hplr hrows hpl ho hout hpr hp
  go_enter Tryd.func6, Tryd.ntmps6
  go_upto_region 11 with (first
    | (go_at_call 8; (with_reducible refine AW.mono ?_); rintro x w1 ⟨rfl, hB1⟩)
    | (go_at_call 10; (with_reducible refine (PA w1 (HV.out.below hB1)).mono ?_); rintro x w2 ⟨v, rfl, hO2, hB2⟩; obtain ⟨a2, c2, rfl⟩ := hO2.shape)
    | (go_at_call 17; (with_reducible refine (SC _).mono ?_); rintro x w3 ⟨v3, rfl, hI3⟩))
  obtain ⟨ta, tc, rfl, htc, htr⟩ := hI3.sl.form
  obtain ⟨a2', c2', vs, ev, hc2, hvs, hA, hR⟩ := hO2.sr.below hI3.below
  cases ev
  have HR : Hid (∀ k, k < rs.length → ∃ b o, a2 = some ⟨b, o, none⟩ ∧ RR w3 b o rs vs) := hR
  have HA : Hid (∀ k (h : k < rs.length) (h' : k < vs.length), SA w3 vs[k] rs[k].args) := hA
  have HVS : Hid (rs.length = vs.length) := hvs
  have HT : Hid (∀ k, k < l.length → ∃ b o, ta = some ⟨b, o, none⟩ ∧ RT w3 b o l) := htr
  have HB : Hid (Below w.heap.size w w3) := btr (btr hB1 hB2) hI3.below
  clear hR hA hvs htr hO2 hI3 hB1 hB2 AW PA SC
  go_loopw [9, 46] (fun v9 v46 wr => ∃ k m : Nat, m ≤ rs.length ∧ k ≤ l.length ∧ v46 = .int .i64 m ∧ v9 = .int .i64 k ∧ Hid (Below w3.heap.size w3 wr ∧ ∀ q (hq : q < l.length) (hm : m < rs.length), l[q].p = rs[m].place → k ≤ q)) (fun _ v46 _ => rs.length - (intOf v46).toNat)
  case atStart => exact ⟨0, 0, by omega, by omega, rfl, rfl, Below.refl _ _, fun q _ _ _ => Nat.zero_le q⟩
  case round =>
    obtain ⟨k, m, hm, hk, rfl, rfl, hH⟩ := hrel
    by_cases hlt : m < rs.length
    case neg =>
      obtain rfl : m = rs.length := by omega
      go_wp2
      go_ret
      exact ⟨rfl, btr HB.out hH.out.1⟩
    case pos =>
    obtain ⟨b, o, rfl, r0⟩ := HR.out m hlt
    have r := r0.below hH.out.1
    have hmv : m < vs.length := by rw [← HVS.out]; exact hlt
    obtain ⟨xa, ya, eva, _, _⟩ := HA.out m hlt hmv
    obtain ⟨q, hq, hqp, hqt⟩ := H2.out m hlt
    have hkq := hH.out.2 q hq hlt hqp
    obtain ⟨tb, tof, rfl, rt0⟩ := HT.out q hq
    have RTT : Hid (∀ W, Below w3.heap.size w3 W → RT W tb tof l) := fun W h => rt0.below h
    have m0 := r.c0 m hlt
    have m1 := r.c1 m hlt
    have m2 := r.c2 m hlt hmv
    have m3 := r.c3 m hlt
    have m4 := r.c4 m hlt
    have m5 := r.c5 m hlt
    have hbl := r.lt
    rw [eva] at m2
    have h4 := H4.out m hlt
    have h5 := H5.out m hlt
    have NX : Hid (∀ q' (hq' : q' < l.length) (hm' : m + 1 < rs.length), l[q'].p = rs[m + 1].place → q ≤ q') := fun q' hq' hm' e => by
      have h6 := H3.out m (m + 1) hlt hm' (by omega)
      rcases Nat.lt_or_ge q' q with h | h
      · have := H1.out q' q hq' hq h; omega
      · exact h
    have LT : Hid (∀ j (h : j < l.length), j < q → l[j].p < rs[m].place) := fun j h hj => by rw [← hqp]; exact H1.out j q h hq hj
    have PV : 0 < m → ∃ pv : Int, pv < rs[m].place ∧ wr.cell? ⟨b, o + (m - 1) * 6 + 5, none⟩ = some (.int .i64 pv) := fun h0 => ⟨rs[m - 1].place, H3.out (m - 1) m (by omega) hlt (by omega), r.c5 (m - 1) (by omega)⟩
    have HD : Hid (l[q].t = hdT rs[m]) := hqt
    have HP : Hid (l[q].p = rs[m].place) := hqp
    clear r r0 rt0 hqp hqt eva
    generalize hrm : rs[m] = row at *
    obtain ⟨K, nm, aa, nu, ro, pl⟩ := row
    simp only at m0 m1 m2 m3 m4 m5 h4 h5 PV
    have e4 : decide (ro < 0) = false := decide_eq_false (by omega)
    have e5 : decide ((rs.length : Int) - (m : Int) - 1 < ro) = false := decide_eq_false (by omega)
    have w1 : IntKind.i64.wrap ((rs.length : Int) - (m : Int)) = (rs.length : Int) - (m : Int) := by rw [IntKind.wrap_i64]; omega
    have w2 : IntKind.i64.wrap ((rs.length : Int) - (m : Int) - 1) = (rs.length : Int) - (m : Int) - 1 := by rw [IntKind.wrap_i64]; omega
    have hBB : Hid (∀ o, Below w3.heap.size w3 (wr.alloc o)) := fun o => bal hH.out.1 o
    by_cases hm0 : m = 0
    · subst hm0
      simp only [Nat.zero_mul, Nat.add_zero] at m0 m1 m2 m3 m4 m5
      go_upto_region 13 with (fail)
      go_quiet (fail)
      go_upto_region 15 with (fail)
      have hW0 : Below w3.heap.size w3 ((wr.alloc (.cells #[.string K, .string nm, .slice xa aa.length ya, .int .i64 nu, .int .i64 ro, .int .i64 pl] 45)).drewN nq) := below_drewN (hBB.out _) nq
      have bx := (bk_new wr #[.string K, .string nm, .slice xa aa.length ya, .int .i64 nu, .int .i64 ro, .int .i64 pl] 45).drewN nq
      clear m0 m1 m2 m3 m4 m5 PV
      generalize hHZ : wr.heap.size = HZ at *
      generalize hWA : ((wr.alloc (.cells #[.string K, .string nm, .slice xa aa.length ya, .int .i64 nu, .int .i64 ro, .int .i64 pl] 45)).drewN nq) = WA at *
      have HW0 : Hid (Below w3.heap.size w3 WA) := hW0
      have HBX : Hid (BK WA HZ #[.string K, .string nm, .slice xa aa.length ya, .int .i64 nu, .int .i64 ro, .int .i64 pl] 45) := bx
      clear hHZ hWA hW0 bx hBB
      go_loopw [9] (fun v9 wq => ∃ j : Nat, k ≤ j ∧ j ≤ q ∧ v9 = .int .i64 j ∧ Hid (Below WA.heap.size WA wq)) (fun v9 _ => q - (intOf v9).toNat)
      case atStart => exact ⟨k, by omega, hkq, rfl, Below.refl _ _⟩
      case round =>
        obtain ⟨j, hkj, hjq, rfl, hJ⟩ := hrel
        have RT1 := RTT.out _ (btr HW0.out hJ.out)
        have bq := (hJ.out.block _ HBX.out.lt).trans HBX.out
        have n0 : wr.cell? ⟨HZ, 0, none⟩ = some (.string K) := BK.cell bq 0
        have n1 : wr.cell? ⟨HZ, 1, none⟩ = some (.string nm) := BK.cell bq 1
        have n5 : wr.cell? ⟨HZ, 5, none⟩ = some (.int .i64 pl) := BK.cell bq 5
        have n6 := BK.lt bq
        have n7 := RT1.lt
        by_cases hj : j < q
        · have hjl : j < l.length := by omega
          have t2 := RT1.c2 j hjl
          have hlt2 := LT.out j hjl hj
          have g1 : decide (l[j].p < pl) = true := decide_eq_true hlt2
          have g2 : decide ((j : Int) < (l.length : Int)) = true := decide_eq_true (by omega)
          have g3 : decide (j < l.length) = true := decide_eq_true hjl
          clear RT1 bq
          generalize l[j].p = pj at *
          go_upto_region 15 with (fail)
          go_quiet (fail)
          go_wp2
          go_roundw
          case rel => exact ⟨j + 1, by omega, by omega, by go_num, below_drewN hJ.out _⟩
          case measure => simp [intOf]; omega
        · obtain rfl : j = q := by omega
          have t1 := RT1.c1 j hq
          have t2 := RT1.c2 j hq
          rw [HP.out] at t2
          have hl2 : j < l.length := hq
          have g1 : decide (pl < pl) = false := decide_eq_false (by omega)
          have g2 : decide ((j : Int) < (l.length : Int)) = true := decide_eq_true (by omega)
          have g3 : decide (j < l.length) = true := decide_eq_true hq
          have g4 : ((j : Int) == (l.length : Int)) = false := by simp; omega
          have g5 : (pl != pl) = false := by simp
          have HDD := HD.out
          clear RT1 bq
          by_cases hu : K = wUse
          · have e9 : l[j].t = nm := by rw [HDD]; unfold hdT; rw [if_pos hu]
            rw [e9] at t1
            subst hu
            clear HDD e9
            go_upto_region 15 with (fail)
            go_quiet (fail)
            go_upto_region 20 with (fail)
            go_quiet (fail)
            go_wp2
            go_roundw
            case rel => exact ⟨j, 0 + 1, by omega, by omega, by go_num, rfl, btr HW0.out (below_drewN hJ.out _), NX.out⟩
            case measure => simp [intOf]; omega
          · have e9 : l[j].t = K := by rw [HDD]; unfold hdT; rw [if_neg hu]
            rw [e9] at t1
            have hne := ne_lit hu
            clear HDD e9 hu
            go_upto_region 15 with (fail)
            go_quiet (fail)
            go_upto_region 20 with (fail)
            go_quiet (fail)
            go_wp2
            go_roundw
            case rel => exact ⟨j, 0 + 1, by omega, by omega, by go_num, rfl, btr HW0.out (below_drewN hJ.out _), NX.out⟩
            case measure => simp [intOf]; omega
    · obtain ⟨pv, hpv, dpv⟩ := PV (by omega)
      have g6 : decide (pl ≤ pv) = false := decide_eq_false (by omega)
      have g7 : decide ((0 : Int) < (m : Int)) = true := decide_eq_true (by omega)
      have g8 : decide (0 < m) = true := decide_eq_true (by omega)
      have g9 : (m : Int) - 1 = ((m - 1 : Nat) : Int) := by omega
      have g10 : IntKind.i64.wrap ((m : Int) - 1) = ((m - 1 : Nat) : Int) := by rw [IntKind.wrap_i64]; omega
      have g11 : m - 1 < rs.length := by omega
      go_upto_region 13 with (fail)
      go_quiet (fail)
      go_upto_region 15 with (fail)
      have hW0 : Below w3.heap.size w3 ((wr.alloc (.cells #[.string K, .string nm, .slice xa aa.length ya, .int .i64 nu, .int .i64 ro, .int .i64 pl] 45)).drewN nq) := below_drewN (hBB.out _) nq
      have bx := (bk_new wr #[.string K, .string nm, .slice xa aa.length ya, .int .i64 nu, .int .i64 ro, .int .i64 pl] 45).drewN nq
      clear m0 m1 m2 m3 m4 m5 PV dpv
      generalize hHZ : wr.heap.size = HZ at *
      generalize hWA : ((wr.alloc (.cells #[.string K, .string nm, .slice xa aa.length ya, .int .i64 nu, .int .i64 ro, .int .i64 pl] 45)).drewN nq) = WA at *
      have HW0 : Hid (Below w3.heap.size w3 WA) := hW0
      have HBX : Hid (BK WA HZ #[.string K, .string nm, .slice xa aa.length ya, .int .i64 nu, .int .i64 ro, .int .i64 pl] 45) := bx
      clear hHZ hWA hW0 bx hBB
      go_loopw [9] (fun v9 wq => ∃ j : Nat, k ≤ j ∧ j ≤ q ∧ v9 = .int .i64 j ∧ Hid (Below WA.heap.size WA wq)) (fun v9 _ => q - (intOf v9).toNat)
      case atStart => exact ⟨k, by omega, hkq, rfl, Below.refl _ _⟩
      case round =>
        obtain ⟨j, hkj, hjq, rfl, hJ⟩ := hrel
        have RT1 := RTT.out _ (btr HW0.out hJ.out)
        have bq := (hJ.out.block _ HBX.out.lt).trans HBX.out
        have n0 : wr.cell? ⟨HZ, 0, none⟩ = some (.string K) := BK.cell bq 0
        have n1 : wr.cell? ⟨HZ, 1, none⟩ = some (.string nm) := BK.cell bq 1
        have n5 : wr.cell? ⟨HZ, 5, none⟩ = some (.int .i64 pl) := BK.cell bq 5
        have n6 := BK.lt bq
        have n7 := RT1.lt
        by_cases hj : j < q
        · have hjl : j < l.length := by omega
          have t2 := RT1.c2 j hjl
          have hlt2 := LT.out j hjl hj
          have g1 : decide (l[j].p < pl) = true := decide_eq_true hlt2
          have g2 : decide ((j : Int) < (l.length : Int)) = true := decide_eq_true (by omega)
          have g3 : decide (j < l.length) = true := decide_eq_true hjl
          clear RT1 bq
          generalize l[j].p = pj at *
          go_upto_region 15 with (fail)
          go_quiet (fail)
          go_wp2
          go_roundw
          case rel => exact ⟨j + 1, by omega, by omega, by go_num, below_drewN hJ.out _⟩
          case measure => simp [intOf]; omega
        · obtain rfl : j = q := by omega
          have t1 := RT1.c1 j hq
          have t2 := RT1.c2 j hq
          rw [HP.out] at t2
          have hl2 : j < l.length := hq
          have g1 : decide (pl < pl) = false := decide_eq_false (by omega)
          have g2 : decide ((j : Int) < (l.length : Int)) = true := decide_eq_true (by omega)
          have g3 : decide (j < l.length) = true := decide_eq_true hq
          have g4 : ((j : Int) == (l.length : Int)) = false := by simp; omega
          have g5 : (pl != pl) = false := by simp
          have HDD := HD.out
          clear RT1 bq
          by_cases hu : K = wUse
          · have e9 : l[j].t = nm := by rw [HDD]; unfold hdT; rw [if_pos hu]
            rw [e9] at t1
            subst hu
            clear HDD e9
            go_upto_region 15 with (fail)
            go_quiet (fail)
            go_upto_region 20 with (fail)
            go_quiet (fail)
            go_wp2
            go_roundw
            case rel => exact ⟨j, m + 1, by omega, by omega, by go_num, rfl, btr HW0.out (below_drewN hJ.out _), NX.out⟩
            case measure => simp [intOf]; omega
          · have e9 : l[j].t = K := by rw [HDD]; unfold hdT; rw [if_neg hu]
            rw [e9] at t1
            have hne := ne_lit hu
            clear HDD e9 hu
            go_upto_region 15 with (fail)
            go_quiet (fail)
            go_upto_region 20 with (fail)
            go_quiet (fail)
            go_wp2
            go_roundw
            case rel => exact ⟨j, m + 1, by omega, by omega, by go_num, rfl, btr HW0.out (below_drewN hJ.out _), NX.out⟩
            case measure => simp [intOf]; omega
end Go.Proofs.YtiepbfeliehjnaaDoor
