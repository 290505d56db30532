/-
  The reference's Parse where all are letters.
-/
import Derived.Test.YtbkdehnemhkbkaaQ3
namespace Go.Proofs.Ytbkdehnemhkbkaa
open Go.RowKit Go.Sort

theorem or_hi (X j : Nat) (h : bt X j = 1) : hi X (j + 1) ||| 2 ^ j = hi X j :=
  ext_bt fun i => by
    have e3 : bt (hi X (j + 1) ||| 2 ^ j) i = if i = j then 1 else bt (hi X (j + 1)) i := by
      unfold bt
      rw [Nat.testBit_or, Nat.testBit_two_pow]
      by_cases h : i = j
      · subst h; simp
      · simp [h, Ne.symm h]
    rw [e3, bt_hi, bt_hi]
    by_cases g : i = j
    · subst g; simp [h]
    · rw [if_neg g]
      by_cases g2 : i < j
      · rw [if_pos g2, if_pos (by omega)]
      · rw [if_neg g2, if_neg (by omega)]
theorem keep_hi (X j : Nat) (h : bt X j = 0) : hi X (j + 1) = hi X j :=
  ext_bt fun i => by
    rw [bt_hi, bt_hi]
    by_cases g : i = j
    · subst g; simp [h]
    · by_cases g2 : i < j
      · rw [if_pos g2, if_pos (by omega)]
      · rw [if_neg g2, if_neg (by omega)]
theorem high_hi {x k : Nat} (h : x < 2 ^ k) : hi x k = 0 := by
  unfold hi; rw [Nat.div_eq_of_lt h]; simp
theorem setX_hi (X j k c : Nat) (hc : isLet c) (h1 : c ≠ 73) (hk : k = c - 87) (h : bt X j = xd c) : setX (hi X (j + 1)) j k = hi X j := by
  subst hk
  rcases hc with rfl | rfl | rfl | rfl
  · exact absurd rfl h1
  · exact or_hi X j h
  · exact or_hi X j h
  · exact keep_hi X j h
theorem setZ_hi (X j k c : Nat) (hc : isLet c) (h1 : c ≠ 73) (hk : k = c - 87) (h : bt X j = zd c) : setZ (hi X (j + 1)) j k = hi X j := by
  subst hk
  rcases hc with rfl | rfl | rfl | rfl
  · exact absurd rfl h1
  · exact keep_hi X j h
  · exact or_hi X j h
  · exact or_hi X j h

/-- Behind the letters' look: the variable p holds what was read so far. -/
structure RQ (w : World) (N : Int) (X Z : Nat) (F : Int) (W : World) : Prop where
  below : Below w.heap.size w W
  r : PB W w.heap.size 0 0 0 0
  p : PB W (w.heap.size + 1) N X Z F
theorem RP.start {w W : World} {F : Nat} (h : RP w F W) (N : Int) : RQ w N 0 0 F (W.setCell ⟨w.heap.size + 1, 0, none⟩ (.int .i64 N)) :=
  ⟨bset h.below _ _ _ (by omega), h.r.far (by omega) _ _, h.p.set0 N⟩
theorem RQ.on {w W W' : World} {N : Int} {X Z : Nat} {F : Int} (h : RQ w N X Z F W) (hN : Below W.heap.size W W') : RQ w N X Z F W' :=
  ⟨btr h.below hN, h.r.below hN, h.p.below hN⟩
theorem RQ.put {w W : World} {N : Int} {X Z : Nat} {F : Int} (h : RQ w N X Z F W) (X' Z' : Nat) :
    RQ w N X' Z' F ((((W.setCell ⟨w.heap.size + 1, 0, none⟩ (.int .i64 N)).setCell ⟨w.heap.size + 1, 1, none⟩ (.int .u64 (X' : Int))).setCell ⟨w.heap.size + 1, 2, none⟩ (.int .u64 (Z' : Int))).setCell ⟨w.heap.size + 1, 3, none⟩ (.int .i64 F)) := by
  have e : w.heap.size + 1 ≠ w.heap.size := by omega
  have hb : w.heap.size ≤ w.heap.size + 1 := by omega
  exact ⟨bset (bset (bset (bset h.below _ _ _ hb) _ _ _ hb) _ _ _ hb) _ _ _ hb, (((h.r.far e _ _).far e _ _).far e _ _).far e _ _, (((h.p.set0 N).set1 X').set2 Z').set3 F⟩

set_option maxHeartbeats 4000000 in
theorem rparse_let (s : ByteArray) (w : World) (hs : s.size ≤ 9223372036854775807) (ha : AllLet (cutS s.data.toList).2) :
    Calls Try.prog 25 #[.string s] w fun e w' => e = .returned (.tuple #[if 64 < (cutS s.data.toList).2.length then pv 0 0 0 0 else (rdP s.data.toList).v, .int .i64 (if 64 < (cutS s.data.toList).2.length then 1 else 0)]) ∧ Below w.heap.size w w' := by
  obtain ⟨V, hV⟩ : ∃ V, Hid (V = if 64 < (cutS s.data.toList).2.length then pv 0 0 0 0 else (rdP s.data.toList).v) := ⟨_, rfl⟩
  obtain ⟨E, hE⟩ : ∃ E : Int, Hid (E = if 64 < (cutS s.data.toList).2.length then 1 else 0) := ⟨_, rfl⟩
  rw [← hV.out, ← hE.out]
  have HB : Hid (AllLet (cutS s.data.toList).2) := ha
  clear ha
  obtain ⟨f0, i0, F, i, HD, HE, HS, hil, hi2, hf0, hi0⟩ := sign_data s
  have hR00 : Hid (RP w 0 ((w.alloc (pc 0 0 0 0)).alloc (pc 0 0 0 0))) := rp_new w 0
  go_enter Try.func25, Try.ntmps25
  go_upto_region 3 with (fail)
  go_cut [24] from 9 to 23 (fun v24 W => v24 = Value.bool (decide (i0 = 1)) ∧ Hid (RP w 0 W))
  case first =>
    rcases HD.out with ⟨h, e, rfl, rfl⟩ | ⟨h, e, rfl, rfl⟩ | ⟨h, e, e', rfl, rfl⟩ | ⟨h, rfl, rfl⟩
    · go_wp2
      go_meet
      case rel => exact ⟨rfl, hR00⟩
    · go_wp2
      go_meet
      case rel => exact ⟨rfl, hR00⟩
    · have e1 : ((s[0].toNat : Int) == 45) = false := by simp; omega
      have e2 : ((s[0].toNat : Int) == 43) = false := by simp; omega
      clear e e'
      go_wp2
      go_meet
      case rel => exact ⟨rfl, hR00⟩
    · go_wp2
      go_meet
      case rel => exact ⟨rfl, hR00⟩
  clear hR00
  obtain ⟨rfl, hR00⟩ := hcut
  go_upto_if 24 with (fail)
  go_cut [5] from 24 to 31 (fun v5 W => v5 = Value.int .i64 (i0 : Int) ∧ Hid (RP w f0 W))
  case first =>
    obtain ⟨p0, p1, p2, p3, g0, g1, g2, g3⟩ := hR00.out.p
    rcases HD.out with ⟨h, e, rfl, rfl⟩ | ⟨h, e, rfl, rfl⟩ | ⟨h, e, e', rfl, rfl⟩ | ⟨h, rfl, rfl⟩
    · go_wp2
      go_meet
      case rel => exact ⟨rfl, hR00.out.put 2⟩
    · go_wp2
      go_meet
      case rel => exact ⟨rfl, hR00⟩
    · go_wp2
      go_meet
      case rel => exact ⟨rfl, hR00⟩
    · go_wp2
      go_meet
      case rel => exact ⟨rfl, hR00⟩
  clear hR00 HD
  obtain ⟨rfl, hR0⟩ := hcut
  go_upto_region 7 with (fail)
  go_cut [41] from 32 to 40 (fun v41 W => v41 = Value.bool (decide (i = i0 + 1)) ∧ Hid (RP w f0 W))
  case first =>
    rcases HE.out with ⟨h, e, rfl, rfl⟩ | ⟨h, e, rfl, rfl⟩ | ⟨h, rfl, rfl⟩
    · go_wp2
      go_meet
      case rel => exact ⟨by simp, hR0⟩
    · have e1 : ((s[i].toNat : Int) == 105) = false := by simp; omega
      clear e
      go_wp2
      go_meet
      case rel => exact ⟨by simp, hR0⟩
    · have h' : ¬ i < s.size := by omega
      go_wp2
      go_meet
      case rel => exact ⟨by simp, hR0⟩
  clear hR0
  obtain ⟨rfl, hR0⟩ := hcut
  go_upto_if 41 with (fail)
  go_cut [5] from 41 to 47 (fun v5 W => v5 = Value.int .i64 (i : Int) ∧ Hid (RP w F W))
  case first =>
    obtain ⟨p0, p1, p2, p3, g0, g1, g2, g3⟩ := hR0.out.p
    rcases HE.out with ⟨h, e, rfl, rfl⟩ | ⟨h, e, rfl, rfl⟩ | ⟨h, rfl, rfl⟩
    · go_wp2
      go_meet
      case rel => exact ⟨by go_num, hR0.out.put (f0 + 1)⟩
    · have hd : decide (i = i + 1) = false := by simp
      go_wp2
      go_meet
      case rel => exact ⟨rfl, hR0⟩
    · have hd : decide (i = i + 1) = false := by simp
      go_wp2
      go_meet
      case rel => exact ⟨rfl, hR0⟩
  clear HE hR0 hf0 hi0
  obtain ⟨rfl, hR⟩ := hcut
  have hlen : s.data.toList.length = s.size := rfl
  have HA : Hid (∀ k (h : k < s.size), i ≤ k → isLet s[k].toNat) := fun k h hk => by
    have h1 := HB.out
    rw [HS.out] at h1
    have h2 := h1 (k - i) (by show k - i < (s.data.toList.drop i).length; rw [List.length_drop]; omega)
    simp only at h2
    rw [gl_drop s i (k - i) (by omega)] at h2
    simpa only [show i + (k - i) = k by omega] using h2
  obtain ⟨X0, hX0⟩ : ∃ X0, Hid (X0 = prs (xs (s.data.toList.drop i)) (s.size - i)) := ⟨_, rfl⟩
  obtain ⟨Z0, hZ0⟩ : ∃ Z0, Hid (Z0 = prs (zs (s.data.toList.drop i)) (s.size - i)) := ⟨_, rfl⟩
  have HR : Hid (rdP s.data.toList = ⟨s.size - i, X0, Z0, F⟩ ∧ (cutS s.data.toList).2.length = s.size - i) := by
    show _ ∧ _
    unfold rdP
    rw [HS.out, hX0.out, hZ0.out]
    have e : (s.data.toList.drop i).length = s.size - i := by rw [List.length_drop]; rfl
    simp only
    rw [e]
    exact ⟨rfl, rfl⟩
  have HXl : Hid (X0 < 2 ^ (s.size - i)) := by show _ < _; rw [hX0.out]; exact prs_lt _ (xs_le _) _
  have HZl : Hid (Z0 < 2 ^ (s.size - i)) := by show _ < _; rw [hZ0.out]; exact prs_lt _ (zs_le _) _
  have HX : Hid (∀ k (h : k < s.size), i ≤ k → bt X0 (s.size - 1 - k) = xd s[k].toNat) := fun k h hk => by
    have e := bt_prs (xs (s.data.toList.drop i)) (xs_le _) (s.size - i) (k - i) (by omega)
    rw [hX0.out, show s.size - 1 - k = s.size - i - 1 - (k - i) by omega, e]
    unfold xs
    rw [gl_drop s i (k - i) (by omega)]
    simp only [show i + (k - i) = k by omega]
  have HZ : Hid (∀ k (h : k < s.size), i ≤ k → bt Z0 (s.size - 1 - k) = zd s[k].toNat) := fun k h hk => by
    have e := bt_prs (zs (s.data.toList.drop i)) (zs_le _) (s.size - i) (k - i) (by omega)
    rw [hZ0.out, show s.size - 1 - k = s.size - i - 1 - (k - i) by omega, e]
    unfold zs
    rw [gl_drop s i (k - i) (by omega)]
    simp only [show i + (k - i) = k by omega]
  clear HB HS hX0 hZ0 hlen
  go_upto_region 12 with (fail)
  go_loop [7] (fun v => ∃ k : Nat, i ≤ k ∧ k ≤ s.size ∧ v = .int .i64 k) (fun v => s.size - (intOf v).toNat)
  case atStart => exact ⟨i, by omega, by omega, rfl⟩
  case round =>
    obtain ⟨k, hik, hk, rfl⟩ := hrel
    by_cases hlt : k < s.size
    · rcases HA.out k hlt hik with hb | hb | hb | hb
      all_goals
        go_wp2
        go_round
        case rel => exact ⟨k + 1, by omega, by omega, by go_num⟩
        case measure => simp [intOf]; omega
    · obtain rfl : k = s.size := by omega
      by_cases h64 : 64 < s.size - i
      · obtain ⟨d0, d1, d2, d3, g0, g1, g2, g3⟩ := hR.out.r
        have hV2 : Hid (V = pv 0 0 0 0) := by show _ = _; rw [hV.out, HR.out.2, if_pos h64]
        have hE2 : Hid (E = 1) := by show _ = _; rw [hE.out, HR.out.2, if_pos h64]
        go_wp2
        refine bodyPost_ret (v := .tuple #[pv 0 0 0 0, .int .i64 1]) (by simp [results, Try.results25, go_sem, d0, d1, d2, d3]) rfl ⟨by rw [hV2.out, hE2.out], ?_⟩
        repeat (first | exact hR.out.below | refine bset ?_ _ _ _ (by omega))
      · have hV2 : Hid (V = pv ((s.size - i : Nat) : Int) X0 Z0 F) := by show _ = _; rw [hV.out, HR.out.2, if_neg h64, HR.out.1]
        have hE2 : Hid (E = 0) := by show _ = _; rw [hE.out, HR.out.2, if_neg h64]
        have hX1 : X0 < 18446744073709551616 := Nat.lt_of_lt_of_le HXl.out (Nat.pow_le_pow_right (n := 2) (by decide) (show s.size - i ≤ 64 by omega))
        have hZ1 : Z0 < 18446744073709551616 := Nat.lt_of_lt_of_le HZl.out (Nat.pow_le_pow_right (n := 2) (by decide) (show s.size - i ≤ 64 by omega))
        obtain ⟨p0, p1, p2, p3, g0, g1, g2, g3⟩ := hR.out.p
        have hN : ((s.size - i : Nat) : Int) = (s.size : Int) - (i : Int) := by omega
        go_upto_region 20 with (fail)
        have hQ : Hid (RQ w ((s.size : Int) - (i : Int)) (hi X0 (s.size - i)) (hi Z0 (s.size - i)) F (wc.setCell ⟨w.heap.size + 1, 0, none⟩ (.int .i64 ((s.size : Int) - (i : Int))))) := by
          show RQ _ _ _ _ _ _
          rw [high_hi HXl.out, high_hi HZl.out]
          exact hR.out.start _
        clear p0 p1 p2 p3 g0 g1 g2 g3 hR HXl HZl
        go_loopw [8] (fun v wr => ∃ k : Nat, i ≤ k ∧ k ≤ s.size ∧ v = .int .i64 k ∧ Hid (RQ w ((s.size : Int) - (i : Int)) (hi X0 (s.size - k)) (hi Z0 (s.size - k)) F wr)) (fun v _ => s.size - (intOf v).toNat)
        case atStart => exact ⟨i, by omega, by omega, rfl, hQ⟩
        case round =>
          clear hQ
          obtain ⟨k, hik, hk, rfl, hH⟩ := hrel
          by_cases hlt : k < s.size
          · have hbx := HX.out k hlt hik
            have hbz := HZ.out k hlt hik
            have hlet := HA.out k hlt hik
            have ek : s.size - 1 - k + 1 = s.size - k := by omega
            have ek2 : s.size - (k + 1) = s.size - 1 - k := by omega
            by_cases hb : s[k].toNat = 73
            · have ex := keep_hi X0 (s.size - 1 - k) (by rw [hbx, hb]; rfl)
              have ez := keep_hi Z0 (s.size - 1 - k) (by rw [hbz, hb]; rfl)
              rw [ek, ← ek2] at ex ez
              have hH2 : Hid (RQ w ((s.size : Int) - (i : Int)) (hi X0 (s.size - (k + 1))) (hi Z0 (s.size - (k + 1))) F wr) := by rw [← ex, ← ez]; exact hH
              clear ex ez hbx hbz ek ek2 hlet
              go_wp2
              go_roundw
              case rel => exact ⟨k + 1, by omega, by omega, by go_num, hH2⟩
              case measure => simp [intOf]; omega
            · have ST0 := fun w => set_any ((s.size : Int) - (i : Int)) (hi X0 (s.size - k)) (hi Z0 (s.size - k)) (F : Int) (s.size - 1 - k) (s[k].toNat - 87) w (Nat.lt_of_le_of_lt (hi_le _ _) hX1) (Nat.lt_of_le_of_lt (hi_le _ _) hZ1) (by omega) (by rcases hlet with h | h | h | h <;> omega)
              have sx := setX_hi X0 (s.size - 1 - k) (s[k].toNat - 87) s[k].toNat hlet hb rfl hbx
              have sz := setZ_hi Z0 (s.size - 1 - k) (s[k].toNat - 87) s[k].toNat hlet hb rfl hbz
              rw [ek] at sx sz
              rw [sx, sz] at ST0
              clear sx sz hbx hbz
              obtain ⟨X', hX'⟩ : ∃ X', Hid (X' = hi X0 (s.size - (k + 1))) := ⟨_, rfl⟩
              obtain ⟨Z', hZ'⟩ : ∃ Z', Hid (Z' = hi Z0 (s.size - (k + 1))) := ⟨_, rfl⟩
              have ex := hX'.out
              have ez := hZ'.out
              rw [ek2] at ex ez
              rw [← ex, ← ez] at ST0
              clear ex ez ek2
              generalize hi X0 (s.size - k) = X at ST0 hH
              generalize hi Z0 (s.size - k) = Z at ST0 hH
              obtain ⟨p0, p1, p2, p3, g0, g1, g2, g3⟩ := hH.out.p
              have hb' : ((s[k].toNat : Int) == 73) = false := by simp; omega
              have ST : ∀ w, Calls Try.prog 28 #[.agg #[.int .i64 ((s.size : Int) - (i : Int)), .int .u64 (X : Int), .int .u64 (Z : Int), .int .i64 (F : Int)], .int .i64 (IntKind.i64.wrap (IntKind.i64.wrap ((s.size : Int) - 1) - (k : Int))), .int .i64 (IntKind.i64.wrap (IntKind.i64.wrap (IntKind.i64.wrap (s[k].toNat : Int) - 88) + 1))] w
                  fun e w' => e = .returned (pv ((s.size : Int) - (i : Int)) X' Z' F) ∧ Below w.heap.size w w' := fun w => by
                have e1 : IntKind.i64.wrap (IntKind.i64.wrap ((s.size : Int) - 1) - (k : Int)) = ((s.size - 1 - k : Nat) : Int) := by rw [IntKind.wrap_i64, IntKind.wrap_i64]; omega
                have e2 : IntKind.i64.wrap (IntKind.i64.wrap (IntKind.i64.wrap (s[k].toNat : Int) - 88) + 1) = ((s[k].toNat - 87 : Nat) : Int) := by
                  rcases hlet with h | h | h | h
                  · exact absurd h hb
                  all_goals
                    rw [h]
                    decide
                rw [e1, e2]
                exact ST0 w
              clear ST0 hlet ek
              go_upto_region 23 with (fail)
              go_region_with (go_at_call 28; (with_reducible refine (ST _).mono ?_); rintro e w6 ⟨rfl, hN6⟩; have hM6 : Hid (RQ w ((s.size : Int) - (i : Int)) X Z F w6) := (hH.out.on (below_drew (Below.refl _ _))).on hN6; obtain ⟨q0, q1, q2, q3, r0, r1, r2, r3⟩ := hM6.out.p)
              all_goals
                go_wp2
                go_roundw
                case rel =>
                  refine ⟨k + 1, by omega, by omega, by go_num, ?_⟩
                  rw [← hX'.out, ← hZ'.out]
                  exact hM6.out.put X' Z'
                case measure => simp [intOf]; omega
          · obtain rfl : k = s.size := by omega
            rw [Nat.sub_self, hi_zero, hi_zero] at hH
            obtain ⟨p0, p1, p2, p3, g0, g1, g2, g3⟩ := hH.out.p
            obtain ⟨r0, r1, r2, r3, k0, k1, k2, k3⟩ := hH.out.r
            go_wp2
            refine bodyPost_ret (v := .tuple #[pv ((s.size : Int) - (i : Int)) X0 Z0 F, .int .i64 0]) (by simp [results, Try.results25, go_sem, r0, r1, r2, r3]) rfl ⟨by rw [hV2.out, hE2.out, hN], ?_⟩
            repeat (first | exact hH.out.below | refine bset ?_ _ _ _ (by omega))
end Go.Proofs.Ytbkdehnemhkbkaa
