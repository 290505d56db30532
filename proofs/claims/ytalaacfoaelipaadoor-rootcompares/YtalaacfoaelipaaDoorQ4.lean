/-
  The reference's Times.
-/
import Derived.Test.YtalaacfoaelipaaDoorQ2
namespace Go.Proofs.YtalaacfoaelipaaDoor
open Go.RowKit Go.Sort

theorem sgn_times (x y : Int) : sgn x * sgn y = sgn (x * y) := by
  rcases (show x < 0 ∨ x = 0 ∨ 0 < x by omega) with h | h | h <;> rcases (show y < 0 ∨ y = 0 ∨ 0 < y by omega) with g | g | g
  · have := Int.mul_pos_of_neg_of_neg h g; unfold sgn; rw [if_pos h, if_pos g, if_neg (by omega), if_neg (by omega)]; rfl
  · rw [g, Int.mul_zero]; show _ * 0 = 0; omega
  · have := Int.mul_neg_of_neg_of_pos h g; unfold sgn; rw [if_pos h, if_neg (by omega), if_neg (by omega), if_pos this]; rfl
  · rw [h, Int.zero_mul]; show 0 * _ = 0; omega
  · rw [h, Int.zero_mul]; show 0 * _ = 0; omega
  · rw [h, Int.zero_mul]; show 0 * _ = 0; omega
  · have := Int.mul_neg_of_pos_of_neg h g; unfold sgn; rw [if_neg (by omega), if_neg (by omega), if_pos g, if_pos this]; rfl
  · rw [g, Int.mul_zero]; show _ * 0 = 0; omega
  · have := Int.mul_pos h g; unfold sgn; rw [if_neg (by omega), if_neg (by omega), if_neg (by omega), if_neg (by omega), if_neg (by omega), if_neg (by omega)]; rfl
theorem wrap_sgn (x y : Int) : wrap64 (sgn x * sgn y) = sgn (x * y) := by
  rw [sgn_times]
  have := sgn_b (x * y)
  unfold wrap64; omega
set_option maxHeartbeats 4000000 in
theorem times_any (x y : Int) (a : Option Addr) (n c : Nat) (a' : Option Addr) (n' c' : Nat) (w : World) (hx : II w a n c x) (hy : II w a' n' c' y) (hn : n ≤ 100) (hn' : n' ≤ 100) :
    Calls Tryd.prog 41 #[.agg #[.int .i64 (sgn x), .slice a n c], .agg #[.int .i64 (sgn y), .slice a' n' c']] w fun e w' => IRet (x * y) e w' ∧ Below w.heap.size w w' := by
  have P0 : Hid _ := PlS.start hx hy
  have hst := wrap_sgn x y
  obtain ⟨la, rfl, RA0, DA0, _, va0, _, _⟩ := hx.ex
  obtain ⟨lb, rfl, RB0, DB0, _, vb0, _, _⟩ := hy.ex
  have DA : Hid (Dg la) := DA0
  have DB : Hid (Dg lb) := DB0
  have HV : Hid (nv la * nv lb = (x * y).natAbs) := by show _ = _; rw [va0, vb0, Int.natAbs_mul]
  have RA : Hid (Row a la w) := RA0
  have RB' : Hid (Row a' lb w) := RB0
  clear DA0 DB0 va0 vb0 RA0 RB0 hx hy
  obtain ⟨s, HS⟩ : ∃ s, Hid (s = sgn x) := ⟨_, rfl⟩
  obtain ⟨t, HT⟩ : ∃ t, Hid (t = sgn y) := ⟨_, rfl⟩
  rw [← HS.out, ← HT.out] at P0 ⊢
  have HST : Hid (wrap64 (sgn x * sgn y) = sgn (x * y)) := hst
  clear hst
  go_enter Tryd.func41, Tryd.ntmps41
  go_upto_region 1 with (fail)
  obtain ⟨W0, hW0⟩ : ∃ W0, W0 = (((w.alloc (.cells #[.int .i64 s, .slice a la.length c] 60)).alloc (.cells #[.int .i64 t, .slice a' lb.length c'] 60)).alloc (.cells #[.int .i64 0, .slice none 0 0] 60)) := ⟨_, rfl⟩
  rw [← hW0] at P0 ⊢
  clear hW0
  obtain ⟨x0, x1, _, _, _⟩ := P0.out.bp
  obtain ⟨y0, y1, _, _, _⟩ := P0.out.bq
  go_wp2_with (at_make; refine make_arr W0 _ (Below.refl _ _) rfl _ _ rfl _ _ (la.length + lb.length + 1) rfl rfl (by omega) (by omega) (by omega) ?_; intro w1 harr)
  have HA : Hid (Arr W0 w1 _ _) := harr
  clear harr x0 x1 y0 y1
  obtain ⟨g, hg⟩ : ∃ g, g = W0.heap.size := ⟨_, rfl⟩
  rw [← hg] at HA ⊢
  clear hg
  go_loopw [6] (fun iv wr => ∃ (i : Nat) (d : List Nat), i ≤ la.length ∧ iv = .int .i64 i ∧ Hid (d.length = la.length + lb.length + 1) ∧ Hid (Dg d) ∧ Hid (nv d = nv (la.take i) * nv lb) ∧ Hid (Arr W0 wr g d)) (fun i _ => la.length - (intOf i).toNat)
  case atStart => exact ⟨0, List.replicate (la.length + lb.length + 1) 0, by omega, rfl, by show _ = _; simp, Dg.rep _, by show _ = _; rw [nv_rep]; simp [nv], HA⟩
  case round =>
    obtain ⟨i, D, hi, rfl, hDl, hDg, hDv, hArr⟩ := hrel
    have P := P0.out.onward hArr.out.below
    obtain ⟨x0, x1, _, _, _⟩ := P.bp
    obtain ⟨y0, y1, _, _, _⟩ := P.bq
    by_cases h1 : i < la.length
    · have b1 := DA.out.at_ i
      have HR : Hid (∀ d : List Nat, nv d = nv D + 65536 ^ i * (gd la i * nv lb) → nv d = nv (la.take (i + 1)) * nv lb) := fun d h => times_round D d la lb i hDv.out h
      have HDB : Hid (nv D < 65536 ^ (i + lb.length)) := by show _ < _; rw [hDv.out]; exact times_bound la lb i DA.out DB.out hi
      have HRA : Hid (∀ W, Below W0.heap.size W0 W → ∃ B, a = some ⟨B, 0, none⟩ ∧ W.cell? ⟨B, i, none⟩ = some (.int .i64 (gd la i : Nat))) := fun W hb => by
        obtain ⟨B, e1, e2, _⟩ := (RA.out.below (btr P0.out.below hb)).at_ i h1
        exact ⟨B, e1, e2⟩
      generalize gd la i = ai at *
      clear P
      go_wp2
      go_loopw [7, 8] (fun cv kv ws => ∃ (k cr : Nat) (d : List Nat), k ≤ lb.length + 1 ∧ cr < 65536 ∧ kv = .int .i64 k ∧ cv = .int .i64 cr ∧ Hid (d.length = la.length + lb.length + 1) ∧ Hid (Dg d) ∧ Hid (nv d + 65536 ^ (i + k) * cr = nv D + 65536 ^ i * (ai * nv (lb.take k))) ∧ Hid (Arr W0 ws g d)) (fun _ k _ => lb.length + 1 - (intOf k).toNat)
      case atStart => exact ⟨0, 0, D, by omega, by omega, rfl, rfl, hDl, hDg, by show _ = _; simp [nv], hArr⟩
      case round =>
        obtain ⟨k, cr, d, hk, hcr, rfl, rfl, hdl, hdg, hinv, harr⟩ := hrel
        have P := P0.out.onward harr.out.below
        obtain ⟨x0, x1, _, _, _⟩ := P.bp
        obtain ⟨y0, y1, _, _, _⟩ := P.bq
        have hik : i + k < d.length ∨ lb.length < k := by have := hdl.out; omega
        have hfar : Hid (0 < cr → k ≤ lb.length) := fun h => times_far D d lb ai i k cr DB.out b1 HDB.out h hinv.out
        by_cases h2 : k < lb.length
        · have hlt : i + k < d.length := by omega
          have cg := harr.out.cell (i + k) hlt
          have fg := harr.out.fz (i + k)
          have bd := hdg.out.at_ (i + k)
          have bb := DB.out.at_ k
          have hstp : Hid _ := times_step D d lb ai i k cr hlt hinv.out
          have hcar := times_carry cr (gd d (i + k)) ai (gd lb k) hcr bd b1 bb
          have hset : Hid (∀ m, Arr W0 ((wr.drewN m).setCell ⟨g, i + k, none⟩ (.int .i64 (((cr + gd d (i + k) + ai * gd lb k) % 65536 : Nat) : Int))) g (d.set (i + k) ((cr + gd d (i + k) + ai * gd lb k) % 65536))) := fun m => (harr.out.drewN m).set _ _ hlt
          have hdg' : Hid (Dg (d.set (i + k) ((cr + gd d (i + k) + ai * gd lb k) % 65536))) := hdg.out.set _ _ (Nat.mod_lt _ (by decide))
          have hdl' : Hid ((d.set (i + k) ((cr + gd d (i + k) + ai * gd lb k) % 65536)).length = la.length + lb.length + 1) := by show _ = _; rw [List.length_set]; exact hdl.out
          obtain ⟨B, rfl, xb, _⟩ := (RB'.out.below (btr P0.out.below harr.out.below)).at_ k h2
          obtain ⟨A, rfl, xa⟩ := HRA.out _ harr.out.below
          have hN : i + k < la.length + lb.length + 1 := by omega
          clear hik hfar hinv hdg P hlt hdl
          generalize gd d (i + k) = X at *
          generalize gd lb k = bk at *
          have q0 : (0 : Int) ≤ (ai : Int) * (bk : Int) := Int.mul_nonneg (by omega) (by omega)
          have q1 : (ai : Int) * (bk : Int) ≤ 4294836225 := by
            have := Nat.mul_le_mul (show ai ≤ 65535 by omega) (show bk ≤ 65535 by omega)
            have e : ((ai * bk : Nat) : Int) = (ai : Int) * (bk : Int) := by simp
            omega
          have i0 : (0 : Int) ≤ (i : Int) := by omega
          have i1 : (i : Int) < (la.length : Int) := by omega
          have i2 : (0 : Int) ≤ (k : Int) := by omega
          have i3 : (k : Int) < (lb.length : Int) := by omega
          go_wp2
          go_quiet (fail)
          go_wp2
          go_roundw
          case rel => exact ⟨k + 1, (cr + X + ai * bk) / 65536, _, by omega, hcar.1, by go_num, by go_num, hdl', hdg', hstp, hset.out _⟩
          case measure => simp [intOf]; omega
        · by_cases h3 : 0 < cr
          · have hk2 := hfar.out h3
            have hlt : i + k < d.length := by omega
            have cg := harr.out.cell (i + k) hlt
            have fg := harr.out.fz (i + k)
            have bd := hdg.out.at_ (i + k)
            have hstp : Hid _ := times_step D d lb ai i k cr hlt hinv.out
            rw [getD_ge (by omega : lb.length ≤ k), Nat.mul_zero, Nat.add_zero] at hstp
            have hset : Hid (Arr W0 (wr.setCell ⟨g, i + k, none⟩ (.int .i64 (((cr + gd d (i + k)) % 65536 : Nat) : Int))) g (d.set (i + k) ((cr + gd d (i + k)) % 65536))) := harr.out.set _ _ hlt
            have hdg' : Hid (Dg (d.set (i + k) ((cr + gd d (i + k)) % 65536))) := hdg.out.set _ _ (Nat.mod_lt _ (by decide))
            have hdl' : Hid ((d.set (i + k) ((cr + gd d (i + k)) % 65536)).length = la.length + lb.length + 1) := by show _ = _; rw [List.length_set]; exact hdl.out
            have hN : i + k < la.length + lb.length + 1 := by omega
            clear hik hfar hinv hdg P hlt hdl
            generalize gd d (i + k) = X at *
            go_wp2
            go_roundw
            case rel => exact ⟨k + 1, (cr + X) / 65536, _, by omega, by omega, by go_num, by go_num, hdl', hdg', hstp, hset⟩
            case measure => simp [intOf]; omega
          · obtain rfl : cr = 0 := by omega
            have hv : Hid _ := HR.out d (by have h := hinv.out; rw [nv_take_all (by omega)] at h; omega)
            clear hik hfar hinv P
            go_wp2
            go_roundw
            case rel => exact ⟨i + 1, d, by omega, by go_num, hdl, hdg, hv, harr⟩
            case measure => simp [intOf]; omega
    · have e1 : nv D = (x * y).natAbs := by rw [hDv.out, nv_take_all (by omega)]; exact HV.out
      have hst := HST.out
      have TR := trim_any (sgn (x * y)) (x * y) (some ⟨g, 0, none⟩) D (la.length + lb.length + 1) wr (by have := hDl.out; omega) (by omega) hArr.out.row hDg.out e1 (fun _ => rfl)
      rw [hDl.out] at TR
      obtain ⟨r0, r1, rf0, rf1, rt⟩ := P.br
      have lr := P.br.lt
      have hW := P.below
      clear P hDl hDg hDv e1 HST
      go_wp2_with (go_at_call 59; (with_reducible refine TR.mono ?_); rintro e w2 ⟨⟨a4, n4, c4, rfl, hI⟩, hN⟩; obtain ⟨hc, hf⟩ := bcell hN)
      exact bodyPost_ret (v := .agg #[.int .i64 (sgn (x * y)), .slice a4 n4 c4]) (by simp [results, Tryd.results41, go_sem, hc, r0, r1, lr]) rfl ⟨⟨_, _, _, rfl, hI.put2 ((bty_below hN lr).trans rt) _ _⟩, ((btr hW hN).setCell (by simp; omega) _).setCell (by simp; omega) _⟩
end Go.Proofs.YtalaacfoaelipaaDoor
