/-
  Put together of: C3 C4 C5.
-/
import Derived.Test.YtcfmhkhfmcmkbaaDoorXG
import Derived.Deep.LoopGhost
namespace Go.Proofs.YtcfmhkhfmcmkbaaDoor
open Go.RowKit

set_option maxHeartbeats 400000 in
theorem parts_any (n : Nat) (a b c : Int) (w : World) (h : n ≤ 16) (hr : isRoot a b c) :
    Calls Tryd.prog 37 #[.int .i64 (n : Nat), rv a b c] w fun x w' => x = .returned (.bool (fitB n a b)) ∧ Below w.heap.size w w' := by
  have h0 : ¬ ((n : Nat) : Int) < 0 := by omega
  have ha := hr.1
  have hb := hr.2.1
  clear hr
  have hm : (9007199254740991 : Int) / 2 ^ n = mst n := by unfold mst; simp
  go_enter Tryd.func37, Tryd.ntmps37
  go_wp2
  all_goals
    go_ret
    refine ⟨?_, bal (Below.refl _ _) _⟩
    rw [hm] at *
    first
      | (show Ending.returned (.bool false) = _; rw [show fitB n a b = false from decide_eq_false (by omega)])
      | (show Ending.returned (.bool (decide (max b (-b) ≤ mst n))) = _; rw [show fitB n a b = decide (max b (-b) ≤ mst n) from decide_eq_decide.2 ⟨fun h => by omega, fun h => by omega⟩])
set_option maxHeartbeats 400000 in
theorem weights_no1 (o1 o2 o3 a1 a2 a3 : Int) (w : World) (h : ¬ isRoot o1 o2 o3) :
    Calls Tryd.prog 36 #[rv o1 o2 o3, rv a1 a2 a3] w fun x w' => x = .returned (.int .i64 2) ∧ Below w.heap.size w w' := by
  have C := fun w => check_no o1 o2 o3 w h
  go_enter Tryd.func36, Tryd.ntmps36
  go_wp2_with (go_at_call 44; (with_reducible refine (C _).mono ?_); rintro e w1 ⟨rfl, hB⟩)
  go_ret
  exact ⟨rfl, btr (bal (bal (Below.refl _ _) _) _) hB⟩
set_option maxHeartbeats 400000 in
theorem weights_no2 (o1 o2 o3 a1 a2 a3 : Int) (w : World) (h1 : isRoot o1 o2 o3) (h : ¬ isRoot a1 a2 a3) :
    Calls Tryd.prog 36 #[rv o1 o2 o3, rv a1 a2 a3] w fun x w' => x = .returned (.int .i64 2) ∧ Below w.heap.size w w' := by
  have C1 := fun w => check_yes o1 o2 o3 w h1
  have C := fun w => check_no a1 a2 a3 w h
  clear h1 h
  go_enter Tryd.func36, Tryd.ntmps36
  go_wp2_with (first
    | (go_at_call 44; (with_reducible refine (C1 _).mono ?_); rintro e w1 ⟨rfl, hB⟩; obtain ⟨_, B2⟩ := two_box hB; have c1 : ∀ j, w1.cell? ⟨w.heap.size + 1, j, none⟩ = _ := B2.cell; have l1 := B2.lt; clear C1)
    | (go_at_call 44; (with_reducible refine (C _).mono ?_); rintro e w2 ⟨rfl, hB2⟩))
  go_ret
  exact ⟨rfl, btr (btr (bal (bal (Below.refl _ _) _) _) hB) hB2⟩
/-- The weights' fault, whatever the length. -/
def flw (o1 o2 o3 a1 a2 a3 : Int) : Nat :=
  if a1 = 0 ∧ a2 = 0 ∧ a3 = 0 then 131 else if wt a1 a2 a3 < 0 ∨ wt o1 o2 o3 < 0 ∨ wt a1 a2 a3 < wt o1 o2 o3 then 2 else 0
set_option maxHeartbeats 1000000 in
theorem weights_null (o1 o2 o3 : Int) (w : World) (h1 : isRoot o1 o2 o3) :
    Calls Tryd.prog 36 #[rv o1 o2 o3, rv 0 0 0] w fun x w' => x = .returned (.int .i64 131) ∧ Below w.heap.size w w' := by
  have C1 := fun w => check_yes o1 o2 o3 w h1
  have C := fun w => check_yes 0 0 0 w root0
  clear h1
  go_enter Tryd.func36, Tryd.ntmps36
  go_wp2_with (first
    | (go_at_call 44; (with_reducible refine (C1 _).mono ?_); rintro e w1 ⟨rfl, hB⟩; obtain ⟨B1, B2⟩ := two_box hB; have c1 : ∀ j, w1.cell? ⟨w.heap.size + 1, j, none⟩ = _ := B2.cell; have l1 := B2.lt; clear C1)
    | (go_at_call 44; (with_reducible refine (C _).mono ?_); rintro e w2 ⟨rfl, hB2⟩; have D2 := B2.on hB2; have d1 : ∀ j, w2.cell? ⟨w.heap.size + 1, j, none⟩ = _ := D2.cell; have l2 := D2.lt; clear C))
  go_ret
  exact ⟨rfl, btr (btr (bal (bal (Below.refl _ _) _) _) hB) hB2⟩
set_option maxHeartbeats 4000000 in
theorem weights_any (o1 o2 o3 a1 a2 a3 : Int) (w : World) (h1 : isRoot o1 o2 o3) (h : isRoot a1 a2 a3) :
    Calls Tryd.prog 36 #[rv o1 o2 o3, rv a1 a2 a3] w fun x w' => x = .returned (.int .i64 (flw o1 o2 o3 a1 a2 a3 : Nat)) ∧ Below w.heap.size w w' := by
  by_cases hz : a1 = 0 ∧ a2 = 0 ∧ a3 = 0
  · obtain ⟨rfl, rfl, rfl⟩ := hz
    exact weights_null o1 o2 o3 w h1
  have C1 := fun w => check_yes o1 o2 o3 w h1
  have C := fun w => check_yes a1 a2 a3 w h
  have L1 := fun w => less_any a1 a2 a3 0 0 0 w h root0
  have L2 := fun w => less_any o1 o2 o3 0 0 0 w h1 root0
  have L3 := fun w => less_any a1 a2 a3 o1 o2 o3 w h h1
  rw [wt_zero] at L1 L2
  unfold flw
  rw [if_neg hz]
  generalize wt a1 a2 a3 = x at *
  generalize wt o1 o2 o3 = y at *
  have hz' : ¬ a1 = 0 ∨ (a1 = 0 ∧ ¬ a2 = 0) ∨ (a1 = 0 ∧ a2 = 0 ∧ ¬ a3 = 0) := by omega
  clear h1 h hz
  rcases hz' with hz | ⟨rfl, hz⟩ | ⟨rfl, rfl, hz⟩
  all_goals
    go_enter Tryd.func36, Tryd.ntmps36
    go_wp2_with (first
      | (go_at_call 44; (with_reducible refine (C1 _).mono ?_); rintro e w1 ⟨rfl, hB⟩; obtain ⟨B1, B2⟩ := two_box hB; have c0 : ∀ j, w1.cell? ⟨w.heap.size, j, none⟩ = _ := B1.cell; have c1 : ∀ j, w1.cell? ⟨w.heap.size + 1, j, none⟩ = _ := B2.cell; have l1 := B2.lt; clear C1)
      | (go_at_call 44; (with_reducible refine (C _).mono ?_); rintro e w2 ⟨rfl, hB2⟩; have D1 := B1.on hB2; have D2 := B2.on hB2; have d0 : ∀ j, w2.cell? ⟨w.heap.size, j, none⟩ = _ := D1.cell; have d1 : ∀ j, w2.cell? ⟨w.heap.size + 1, j, none⟩ = _ := D2.cell; have l2 := D2.lt; clear C)
      | (go_at_call 39; (with_reducible refine (L1 _).mono ?_); rintro e w3 ⟨rfl, hB3⟩; have E1 := D1.on hB3; have E2 := D2.on hB3; have e0 : ∀ j, w3.cell? ⟨w.heap.size, j, none⟩ = _ := E1.cell; have e1 : ∀ j, w3.cell? ⟨w.heap.size + 1, j, none⟩ = _ := E2.cell; have l3 := E2.lt; clear L1)
      | (go_at_call 39; (with_reducible refine (L2 _).mono ?_); rintro e w4 ⟨rfl, hB4⟩; have F1 := E1.on hB4; have F2 := E2.on hB4; have f0 : ∀ j, w4.cell? ⟨w.heap.size, j, none⟩ = _ := F1.cell; have f1 : ∀ j, w4.cell? ⟨w.heap.size + 1, j, none⟩ = _ := F2.cell; have l4 := F2.lt; clear L2)
      | (go_at_call 39; (with_reducible refine (L3 _).mono ?_); rintro e w5 ⟨rfl, hB5⟩))
    all_goals
      go_ret
      refine ⟨rfl, ?_⟩
      first
        | exact btr (btr (btr (btr (btr (bal (bal (Below.refl _ _) _) _) hB) hB2) hB3) hB4) hB5
        | exact btr (btr (btr (btr (bal (bal (Below.refl _ _) _) _) hB) hB2) hB3) hB4
        | exact btr (btr (btr (bal (bal (Below.refl _ _) _) _) hB) hB2) hB3
end Go.Proofs.YtcfmhkhfmcmkbaaDoor
namespace Go.Proofs.YtcfmhkhfmcmkbaaDoor
open Go.RowKit

def wEr (o1 o2 o3 a1 a2 a3 : Int) : Nat :=
  haveI := decRoot o1 o2 o3
  haveI := decRoot a1 a2 a3
  if ¬ isRoot o1 o2 o3 then 2 else if ¬ isRoot a1 a2 a3 then 2 else flw o1 o2 o3 a1 a2 a3
theorem weights_all (o1 o2 o3 a1 a2 a3 : Int) (w : World) :
    Calls Tryd.prog 36 #[rv o1 o2 o3, rv a1 a2 a3] w fun x w' => x = .returned (.int .i64 (wEr o1 o2 o3 a1 a2 a3 : Nat)) ∧ Below w.heap.size w w' := by
  unfold wEr
  by_cases h1 : isRoot o1 o2 o3
  · rw [if_neg (fun h => h h1)]
    by_cases h2 : isRoot a1 a2 a3
    · rw [if_neg (fun h => h h2)]
      exact weights_any o1 o2 o3 a1 a2 a3 w h1 h2
    · rw [if_pos h2]
      exact weights_no2 o1 o2 o3 a1 a2 a3 w h1 h2
  · rw [if_pos h1]
    exact weights_no1 o1 o2 o3 a1 a2 a3 w h1
theorem flt_eq (n : Nat) (o1 o2 o3 a1 a2 a3 : Int) : flt n o1 o2 o3 a1 a2 a3 = if wEr o1 o2 o3 a1 a2 a3 ≠ 0 then wEr o1 o2 o3 a1 a2 a3 else if fitB n o1 o2 = true ∧ fitB n a1 a2 = true then 0 else 3 := by
  unfold flt wEr flw
  by_cases h1 : isRoot o1 o2 o3
  · have e1 : (¬ isRoot o1 o2 o3) = False := eq_false (not_not_intro h1)
    by_cases h2 : isRoot a1 a2 a3
    · have e2 : (¬ isRoot a1 a2 a3) = False := eq_false (not_not_intro h2)
      by_cases h3 : a1 = 0 ∧ a2 = 0 ∧ a3 = 0
      · have e3 := eq_true h3
        simp only [e1, e2, e3, if_true, if_false]
        rfl
      · have e3 := eq_false h3
        by_cases h4 : wt a1 a2 a3 < 0 ∨ wt o1 o2 o3 < 0 ∨ wt a1 a2 a3 < wt o1 o2 o3
        · have e4 := eq_true h4
          simp only [e1, e2, e3, e4, if_true, if_false]
          rfl
        · have e4 := eq_false h4
          simp only [e1, e2, e3, e4, if_false]
          rfl
    · have e2 : (¬ isRoot a1 a2 a3) = True := eq_true h2
      simp only [e1, e2, if_true, if_false]
      rfl
  · have e1 : (¬ isRoot o1 o2 o3) = True := eq_true h1
    simp only [e1, if_true]
    rfl
theorem wEr_ok {o1 o2 o3 a1 a2 a3 : Int} (h : wEr o1 o2 o3 a1 a2 a3 = 0) : isRoot o1 o2 o3 ∧ isRoot a1 a2 a3 := by
  unfold wEr at h
  split at h
  · cases h
  · rename_i h1
    split at h
    · cases h
    · rename_i h2
      exact ⟨Classical.byContradiction h1, Classical.byContradiction h2⟩
set_option maxHeartbeats 1000000 in
theorem scaled_bad (n : Nat) (o1 o2 o3 a1 a2 a3 : Int) (w : World) (hn : n ≤ 16) (h : flt n o1 o2 o3 a1 a2 a3 ≠ 0) :
    Calls Tryd.prog 21 #[.int .i64 (n : Nat), rv o1 o2 o3, rv a1 a2 a3] w fun x w' => x = .returned (.tuple #[rv 0 0 0, .int .i64 (flt n o1 o2 o3 a1 a2 a3 : Nat)]) ∧ Below w.heap.size w w' := by
  have W36 := fun w => weights_all o1 o2 o3 a1 a2 a3 w
  rw [flt_eq] at *
  by_cases he : wEr o1 o2 o3 a1 a2 a3 = 0
  · rw [if_neg (fun h => h he)] at *
    obtain ⟨r1, r2⟩ := wEr_ok he
    have P1 := fun w => parts_any n o1 o2 o3 w hn r1
    have P2 := fun w => parts_any n a1 a2 a3 w hn r2
    rw [he] at W36
    have hf : ¬ (fitB n o1 o2 = true ∧ fitB n a1 a2 = true) := fun h' => h (by rw [if_pos h'])
    rw [if_neg hf]
    generalize fitB n o1 o2 = z1 at *
    generalize fitB n a1 a2 = z2 at *
    have hz : z1 = false ∨ (z1 = true ∧ z2 = false) := by cases z1 <;> cases z2 <;> simp_all
    clear hf h he r1 r2
    rcases hz with rfl | ⟨rfl, rfl⟩
    all_goals
      go_enter Tryd.func21, Tryd.ntmps21
      go_wp2_with (first
        | (go_at_call 36; (with_reducible refine (W36 _).mono ?_); rintro e w1 ⟨rfl, hB⟩; obtain ⟨B1, B2, B3⟩ := three_box hB; have c0 : ∀ j, w1.cell? ⟨w.heap.size, j, none⟩ = _ := B1.cell; have c1 : ∀ j, w1.cell? ⟨w.heap.size + 1, j, none⟩ = _ := B2.cell; have c2 : ∀ j, w1.cell? ⟨w.heap.size + 1 + 1, j, none⟩ = _ := B3.cell; have f2 : ∀ j, w1.frozen? ⟨w.heap.size + 1 + 1, j, none⟩ = _ := B3.free; have l2 := B3.lt; clear W36)
        | (go_at_call 37; (with_reducible refine (P1 _).mono ?_); rintro e w2 ⟨rfl, hB2⟩; have D2 := B2.on hB2; have D3 := B3.on hB2; have d1 : ∀ j, w2.cell? ⟨w.heap.size + 1, j, none⟩ = _ := D2.cell; have d2 : ∀ j, w2.cell? ⟨w.heap.size + 1 + 1, j, none⟩ = _ := D3.cell; have g2 : ∀ j, w2.frozen? ⟨w.heap.size + 1 + 1, j, none⟩ = _ := D3.free; have m2 := D3.lt; clear P1)
        | (go_at_call 37; (with_reducible refine (P2 _).mono ?_); rintro e w3 ⟨rfl, hB3⟩; have E3 := D3.on hB3; have e2 : ∀ j, w3.cell? ⟨w.heap.size + 1 + 1, j, none⟩ = _ := E3.cell; have k2 : ∀ j, w3.frozen? ⟨w.heap.size + 1 + 1, j, none⟩ = _ := E3.free; have n2 := E3.lt))
      first
        | exact bodyPost_ret (v := .tuple #[rv 0 0 0, .int .i64 3]) (by simp [*, results, Tryd.results21, go_sem]) rfl ⟨rfl, bset (bset (bset (btr (btr (btr (bal (bal (bal (Below.refl w.heap.size w) _) _) _) hB) hB2) hB3) _ _ _ (by omega)) _ _ _ (by omega)) _ _ _ (by omega)⟩
        | exact bodyPost_ret (v := .tuple #[rv 0 0 0, .int .i64 3]) (by simp [*, results, Tryd.results21, go_sem]) rfl ⟨rfl, bset (bset (bset (btr (btr (bal (bal (bal (Below.refl w.heap.size w) _) _) _) hB) hB2) _ _ _ (by omega)) _ _ _ (by omega)) _ _ _ (by omega)⟩
  · rw [if_pos he]
    generalize wEr o1 o2 o3 a1 a2 a3 = er at *
    have he' : ¬ ((er : Nat) : Int) = 0 := by omega
    clear h
    go_enter Tryd.func21, Tryd.ntmps21
    go_wp2_with (go_at_call 36; (with_reducible refine (W36 _).mono ?_); rintro e w1 ⟨rfl, hB⟩; obtain ⟨B1, B2, B3⟩ := three_box hB; have c2 : ∀ j, w1.cell? ⟨w.heap.size + 1 + 1, j, none⟩ = _ := B3.cell; have f2 : ∀ j, w1.frozen? ⟨w.heap.size + 1 + 1, j, none⟩ = _ := B3.free; have l2 := B3.lt; clear W36)
    exact bodyPost_ret (v := .tuple #[rv 0 0 0, .int .i64 (er : Nat)]) (by simp [*, results, Tryd.results21, go_sem]) rfl ⟨rfl, bset (bset (bset (btr (bal (bal (bal (Below.refl w.heap.size w) _) _) _) hB) _ _ _ (by omega)) _ _ _ (by omega)) _ _ _ (by omega)⟩
theorem pow_m {n : Nat} (hn : n ≤ 16) : (0 : Int) ≤ 2 ^ n ∧ (2 : Int) ^ n ≤ 65536 := by have := pow_cases n hn; omega
set_option maxHeartbeats 1000000 in
theorem scaled_ok (n : Nat) (o1 o2 o3 a1 a2 a3 : Int) (w : World) (hT : Tab w) (hn : n ≤ 16) (h : flt n o1 o2 o3 a1 a2 a3 = 0) :
    Calls Tryd.prog 21 #[.int .i64 (n : Nat), rv o1 o2 o3, rv a1 a2 a3] w fun x w' => x = .returned (.tuple #[rvR (scR (2 ^ n) o1 o2 o3), .int .i64 0]) ∧ Below w.heap.size w w' := by
  have hk := flt_ok h
  have W36 := fun w => weights_all o1 o2 o3 a1 a2 a3 w
  have hw : wEr o1 o2 o3 a1 a2 a3 = 0 := by
    rw [flt_eq] at h
    by_cases he : wEr o1 o2 o3 a1 a2 a3 = 0
    · exact he
    · rw [if_pos he] at h; exact h
  rw [hw] at W36
  have P1 := fun w => parts_any n o1 o2 o3 w hn hk.ro
  have P2 := fun w => parts_any n a1 a2 a3 w hn hk.ra
  rw [show fitB n o1 o2 = true from decide_eq_true hk.fo] at P1
  rw [show fitB n a1 a2 = true from decide_eq_true hk.fa] at P2
  have C := fun w => coins_any n w hn
  have T := fun w h => sctimes_any (2 ^ n) o1 o2 o3 w h (pow_m hn) hk.ro (fit_mul hk.fo.1 ⟨(pow_m hn).1, Int.le_refl _⟩) (fit_mul hk.fo.2 ⟨(pow_m hn).1, Int.le_refl _⟩)
  have HT : Hid (∀ w', Below w.heap.size w w' → Tab w') := fun w' h => hT.below h
  clear hw h hT hk
  generalize scR (2 ^ n) o1 o2 o3 = r at *
  generalize (2 : Int) ^ n = t at *
  go_enter Tryd.func21, Tryd.ntmps21
  go_wp2_with (first
    | (go_at_call 36; (with_reducible refine (W36 _).mono ?_); rintro e w1 ⟨rfl, hB⟩; obtain ⟨B1, B2, B3⟩ := three_box hB; have c0 : ∀ j, w1.cell? ⟨w.heap.size, j, none⟩ = _ := B1.cell; have c1 : ∀ j, w1.cell? ⟨w.heap.size + 1, j, none⟩ = _ := B2.cell; have l2 := B3.lt; clear W36)
    | (go_at_call 37; (with_reducible refine (P1 _).mono ?_); rintro e w2 ⟨rfl, hB2⟩; have D1 := B1.on hB2; have D2 := B2.on hB2; have D3 := B3.on hB2; have d1 : ∀ j, w2.cell? ⟨w.heap.size + 1, j, none⟩ = _ := D2.cell; have m2 := D3.lt; clear P1)
    | (go_at_call 37; (with_reducible refine (P2 _).mono ?_); rintro e w3 ⟨rfl, hB3⟩; have E1 := D1.on hB3; have E3 := D3.on hB3; have e0 : ∀ j, w3.cell? ⟨w.heap.size, j, none⟩ = _ := E1.cell; have e2 : ∀ j, w3.cell? ⟨w.heap.size + 1 + 1, j, none⟩ = _ := E3.cell; have k2 : ∀ j, w3.frozen? ⟨w.heap.size + 1 + 1, j, none⟩ = _ := E3.free; have n2 := E3.lt; have BW := btr (btr (btr (bal (bal (bal (Below.refl w.heap.size w) _) _) _) hB) hB2) hB3))
  clear hB hB2 hB3 B1 B2 B3 D1 D2 D3 c0 c1 d1 l2 m2 P2
  go_region_with (first
    | (go_at_call 24; (with_reducible refine (C _).mono ?_); rintro e w4 ⟨rfl, rfl⟩)
    | (go_at_call 38; (with_reducible refine (T _ (HT.out _ (by first | exact BW | exact below_drew BW))).mono ?_); rintro e w5 ⟨rfl, hB5⟩; have G3 := E3.drew.on hB5; have g2 : ∀ j, w5.cell? ⟨w.heap.size + 1 + 1, j, none⟩ = _ := G3.cell; have h2 : ∀ j, w5.frozen? ⟨w.heap.size + 1 + 1, j, none⟩ = _ := G3.free; have q2 := G3.lt))
  all_goals
    go_wp2
    exact bodyPost_ret (v := .tuple #[rvR r, .int .i64 0]) (by simp [*, results, Tryd.results21, go_sem]) rfl ⟨rfl, bset (bset (bset (btr (below_drew BW) hB5) _ _ _ (by omega)) _ _ _ (by omega)) _ _ _ (by omega)⟩
/-- Certain, whatever the coin. -/
def crt (o1 o2 o3 a1 a2 a3 : Int) : Bool := decide (o1 = 0 ∧ o2 = 0 ∧ o3 = 0) || decide (o1 = a1 ∧ o2 = a2 ∧ o3 = a3)
theorem run_req (a b c d e f : Int) (w : World) : (binOp .eql 24 (rv a b c) (rv d e f)).run Tryd.prog w = .ok (.bool (decide (a = d ∧ b = e ∧ c = f))) w := by
  simp [go_sem]
  by_cases h1 : a = d <;> by_cases h2 : b = e <;> by_cases h3 : c = f <;> simp [h1, h2, h3]
set_option maxHeartbeats 1000000 in
theorem toss_ok (m : Int) (n : Nat) (o1 o2 o3 a1 a2 a3 : Int) (w : World) (hT : Tab w) (hm : 0 ≤ m ∧ m < 2 ^ n) (hn : n ≤ 16) (h : flt n o1 o2 o3 a1 a2 a3 = 0) :
    Calls Tryd.prog 9 #[cv m (n : Nat), rv o1 o2 o3, rv a1 a2 a3] w fun x w' => x = .returned (.tuple #[.int .i64 (if tells m n o1 o2 o3 a1 a2 a3 = true then 1 else 0), .bool (crt o1 o2 o3 a1 a2 a3), .int .i64 0]) ∧ Below w.heap.size w w' := by
  have hk := flt_ok h
  have C := fun w => coin_yes m n w hn hm.2
  have S := fun w h' => scaled_ok n o1 o2 o3 a1 a2 a3 w h' hn h
  have hmm : m ≤ 2 ^ n := by omega
  have hm6 := pow_m hn
  obtain ⟨_, h3, h4⟩ := scR_ok (n := 2 ^ n) hk.ro (fit_mul hk.fo.1 ⟨(pow_m hn).1, Int.le_refl _⟩) (fit_mul hk.fo.2 ⟨(pow_m hn).1, Int.le_refl _⟩)
  have L := fun w h' => below_any m a1 a2 a3 (scR (2 ^ n) o1 o2 o3).p (scR (2 ^ n) o1 o2 o3).q (scR (2 ^ n) o1 o2 o3).k w h' (by omega) hk.ra (fit_mul hk.fa.1 ⟨hm.1, hmm⟩) (fit_mul hk.fa.2 ⟨hm.1, hmm⟩) h3
  rw [h4] at L
  have hte : decide (m * wt a1 a2 a3 < 2 ^ n * wt o1 o2 o3) = tells m n o1 o2 o3 a1 a2 a3 := rfl
  rw [hte] at L
  have HT : Hid (∀ w', Below w.heap.size w w' → Tab w') := fun w' h => hT.below h
  have Q1 := fun w => run_req o1 o2 o3 0 0 0 w
  have Q2 := fun w => run_req o1 o2 o3 a1 a2 a3 w
  clear h h3 h4 hk hte hT hmm hm6
  unfold crt
  generalize scR (2 ^ n) o1 o2 o3 = r at *
  generalize tells m n o1 o2 o3 a1 a2 a3 = z at *
  generalize decide (o1 = 0 ∧ o2 = 0 ∧ o3 = 0) = y1 at *
  generalize decide (o1 = a1 ∧ o2 = a2 ∧ o3 = a3) = y2 at *
  cases z <;> cases y1
  all_goals
    go_enter Tryd.func9, Tryd.ntmps9
    go_wp2_with (first
      | (go_at_call 10; (with_reducible refine (C _).mono ?_); rintro e w1 ⟨rfl, hB⟩; obtain ⟨B1, B2, B3⟩ := three_box hB; have c0 : ∀ j, w1.cell? ⟨w.heap.size, j, none⟩ = _ := B1.cell; have c1 : ∀ j, w1.cell? ⟨w.heap.size + 1, j, none⟩ = _ := B2.cell; have c2 : ∀ j, w1.cell? ⟨w.heap.size + 1 + 1, j, none⟩ = _ := B3.cell; have l0 := B1.lt; have l1 := B2.lt; have l2 := B3.lt; clear C)
      | (go_at_call 21; (with_reducible refine (S _ (HT.out _ (btr (bal (bal (bal (Below.refl w.heap.size w) _) _) _) hB))).mono ?_); rintro e w2 ⟨rfl, hB2⟩; have D1 := B1.on hB2; have D2 := B2.on hB2; have D3 := B3.on hB2; have d0 : ∀ j, w2.cell? ⟨w.heap.size, j, none⟩ = _ := D1.cell; have d1 : ∀ j, w2.cell? ⟨w.heap.size + 1, j, none⟩ = _ := D2.cell; have d2 : ∀ j, w2.cell? ⟨w.heap.size + 1 + 1, j, none⟩ = _ := D3.cell; have m0 := D1.lt; have m1 := D2.lt; have m2 := D3.lt; clear S)
      | (go_at_call 22; (with_reducible refine (L _ (HT.out _ (bal (btr (btr (bal (bal (bal (Below.refl w.heap.size w) _) _) _) hB) hB2) _))).mono ?_); rintro e w3 ⟨rfl, hB3⟩; have E1 := (D1.alloc _).on hB3; have E2 := (D2.alloc _).on hB3; have E3 := (D3.alloc _).on hB3; have e0 : ∀ j, w3.cell? ⟨w.heap.size, j, none⟩ = _ := E1.cell; have e1 : ∀ j, w3.cell? ⟨w.heap.size + 1, j, none⟩ = _ := E2.cell; have e2 : ∀ j, w3.cell? ⟨w.heap.size + 1 + 1, j, none⟩ = _ := E3.cell; have n0 := E1.lt; have n1 := E2.lt; have n2 := E3.lt; have BW := btr (bal (btr (btr (bal (bal (bal (Below.refl w.heap.size w) _) _) _) hB) hB2) _) hB3))
    clear hB hB2 hB3 B1 B2 B3 D1 D2 D3 c0 c1 c2 d0 d1 d2 l0 l1 l2 m0 m1 m2 L
    go_quiet (fail)
    go_wp2
    refine bodyPost_ret ?_ rfl ⟨rfl, below_drewN BW _⟩
    simp [results, Tryd.results9, go_sem]
theorem toss_bad (m : Int) (n : Nat) (o1 o2 o3 a1 a2 a3 : Int) (w : World) (hm : 0 ≤ m ∧ m < 2 ^ n) (hn : n ≤ 16) (h : flt n o1 o2 o3 a1 a2 a3 ≠ 0) :
    Calls Tryd.prog 9 #[cv m (n : Nat), rv o1 o2 o3, rv a1 a2 a3] w fun x w' => x = .returned (.tuple #[.int .i64 0, .bool false, .int .i64 (flt n o1 o2 o3 a1 a2 a3 : Nat)]) ∧ Below w.heap.size w w' := by
  have C := fun w => coin_yes m n w hn hm.2
  have S := fun w => scaled_bad n o1 o2 o3 a1 a2 a3 w hn h
  have hf : ¬ ((flt n o1 o2 o3 a1 a2 a3 : Nat) : Int) = 0 := by omega
  generalize flt n o1 o2 o3 a1 a2 a3 = er at *
  clear h
  go_enter Tryd.func9, Tryd.ntmps9
  go_wp2_with (first
    | (go_at_call 10; (with_reducible refine (C _).mono ?_); rintro e w1 ⟨rfl, hB⟩; obtain ⟨B1, B2, B3⟩ := three_box hB; have c0 : ∀ j, w1.cell? ⟨w.heap.size, j, none⟩ = _ := B1.cell; have c1 : ∀ j, w1.cell? ⟨w.heap.size + 1, j, none⟩ = _ := B2.cell; have c2 : ∀ j, w1.cell? ⟨w.heap.size + 1 + 1, j, none⟩ = _ := B3.cell; have l0 := B1.lt; have l1 := B2.lt; have l2 := B3.lt; clear C)
    | (go_at_call 21; (with_reducible refine (S _).mono ?_); rintro e w2 ⟨rfl, hB2⟩))
  refine bodyPost_ret ?_ rfl ⟨rfl, bal (btr (btr (bal (bal (bal (Below.refl w.heap.size w) _) _) _) hB) hB2) _⟩
  simp [results, Tryd.results9, go_sem]
theorem toss_no (m l o1 o2 o3 a1 a2 a3 : Int) (w : World) (hl : -9223372036854775808 ≤ l ∧ l ≤ 9223372036854775807) (h : ¬ isCoin m l) :
    Calls Tryd.prog 9 #[cv m l, rv o1 o2 o3, rv a1 a2 a3] w fun x w' => x = .returned (.tuple #[.int .i64 0, .bool false, .int .i64 2]) ∧ Below w.heap.size w w' := by
  have C := fun w => coin_no m l w hl h
  clear h
  go_enter Tryd.func9, Tryd.ntmps9
  go_wp2_with (go_at_call 10; (with_reducible refine (C _).mono ?_); rintro e w1 ⟨rfl, hB⟩)
  refine bodyPost_ret ?_ rfl ⟨rfl, btr (bal (bal (bal (Below.refl w.heap.size w) _) _) _) hB⟩
  simp [results, Tryd.results9, go_sem]
end Go.Proofs.YtcfmhkhfmcmkbaaDoor
namespace Go.Proofs.YtcfmhkhfmcmkbaaDoor
open Go.RowKit

theorem hid {p : Prop} (h : p) : Hid p := h
/-- How many below n. -/
def cntB (f : Nat → Bool) : Nat → Nat
  | 0 => 0
  | n + 1 => cntB f n + (if f n = true then 1 else 0)
theorem cnt_all {f : Nat → Bool} : ∀ (k : Nat), (∀ i, i < k → f i = true) → cntB f k = k
  | 0, _ => rfl
  | k + 1, h => by
    unfold cntB
    rw [cnt_all k (fun i hi => h i (by omega)), if_pos (h k (by omega))]
theorem cnt_split {f : Nat → Bool} {k : Nat} (h1 : ∀ i, i < k → f i = true) : ∀ (N : Nat), k ≤ N → (∀ i, k ≤ i → i < N → f i = false) → cntB f N = k
  | 0, hk, _ => by
    obtain rfl : k = 0 := by omega
    rfl
  | N + 1, hk, h2 => by
    by_cases e : k = N + 1
    · subst e
      exact cnt_all _ h1
    · unfold cntB
      rw [cnt_split h1 N (by omega) (fun i hi hi' => h2 i hi (by omega)), if_neg (by rw [h2 N (by omega) (by omega)]; simp)]
      rfl
/-- How many coins tell 1. -/
def shn (n : Nat) (o1 o2 o3 a1 a2 a3 : Int) : Nat := cntB (fun i => tells (i : Nat) n o1 o2 o3 a1 a2 a3) (2 ^ n)
theorem tells_mono {n : Nat} {o1 o2 o3 a1 a2 a3 : Int} (ha : 0 ≤ wt a1 a2 a3) {i j : Nat} (hij : i ≤ j) (h : tells (j : Nat) n o1 o2 o3 a1 a2 a3 = true) : tells (i : Nat) n o1 o2 o3 a1 a2 a3 = true := by
  have h' := of_decide_eq_true h
  refine decide_eq_true (Int.lt_of_le_of_lt ?_ h')
  exact Int.mul_le_mul_of_nonneg_right (by omega) ha
set_option maxHeartbeats 400000 in
theorem shown_no (n : Int) (o1 o2 o3 a1 a2 a3 : Int) (w : World) (h : n < 0 ∨ 16 < n) :
    Calls Tryd.prog 13 #[.int .i64 n, rv o1 o2 o3, rv a1 a2 a3] w fun x w' => x = .returned (.tuple #[.int .u64 0, .int .i64 2]) ∧ Below w.heap.size w w' := by
  have F := fun w => fits_no n w h
  clear h
  go_enter Tryd.func13, Tryd.ntmps13
  go_wp2_with (go_at_call 23; (with_reducible refine (F _).mono ?_); rintro e w1 ⟨rfl, rfl⟩)
  refine bodyPost_ret ?_ rfl ⟨rfl, bal (bal (Below.refl w.heap.size w) _) _⟩
  simp [results, Tryd.results13, go_sem]
set_option maxHeartbeats 400000 in
theorem shown_bad (n : Nat) (o1 o2 o3 a1 a2 a3 : Int) (w : World) (hn : n ≤ 16) (h : flt n o1 o2 o3 a1 a2 a3 ≠ 0) :
    Calls Tryd.prog 13 #[.int .i64 (n : Nat), rv o1 o2 o3, rv a1 a2 a3] w fun x w' => x = .returned (.tuple #[.int .u64 0, .int .i64 (flt n o1 o2 o3 a1 a2 a3 : Nat)]) ∧ Below w.heap.size w w' := by
  have F := fun w => fits_yes n w hn
  have S := fun w => scaled_bad n o1 o2 o3 a1 a2 a3 w hn h
  have hf : ¬ ((flt n o1 o2 o3 a1 a2 a3 : Nat) : Int) = 0 := by omega
  generalize flt n o1 o2 o3 a1 a2 a3 = er at *
  clear h
  go_enter Tryd.func13, Tryd.ntmps13
  go_wp2_with (first
    | (go_at_call 23; (with_reducible refine (F _).mono ?_); rintro e w1 ⟨rfl, rfl⟩)
    | (go_at_call 21; (with_reducible refine (S _).mono ?_); rintro e w2 ⟨rfl, hB2⟩))
  refine bodyPost_ret ?_ rfl ⟨rfl, bal (btr (bal (bal (Below.refl w.heap.size w) _) _) hB2) _⟩
  simp [results, Tryd.results13, go_sem]
/-- Shown's own boxes. -/
structure SB (w wr : World) (B : Nat) (a b c d e f : Int) : Prop where
  below : Below w.heap.size w wr
  b2 : BK wr (w.heap.size + 1) (rc a b c) 24
  b3 : BK wr B (rc d e f) 24
set_option maxHeartbeats 1000000 in
theorem shown_ok (n : Nat) (o1 o2 o3 a1 a2 a3 : Int) (w : World) (hT : Tab w) (hn : n ≤ 16) (h : flt n o1 o2 o3 a1 a2 a3 = 0) :
    Calls Tryd.prog 13 #[.int .i64 (n : Nat), rv o1 o2 o3, rv a1 a2 a3] w fun x w' => x = .returned (.tuple #[.int .u64 (shn n o1 o2 o3 a1 a2 a3 : Nat), .int .i64 0]) ∧ Below w.heap.size w w' := by
  have hk := flt_ok h
  have F := fun w => fits_yes n w hn
  have C := fun w => coins_any n w hn
  have S := fun w h' => scaled_ok n o1 o2 o3 a1 a2 a3 w h' hn h
  have hm6 := pow_m hn
  obtain ⟨_, h3, h4⟩ := scR_ok (n := 2 ^ n) hk.ro (fit_mul hk.fo.1 ⟨(pow_m hn).1, Int.le_refl _⟩) (fit_mul hk.fo.2 ⟨(pow_m hn).1, Int.le_refl _⟩)
  have eN : (2 : Int) ^ n = ((2 ^ n : Nat) : Int) := by simp
  have L : ∀ m : Nat, m ≤ 2 ^ n → ∀ w, Tab w → Calls Tryd.prog 22 #[.int .u64 (m : Nat), rv a1 a2 a3, rv (scR (2 ^ n) o1 o2 o3).p (scR (2 ^ n) o1 o2 o3).q (scR (2 ^ n) o1 o2 o3).k] w fun x w' => x = .returned (.bool (tells (m : Nat) n o1 o2 o3 a1 a2 a3)) ∧ Below w.heap.size w w' := fun m hm w h' => by
    have hmm : ((m : Nat) : Int) ≤ 2 ^ n := by rw [eN]; omega
    have := below_any (m : Nat) a1 a2 a3 (scR (2 ^ n) o1 o2 o3).p (scR (2 ^ n) o1 o2 o3).q (scR (2 ^ n) o1 o2 o3).k w h' (by omega) hk.ra (fit_mul hk.fa.1 ⟨by omega, hmm⟩) (fit_mul hk.fa.2 ⟨by omega, hmm⟩) h3
    rw [h4] at this
    exact this
  have MO : ∀ i j : Nat, i ≤ j → tells (j : Nat) n o1 o2 o3 a1 a2 a3 = true → tells (i : Nat) n o1 o2 o3 a1 a2 a3 = true := fun i j hij => tells_mono hk.pa hij
  have HT : Hid (∀ w', Below w.heap.size w w' → Tab w') := fun w' h => hT.below h
  clear h h3 h4 hk hT
  unfold shn
  rw [eN] at C hm6
  generalize scR (2 ^ n) o1 o2 o3 = r at *
  generalize hf : (fun i : Nat => tells (i : Nat) n o1 o2 o3 a1 a2 a3) = f
  replace L : ∀ m : Nat, m ≤ 2 ^ n → ∀ w, Tab w → Calls Tryd.prog 22 #[.int .u64 (m : Nat), rv a1 a2 a3, rv r.p r.q r.k] w fun x w' => x = .returned (.bool (f m)) ∧ Below w.heap.size w w' := by rw [← hf]; exact L
  replace MO : Hid (∀ i j : Nat, i ≤ j → f j = true → f i = true) := by rw [← hf]; exact MO
  clear eN hf
  generalize (2 : Nat) ^ n = N at *
  generalize hQ : (fun (x : Ending) (w' : World) => x = .returned (.tuple #[.int .u64 (cntB f N : Nat), .int .i64 0]) ∧ Below w.heap.size w w') = QQ
  have HQ := hid hQ
  clear hQ
  go_enter Tryd.func13, Tryd.ntmps13
  go_wp2_with (first
    | (go_at_call 23; (with_reducible refine (F _).mono ?_); rintro e w1 ⟨rfl, rfl⟩)
    | (go_at_call 21; (with_reducible refine (S _ (HT.out _ (bal (bal (Below.refl w.heap.size w) _) _))).mono ?_); rintro e w2 ⟨rfl, hB2⟩; have HS : Hid (SB w (w2.alloc (.cells (rc r.p r.q r.k) 24)) w2.heap.size a1 a2 a3 r.p r.q r.k) := ⟨bal (btr (bal (bal (Below.refl w.heap.size w) _) _) hB2) _, (two_box hB2).2.alloc _, bk_new _ _ _⟩)
    | (go_at_call 24; (with_reducible refine (C _).mono ?_); rintro e w3 ⟨rfl, rfl⟩))
  obtain ⟨W1, hW1⟩ : ∃ W1, W1 = w2.alloc (.cells (rc r.p r.q r.k) 24) := ⟨_, rfl⟩
  have hl2 : w.heap.size ≤ w2.heap.size := Nat.le_trans (Nat.le_succ _) (Nat.le_trans (by simp) hB2.size)
  have HL := hid L
  have HN : Hid (N ≤ 65536) := by show N ≤ 65536; omega
  rw [← hW1] at HS ⊢
  generalize w2.heap.size = B at *
  clear hW1 hB2 S C F L
  go_loopw [10, 11] (fun v10 v11 wr => ∃ lo hi : Nat, lo ≤ hi ∧ hi ≤ N ∧ v10 = .int .u64 (lo : Nat) ∧ v11 = .int .u64 (hi : Nat) ∧ Hid (SB w wr B a1 a2 a3 r.p r.q r.k) ∧ Hid ((∀ i, i < lo → f i = true) ∧ ∀ i, hi ≤ i → i < N → f i = false)) (fun v10 v11 _ => (intOf v11).toNat - (intOf v10).toNat)
  case atStart => exact ⟨0, N, Nat.zero_le _, Nat.le_refl _, rfl, rfl, HS, fun i hi => absurd hi (Nat.not_lt_zero _), fun i h1 h2 => by omega⟩
  case round =>
    obtain ⟨lo, hi, hlh, hhN, rfl, rfl, hS, hI⟩ := hrel
    clear HS
    by_cases hlt : lo < hi
    · have h1 : ((lo : Nat) : Int) < (hi : Nat) := by omega
      have hN6 : hi ≤ 65536 := Nat.le_trans hhN HN.out
      have c1 : ∀ j, wr.cell? ⟨w.heap.size + 1, j, none⟩ = _ := hS.out.b2.cell
      have c2 : ∀ j, wr.cell? ⟨B, j, none⟩ = _ := hS.out.b3.cell
      have l1 := hS.out.b2.lt
      have l2 := hS.out.b3.lt
      have LL := HL.out (lo + (hi - lo) / 2) (by omega)
      generalize hmid : lo + (hi - lo) / 2 = mid at LL
      have hm1 : ((lo : Nat) : Int) + ((hi : Nat) - (lo : Nat)) / 2 = (mid : Nat) := by omega
      have hm2 : mid < hi := by omega
      have hm3 : lo ≤ mid := by omega
      have HM := hid hmid
      clear hmid
      cases hfm : f mid
      · rw [hfm] at LL
        go_wp2_with (go_at_call 22; (with_reducible refine (LL _ (HT.out _ hS.out.below)).mono ?_); rintro e w4 ⟨rfl, hB4⟩)
        refine ⟨⟨lo, mid, hm3, by omega, rfl, rfl, ⟨btr hS.out.below hB4, hS.out.b2.on hB4, hS.out.b3.on hB4⟩, hI.out.1, fun i h2 h3 => ?_⟩, by simp [intOf]; omega⟩
        cases hfi : f i
        · rfl
        · rw [MO.out mid i h2 hfi] at hfm; cases hfm
      · rw [hfm] at LL
        go_wp2_with (go_at_call 22; (with_reducible refine (LL _ (HT.out _ hS.out.below)).mono ?_); rintro e w4 ⟨rfl, hB4⟩)
        exact ⟨⟨mid + 1, hi, by omega, hhN, by simp, rfl, ⟨btr hS.out.below hB4, hS.out.b2.on hB4, hS.out.b3.on hB4⟩, fun i h2 => MO.out i mid (by omega) hfm, hI.out.2⟩, by simp [intOf]; omega⟩
    · obtain rfl : lo = hi := by omega
      have hsh := cnt_split hI.out.1 N hhN hI.out.2
      go_wp2
      rw [← HQ.out]
      exact ⟨by rw [hsh]; rfl, hS.out.below⟩
end Go.Proofs.YtcfmhkhfmcmkbaaDoor
