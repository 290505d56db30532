/-
  Put together of: R7 C6 C7 C8 C9.
-/
import Derived.Test.YtcfmhkhfmcmkbaaDoorXK
import Derived.Test.YtcfmhkhfmcmkbaaDoorXG
import Derived.Test.YtcfmhkhfmcmkbaaDoorXH
import Derived.Test.YtcfmhkhfmcmkbaaDoorXM
namespace Go.Proofs.YtcfmhkhfmcmkbaaDoor
open Go.RowKit Go.Sort

theorem hv_small (k : Nat) {p q : Int} (h : ¬ (p = 0 ∧ q = 0)) (hp : -9223372036854775808 ≤ p ∧ p ≤ 9223372036854775807) (hq : -9223372036854775808 ≤ q ∧ q ≤ 9223372036854775807) : hv k p q ≤ 63 := by
  have key : ∀ x : Int, x ≠ 0 → -9223372036854775808 ≤ x ∧ x ≤ 9223372036854775807 → (2 : Int) ^ hv k p q ∣ x → hv k p q ≤ 63 := fun x h0 hx hd => by
    have h1 : (2 : Int) ^ hv k p q ≤ x.natAbs := Int.le_of_dvd (by omega) (Int.dvd_natAbs.2 hd)
    have h2 : (2 : Int) ^ hv k p q ≤ 2 ^ 63 := by
      have : (x.natAbs : Int) ≤ 2 ^ 63 := by omega
      omega
    have h3 : (2 : Nat) ^ hv k p q ≤ 2 ^ 63 := by
      have e : ((2 ^ hv k p q : Nat) : Int) = (2 : Int) ^ hv k p q := by simp
      omega
    exact (Nat.pow_le_pow_iff_right (by decide)).1 h3
  have hd := hv_dvd k p q
  by_cases h0 : p = 0
  · exact key q (fun e => h ⟨h0, e⟩) hq hd.2
  · exact key p h0 hp hd.1
theorem one_far {k : Nat} {p q : Int} (h : ¬ (p = 0 ∧ q = 0)) (hp : -9223372036854775808 ≤ p ∧ p ≤ 9223372036854775807) (hq : -9223372036854775808 ≤ q ∧ q ≤ 9223372036854775807) (hk : 1000 < k) : one p q k = ⟨0, 0, 0, 3⟩ := by
  have := hv_small k h hp hq
  unfold one
  rw [if_neg h, if_neg (by omega)]
set_option maxHeartbeats 1000000 in
theorem rmake_any (p q k : Int) (w : World) (hp : -9223372036854775808 ≤ p ∧ p ≤ 9223372036854775807) (hq : -9223372036854775808 ≤ q ∧ q ≤ 9223372036854775807) :
    Calls Tryd.prog 35 #[.int .i64 p, .int .i64 q, .int .i64 k] w fun e w' => e = .returned (rtV (makeR p q k)) ∧ Below w.heap.size w w' := by
  unfold makeR
  by_cases h0 : k < 0
  · rw [if_pos h0]
    go_enter Tryd.func35, Tryd.ntmps35
    go_wp2
    exact bodyPost_ret (v := rtV ⟨0, 0, 0, 2⟩) (by simp [results, Tryd.results35, go_sem]) rfl ⟨rfl, bal (Below.refl _ _) _⟩
  · rw [if_neg h0]
    obtain ⟨j, rfl⟩ := Int.eq_ofNat_of_zero_le (show 0 ≤ k by omega)
    rw [Int.toNat_natCast]
    by_cases h1 : 1000 < j
    · by_cases hz : p = 0 ∧ q = 0
      · obtain ⟨rfl, rfl⟩ := hz
        rw [show one 0 0 j = ⟨0, 0, 0, 0⟩ by unfold one; simp]
        go_enter Tryd.func35, Tryd.ntmps35
        go_wp2
        exact bodyPost_ret (v := rtV ⟨0, 0, 0, 0⟩) (by simp [results, Tryd.results35, go_sem]) rfl ⟨rfl, bal (Below.refl _ _) _⟩
      · rw [one_far hz hp hq h1]
        have key : (p == 0) = false ∨ ((p == 0) = true ∧ (q == 0) = false) := by simp; omega
        clear hz
        rcases key with k1 | ⟨k1, k2⟩
        all_goals
          go_enter Tryd.func35, Tryd.ntmps35
          go_wp2
          exact bodyPost_ret (v := rtV ⟨0, 0, 0, 3⟩) (by simp [results, Tryd.results35, go_sem]) rfl ⟨rfl, bal (Below.refl _ _) _⟩
    · have OP := fun w => of_any p w hp.1 hp.2
      have OQ := fun w => of_any q w hq.1 hq.2
      have ON : ∀ (a : Option Addr) (n c : Nat) (a' : Option Addr) (n' c' : Nat) (w : World) (_ : II w a n c p) (_ : II w a' n' c' q), Calls Tryd.prog 60 #[.agg #[.int .i64 (sgn p), .slice a n c], .agg #[.int .i64 (sgn q), .slice a' n' c'], .int .i64 j] w fun e w' => e = .returned (rtV (one p q j)) ∧ Below w.heap.size w w' :=
        fun a n c a' n' c' w h1' h2' => rone_any p q j a n c a' n' c' w h1' h2' (by omega) (by omega) (by omega)
      by_cases hpq : p = q
      · subst hpq
        generalize one p p j = R at *
        go_enter Tryd.func35, Tryd.ntmps35
        go_wp2_with (first
          | (go_at_call 55; (with_reducible refine (OP _).mono ?_); rintro e w1 ⟨⟨a1, n1, c1, rfl, i1⟩, hN⟩; (first | (have i0 := i2.below hN; have b2 := btr b1 hN) | (have b1 := hN)); have i2 := i1)
          | (go_at_call 60; (refine (ON _ _ _ _ _ _ _ i0 i2).mono ?_); rintro e w3 ⟨rfl, hN⟩; have hB := btr b2 hN; obtain ⟨hc, hf⟩ := bcell hB))
        exact bodyPost_ret (v := rtV R) (by simp [results, Tryd.results35, go_sem, hc]) rfl ⟨rfl, (((btr (bal (Below.refl _ _) _) hB).setCell (by simp) _).setCell (by simp) _).setCell (by simp) _⟩
      · generalize one p q j = R at *
        go_enter Tryd.func35, Tryd.ntmps35
        go_wp2_with (first
          | (go_at_call 55; (with_reducible refine (OP _).mono ?_); rintro e w1 ⟨⟨a1, n1, c1, rfl, i1⟩, b1⟩)
          | (go_at_call 55; (with_reducible refine (OQ _).mono ?_); rintro e w2 ⟨⟨a2, n2, c2, rfl, i2⟩, hN⟩; have i0 := i1.below hN; have b2 := btr b1 hN)
          | (go_at_call 60; (refine (ON _ _ _ _ _ _ _ i0 i2).mono ?_); rintro e w3 ⟨rfl, hN⟩; have hB := btr b2 hN; obtain ⟨hc, hf⟩ := bcell hB))
        exact bodyPost_ret (v := rtV R) (by simp [results, Tryd.results35, go_sem, hc]) rfl ⟨rfl, (((btr (bal (Below.refl _ _) _) hB).setCell (by simp) _).setCell (by simp) _).setCell (by simp) _⟩
end Go.Proofs.YtcfmhkhfmcmkbaaDoor
namespace Go.Proofs.YtcfmhkhfmcmkbaaDoor
open Go.RowKit

set_option maxHeartbeats 400000 in
theorem rcoin_yes (m : Int) (n : Nat) (w : World) (h : n ≤ 16) (hm : m < 2 ^ n) : Calls Tryd.prog 11 #[cv m (n : Nat)] w fun e w' => e = .returned (.int .i64 0) ∧ Below w.heap.size w w' := by
  have h0 : ¬ ((n : Nat) : Int) < 0 := by omega
  have h1 : ¬ (16 : Int) < (n : Nat) := by omega
  have h2 : ¬ (2 : Int) ^ n ≤ m := by omega
  have e := (pow_cases n h).1
  go_enter Tryd.func11, Tryd.ntmps11
  go_wp2
  go_quiet (fail)
  go_wp2
  go_ret
  exact ⟨rfl, below_drewN (bal (Below.refl _ _) _) _⟩
set_option maxHeartbeats 400000 in
theorem rcoin_no (m l : Int) (w : World) (hl : -9223372036854775808 ≤ l ∧ l ≤ 9223372036854775807) (h : ¬ isCoin m l) : Calls Tryd.prog 11 #[cv m l] w fun e w' => e = .returned (.int .i64 2) ∧ Below w.heap.size w w' := by
  by_cases h1 : l < 0
  · clear h
    go_enter Tryd.func11, Tryd.ntmps11
    go_wp2
    go_quiet (fail)
    go_wp2
    go_ret
    exact ⟨rfl, below_drewN (bal (Below.refl _ _) _) _⟩
  by_cases h2 : 16 < l
  · clear h
    go_enter Tryd.func11, Tryd.ntmps11
    go_wp2
    go_quiet (fail)
    go_wp2
    go_ret
    exact ⟨rfl, below_drewN (bal (Below.refl _ _) _) _⟩
  obtain ⟨n, rfl⟩ := Int.eq_ofNat_of_zero_le (by omega : 0 ≤ l)
  have h3 : (2 : Int) ^ n ≤ m := by
    unfold isCoin at h
    rw [Int.toNat_natCast] at h
    omega
  have e := (pow_cases n (by omega)).1
  clear h
  go_enter Tryd.func11, Tryd.ntmps11
  go_wp2
  go_quiet (fail)
  go_wp2
  go_ret
  exact ⟨rfl, below_drewN (bal (Below.refl _ _) _) _⟩
/-- A root's cells, since V. -/
abbrev OC1 (V W : World) (b : Nat) (a1 a2 a3 : Int) : Prop := Below V.heap.size V W ∧ W.cell? ⟨b, 0, none⟩ = some (.int .i64 a1) ∧ W.cell? ⟨b, 1, none⟩ = some (.int .i64 a2) ∧ W.cell? ⟨b, 2, none⟩ = some (.int .i64 a3)
theorem oc_keep {V W : World} {b : Nat} {a1 a2 a3 : Int} (h : BK V b (rc a1 a2 a3) 24) (g : Below V.heap.size V W) : OC1 V W b a1 a2 a3 := ⟨g, (h.on g).cell 0, (h.on g).cell 1, (h.on g).cell 2⟩
set_option maxHeartbeats 2000000 in
theorem outcome_any (m : Int) (n : Nat) (o1 o2 o3 a1 a2 a3 : Int) (w : World) (hm : 0 ≤ m ∧ m ≤ 2 ^ n) (hn : n ≤ 16) (hk : FltOk n o1 o2 o3 a1 a2 a3) :
    Calls Tryd.prog 20 #[.int .i64 m, .int .i64 (n : Nat), rv o1 o2 o3, rv a1 a2 a3] w fun x w' => x = .returned (.int .i64 (if tells m n o1 o2 o3 a1 a2 a3 = true then 1 else 0)) ∧ Below w.heap.size w w' := by
  have hp := pow_m hn
  have fa1 := fit_mul hk.fa.1 hm
  have fa2 := fit_mul hk.fa.2 hm
  have fo1 := fit_mul hk.fo.1 ⟨(pow_m hn).1, Int.le_refl _⟩
  have fo2 := fit_mul hk.fo.2 ⟨(pow_m hn).1, Int.le_refl _⟩
  obtain ⟨_, r1, t1⟩ := scR_ok hk.ra fa1 fa2
  obtain ⟨_, r2, t2⟩ := scR_ok (n := 2 ^ n) hk.ro fo1 fo2
  have X : ∀ w, Calls Tryd.prog 35 #[.int .i64 (a1 * m), .int .i64 (a2 * m), .int .i64 a3] w fun e w' => e = .returned (rtV (scR m a1 a2 a3)) ∧ Below w.heap.size w w' := fun w => by
    unfold scR
    rw [Int.mul_comm a1, Int.mul_comm a2]
    exact rmake_any _ _ _ w (by omega) (by omega)
  have Y : ∀ w, Calls Tryd.prog 35 #[.int .i64 (o1 * 2 ^ n), .int .i64 (o2 * 2 ^ n), .int .i64 o3] w fun e w' => e = .returned (rtV (scR (2 ^ n) o1 o2 o3)) ∧ Below w.heap.size w w' := fun w => by
    unfold scR
    rw [Int.mul_comm o1, Int.mul_comm o2]
    exact rmake_any _ _ _ w (by omega) (by omega)
  have Z := fun w => rcmp_yes _ _ _ _ _ _ w r1 r2
  have hz := less_iff r1 r2
  rw [t1, t2] at hz
  have hz' : tells m n o1 o2 o3 a1 a2 a3 = true ↔ m * wt a1 a2 a3 < 2 ^ n * wt o1 o2 o3 := decide_eq_true_iff
  rw [← hz'] at hz
  rw [Int.mul_comm m] at fa1 fa2
  rw [Int.mul_comm (2 ^ n)] at fo1 fo2
  have w1 : IntKind.i64.wrap (o1 * 2 ^ n) = o1 * 2 ^ n := by rw [IntKind.wrap_i64]; omega
  have w2 : IntKind.i64.wrap (o2 * 2 ^ n) = o2 * 2 ^ n := by rw [IntKind.wrap_i64]; omega
  rw [← w1, ← w2] at Y
  clear hz' t1 t2 r1 r2 hk w1 w2
  generalize cmpR (scR m a1 a2 a3).p (scR m a1 a2 a3).q (scR m a1 a2 a3).k (scR (2 ^ n) o1 o2 o3).p (scR (2 ^ n) o1 o2 o3).q (scR (2 ^ n) o1 o2 o3).k = z at *
  generalize scR m a1 a2 a3 = x at *
  generalize scR (2 ^ n) o1 o2 o3 = y at *
  generalize tells m n o1 o2 o3 a1 a2 a3 = tl at *
  have h0 : ¬ ((n : Nat) : Int) < 0 := by omega
  go_enter Tryd.func20, Tryd.ntmps20
  go_wp2_with (go_at_call 35; (with_reducible refine (X _).mono ?_); rintro e w1 ⟨rfl, hB⟩; obtain ⟨B1, B2⟩ := two_box hB; have c1 : ∀ j, w1.cell? ⟨w.heap.size, j, none⟩ = _ := B1.cell; have l1 := B1.lt; clear X)
  have BW := btr (bal (bal (Below.refl w.heap.size w) _) _) hB
  have HX : BK (w1.alloc (.cells (rc x.p x.q x.k) 24)) w1.heap.size (rc x.p x.q x.k) 24 := bk_new _ _ _
  have HO := B1.alloc (.cells (rc x.p x.q x.k) 24)
  have BV := bal BW (.cells (rc x.p x.q x.k) 24)
  obtain ⟨V, hV⟩ : ∃ V, V = w1.alloc (.cells (rc x.p x.q x.k) 24) := ⟨_, rfl⟩
  rw [← hV] at HX HO BV ⊢
  generalize w1.heap.size = bx at *
  have RV := Below.refl V.heap.size V
  clear hV hB B1 B2 BW c1 l1
  go_cut [11, 12] from 29 to 42 (fun v11 v12 W => ∃ B : Nat, v11 = Value.pointer (some ⟨B, 0, none⟩) ∧ v12 = Value.int .i64 0 ∧ Below V.heap.size V W ∧ W.cell? ⟨B, 0, none⟩ = some (.int .i64 y.p) ∧ W.cell? ⟨B, 1, none⟩ = some (.int .i64 y.q) ∧ W.cell? ⟨B, 2, none⟩ = some (.int .i64 y.k))
  case first =>
    go_region_held3 (fun w' => OC1 V w' w.heap.size o1 o2 o3)
      ((refine oc_keep HO ?_; first | exact below_drew RV | exact btr (And.left (by assumption)) hN | exact bal (And.left (by assumption)) _ | exact bal hK _ | exact bset (bset (bset hK _ _ _ (Below.size (by assumption))) _ _ _ (Below.size (by assumption))) _ _ _ (Below.size (by assumption)) | exact bset (bset (bset hK _ _ _ (Nat.le_refl _)) _ _ _ (Nat.le_refl _)) _ _ _ (Nat.le_refl _)))
      (first | (go_at_call 35; (with_reducible refine (Y _).mono ?_); rintro e w2 ⟨rfl, hN⟩; have hK := btr (And.left (by assumption)) hN; obtain ⟨hc, hf⟩ := bcell hN))
    all_goals
      go_wp2
      go_meet
      case rel => exact ⟨_, rfl, rfl, And.left (by assumption), by simp [*, go_sem], by simp [*, go_sem], by simp [*, go_sem]⟩
  case rest =>
    obtain ⟨B, rfl, rfl, hB, p0, p1, p2⟩ := hcut
    have x0 : ∀ j, _ = _ := (HX.on hB).cell
    have x1 := (HX.on hB).lt
    clear Y
    cases tl
    · have hz2 : ¬ z < 0 := fun h => by have := hz.1 h; cases this
      go_wp2_with (go_at_call 34; (with_reducible refine (Z _).mono ?_); rintro e w3 ⟨rfl, hB3⟩)
      go_ret
      exact ⟨rfl, btr (btr BV hB) hB3⟩
    · have hz2 : z < 0 := hz.2 rfl
      go_wp2_with (go_at_call 34; (with_reducible refine (Z _).mono ?_); rintro e w3 ⟨rfl, hB3⟩)
      go_ret
      exact ⟨rfl, btr (btr BV hB) hB3⟩
end Go.Proofs.YtcfmhkhfmcmkbaaDoor
namespace Go.Proofs.YtcfmhkhfmcmkbaaDoor
open Go.RowKit

set_option maxHeartbeats 400000 in
theorem fault_no1 (n : Nat) (o1 o2 o3 a1 a2 a3 : Int) (w : World) (h : ¬ isRoot o1 o2 o3) :
    Calls Tryd.prog 19 #[.int .i64 (n : Nat), rv o1 o2 o3, rv a1 a2 a3] w fun x w' => x = .returned (.int .i64 2) ∧ Below w.heap.size w w' := by
  have C := fun w => rcheck_no o1 o2 o3 w h
  clear h
  go_enter Tryd.func19, Tryd.ntmps19
  go_wp2_with (go_at_call 32; (with_reducible refine (C _).mono ?_); rintro e w1 ⟨rfl, hB⟩)
  go_ret
  exact ⟨rfl, btr (bal (bal (Below.refl _ _) _) _) hB⟩
set_option maxHeartbeats 400000 in
theorem fault_no2 (n : Nat) (o1 o2 o3 a1 a2 a3 : Int) (w : World) (h1 : isRoot o1 o2 o3) (h : ¬ isRoot a1 a2 a3) :
    Calls Tryd.prog 19 #[.int .i64 (n : Nat), rv o1 o2 o3, rv a1 a2 a3] w fun x w' => x = .returned (.int .i64 2) ∧ Below w.heap.size w w' := by
  have C1 := fun w => rcheck_yes o1 o2 o3 w h1
  have C := fun w => rcheck_no a1 a2 a3 w h
  clear h1 h
  go_enter Tryd.func19, Tryd.ntmps19
  go_wp2_with (first
    | (go_at_call 32; (with_reducible refine (C1 _).mono ?_); rintro e w1 ⟨rfl, hB⟩; obtain ⟨_, B2⟩ := two_box hB; have c1 : ∀ j, w1.cell? ⟨w.heap.size + 1, j, none⟩ = _ := B2.cell; have l1 := B2.lt; clear C1)
    | (go_at_call 32; (with_reducible refine (C _).mono ?_); rintro e w2 ⟨rfl, hB2⟩))
  go_ret
  exact ⟨rfl, btr (btr (bal (bal (Below.refl _ _) _) _) hB) hB2⟩
set_option maxHeartbeats 1000000 in
theorem fault_null (n : Nat) (o1 o2 o3 : Int) (w : World) (h1 : isRoot o1 o2 o3) :
    Calls Tryd.prog 19 #[.int .i64 (n : Nat), rv o1 o2 o3, rv 0 0 0] w fun x w' => x = .returned (.int .i64 131) ∧ Below w.heap.size w w' := by
  have C1 := fun w => rcheck_yes o1 o2 o3 w h1
  have C := fun w => rcheck_yes 0 0 0 w root0
  clear h1
  go_enter Tryd.func19, Tryd.ntmps19
  go_wp2_with (first
    | (go_at_call 32; (with_reducible refine (C1 _).mono ?_); rintro e w1 ⟨rfl, hB⟩; obtain ⟨B1, B2⟩ := two_box hB; have c1 : ∀ j, w1.cell? ⟨w.heap.size + 1, j, none⟩ = _ := B2.cell; have l1 := B2.lt; clear C1)
    | (go_at_call 32; (with_reducible refine (C _).mono ?_); rintro e w2 ⟨rfl, hB2⟩; have D2 := B2.on hB2; have d1 : ∀ j, w2.cell? ⟨w.heap.size + 1, j, none⟩ = _ := D2.cell; have l2 := D2.lt; clear C))
  go_ret
  exact ⟨rfl, btr (btr (bal (bal (Below.refl _ _) _) _) hB) hB2⟩
set_option maxHeartbeats 4000000 in
theorem fault_bad (n : Nat) (o1 o2 o3 a1 a2 a3 : Int) (w : World) (h1 : isRoot o1 o2 o3) (h : isRoot a1 a2 a3) (hz : ¬ (a1 = 0 ∧ a2 = 0 ∧ a3 = 0)) (hb : wt a1 a2 a3 < 0 ∨ wt o1 o2 o3 < 0 ∨ wt a1 a2 a3 < wt o1 o2 o3) :
    Calls Tryd.prog 19 #[.int .i64 (n : Nat), rv o1 o2 o3, rv a1 a2 a3] w fun x w' => x = .returned (.int .i64 2) ∧ Below w.heap.size w w' := by
  have C1 := fun w => rcheck_yes o1 o2 o3 w h1
  have C := fun w => rcheck_yes a1 a2 a3 w h
  have S1 := fun w => rsgn_yes a1 a2 a3 w h
  have S2 := fun w => rsgn_yes o1 o2 o3 w h1
  have S3 := fun w => rcmp_yes o1 o2 o3 a1 a2 a3 w h1 h
  have k1 := sign_iff h
  have k2 := sign_iff h1
  have k3 := more_iff h1 h
  have hb' : signS a1 a2 < 0 ∨ (¬ signS a1 a2 < 0 ∧ signS o1 o2 < 0) ∨ (¬ signS a1 a2 < 0 ∧ ¬ signS o1 o2 < 0 ∧ 0 < cmpR o1 o2 o3 a1 a2 a3) := by omega
  clear k1 k2 k3 hb h1 h
  generalize signS a1 a2 = x at *
  generalize signS o1 o2 = y at *
  generalize cmpR o1 o2 o3 a1 a2 a3 = z at *
  have hz' : ¬ a1 = 0 ∨ (a1 = 0 ∧ ¬ a2 = 0) ∨ (a1 = 0 ∧ a2 = 0 ∧ ¬ a3 = 0) := by omega
  clear hz
  rcases hz' with hz | ⟨rfl, hz⟩ | ⟨rfl, rfl, hz⟩ <;> rcases hb' with hb | ⟨hb0, hb⟩ | ⟨hb0, hb1, hb⟩
  all_goals
    go_enter Tryd.func19, Tryd.ntmps19
    go_wp2_with (first
      | (go_at_call 32; (with_reducible refine (C1 _).mono ?_); rintro e w1 ⟨rfl, hB⟩; obtain ⟨B1, B2⟩ := two_box hB; have c0 : ∀ j, w1.cell? ⟨w.heap.size, j, none⟩ = _ := B1.cell; have c1 : ∀ j, w1.cell? ⟨w.heap.size + 1, j, none⟩ = _ := B2.cell; have l1 := B2.lt; clear C1)
      | (go_at_call 32; (with_reducible refine (C _).mono ?_); rintro e w2 ⟨rfl, hB2⟩; have D1 := B1.on hB2; have D2 := B2.on hB2; have d0 : ∀ j, w2.cell? ⟨w.heap.size, j, none⟩ = _ := D1.cell; have d1 : ∀ j, w2.cell? ⟨w.heap.size + 1, j, none⟩ = _ := D2.cell; have l2 := D2.lt; clear C)
      | (go_at_call 33; (with_reducible refine (S1 _).mono ?_); rintro e w3 ⟨rfl, hB3⟩; have E1 := D1.on hB3; have E2 := D2.on hB3; have e0 : ∀ j, w3.cell? ⟨w.heap.size, j, none⟩ = _ := E1.cell; have e1 : ∀ j, w3.cell? ⟨w.heap.size + 1, j, none⟩ = _ := E2.cell; have l3 := E2.lt; clear S1)
      | (go_at_call 33; (with_reducible refine (S2 _).mono ?_); rintro e w4 ⟨rfl, hB4⟩; have F1 := E1.on hB4; have F2 := E2.on hB4; have f0 : ∀ j, w4.cell? ⟨w.heap.size, j, none⟩ = _ := F1.cell; have f1 : ∀ j, w4.cell? ⟨w.heap.size + 1, j, none⟩ = _ := F2.cell; have l4 := F2.lt; clear S2)
      | (go_at_call 34; (with_reducible refine (S3 _).mono ?_); rintro e w5 ⟨rfl, hB5⟩))
    go_ret
    exact ⟨rfl, btr (btr (btr (btr (btr (bal (bal (Below.refl _ _) _) _) hB) hB2) hB3) hB4) hB5⟩
/-- The four parts. -/
def fp4 (o1 o2 a1 a2 : Int) (k : Nat) : Int := if k = 0 then o1 else if k = 1 then o2 else if k = 2 then a1 else a2
theorem fp4_all {o1 o2 a1 a2 : Int} {P : Int → Prop} : (∀ k, k < 4 → P (fp4 o1 o2 a1 a2 k)) ↔ P o1 ∧ P o2 ∧ P a1 ∧ P a2 :=
  ⟨fun h => ⟨h 0 (by omega), h 1 (by omega), h 2 (by omega), h 3 (by omega)⟩, fun ⟨h0, h1, h2, h3⟩ k hk => by
    have : k = 0 ∨ k = 1 ∨ k = 2 ∨ k = 3 := by omega
    rcases this with rfl | rfl | rfl | rfl
    · exact h0
    · exact h1
    · exact h2
    · exact h3⟩
set_option maxHeartbeats 4000000 in
theorem fault_fit (n : Nat) (o1 o2 o3 a1 a2 a3 : Int) (er : Nat) (w : World) (hn : n ≤ 16) (h1 : isRoot o1 o2 o3) (h : isRoot a1 a2 a3) (hz : ¬ (a1 = 0 ∧ a2 = 0 ∧ a3 = 0)) (hb : ¬ (wt a1 a2 a3 < 0 ∨ wt o1 o2 o3 < 0 ∨ wt a1 a2 a3 < wt o1 o2 o3))
    (H3 : ∀ k, k < 4 → ¬ (-mst n ≤ fp4 o1 o2 a1 a2 k ∧ fp4 o1 o2 a1 a2 k ≤ mst n) → er = 3) (H0 : (∀ k, k < 4 → -mst n ≤ fp4 o1 o2 a1 a2 k ∧ fp4 o1 o2 a1 a2 k ≤ mst n) → er = 0) :
    Calls Tryd.prog 19 #[.int .i64 (n : Nat), rv o1 o2 o3, rv a1 a2 a3] w fun x w' => x = .returned (.int .i64 (er : Nat)) ∧ Below w.heap.size w w' := by
  have C1 := fun w => rcheck_yes o1 o2 o3 w h1
  have C := fun w => rcheck_yes a1 a2 a3 w h
  have S1 := fun w => rsgn_yes a1 a2 a3 w h
  have S2 := fun w => rsgn_yes o1 o2 o3 w h1
  have S3 := fun w => rcmp_yes o1 o2 o3 a1 a2 a3 w h1 h
  have k1 := sign_iff h
  have k2 := sign_iff h1
  have k3 := more_iff h1 h
  have hb1 : ¬ signS a1 a2 < 0 := by omega
  have hb2 : ¬ signS o1 o2 < 0 := by omega
  have hb3 : ¬ 0 < cmpR o1 o2 o3 a1 a2 a3 := by omega
  have hm : (9007199254740991 : Int) / 2 ^ n = mst n := by unfold mst; simp
  have hn0 : ¬ ((n : Nat) : Int) < 0 := by omega
  have hM := mst_nn n
  have hM2 : mst n ≤ 9007199254740991 := by unfold mst; have := Nat.div_le_self 9007199254740991 (2 ^ n); omega
  have hfr : Hid (∀ k, k < 4 → -9007199254740991 ≤ fp4 o1 o2 a1 a2 k ∧ fp4 o1 o2 a1 a2 k ≤ 9007199254740991) := hid (fp4_all (P := fun x => -9007199254740991 ≤ x ∧ x ≤ 9007199254740991).2 ⟨h1.1, h1.2.1, h.1, h.2.1⟩)
  clear k1 k2 k3 hb h1 h
  generalize signS a1 a2 = x at *
  generalize signS o1 o2 = y at *
  generalize cmpR o1 o2 o3 a1 a2 a3 = z at *
  replace H3 := hid H3
  replace H0 := hid H0
  have Q0 := fun w => run_req a1 a2 a3 0 0 0 w
  rw [decide_eq_false hz] at Q0
  clear hz
  go_enter Tryd.func19, Tryd.ntmps19
  go_wp2_with (first
    | (go_at_call 32; (with_reducible refine (C1 _).mono ?_); rintro e w1 ⟨rfl, hB⟩; obtain ⟨B1, B2⟩ := two_box hB; have c0 : ∀ j, w1.cell? ⟨w.heap.size, j, none⟩ = _ := B1.cell; have c1 : ∀ j, w1.cell? ⟨w.heap.size + 1, j, none⟩ = _ := B2.cell; have l1 := B2.lt; clear C1)
    | (go_at_call 32; (with_reducible refine (C _).mono ?_); rintro e w2 ⟨rfl, hB2⟩; have D1 := B1.on hB2; have D2 := B2.on hB2; have d0 : ∀ j, w2.cell? ⟨w.heap.size, j, none⟩ = _ := D1.cell; have d1 : ∀ j, w2.cell? ⟨w.heap.size + 1, j, none⟩ = _ := D2.cell; have l2 := D2.lt; clear C)
    | (go_at_call 33; (with_reducible refine (S1 _).mono ?_); rintro e w3 ⟨rfl, hB3⟩; have E1 := D1.on hB3; have E2 := D2.on hB3; have e0 : ∀ j, w3.cell? ⟨w.heap.size, j, none⟩ = _ := E1.cell; have e1 : ∀ j, w3.cell? ⟨w.heap.size + 1, j, none⟩ = _ := E2.cell; have l3 := E2.lt; clear S1)
    | (go_at_call 33; (with_reducible refine (S2 _).mono ?_); rintro e w4 ⟨rfl, hB4⟩; have F1 := E1.on hB4; have F2 := E2.on hB4; have f0 : ∀ j, w4.cell? ⟨w.heap.size, j, none⟩ = _ := F1.cell; have f1 : ∀ j, w4.cell? ⟨w.heap.size + 1, j, none⟩ = _ := F2.cell; have l4 := F2.lt; clear S2)
    | (go_at_call 34; (with_reducible refine (S3 _).mono ?_); rintro e w5 ⟨rfl, hB5⟩; have G1 := F1.on hB5; have G2 := F2.on hB5; have g0 : ∀ j, w5.cell? ⟨w.heap.size, j, none⟩ = _ := G1.cell; have g1 : ∀ j, w5.cell? ⟨w.heap.size + 1, j, none⟩ = _ := G2.cell; have l5 := G2.lt; clear S3))
  have BV : Hid (Below w.heap.size w (w5.alloc (.cells #[.int .i64 o1, .int .i64 o2, .int .i64 a1, .int .i64 a2] 2))) := bal (btr (btr (btr (btr (btr (bal (bal (Below.refl _ _) _) _) hB) hB2) hB3) hB4) hB5) _
  have BC : BK (w5.alloc (.cells #[.int .i64 o1, .int .i64 o2, .int .i64 a1, .int .i64 a2] 2)) w5.heap.size #[.int .i64 o1, .int .i64 o2, .int .i64 a1, .int .i64 a2] 2 := bk_new _ _ _
  have HC : Hid (∀ k, k < 4 → (w5.alloc (.cells #[.int .i64 o1, .int .i64 o2, .int .i64 a1, .int .i64 a2] 2)).cell? ⟨w5.heap.size, k, none⟩ = some (.int .i64 (fp4 o1 o2 a1 a2 k))) := fun k hk => by
    rw [BC.cell k]
    have : k = 0 ∨ k = 1 ∨ k = 2 ∨ k = 3 := by omega
    rcases this with rfl | rfl | rfl | rfl <;> rfl
  have lV := BC.lt
  obtain ⟨V, hV⟩ : ∃ V, V = w5.alloc (.cells #[.int .i64 o1, .int .i64 o2, .int .i64 a1, .int .i64 a2] 2) := ⟨_, rfl⟩
  rw [← hV] at BV HC lV ⊢
  clear BC hV hB hB2 hB3 hB4 hB5 B1 B2 D1 D2 E1 E2 F1 F2 G1 G2 c0 c1 d0 d1 e0 e1 f0 f1 g0 g1 l1 l2 l3 l4 l5 Q0 hm
  generalize w5.heap.size = B at *
  generalize mst n = M at *
  go_loopw [16] (fun v16 wr => ∃ k : Nat, k ≤ 4 ∧ v16 = .int .i64 (k : Nat) ∧ wr = V ∧ Hid (∀ j, j < k → -M ≤ fp4 o1 o2 a1 a2 j ∧ fp4 o1 o2 a1 a2 j ≤ M)) (fun v16 _ => 4 - (intOf v16).toNat)
  case atStart => exact ⟨0, Nat.zero_le _, rfl, rfl, fun j hj => absurd hj (Nat.not_lt_zero _)⟩
  case round =>
    obtain ⟨k, hk, rfl, rfl, hI⟩ := hrel
    by_cases hlt : k < 4
    · have hkc := HC.out k hlt
      have hkr := hfr.out k hlt
      have h3 := hid (H3.out k hlt)
      have hkI : ((k : Nat) : Int) < 4 := by omega
      have hall := hid (fun (hx : -M ≤ fp4 o1 o2 a1 a2 k ∧ fp4 o1 o2 a1 a2 k ≤ M) (j : Nat) (hj : j < k + 1) => show -M ≤ fp4 o1 o2 a1 a2 j ∧ fp4 o1 o2 a1 a2 j ≤ M from by
        by_cases e : j = k
        · subst e; exact hx
        · exact hI.out j (by omega))
      generalize fp4 o1 o2 a1 a2 k = xk at *
      by_cases hg : M < xk
      · have her := h3.out (by omega)
        subst her
        go_wp2
        go_ret
        exact ⟨rfl, BV.out⟩
      · by_cases hl : xk < -M
        · have her := h3.out (by omega)
          subst her
          go_wp2
          go_ret
          exact ⟨rfl, BV.out⟩
        · go_wp2
          exact ⟨⟨k + 1, by omega, by simp, by trivial, hall.out (by omega)⟩, by simp [intOf]; omega⟩
    · obtain rfl : k = 4 := by omega
      have her := H0.out hI.out
      subst her
      go_wp2
      go_ret
      exact ⟨rfl, BV.out⟩
end Go.Proofs.YtcfmhkhfmcmkbaaDoor
namespace Go.Proofs.YtcfmhkhfmcmkbaaDoor
open Go.RowKit

theorem fault_all (n : Nat) (o1 o2 o3 a1 a2 a3 : Int) (w : World) (hn : n ≤ 16) :
    Calls Tryd.prog 19 #[.int .i64 (n : Nat), rv o1 o2 o3, rv a1 a2 a3] w fun x w' => x = .returned (.int .i64 (flt n o1 o2 o3 a1 a2 a3 : Nat)) ∧ Below w.heap.size w w' := by
  unfold flt
  by_cases h1 : isRoot o1 o2 o3
  · have e1 : (¬ isRoot o1 o2 o3) = False := eq_false (not_not_intro h1)
    by_cases h2 : isRoot a1 a2 a3
    · have e2 : (¬ isRoot a1 a2 a3) = False := eq_false (not_not_intro h2)
      by_cases h3 : a1 = 0 ∧ a2 = 0 ∧ a3 = 0
      · obtain ⟨rfl, rfl, rfl⟩ := h3
        simp only [e1, e2, if_false, and_self, if_true]
        exact fault_null n o1 o2 o3 w h1
      · have e3 := eq_false h3
        by_cases h4 : wt a1 a2 a3 < 0 ∨ wt o1 o2 o3 < 0 ∨ wt a1 a2 a3 < wt o1 o2 o3
        · have e4 := eq_true h4
          simp only [e1, e2, e3, e4, if_true, if_false]
          exact fault_bad n o1 o2 o3 a1 a2 a3 w h1 h2 h3 h4
        · have e4 := eq_false h4
          simp only [e1, e2, e3, e4, if_false]
          refine fault_fit n o1 o2 o3 a1 a2 a3 _ w hn h1 h2 h3 h4 (fun k hk hx => if_neg (fun h => hx ?_)) (fun h => if_pos ?_)
          · have ho : (-mst n ≤ o1 ∧ o1 ≤ mst n) ∧ (-mst n ≤ o2 ∧ o2 ≤ mst n) := of_decide_eq_true h.1
            have ha : (-mst n ≤ a1 ∧ a1 ≤ mst n) ∧ (-mst n ≤ a2 ∧ a2 ≤ mst n) := of_decide_eq_true h.2
            exact (fp4_all (P := fun x => -mst n ≤ x ∧ x ≤ mst n)).2 ⟨ho.1, ho.2, ha.1, ha.2⟩ k hk
          · obtain ⟨f1, f2, f3, f4⟩ := (fp4_all (P := fun x => -mst n ≤ x ∧ x ≤ mst n)).1 h
            exact ⟨decide_eq_true ⟨f1, f2⟩, decide_eq_true ⟨f3, f4⟩⟩
    · have e2 : (¬ isRoot a1 a2 a3) = True := eq_true h2
      simp only [e1, e2, if_true, if_false]
      exact fault_no2 n o1 o2 o3 a1 a2 a3 w h1 h2
  · have e1 : (¬ isRoot o1 o2 o3) = True := eq_true h1
    simp only [e1, if_true]
    exact fault_no1 n o1 o2 o3 a1 a2 a3 w h1
set_option maxHeartbeats 400000 in
theorem rtoss_no (m l o1 o2 o3 a1 a2 a3 : Int) (w : World) (hl : -9223372036854775808 ≤ l ∧ l ≤ 9223372036854775807) (h : ¬ isCoin m l) :
    Calls Tryd.prog 8 #[cv m l, rv o1 o2 o3, rv a1 a2 a3] w fun x w' => x = .returned (.tuple #[.int .i64 0, .bool false, .int .i64 2]) ∧ Below w.heap.size w w' := by
  have C := fun w => rcoin_no m l w hl h
  clear h
  go_enter Tryd.func8, Tryd.ntmps8
  go_wp2_with (go_at_call 11; (with_reducible refine (C _).mono ?_); rintro e w1 ⟨rfl, hB⟩)
  refine bodyPost_ret ?_ rfl ⟨rfl, btr (bal (bal (bal (Below.refl w.heap.size w) _) _) _) hB⟩
  simp [results, Tryd.results8, go_sem]
set_option maxHeartbeats 400000 in
theorem rtoss_bad (m : Int) (n : Nat) (o1 o2 o3 a1 a2 a3 : Int) (w : World) (hm : 0 ≤ m ∧ m < 2 ^ n) (hn : n ≤ 16) (h : flt n o1 o2 o3 a1 a2 a3 ≠ 0) :
    Calls Tryd.prog 8 #[cv m (n : Nat), rv o1 o2 o3, rv a1 a2 a3] w fun x w' => x = .returned (.tuple #[.int .i64 0, .bool false, .int .i64 (flt n o1 o2 o3 a1 a2 a3 : Nat)]) ∧ Below w.heap.size w w' := by
  have C := fun w => rcoin_yes m n w hn hm.2
  have S := fun w => fault_all n o1 o2 o3 a1 a2 a3 w hn
  have hf : ¬ ((flt n o1 o2 o3 a1 a2 a3 : Nat) : Int) = 0 := by omega
  generalize flt n o1 o2 o3 a1 a2 a3 = er at *
  clear h
  go_enter Tryd.func8, Tryd.ntmps8
  go_wp2_with (first
    | (go_at_call 11; (with_reducible refine (C _).mono ?_); rintro e w1 ⟨rfl, hB⟩; obtain ⟨B1, B2, B3⟩ := three_box hB; have c0 : ∀ j, w1.cell? ⟨w.heap.size, j, none⟩ = _ := B1.cell; have c1 : ∀ j, w1.cell? ⟨w.heap.size + 1, j, none⟩ = _ := B2.cell; have c2 : ∀ j, w1.cell? ⟨w.heap.size + 1 + 1, j, none⟩ = _ := B3.cell; have l0 := B1.lt; have l1 := B2.lt; have l2 := B3.lt; clear C)
    | (go_at_call 19; (with_reducible refine (S _).mono ?_); rintro e w2 ⟨rfl, hB2⟩))
  refine bodyPost_ret ?_ rfl ⟨rfl, btr (btr (bal (bal (bal (Below.refl w.heap.size w) _) _) _) hB) hB2⟩
  simp [results, Tryd.results8, go_sem]
/-- A coin and two roots, since V. -/
abbrev T3 (V W : World) (b0 b1 b2 : Nat) (m l o1 o2 o3 a1 a2 a3 : Int) : Prop := Below V.heap.size V W ∧ W.cell? ⟨b0, 0, none⟩ = some (.int .u64 m) ∧ W.cell? ⟨b0, 1, none⟩ = some (.int .i64 l) ∧ W.cell? ⟨b1, 0, none⟩ = some (.int .i64 o1) ∧ W.cell? ⟨b1, 1, none⟩ = some (.int .i64 o2) ∧ W.cell? ⟨b1, 2, none⟩ = some (.int .i64 o3) ∧ W.cell? ⟨b2, 0, none⟩ = some (.int .i64 a1) ∧ W.cell? ⟨b2, 1, none⟩ = some (.int .i64 a2) ∧ W.cell? ⟨b2, 2, none⟩ = some (.int .i64 a3)
theorem t3_keep {V W : World} {b0 b1 b2 : Nat} {m l o1 o2 o3 a1 a2 a3 : Int} (h0 : BK V b0 #[.int .u64 m, .int .i64 l] 28) (h1 : BK V b1 (rc o1 o2 o3) 24) (h2 : BK V b2 (rc a1 a2 a3) 24) (g : Below V.heap.size V W) : T3 V W b0 b1 b2 m l o1 o2 o3 a1 a2 a3 :=
  ⟨g, (h0.on g).cell 0, (h0.on g).cell 1, (h1.on g).cell 0, (h1.on g).cell 1, (h1.on g).cell 2, (h2.on g).cell 0, (h2.on g).cell 1, (h2.on g).cell 2⟩
set_option maxHeartbeats 2000000 in
theorem rtoss_ok (m : Int) (n : Nat) (o1 o2 o3 a1 a2 a3 : Int) (w : World) (hm : 0 ≤ m ∧ m < 2 ^ n) (hn : n ≤ 16) (h : flt n o1 o2 o3 a1 a2 a3 = 0) :
    Calls Tryd.prog 8 #[cv m (n : Nat), rv o1 o2 o3, rv a1 a2 a3] w fun x w' => x = .returned (.tuple #[.int .i64 (if tells m n o1 o2 o3 a1 a2 a3 = true then 1 else 0), .bool (crt o1 o2 o3 a1 a2 a3), .int .i64 0]) ∧ Below w.heap.size w w' := by
  have hk := flt_ok h
  have C := fun w => rcoin_yes m n w hn hm.2
  have S := fun w => fault_all n o1 o2 o3 a1 a2 a3 w hn
  rw [h] at S
  have hm6 := pow_m hn
  have wm : IntKind.i64.wrap m = m := by rw [IntKind.wrap_i64]; omega
  have L : ∀ w, Calls Tryd.prog 20 #[.int .i64 (IntKind.i64.wrap m), .int .i64 (n : Nat), rv o1 o2 o3, rv a1 a2 a3] w fun x w' => x = .returned (.int .i64 (if tells m n o1 o2 o3 a1 a2 a3 = true then 1 else 0)) ∧ Below w.heap.size w w' := fun w => by
    rw [wm]
    exact outcome_any m n o1 o2 o3 a1 a2 a3 w ⟨hm.1, by omega⟩ hn hk
  clear wm
  have Q1 := fun w => run_req o1 o2 o3 0 0 0 w
  have Q2 := fun w => run_req o1 o2 o3 a1 a2 a3 w
  have hm7 : m ≤ 65536 := by omega
  clear h hk
  unfold crt
  generalize (if tells m n o1 o2 o3 a1 a2 a3 = true then (1 : Int) else 0) = z at *
  generalize decide (o1 = 0 ∧ o2 = 0 ∧ o3 = 0) = y1 at *
  generalize decide (o1 = a1 ∧ o2 = a2 ∧ o3 = a3) = y2 at *
  cases y1
  · go_enter Tryd.func8, Tryd.ntmps8
    go_wp2_with (first
      | (go_at_call 11; (with_reducible refine (C _).mono ?_); rintro e w1 ⟨rfl, hB⟩; obtain ⟨B1, B2, B3⟩ := three_box hB; have c0 : ∀ j, w1.cell? ⟨w.heap.size, j, none⟩ = _ := B1.cell; have c1 : ∀ j, w1.cell? ⟨w.heap.size + 1, j, none⟩ = _ := B2.cell; have c2 : ∀ j, w1.cell? ⟨w.heap.size + 1 + 1, j, none⟩ = _ := B3.cell; have l0 := B1.lt; have l1 := B2.lt; have l2 := B3.lt; clear C)
      | (go_at_call 19; (with_reducible refine (S _).mono ?_); rintro e w2 ⟨rfl, hB2⟩))
    have D1 := B1.on hB2
    have D2 := B2.on hB2
    have D3 := B3.on hB2
    have BW := btr (btr (bal (bal (bal (Below.refl w.heap.size w) _) _) _) hB) hB2
    have RV := Below.refl w2.heap.size w2
    clear hB hB2 B1 B2 B3 c0 c1 c2 l0 l1 l2
    go_region_held3 (fun w' => T3 w2 w' w.heap.size (w.heap.size + 1) (w.heap.size + 1 + 1) m (n : Nat) o1 o2 o3 a1 a2 a3)
      ((refine t3_keep D1 D2 D3 ?_; first | exact below_drew RV | exact btr (And.left (by assumption)) hN))
      (first | (go_at_call 20; (with_reducible refine (L _).mono ?_); rintro e w3 ⟨rfl, hN⟩; have hK := btr (And.left (by assumption)) hN))
    all_goals
      go_wp2
      refine bodyPost_ret ?_ rfl ⟨rfl, btr BW hK⟩
      simp [results, Tryd.results8, go_sem]
  · go_enter Tryd.func8, Tryd.ntmps8
    go_wp2_with (first
      | (go_at_call 11; (with_reducible refine (C _).mono ?_); rintro e w1 ⟨rfl, hB⟩; obtain ⟨B1, B2, B3⟩ := three_box hB; have c0 : ∀ j, w1.cell? ⟨w.heap.size, j, none⟩ = _ := B1.cell; have c1 : ∀ j, w1.cell? ⟨w.heap.size + 1, j, none⟩ = _ := B2.cell; have c2 : ∀ j, w1.cell? ⟨w.heap.size + 1 + 1, j, none⟩ = _ := B3.cell; have l0 := B1.lt; have l1 := B2.lt; have l2 := B3.lt; clear C)
      | (go_at_call 19; (with_reducible refine (S _).mono ?_); rintro e w2 ⟨rfl, hB2⟩))
    have D1 := B1.on hB2
    have D2 := B2.on hB2
    have D3 := B3.on hB2
    have BW := btr (btr (bal (bal (bal (Below.refl w.heap.size w) _) _) _) hB) hB2
    have RV := Below.refl w2.heap.size w2
    clear hB hB2 B1 B2 B3 c0 c1 c2 l0 l1 l2
    refine wp_region_noPanic ?_
    refine wp_region_held_drew (S := (fun w' => T3 w2 w' w.heap.size (w.heap.size + 1) (w.heap.size + 1 + 1) m (n : Nat) o1 o2 o3 a1 a2 a3)) (by kernel_rfl) (by exact t3_keep D1 D2 D3 (below_drew RV)) (fun hHeld => ?_)
    refine wpAnyH_take (i := 0) (oi := { dst := some 21, op := Op.fieldAddr 28 (Operand.tmp 3) 0, type := 0, pos := "ref.go:76", after := #[], guard := none }) (v := ?_) rfl (by kernel_rfl) (by kernel_rfl) (by kernel_rfl) (fun _ _ _ h => h) (Or.inl ⟨by rfl, ?_⟩) (by assumption) ?_
    rotate_left
    (intro w0 hSw; (try dsimp only at hSw); go_simp; try (with_reducible rfl))
    (try simp only [Act.put, List.setIfInBounds_toArray, List.set_cons_zero, List.set_cons_succ])
    refine wpAnyH_take (i := 1) (oi := { dst := some 22, op := Op.load 26 (Operand.tmp 21), type := 26, pos := "ref.go:76", after := #[{ on := 0, ground := Ground.data }], guard := none }) (v := ?_) rfl (by kernel_rfl) (by kernel_rfl) (by kernel_rfl) (fun _ _ _ h => h) (Or.inl ⟨by rfl, ?_⟩) (by assumption) ?_
    rotate_left
    (intro w0 hSw; (try dsimp only at hSw); go_simp; try (with_reducible rfl))
    (try simp only [Act.put, List.setIfInBounds_toArray, List.set_cons_zero, List.set_cons_succ])
    refine wpAnyH_take (i := 2) (oi := { dst := some 23, op := Op.convert 26 2 (Operand.tmp 22), type := 2, pos := "ref.go:76", after := #[{ on := 1, ground := Ground.data }], guard := none }) (v := ?_) rfl (by kernel_rfl) (by kernel_rfl) (by kernel_rfl) (fun _ _ _ h => h) (Or.inl ⟨by rfl, ?_⟩) (by assumption) ?_
    rotate_left
    (intro w0 hSw; (try dsimp only at hSw); go_simp; try (with_reducible rfl))
    (try simp only [Act.put, List.setIfInBounds_toArray, List.set_cons_zero, List.set_cons_succ])
    refine wpAnyH_take (i := 3) (oi := { dst := some 24, op := Op.fieldAddr 28 (Operand.tmp 3) 1, type := 0, pos := "ref.go:76", after := #[], guard := none }) (v := ?_) rfl (by kernel_rfl) (by kernel_rfl) (by kernel_rfl) (fun _ _ _ h => h) (Or.inl ⟨by rfl, ?_⟩) (by assumption) ?_
    rotate_left
    (intro w0 hSw; (try dsimp only at hSw); go_simp; try (with_reducible rfl))
    (try simp only [Act.put, List.setIfInBounds_toArray, List.set_cons_zero, List.set_cons_succ])
    refine wpAnyH_take (i := 4) (oi := { dst := some 25, op := Op.load 3 (Operand.tmp 24), type := 3, pos := "ref.go:76", after := #[{ on := 3, ground := Ground.data }], guard := none }) (v := ?_) rfl (by kernel_rfl) (by kernel_rfl) (by kernel_rfl) (fun _ _ _ h => h) (Or.inl ⟨by rfl, ?_⟩) (by assumption) ?_
    rotate_left
    (intro w0 hSw; (try dsimp only at hSw); go_simp; try (with_reducible rfl))
    (try simp only [Act.put, List.setIfInBounds_toArray, List.set_cons_zero, List.set_cons_succ])
    refine wpAnyH_take (i := 5) (oi := { dst := some 26, op := Op.load 24 (Operand.tmp 4), type := 24, pos := "ref.go:76", after := #[], guard := none }) (v := ?_) rfl (by kernel_rfl) (by kernel_rfl) (by kernel_rfl) (fun _ _ _ h => h) (Or.inl ⟨by rfl, ?_⟩) (by assumption) ?_
    rotate_left
    (intro w0 hSw; (try dsimp only at hSw); go_simp; try (with_reducible rfl))
    (try simp only [Act.put, List.setIfInBounds_toArray, List.set_cons_zero, List.set_cons_succ])
    refine wpAnyH_take (i := 6) (oi := { dst := some 27, op := Op.load 24 (Operand.tmp 5), type := 24, pos := "ref.go:76", after := #[], guard := none }) (v := ?_) rfl (by kernel_rfl) (by kernel_rfl) (by kernel_rfl) (fun _ _ _ h => h) (Or.inl ⟨by rfl, ?_⟩) (by assumption) ?_
    rotate_left
    (intro w0 hSw; (try dsimp only at hSw); go_simp; try (with_reducible rfl))
    (try simp only [Act.put, List.setIfInBounds_toArray, List.set_cons_zero, List.set_cons_succ])
    refine wpAnyH_take (i := 8) (oi := { dst := some 29, op := Op.load 24 (Operand.tmp 4), type := 24, pos := "ref.go:76", after := #[], guard := none }) (v := ?_) rfl (by kernel_rfl) (by kernel_rfl) (by kernel_rfl) (fun _ _ _ h => h) (Or.inl ⟨by rfl, ?_⟩) (by assumption) ?_
    rotate_left
    (intro w0 hSw; (try dsimp only at hSw); go_simp; try (with_reducible rfl))
    (try simp only [Act.put, List.setIfInBounds_toArray, List.set_cons_zero, List.set_cons_succ])
    refine wpAnyH_take (i := 9) (oi := { dst := some 30, op := Op.build 24 #[], type := 24, pos := "ref.go:76", after := #[], guard := none }) (v := ?_) rfl (by kernel_rfl) (by kernel_rfl) (by kernel_rfl) (fun _ _ _ h => h) (Or.inl ⟨by rfl, ?_⟩) (by assumption) ?_
    rotate_left
    (intro w0 hSw; (try dsimp only at hSw); go_simp; try (with_reducible rfl))
    (try simp only [Act.put, List.setIfInBounds_toArray, List.set_cons_zero, List.set_cons_succ])
    refine wpAnyH_take (i := 10) (oi := { dst := some 31, op := Op.binOp BinOp.eql 24 (Operand.tmp 29) (Operand.tmp 30) 24, type := 4, pos := "ref.go:76", after := #[{ on := 8, ground := Ground.data }, { on := 9, ground := Ground.data }], guard := none }) (v := ?_) rfl (by kernel_rfl) (by kernel_rfl) (by kernel_rfl) (fun _ _ _ h => h) (Or.inl ⟨by rfl, ?_⟩) (by assumption) ?_
    rotate_left
    (intro w0 hSw; (try dsimp only at hSw); go_simp; try (with_reducible rfl))
    (try simp only [Act.put, List.setIfInBounds_toArray, List.set_cons_zero, List.set_cons_succ])
    refine wpAnyH_ready (rs := [7]) (by kernel_rfl) (by simp) (AllReadyH.cons (o := { dst := some 28, op := Op.call { callee := Callee.value (Operand.func 20), args := #[Operand.tmp 23, Operand.tmp 25, Operand.tmp 26, Operand.tmp 27], argTypes := #[2, 3, 24, 24] }, type := 3, pos := "ref.go:76", after := #[{ on := 2, ground := Ground.data }, { on := 4, ground := Ground.data }, { on := 5, ground := Ground.data }, { on := 6, ground := Ground.data }], guard := none }) rfl (fun K hK => ?_) AllReadyH.nil)
    go_simp
    (with_reducible refine (L _).mono ?_)
    rintro e w3 ⟨rfl, hN⟩
    have hKK := btr (And.left hHeld) hN
    refine hK.out _ _ (by exact t3_keep D1 D2 D3 (btr (And.left hHeld) hN)) (fun hHeld => ?_)
    clear hK K
    (try simp only [Act.put, List.setIfInBounds_toArray, List.set_cons_zero, List.set_cons_succ])
    refine wpAnyH_take (i := 11) (oi := { dst := some 32, op := Op.move (Operand.tmp 31), type := 4, pos := "ref.go:76", after := #[{ on := 10, ground := Ground.data }, { on := 7, ground := Ground.chain }], guard := none }) (v := ?_) rfl (by kernel_rfl) (by kernel_rfl) (by kernel_rfl) (fun _ _ _ h => h) (Or.inl ⟨by rfl, ?_⟩) (by assumption) ?_
    rotate_left
    (intro w0 hSw; (try dsimp only at hSw); go_simp; try (with_reducible rfl))
    (try simp only [Act.put, List.setIfInBounds_toArray, List.set_cons_zero, List.set_cons_succ])
    refine wpAnyH_take (i := 12) (oi := { dst := some 33, op := Op.load 24 (Operand.tmp 4), type := 24, pos := "ref.go:76", after := #[{ on := 11, ground := Ground.guard }, { on := 16, ground := Ground.gcOnly Departure.lateStores }], guard := some (11, false) }) (v := undef) rfl (by kernel_rfl) (by kernel_rfl) (by kernel_rfl) (fun _ _ _ h => h) (Or.inr ⟨by rfl, rfl⟩) (by assumption) ?_
    (try simp only [Act.put, List.setIfInBounds_toArray, List.set_cons_zero, List.set_cons_succ])
    refine wpAnyH_take (i := 13) (oi := { dst := some 34, op := Op.load 24 (Operand.tmp 5), type := 24, pos := "ref.go:76", after := #[{ on := 11, ground := Ground.guard }, { on := 16, ground := Ground.gcOnly Departure.lateStores }], guard := some (11, false) }) (v := undef) rfl (by kernel_rfl) (by kernel_rfl) (by kernel_rfl) (fun _ _ _ h => h) (Or.inr ⟨by rfl, rfl⟩) (by assumption) ?_
    (try simp only [Act.put, List.setIfInBounds_toArray, List.set_cons_zero, List.set_cons_succ])
    refine wpAnyH_take (i := 14) (oi := { dst := some 35, op := Op.binOp BinOp.eql 24 (Operand.tmp 33) (Operand.tmp 34) 24, type := 4, pos := "ref.go:76", after := #[{ on := 12, ground := Ground.data }, { on := 13, ground := Ground.data }, { on := 11, ground := Ground.guard }, { on := 16, ground := Ground.gcOnly Departure.lateStores }], guard := some (11, false) }) (v := undef) rfl (by kernel_rfl) (by kernel_rfl) (by kernel_rfl) (fun _ _ _ h => h) (Or.inr ⟨by rfl, rfl⟩) (by assumption) ?_
    (try simp only [Act.put, List.setIfInBounds_toArray, List.set_cons_zero, List.set_cons_succ])
    refine wpAnyH_take (i := 15) (oi := { dst := some 36, op := Op.pick (Operand.tmp 32) (Operand.const (Value.bool true)) (Operand.tmp 35), type := 4, pos := "ref.go:76", after := #[{ on := 11, ground := Ground.data }, { on := 14, ground := Ground.data }, { on := 16, ground := Ground.gcOnly Departure.lateStores }], guard := none }) (v := ?_) rfl (by kernel_rfl) (by kernel_rfl) (by kernel_rfl) (fun _ _ _ h => h) (Or.inl ⟨by rfl, ?_⟩) (by assumption) ?_
    rotate_left
    (intro w0 hSw; (try dsimp only at hSw); go_simp; try (with_reducible rfl))
    (try simp only [Act.put, List.setIfInBounds_toArray, List.set_cons_zero, List.set_cons_succ])
    refine wpAnyH_take (i := 16) (oi := { dst := some 6, op := Op.assign (Operand.tmp 28), type := 3, pos := "ref.go:76", after := #[{ on := 7, ground := Ground.data }, { on := 11, ground := Ground.chain }, { on := 0, ground := Ground.phase }, { on := 1, ground := Ground.phase }, { on := 2, ground := Ground.phase }, { on := 3, ground := Ground.phase }, { on := 4, ground := Ground.phase }, { on := 5, ground := Ground.phase }, { on := 6, ground := Ground.phase }, { on := 7, ground := Ground.phase }, { on := 8, ground := Ground.textOnly Departure.lateStores }, { on := 9, ground := Ground.textOnly Departure.lateStores }, { on := 10, ground := Ground.textOnly Departure.lateStores }, { on := 11, ground := Ground.textOnly Departure.lateStores }, { on := 12, ground := Ground.textOnly Departure.lateStores }, { on := 13, ground := Ground.textOnly Departure.lateStores }, { on := 14, ground := Ground.textOnly Departure.lateStores }, { on := 15, ground := Ground.textOnly Departure.lateStores }], guard := none }) (v := ?_) rfl (by kernel_rfl) (by kernel_rfl) (by kernel_rfl) (fun _ _ _ h => h) (Or.inl ⟨by rfl, ?_⟩) (by assumption) ?_
    rotate_left
    (intro w0 hSw; (try dsimp only at hSw); go_simp; try (with_reducible rfl))
    (try simp only [Act.put, List.setIfInBounds_toArray, List.set_cons_zero, List.set_cons_succ])
    refine wpAnyH_take (i := 17) (oi := { dst := some 7, op := Op.assign (Operand.tmp 36), type := 4, pos := "ref.go:76", after := #[{ on := 15, ground := Ground.data }, { on := 16, ground := Ground.chain }, { on := 0, ground := Ground.phase }, { on := 1, ground := Ground.phase }, { on := 2, ground := Ground.phase }, { on := 3, ground := Ground.phase }, { on := 4, ground := Ground.phase }, { on := 5, ground := Ground.phase }, { on := 6, ground := Ground.phase }, { on := 7, ground := Ground.phase }, { on := 8, ground := Ground.phase }, { on := 9, ground := Ground.phase }, { on := 10, ground := Ground.phase }, { on := 11, ground := Ground.phase }, { on := 12, ground := Ground.phase }, { on := 13, ground := Ground.phase }, { on := 14, ground := Ground.phase }, { on := 15, ground := Ground.phase }, { on := 16, ground := Ground.phase }], guard := none }) (v := ?_) rfl (by kernel_rfl) (by kernel_rfl) (by kernel_rfl) (fun _ _ _ h => h) (Or.inl ⟨by rfl, ?_⟩) (by assumption) ?_
    rotate_left
    (intro w0 hSw; (try dsimp only at hSw); go_simp; try (with_reducible rfl))
    (try simp only [Act.put, List.setIfInBounds_toArray, List.set_cons_zero, List.set_cons_succ])
    refine wpAnyH_take (i := 18) (oi := { dst := some 8, op := Op.assign (Operand.const (Value.int IntKind.i64 0)), type := 3, pos := "ref.go:76", after := #[{ on := 17, ground := Ground.chain }, { on := 0, ground := Ground.phase }, { on := 1, ground := Ground.phase }, { on := 2, ground := Ground.phase }, { on := 3, ground := Ground.phase }, { on := 4, ground := Ground.phase }, { on := 5, ground := Ground.phase }, { on := 6, ground := Ground.phase }, { on := 7, ground := Ground.phase }, { on := 8, ground := Ground.phase }, { on := 9, ground := Ground.phase }, { on := 10, ground := Ground.phase }, { on := 11, ground := Ground.phase }, { on := 12, ground := Ground.phase }, { on := 13, ground := Ground.phase }, { on := 14, ground := Ground.phase }, { on := 15, ground := Ground.phase }, { on := 16, ground := Ground.phase }, { on := 17, ground := Ground.phase }], guard := none }) (v := ?_) rfl (by kernel_rfl) (by kernel_rfl) (by kernel_rfl) (fun _ _ _ h => h) (Or.inl ⟨by rfl, ?_⟩) (by assumption) ?_
    rotate_left
    (intro w0 hSw; (try dsimp only at hSw); go_simp; try (with_reducible rfl))
    (try simp only [Act.put, List.setIfInBounds_toArray, List.set_cons_zero, List.set_cons_succ])
    refine wpAnyH_done (by kernel_rfl) ?_ _
    refine NoPanic.normal ?_
    go_wp2
    refine bodyPost_ret ?_ rfl ⟨rfl, btr BW hKK⟩
    simp [results, Tryd.results8, go_sem]
/-- The reference's boxes. -/
structure RB2 (w wr : World) (o1 o2 o3 a1 a2 a3 : Int) : Prop where
  below : Below w.heap.size w wr
  b1 : BK wr w.heap.size (rc o1 o2 o3) 24
  b2 : BK wr (w.heap.size + 1) (rc a1 a2 a3) 24
set_option maxHeartbeats 400000 in
theorem rshown_no (n : Int) (o1 o2 o3 a1 a2 a3 : Int) (w : World) (h : n < 0 ∨ 16 < n) :
    Calls Tryd.prog 12 #[.int .i64 n, rv o1 o2 o3, rv a1 a2 a3] w fun x w' => x = .returned (.tuple #[.int .u64 0, .int .i64 2]) ∧ Below w.heap.size w w' := by
  have h' : n < 0 ∨ (¬ n < 0 ∧ 16 < n) := by omega
  clear h
  rcases h' with h | ⟨h, h2⟩
  all_goals
    go_enter Tryd.func12, Tryd.ntmps12
    go_wp2
    refine bodyPost_ret ?_ rfl ⟨rfl, bal (bal (Below.refl w.heap.size w) _) _⟩
    simp [results, Tryd.results12, go_sem]
set_option maxHeartbeats 400000 in
theorem rshown_bad (n : Nat) (o1 o2 o3 a1 a2 a3 : Int) (w : World) (hn : n ≤ 16) (h : flt n o1 o2 o3 a1 a2 a3 ≠ 0) :
    Calls Tryd.prog 12 #[.int .i64 (n : Nat), rv o1 o2 o3, rv a1 a2 a3] w fun x w' => x = .returned (.tuple #[.int .u64 0, .int .i64 (flt n o1 o2 o3 a1 a2 a3 : Nat)]) ∧ Below w.heap.size w w' := by
  have S := fun w => fault_all n o1 o2 o3 a1 a2 a3 w hn
  have hf : ¬ ((flt n o1 o2 o3 a1 a2 a3 : Nat) : Int) = 0 := by omega
  have n0 : ¬ ((n : Nat) : Int) < 0 := by omega
  have n1 : ¬ (16 : Int) < (n : Nat) := by omega
  generalize flt n o1 o2 o3 a1 a2 a3 = er at *
  clear h
  go_enter Tryd.func12, Tryd.ntmps12
  go_wp2_with (go_at_call 19; (with_reducible refine (S _).mono ?_); rintro e w2 ⟨rfl, hB2⟩)
  refine bodyPost_ret ?_ rfl ⟨rfl, btr (bal (bal (Below.refl w.heap.size w) _) _) hB2⟩
  simp [results, Tryd.results12, go_sem]
theorem pow_i (n : Nat) (h : n ≤ 16) : IntKind.i64.wrap (2 ^ n) = (2 : Int) ^ n := by
  have := pow_cases n h
  rw [IntKind.wrap_i64]
  omega
set_option maxHeartbeats 2000000 in
theorem rshown_ok (n : Nat) (o1 o2 o3 a1 a2 a3 : Int) (w : World) (hn : n ≤ 16) (h : flt n o1 o2 o3 a1 a2 a3 = 0) :
    Calls Tryd.prog 12 #[.int .i64 (n : Nat), rv o1 o2 o3, rv a1 a2 a3] w fun x w' => x = .returned (.tuple #[.int .u64 (shn n o1 o2 o3 a1 a2 a3 : Nat), .int .i64 0]) ∧ Below w.heap.size w w' := by
  have hk := flt_ok h
  have S := fun w => fault_all n o1 o2 o3 a1 a2 a3 w hn
  rw [h] at S
  have n0 : ¬ ((n : Nat) : Int) < 0 := by omega
  have n1 : ¬ (16 : Int) < (n : Nat) := by omega
  have hp := pow_i n hn
  have hm6 := pow_m hn
  have eN : (2 : Int) ^ n = ((2 ^ n : Nat) : Int) := by simp
  have L : Hid (∀ i : Nat, i < 2 ^ n → ∀ w, Calls Tryd.prog 20 #[.int .i64 (i : Nat), .int .i64 (n : Nat), rv o1 o2 o3, rv a1 a2 a3] w fun x w' => x = .returned (.int .i64 (if tells (i : Nat) n o1 o2 o3 a1 a2 a3 = true then 1 else 0)) ∧ Below w.heap.size w w') := fun i hi w => outcome_any (i : Nat) n o1 o2 o3 a1 a2 a3 w ⟨by omega, by rw [eN]; omega⟩ hn hk
  unfold shn
  generalize hf : (fun i : Nat => tells (i : Nat) n o1 o2 o3 a1 a2 a3) = f
  replace L : Hid (∀ i : Nat, i < 2 ^ n → ∀ w, Calls Tryd.prog 20 #[.int .i64 (i : Nat), .int .i64 (n : Nat), rv o1 o2 o3, rv a1 a2 a3] w fun x w' => x = .returned (.int .i64 (if f i = true then 1 else 0)) ∧ Below w.heap.size w w') := by rw [← hf]; exact L
  generalize hQ : (fun (x : Ending) (w' : World) => x = .returned (.tuple #[.int .u64 (cntB f (2 ^ n) : Nat), .int .i64 0]) ∧ Below w.heap.size w w') = QQ
  have HQ := hid hQ
  have EN := hid eN
  clear hf hQ hk h eN
  have cle : ∀ k, cntB f k ≤ k := fun k => by
    induction k with
    | zero => exact Nat.le_refl _
    | succ k ih => unfold cntB; split <;> omega
  have HCL := hid cle
  clear cle
  go_enter Tryd.func12, Tryd.ntmps12
  go_wp2_with (go_at_call 19; (with_reducible refine (S _).mono ?_); rintro e w2 ⟨rfl, hB2⟩; have HS : Hid (RB2 w w2 o1 o2 o3 a1 a2 a3) := ⟨btr (bal (bal (Below.refl w.heap.size w) _) _) hB2, (two_box hB2).1, (two_box hB2).2⟩)
  clear hB2 S
  go_loopw [9, 10] (fun v9 v10 wr => ∃ k : Nat, k ≤ 2 ^ n ∧ v9 = .int .u64 (cntB f k : Nat) ∧ v10 = .int .i64 (k : Nat) ∧ Hid (RB2 w wr o1 o2 o3 a1 a2 a3)) (fun _ v10 _ => 2 ^ n - (intOf v10).toNat)
  case atStart => exact ⟨0, Nat.zero_le _, rfl, rfl, HS⟩
  case round =>
    obtain ⟨k, hk, rfl, rfl, hS⟩ := hrel
    clear HS
    by_cases hlt : k < 2 ^ n
    · have hkI : ((k : Nat) : Int) < 2 ^ n := by rw [EN.out]; omega
      have hcl := HCL.out k
      have hk6 : k ≤ 65536 := by have := EN.out; omega
      have LL := L.out k hlt
      have HN : Hid (cntB f (k + 1) = cntB f k + (if f k = true then 1 else 0)) := rfl
      have c0 : ∀ j, wr.cell? ⟨w.heap.size, j, none⟩ = _ := hS.out.b1.cell
      have c1 : ∀ j, wr.cell? ⟨w.heap.size + 1, j, none⟩ = _ := hS.out.b2.cell
      have l0 := hS.out.b1.lt
      have l1 := hS.out.b2.lt
      generalize cntB f k = c at *
      cases hfk : f k
      all_goals
        rw [hfk] at LL HN
        go_wp2_with (go_at_call 20; (with_reducible refine (LL _).mono ?_); rintro e w4 ⟨rfl, hB4⟩)
        exact ⟨⟨k + 1, by omega, by rw [HN.out]; simp, by simp, ⟨btr hS.out.below hB4, hS.out.b1.on hB4, hS.out.b2.on hB4⟩⟩, by simp [intOf]; omega⟩
    · obtain rfl : k = 2 ^ n := by omega
      go_wp2
      rw [← HQ.out]
      exact ⟨rfl, hS.out.below⟩
end Go.Proofs.YtcfmhkhfmcmkbaaDoor
namespace Go.Proofs.YtcfmhkhfmcmkbaaDoor
open Go.RowKit

theorem aw_flt : flt 1 1 0 1 1 0 0 = 0 := by decide +kernel
theorem aw_t0 : tells 0 1 1 0 1 1 0 0 = true := by decide +kernel
theorem aw_t1 : tells 1 1 1 0 1 1 0 0 = false := by decide +kernel
theorem aw_c : crt 1 0 1 1 0 0 = false := by decide +kernel
theorem aw_s : shn 1 1 0 1 1 0 0 = 1 := by decide +kernel
set_option maxHeartbeats 1000000 in
theorem awake_any (w : World) (hT : Tab w) : Calls Tryd.prog 7 #[] w fun e w' => e = .returned (.bool true) ∧ Below w.heap.size w w' := by
  have T0 : ∀ w, Tab w → Calls Tryd.prog 9 #[cv 0 1, rv 1 0 1, rv 1 0 0] w fun x w' => x = .returned (.tuple #[.int .i64 1, .bool false, .int .i64 0]) ∧ Below w.heap.size w w' := fun w h => by
    have := toss_ok 0 1 1 0 1 1 0 0 w h (by decide) (by decide) aw_flt
    rw [aw_t0, aw_c] at this
    exact this
  have T1 : ∀ w, Tab w → Calls Tryd.prog 9 #[cv 1 1, rv 1 0 1, rv 1 0 0] w fun x w' => x = .returned (.tuple #[.int .i64 0, .bool false, .int .i64 0]) ∧ Below w.heap.size w w' := fun w h => by
    have := toss_ok 1 1 1 0 1 1 0 0 w h (by decide) (by decide) aw_flt
    rw [aw_t1, aw_c] at this
    exact this
  have S : ∀ w, Tab w → Calls Tryd.prog 13 #[.int .i64 1, rv 1 0 1, rv 1 0 0] w fun x w' => x = .returned (.tuple #[.int .u64 1, .int .i64 0]) ∧ Below w.heap.size w w' := fun w h => by
    have := shown_ok 1 1 0 1 1 0 0 w h (by decide) aw_flt
    rw [aw_s] at this
    exact this
  have C : ∀ w, Calls Tryd.prog 10 #[cv 2 1] w fun e w' => e = .returned (.int .i64 2) ∧ Below w.heap.size w w' := fun w => coin_no 2 1 w (by omega) (fun h => absurd h.2 (by decide))
  have HT : Hid (∀ w', Below w.heap.size w w' → Tab w') := fun w' h => hT.below h
  clear hT
  go_enter Tryd.func7, Tryd.ntmps7
  go_wp2_with (first
    | (go_at_call 9; (with_reducible refine (T0 _ (HT.out _ (bal (bal (Below.refl _ _) _) _))).mono ?_); rintro e w1 ⟨rfl, hB⟩; obtain ⟨B1, B2⟩ := two_box hB; have c0 : ∀ j, w1.cell? ⟨w.heap.size, j, none⟩ = _ := B1.cell; have c1 : ∀ j, w1.cell? ⟨w.heap.size + 1, j, none⟩ = _ := B2.cell; have l0 := B1.lt; have l1 := B2.lt; clear T0)
    | (go_at_call 9; (with_reducible refine (T1 _ (HT.out _ (btr (bal (bal (Below.refl _ _) _) _) hB))).mono ?_); rintro e w2 ⟨rfl, hB2⟩; have D1 := B1.on hB2; have D2 := B2.on hB2; have d0 : ∀ j, w2.cell? ⟨w.heap.size, j, none⟩ = _ := D1.cell; have d1 : ∀ j, w2.cell? ⟨w.heap.size + 1, j, none⟩ = _ := D2.cell; have m0 := D1.lt; have m1 := D2.lt; clear T1)
    | (go_at_call 13; (with_reducible refine (S _ (HT.out _ (btr (btr (bal (bal (Below.refl _ _) _) _) hB) hB2))).mono ?_); rintro e w3 ⟨rfl, hB3⟩)
    | (go_at_call 10; (with_reducible refine (C _).mono ?_); rintro e w4 ⟨rfl, hB4⟩))
  go_ret
  exact ⟨rfl, btr (btr (btr (btr (bal (bal (Below.refl _ _) _) _) hB) hB2) hB3) hB4⟩
/-- Both Showns tell the same. -/
theorem shown_both (k o1 o2 o3 a1 a2 a3 : Int) : ∃ m e : Int, (∀ w, Calls Tryd.prog 12 #[.int .i64 k, rv o1 o2 o3, rv a1 a2 a3] w fun x w' => x = .returned (.tuple #[.int .u64 m, .int .i64 e]) ∧ Below w.heap.size w w') ∧ ∀ w, Tab w → Calls Tryd.prog 13 #[.int .i64 k, rv o1 o2 o3, rv a1 a2 a3] w fun x w' => x = .returned (.tuple #[.int .u64 m, .int .i64 e]) ∧ Below w.heap.size w w' := by
  by_cases h : k < 0 ∨ 16 < k
  · exact ⟨0, 2, fun w => rshown_no k o1 o2 o3 a1 a2 a3 w h, fun w _ => shown_no k o1 o2 o3 a1 a2 a3 w h⟩
  · obtain ⟨n, rfl⟩ := Int.eq_ofNat_of_zero_le (by omega : 0 ≤ k)
    by_cases hf : flt n o1 o2 o3 a1 a2 a3 = 0
    · exact ⟨_, 0, fun w => rshown_ok n o1 o2 o3 a1 a2 a3 w (by omega) hf, fun w hT => shown_ok n o1 o2 o3 a1 a2 a3 w hT (by omega) hf⟩
    · exact ⟨0, _, fun w => rshown_bad n o1 o2 o3 a1 a2 a3 w (by omega) hf, fun w _ => shown_bad n o1 o2 o3 a1 a2 a3 w (by omega) hf⟩
set_option maxHeartbeats 1000000 in
theorem shows_any (n o1 o2 o3 a1 a2 a3 : Int) (w : World) (hT : Tab w) (hn : -9223372036854775808 ≤ n ∧ n ≤ 9223372036854775807) :
    Calls Tryd.prog 4 #[.int .i64 n, rv o1 o2 o3, rv a1 a2 a3] w fun x w' => x = .returned (.bool true) ∧ Below w.heap.size w w' := by
  have HT : Hid (∀ w', Below w.heap.size w w' → Tab w') := fun w' h => hT.below h
  have AW := fun w h => awake_any w h
  clear hT
  by_cases h : 12 < n ∧ n ≤ 16
  · obtain ⟨m, e, R, S⟩ := shown_both (n - 6) o1 o2 o3 a1 a2 a3
    obtain ⟨h1, h2⟩ := h
    go_enter Tryd.func4, Tryd.ntmps4
    go_wp2_with (first
      | (go_at_call 7; (with_reducible refine (AW _ (HT.out _ (bal (bal (Below.refl _ _) _) _))).mono ?_); rintro x w1 ⟨rfl, hB⟩; obtain ⟨B1, B2⟩ := two_box hB; have c0 : ∀ j, w1.cell? ⟨w.heap.size, j, none⟩ = _ := B1.cell; have c1 : ∀ j, w1.cell? ⟨w.heap.size + 1, j, none⟩ = _ := B2.cell; have l0 := B1.lt; have l1 := B2.lt)
      | (go_at_call 12; (with_reducible refine (R _).mono ?_); rintro x w2 ⟨rfl, hB2⟩; have D1 := B1.on hB2; have D2 := B2.on hB2; have d0 : ∀ j, w2.cell? ⟨w.heap.size, j, none⟩ = _ := D1.cell; have d1 : ∀ j, w2.cell? ⟨w.heap.size + 1, j, none⟩ = _ := D2.cell; have m0 := D1.lt; have m1 := D2.lt)
      | (go_at_call 13; (with_reducible refine (S _ (HT.out _ (btr (btr (bal (bal (Below.refl _ _) _) _) hB) hB2))).mono ?_); rintro x w3 ⟨rfl, hB3⟩))
    go_ret
    exact ⟨by simp, btr (btr (btr (bal (bal (Below.refl _ _) _) _) hB) hB2) hB3⟩
  · obtain ⟨m, e, R, S⟩ := shown_both n o1 o2 o3 a1 a2 a3
    have h' : ¬ 12 < n ∨ (12 < n ∧ ¬ n ≤ 16) := by omega
    clear h
    rcases h' with h | ⟨h, h2⟩
    all_goals
      go_enter Tryd.func4, Tryd.ntmps4
      go_wp2_with (first
        | (go_at_call 7; (with_reducible refine (AW _ (HT.out _ (bal (bal (Below.refl _ _) _) _))).mono ?_); rintro x w1 ⟨rfl, hB⟩; obtain ⟨B1, B2⟩ := two_box hB; have c0 : ∀ j, w1.cell? ⟨w.heap.size, j, none⟩ = _ := B1.cell; have c1 : ∀ j, w1.cell? ⟨w.heap.size + 1, j, none⟩ = _ := B2.cell; have l0 := B1.lt; have l1 := B2.lt)
        | (go_at_call 12; (with_reducible refine (R _).mono ?_); rintro x w2 ⟨rfl, hB2⟩; have D1 := B1.on hB2; have D2 := B2.on hB2; have d0 : ∀ j, w2.cell? ⟨w.heap.size, j, none⟩ = _ := D1.cell; have d1 : ∀ j, w2.cell? ⟨w.heap.size + 1, j, none⟩ = _ := D2.cell; have m0 := D1.lt; have m1 := D2.lt)
        | (go_at_call 13; (with_reducible refine (S _ (HT.out _ (btr (btr (bal (bal (Below.refl _ _) _) _) hB) hB2))).mono ?_); rintro x w3 ⟨rfl, hB3⟩))
      go_ret
      exact ⟨by simp, btr (btr (btr (bal (bal (Below.refl _ _) _) _) hB) hB2) hB3⟩
end Go.Proofs.YtcfmhkhfmcmkbaaDoor
