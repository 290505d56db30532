/-
  Put together of: CA CL.
-/
import Derived.Test.YtcfmhkhfmcmkbaaDoorXN
namespace Go.Proofs.YtcfmhkhfmcmkbaaDoor
open Go.RowKit

theorem mono_split {f : Nat → Bool} (mo : ∀ i j : Nat, i ≤ j → f j = true → f i = true) : ∀ N : Nat, ∃ k, k ≤ N ∧ (∀ i, i < k → f i = true) ∧ ∀ i, k ≤ i → i < N → f i = false
  | 0 => ⟨0, Nat.le_refl _, fun i hi => absurd hi (Nat.not_lt_zero _), fun i _ hi => absurd hi (Nat.not_lt_zero _)⟩
  | N + 1 => by
    obtain ⟨k, hk, h1, h2⟩ := mono_split mo N
    by_cases e : k = N
    · subst e
      cases hf : f k
      · exact ⟨k, by omega, h1, fun i hi hi' => by
          obtain rfl : i = k := by omega
          exact hf⟩
      · exact ⟨k + 1, by omega, fun i hi => mo i k (by omega) hf, fun i hi hi' => by omega⟩
    · refine ⟨k, by omega, h1, fun i hi hi' => ?_⟩
      cases hf : f i
      · rfl
      · have := mo k i hi hf
        rw [h2 k (Nat.le_refl _) (by omega)] at this
        cases this
theorem shn_spec {n : Nat} {o1 o2 o3 a1 a2 a3 : Int} (ha : 0 ≤ wt a1 a2 a3) : shn n o1 o2 o3 a1 a2 a3 ≤ 2 ^ n ∧ ∀ i : Nat, i < 2 ^ n → (tells (i : Nat) n o1 o2 o3 a1 a2 a3 = decide (i < shn n o1 o2 o3 a1 a2 a3)) := by
  obtain ⟨k, hk, h1, h2⟩ := mono_split (f := fun i : Nat => tells (i : Nat) n o1 o2 o3 a1 a2 a3) (fun i j hij => tells_mono ha hij) (2 ^ n)
  have e : shn n o1 o2 o3 a1 a2 a3 = k := cnt_split h1 _ hk h2
  rw [e]
  refine ⟨hk, fun i hi => ?_⟩
  by_cases h : i < k
  · rw [decide_eq_true h]; exact h1 i h
  · rw [decide_eq_false h]; exact h2 i (by omega) hi
theorem wt_pos {a1 a2 a3 : Int} (h : isRoot a1 a2 a3) (h0 : 0 ≤ wt a1 a2 a3) (nz : ¬ (a1 = 0 ∧ a2 = 0 ∧ a3 = 0)) : 0 < wt a1 a2 a3 := by
  have hs := sign_L h
  have hne : signS a1 a2 ≠ 0 := fun e => by
    unfold signS at e
    have hz : a1 = 0 ∧ a2 = 0 := by
      split at e
      · rename_i h1
        have e1 := (sgn_zero a1).1 e
        rw [e] at h1
        exact ⟨e1, (sgn_zero a2).1 h1.symm⟩
      · rename_i h1
        split at e
        · rename_i h2
          have e1 := (sgn_zero a1).1 e
          subst e1
          have : 0 ≤ a2 * a2 := by
            rcases Int.le_total 0 a2 with h | h
            · exact Int.mul_nonneg h h
            · exact Int.mul_nonneg_of_nonpos_of_nonpos h h
          omega
        · rename_i h2
          have e1 := (sgn_zero a2).1 e
          subst e1
          have hp : a1 = 0 := by
            refine Classical.byContradiction fun hne => h2 ?_
            have : 0 < a1 * a1 := by
              rcases Int.lt_or_gt_of_ne hne with h | h
              · exact Int.mul_pos_of_neg_of_neg h h
              · exact Int.mul_pos h h
            omega
          subst hp
          exact absurd rfl h1
    obtain ⟨rfl, rfl⟩ := hz
    exact nz ⟨rfl, rfl, by rcases h.2.2.2 with h | h | h <;> omega⟩
  have : wt a1 a2 a3 ≠ 0 := fun e => hne (by rw [hs]; show sgn (wt a1 a2 a3) = 0; rw [e]; rfl)
  omega
theorem shn_sum {n : Nat} {o1 o2 o3 a1 a2 a3 r1 r2 r3 : Int} (ha : 0 < wt a1 a2 a3) (ho : 0 ≤ wt o1 o2 o3) (hle : wt o1 o2 o3 ≤ wt a1 a2 a3) (hr : wt r1 r2 r3 = wt a1 a2 a3 - wt o1 o2 o3) :
    shn n o1 o2 o3 a1 a2 a3 + shn n r1 r2 r3 a1 a2 a3 = 2 ^ n ∨ shn n o1 o2 o3 a1 a2 a3 + shn n r1 r2 r3 a1 a2 a3 = 2 ^ n + 1 := by
  obtain ⟨m1, m2⟩ := shn_spec (n := n) (o1 := o1) (o2 := o2) (o3 := o3) (Int.le_of_lt ha)
  obtain ⟨k1, k2⟩ := shn_spec (n := n) (o1 := r1) (o2 := r2) (o3 := r3) (Int.le_of_lt ha)
  generalize shn n o1 o2 o3 a1 a2 a3 = m at *
  generalize shn n r1 r2 r3 a1 a2 a3 = k at *
  have eN : (2 : Int) ^ n = ((2 ^ n : Nat) : Int) := by simp
  have up : ∀ (x : Nat) (q1 q2 q3 : Int), x ≤ 2 ^ n → wt q1 q2 q3 ≤ wt a1 a2 a3 → (∀ i : Nat, i < 2 ^ n → tells (i : Nat) n q1 q2 q3 a1 a2 a3 = decide (i < x)) → 2 ^ n * wt q1 q2 q3 ≤ (x : Nat) * wt a1 a2 a3 := fun x q1 q2 q3 hx hq h => by
    by_cases e : x < 2 ^ n
    · have := h x e
      rw [decide_eq_false (Nat.lt_irrefl _)] at this
      have := of_decide_eq_false this
      omega
    · obtain rfl : x = 2 ^ n := by omega
      rw [← eN]
      exact Int.mul_le_mul_of_nonneg_left hq (by rw [eN]; omega)
  have dn : ∀ (x : Nat) (q1 q2 q3 : Int), x ≤ 2 ^ n → 0 < x → (∀ i : Nat, i < 2 ^ n → tells (i : Nat) n q1 q2 q3 a1 a2 a3 = decide (i < x)) → ((x : Nat) - 1 : Int) * wt a1 a2 a3 < 2 ^ n * wt q1 q2 q3 := fun x q1 q2 q3 hx h0 h => by
    have := h (x - 1) (by omega)
    rw [decide_eq_true (by omega)] at this
    have := of_decide_eq_true this
    have e : ((x - 1 : Nat) : Int) = (x : Nat) - 1 := by omega
    rw [e] at this
    exact this
  have u1 := up m o1 o2 o3 m1 hle m2
  have u2 := up k r1 r2 r3 k1 (by omega) k2
  rw [hr] at u2
  have d1 := dn m o1 o2 o3 m1
  have d2 := dn k r1 r2 r3 k1
  rw [hr] at d2
  generalize wt a1 a2 a3 = A at *
  generalize wt o1 o2 o3 = O at *
  rw [eN] at u1 u2 d1 d2
  generalize (2 : Nat) ^ n = T at *
  rw [Int.mul_sub] at u2 d2
  have g1 : T ≤ m + k := by
    refine Classical.byContradiction fun h => ?_
    have h' : ((m : Nat) : Int) + (k : Nat) ≤ (T : Nat) - 1 := by omega
    have := Int.mul_le_mul_of_nonneg_right h' (Int.le_of_lt ha)
    rw [Int.add_mul, Int.sub_mul, Int.one_mul] at this
    omega
  have g2 : m + k ≤ T + 1 := by
    by_cases e1 : m = 0
    · omega
    by_cases e2 : k = 0
    · omega
    have x1 := d1 (by omega) m2
    have x2 := d2 (by omega) k2
    refine Classical.byContradiction fun h => ?_
    have h' : ((T : Nat) : Int) ≤ ((m : Nat) - 1) + ((k : Nat) - 1) := by omega
    have := Int.mul_le_mul_of_nonneg_right h' (Int.le_of_lt ha)
    rw [Int.add_mul] at this
    omega
  omega
theorem sub_wt {a b c d e f : Int} (h1 : isRoot a b c) (h2 : isRoot d e f) (h : (subR a b c d e f).e = 0) : isRoot (subR a b c d e f).p (subR a b c d e f).q (subR a b c d e f).k ∧ wt (subR a b c d e f).p (subR a b c d e f).q (subR a b c d e f).k = wt a b c - wt d e f := by
  obtain ⟨S, T, k, hk, he, v1, v2⟩ := sub_char h1 h2
  rw [he] at h ⊢
  obtain ⟨g1, g2, g3⟩ := V_ok hk h
  refine ⟨g1, ?_⟩
  unfold wt L
  rw [g2, g3, v1, v2, Int.sub_mul, Int.sub_mul]
  omega
/-- With the other weight the parts alone can be too great. -/
theorem flt_rest {n : Nat} {o1 o2 o3 a1 a2 a3 r1 r2 r3 : Int} (hk : FltOk n o1 o2 o3 a1 a2 a3) (hr : isRoot r1 r2 r3) (hw : wt r1 r2 r3 = wt a1 a2 a3 - wt o1 o2 o3) : flt n r1 r2 r3 a1 a2 a3 = 0 ∨ flt n r1 r2 r3 a1 a2 a3 = 3 := by
  have e1 : (¬ isRoot r1 r2 r3) = False := eq_false (not_not_intro hr)
  have e2 : (¬ isRoot a1 a2 a3) = False := eq_false (not_not_intro hk.ra)
  have e3 := eq_false hk.nz
  have e4 : (wt a1 a2 a3 < 0 ∨ wt r1 r2 r3 < 0 ∨ wt a1 a2 a3 < wt r1 r2 r3) = False := eq_false (by have := hk.pa; have := hk.po; have := hk.le; omega)
  unfold flt
  simp only [e1, e2, e3, e4, if_false]
  split
  · exact .inl rfl
  · exact .inr rfl
end Go.Proofs.YtcfmhkhfmcmkbaaDoor
namespace Go.Proofs.YtcfmhkhfmcmkbaaDoor
open Go.RowKit

theorem run_rne (a b c d e f : Int) (w : World) : (binOp .neq 24 (rv a b c) (rv d e f)).run Tryd.prog w = .ok (.bool (!decide (a = d ∧ b = e ∧ c = f))) w := by
  simp [go_sem]
  by_cases h1 : a = d <;> by_cases h2 : b = e <;> by_cases h3 : c = f <;> simp [h1, h2, h3]
/-- The six numbers. -/
def six (m : Nat) (T : Nat) (k : Nat) : Int := if k = 0 then 0 else if k = 1 then (if m = 0 then 18446744073709551615 else (m : Int) - 1) else if k = 2 then (m : Int) else if k = 3 then (m : Int) + 1 else if k = 4 then (T : Int) - 1 else ((T / 3 : Nat) : Int)
theorem six_in {m T : Nat} (hm : m ≤ 65536) (hT : 1 ≤ T ∧ T ≤ 65536) (k : Nat) : 0 ≤ six m T k ∧ six m T k < 18446744073709551616 := by
  unfold six
  repeat' split
  all_goals omega
structure LW (w wr : World) (B : Nat) (m T : Nat) (o1 o2 o3 a1 a2 a3 : Int) : Prop where
  below : Below w.heap.size w wr
  b1 : BK wr w.heap.size (rc o1 o2 o3) 24
  b2 : BK wr (w.heap.size + 1) (rc a1 a2 a3) 24
  bl : BK wr B #[.int .u64 (six m T 0), .int .u64 (six m T 1), .int .u64 (six m T 2), .int .u64 (six m T 3), .int .u64 (six m T 4), .int .u64 (six m T 5)] 26
theorem LW.on {w wr W : World} {B m T : Nat} {o1 o2 o3 a1 a2 a3 : Int} (h : LW w wr B m T o1 o2 o3 a1 a2 a3) (g : Below wr.heap.size wr W) : LW w W B m T o1 o2 o3 a1 a2 a3 := ⟨btr h.below g, h.b1.on g, h.b2.on g, h.bl.on g⟩
theorem LW.at_ {w wr : World} {B m T : Nat} {o1 o2 o3 a1 a2 a3 : Int} (h : LW w wr B m T o1 o2 o3 a1 a2 a3) {k : Nat} (hk : k < 6) : wr.cell? ⟨B, k, none⟩ = some (.int .u64 (six m T k)) := by
  rw [h.bl.cell k]
  have : k = 0 ∨ k = 1 ∨ k = 2 ∨ k = 3 ∨ k = 4 ∨ k = 5 := by omega
  rcases this with rfl | rfl | rfl | rfl | rfl | rfl <;> rfl
set_option maxHeartbeats 4000000 in
set_option maxRecDepth 100000 in
theorem lowest_ok (n : Nat) (o1 o2 o3 a1 a2 a3 : Int) (w : World) (hT : Tab w) (hn : n ≤ 16) (h : flt n o1 o2 o3 a1 a2 a3 = 0) :
    Calls Tryd.prog 6 #[.int .i64 (n : Nat), rv o1 o2 o3, rv a1 a2 a3] w fun x w' => x = .returned (.bool true) ∧ Below w.heap.size w w' := by
  have hk := flt_ok h
  have AW := fun w h => awake_any w h
  have SH := fun w h' => shown_ok n o1 o2 o3 a1 a2 a3 w h' hn h
  obtain ⟨hm, hte⟩ := shn_spec (n := n) (o1 := o1) (o2 := o2) (o3 := o3) hk.pa
  have hp := pow_cases n hn
  have eN : (2 : Int) ^ n = ((2 ^ n : Nat) : Int) := by simp
  have TN : Hid (∀ x : Int, 2 ^ n ≤ x → ∀ w, Calls Tryd.prog 9 #[cv x (n : Nat), rv o1 o2 o3, rv a1 a2 a3] w fun r w' => r = .returned (.tuple #[.int .i64 0, .bool false, .int .i64 2]) ∧ Below w.heap.size w w') := fun x hx w => toss_no x (n : Nat) o1 o2 o3 a1 a2 a3 w (by omega) (fun hc => by have := hc.2; rw [Int.toNat_natCast] at this; omega)
  have TY : Hid (∀ i : Nat, i < 2 ^ n → ∀ w, Tab w → Calls Tryd.prog 9 #[cv (i : Nat) (n : Nat), rv o1 o2 o3, rv a1 a2 a3] w fun r w' => r = .returned (.tuple #[.int .i64 (if i < shn n o1 o2 o3 a1 a2 a3 then 1 else 0), .bool (crt o1 o2 o3 a1 a2 a3), .int .i64 0]) ∧ Below w.heap.size w w') := fun i hi w hT => by
    have := toss_ok (i : Nat) n o1 o2 o3 a1 a2 a3 w hT ⟨by omega, by rw [eN]; omega⟩ hn h
    rw [hte i hi] at this
    simp only [decide_eq_true_eq] at this
    exact this
  have hz0 : (o1 = 0 ∧ o2 = 0 ∧ o3 = 0) → shn n o1 o2 o3 a1 a2 a3 = 0 := fun ⟨e1, e2, e3⟩ => by
    refine Classical.byContradiction fun hne => ?_
    have := hte 0 (by have := hp.2.1; rw [eN] at this; omega)
    rw [decide_eq_true (by omega)] at this
    have := of_decide_eq_true this
    rw [e1, e2, e3, wt_zero] at this
    simp at this
  have SB := fun w h => sub_any a1 a2 a3 o1 o2 o3 w h
  have RS : Hid ((subR a1 a2 a3 o1 o2 o3).e = 0 → (flt n (subR a1 a2 a3 o1 o2 o3).p (subR a1 a2 a3 o1 o2 o3).q (subR a1 a2 a3 o1 o2 o3).k a1 a2 a3 = 3 ∧ ∀ w, Calls Tryd.prog 13 #[.int .i64 (n : Nat), rv (subR a1 a2 a3 o1 o2 o3).p (subR a1 a2 a3 o1 o2 o3).q (subR a1 a2 a3 o1 o2 o3).k, rv a1 a2 a3] w fun x w' => x = .returned (.tuple #[.int .u64 0, .int .i64 3]) ∧ Below w.heap.size w w') ∨
      ∃ k : Nat, k ≤ 65536 ∧ (shn n o1 o2 o3 a1 a2 a3 + k = 2 ^ n ∨ shn n o1 o2 o3 a1 a2 a3 + k = 2 ^ n + 1) ∧ ∀ w, Tab w → Calls Tryd.prog 13 #[.int .i64 (n : Nat), rv (subR a1 a2 a3 o1 o2 o3).p (subR a1 a2 a3 o1 o2 o3).q (subR a1 a2 a3 o1 o2 o3).k, rv a1 a2 a3] w fun x w' => x = .returned (.tuple #[.int .u64 (k : Nat), .int .i64 0]) ∧ Below w.heap.size w w') := fun he => by
    obtain ⟨g1, g2⟩ := sub_wt hk.ra hk.ro he
    rcases flt_rest hk g1 g2 with hf | hf
    · have hs := shn_spec (n := n) (o1 := (subR a1 a2 a3 o1 o2 o3).p) (o2 := (subR a1 a2 a3 o1 o2 o3).q) (o3 := (subR a1 a2 a3 o1 o2 o3).k) hk.pa
      exact .inr ⟨_, by have := hs.1; rw [eN] at hp; omega, shn_sum (wt_pos hk.ra hk.pa hk.nz) hk.po hk.le g2, fun w hT => shown_ok n _ _ _ a1 a2 a3 w hT hn hf⟩
    · refine .inl ⟨hf, fun w => ?_⟩
      have := shown_bad n (subR a1 a2 a3 o1 o2 o3).p (subR a1 a2 a3 o1 o2 o3).q (subR a1 a2 a3 o1 o2 o3).k a1 a2 a3 w hn (by rw [hf]; decide)
      rw [hf] at this
      exact this
  have Q1 := fun w => run_req o1 o2 o3 0 0 0 w
  have Q2 := fun w => run_req o1 o2 o3 a1 a2 a3 w
  have Q3 := fun w => run_rne o1 o2 o3 a1 a2 a3 w
  have HT : Hid (∀ w', Below w.heap.size w w' → Tab w') := fun w' h => hT.below h
  have HZ := hid hz0
  unfold crt at TY
  clear h hk hte hT hz0
  generalize subR a1 a2 a3 o1 o2 o3 = r at *
  generalize shn n o1 o2 o3 a1 a2 a3 = m at *
  obtain ⟨y0, hy0⟩ : ∃ y0, y0 = decide (o1 = 0 ∧ o2 = 0 ∧ o3 = 0) := ⟨_, rfl⟩
  obtain ⟨yE, hyE⟩ : ∃ yE, yE = decide (o1 = a1 ∧ o2 = a2 ∧ o3 = a3) := ⟨_, rfl⟩
  rw [← hy0] at Q1 TY
  rw [← hyE] at Q2 Q3 TY
  have HY : Hid (y0 = true → m = 0) := fun h => HZ.out (of_decide_eq_true (by rw [← hy0]; exact h))
  clear hy0 hyE HZ
  have n0 : ¬ ((n : Nat) : Int) < 0 := by omega
  have n1 : ¬ (16 : Int) < (n : Nat) := by omega
  have wT : IntKind.u64.wrap (2 ^ n) = (2 : Int) ^ n := hp.1
  have hmT : ¬ (2 : Int) ^ n < (m : Nat) := by rw [eN]; omega
  have hT6 : 1 ≤ 2 ^ n ∧ 2 ^ n ≤ 65536 := by rw [eN] at hp; omega
  have EN := hid eN
  clear eN
  go_enter Tryd.func6, Tryd.ntmps6
  go_upto_region 8 with (first
    | (go_at_call 7; (with_reducible refine (AW _ (HT.out _ (bal (bal (Below.refl _ _) _) _))).mono ?_); rintro x w1 ⟨rfl, hB⟩; obtain ⟨B1, B2⟩ := two_box hB; have c0 : ∀ j, w1.cell? ⟨w.heap.size, j, none⟩ = _ := B1.cell; have c1 : ∀ j, w1.cell? ⟨w.heap.size + 1, j, none⟩ = _ := B2.cell; have l0 := B1.lt; have l1 := B2.lt)
    | (go_at_call 13; (with_reducible refine (SH _ (HT.out _ (btr (bal (bal (Below.refl _ _) _) _) hB))).mono ?_); rintro x w2 ⟨rfl, hB2⟩; have D1 := B1.on hB2; have D2 := B2.on hB2))
  go_region
  have w1' : IntKind.u64.wrap ((m : Nat) - 1 : Int) = six m (2 ^ n) 1 := by
    rw [IntKind.wrap_u64]
    unfold six
    simp only [show ¬ (1 : Nat) = 0 by decide, if_false, if_true]
    split <;> omega
  have w4' : (2 : Int) ^ n - 1 = six m (2 ^ n) 4 := by rw [EN.out]; rfl
  have w5' : (2 : Int) ^ n / 3 = six m (2 ^ n) 5 := by rw [EN.out]; unfold six; simp
  have HA : (#[.int .u64 0, .int .u64 (IntKind.u64.wrap ((m : Nat) - 1 : Int)), .int .u64 (m : Nat), .int .u64 ((m : Nat) + 1 : Int), .int .u64 (2 ^ n - 1), .int .u64 (2 ^ n / 3)] : Array Value) = #[.int .u64 (six m (2 ^ n) 0), .int .u64 (six m (2 ^ n) 1), .int .u64 (six m (2 ^ n) 2), .int .u64 (six m (2 ^ n) 3), .int .u64 (six m (2 ^ n) 4), .int .u64 (six m (2 ^ n) 5)] := by rw [w1', w4', w5']; rfl
  have HS : Hid (LW w (w2.alloc (.cells #[.int .u64 0, .int .u64 (IntKind.u64.wrap ((m : Nat) - 1 : Int)), .int .u64 (m : Nat), .int .u64 ((m : Nat) + 1 : Int), .int .u64 (2 ^ n - 1), .int .u64 (2 ^ n / 3)] 26)).drew w2.heap.size m (2 ^ n) o1 o2 o3 a1 a2 a3) := by
    have hb : BK (w2.alloc (.cells #[.int .u64 0, .int .u64 (IntKind.u64.wrap ((m : Nat) - 1 : Int)), .int .u64 (m : Nat), .int .u64 ((m : Nat) + 1 : Int), .int .u64 (2 ^ n - 1), .int .u64 (2 ^ n / 3)] 26)).drew w2.heap.size #[.int .u64 0, .int .u64 (IntKind.u64.wrap ((m : Nat) - 1 : Int)), .int .u64 (m : Nat), .int .u64 ((m : Nat) + 1 : Int), .int .u64 (2 ^ n - 1), .int .u64 (2 ^ n / 3)] 26 := (bk_new w2 _ _).drew
    refine ⟨below_drew (bal (btr (btr (bal (bal (Below.refl w.heap.size w) _) _) hB) hB2) _), (D1.alloc _).drew, (D2.alloc _).drew, ?_⟩
    rw [← HA]
    exact hb
  have HSX : Hid (∀ k, 0 ≤ six m (2 ^ n) k ∧ six m (2 ^ n) k < 18446744073709551616) := fun k => six_in (by omega) hT6 k
  obtain ⟨V, hV⟩ : ∃ V, V = (w2.alloc (.cells #[.int .u64 0, .int .u64 (IntKind.u64.wrap ((m : Nat) - 1 : Int)), .int .u64 (m : Nat), .int .u64 ((m : Nat) + 1 : Int), .int .u64 (2 ^ n - 1), .int .u64 (2 ^ n / 3)] 26)).drew := ⟨_, rfl⟩
  rw [← hV] at HS ⊢
  clear hV HA w1' w4' w5' hB hB2 B1 B2 D1 D2 c0 c1 l0 l1 SH AW
  generalize w2.heap.size = B at *
  go_wp2
  go_loopw [55] (fun v55 wr => ∃ k : Nat, k ≤ 6 ∧ v55 = .int .i64 (k : Nat) ∧ Hid (LW w wr B m (2 ^ n) o1 o2 o3 a1 a2 a3)) (fun v55 _ => 6 - (intOf v55).toNat)
  case atStart => exact ⟨0, Nat.zero_le _, rfl, HS⟩
  case round =>
    obtain ⟨k, hk, rfl, hS⟩ := hrel
    clear HS
    by_cases hlt : k < 6
    · have hkI : ((k : Nat) : Int) < 6 := by omega
      have hkc := hS.out.at_ hlt
      have hkr := HSX.out k
      have e0 : ∀ j, wr.cell? ⟨w.heap.size, j, none⟩ = _ := hS.out.b1.cell
      have e1 : ∀ j, wr.cell? ⟨w.heap.size + 1, j, none⟩ = _ := hS.out.b2.cell
      have e2 := hS.out.b1.lt
      have e3 := hS.out.b2.lt
      have e4 := hS.out.bl.lt
      generalize six m (2 ^ n) k = x at *
      by_cases hx : (2 : Int) ^ n ≤ x
      · have R := TN.out x hx
        go_wp2_with (go_at_call 9; (with_reducible refine (R _).mono ?_); rintro rr w3 ⟨rfl, hB3⟩)
        exact ⟨⟨k + 1, by omega, by simp, hS.out.on hB3⟩, by simp [intOf]; omega⟩
      · obtain ⟨i, rfl⟩ := Int.eq_ofNat_of_zero_le hkr.1
        have hi : i < 2 ^ n := by rw [EN.out] at hx; omega
        have R := TY.out i hi
        clear TN TY RS SB
        by_cases him : i < m
        · have hy : y0 = false := by
            cases hy0 : y0
            · rfl
            · have := HY.out hy0; omega
          subst hy
          have himI : ((i : Nat) : Int) < (m : Nat) := by omega
          rw [if_pos him] at R
          cases yE
          all_goals
            go_wp2_with (go_at_call 9; (with_reducible refine (R _ (HT.out _ hS.out.below)).mono ?_); rintro rr w3 ⟨rfl, hB3⟩; have hS3 := hid (hS.out.on hB3); have g0 : ∀ j, w3.cell? ⟨w.heap.size, j, none⟩ = _ := hS3.out.b1.cell; have g1 : ∀ j, w3.cell? ⟨w.heap.size + 1, j, none⟩ = _ := hS3.out.b2.cell; have g2 := hS3.out.b1.lt; have g3 := hS3.out.b2.lt)
            exact ⟨⟨k + 1, by omega, by simp, hS3⟩, by simp [intOf]; omega⟩
        · have himI : ¬ ((i : Nat) : Int) < (m : Nat) := by omega
          rw [if_neg him] at R
          cases y0 <;> cases yE
          all_goals
            go_wp2_with (go_at_call 9; (with_reducible refine (R _ (HT.out _ hS.out.below)).mono ?_); rintro rr w3 ⟨rfl, hB3⟩; have hS3 := hid (hS.out.on hB3); have g0 : ∀ j, w3.cell? ⟨w.heap.size, j, none⟩ = _ := hS3.out.b1.cell; have g1 : ∀ j, w3.cell? ⟨w.heap.size + 1, j, none⟩ = _ := hS3.out.b2.cell; have g2 := hS3.out.b1.lt; have g3 := hS3.out.b2.lt)
            exact ⟨⟨k + 1, by omega, by simp, hS3⟩, by simp [intOf]; omega⟩
    · obtain rfl : k = 6 := by omega
      have e0 : ∀ j, wr.cell? ⟨w.heap.size, j, none⟩ = _ := hS.out.b1.cell
      have e1 : ∀ j, wr.cell? ⟨w.heap.size + 1, j, none⟩ = _ := hS.out.b2.cell
      have e2 := hS.out.b1.lt
      have e3 := hS.out.b2.lt
      clear TN TY
      by_cases hre : r.e = 0
      · rcases RS.out hre with ⟨_, R3⟩ | ⟨kk, hk6, hsum, R3⟩
        · go_wp2_with (first
            | (go_at_call 18; (with_reducible refine (SB _ (HT.out _ hS.out.below)).mono ?_); rintro rr w3 ⟨rfl, hB3⟩; have hS3 := hid (hS.out.on hB3); have g1 : ∀ j, w3.cell? ⟨w.heap.size + 1, j, none⟩ = _ := hS3.out.b2.cell; have g3 := hS3.out.b2.lt)
            | (go_at_call 13; (with_reducible refine (R3 _).mono ?_); rintro rr w4 ⟨rfl, hB4⟩))
          go_ret
          exact ⟨rfl, btr (bal (btr hS.out.below hB3) _) hB4⟩
        · have hm6 : m ≤ 65536 := by omega
          rcases hsum with hsum | hsum
          · have h1 : ((m : Nat) : Int) + (kk : Nat) = 2 ^ n := by rw [EN.out]; omega
            go_wp2_with (first
              | (go_at_call 18; (with_reducible refine (SB _ (HT.out _ hS.out.below)).mono ?_); rintro rr w3 ⟨rfl, hB3⟩; have hS3 := hid (hS.out.on hB3); have g1 : ∀ j, w3.cell? ⟨w.heap.size + 1, j, none⟩ = _ := hS3.out.b2.cell; have g3 := hS3.out.b2.lt)
              | (go_at_call 13; (with_reducible refine (R3 _ (HT.out _ (bal (btr hS.out.below hB3) _))).mono ?_); rintro rr w4 ⟨rfl, hB4⟩))
            go_ret
            exact ⟨rfl, btr (bal (btr hS.out.below hB3) _) hB4⟩
          · have h1 : ((m : Nat) : Int) + (kk : Nat) = 2 ^ n + 1 := by rw [EN.out]; omega
            have h2 : ¬ ((m : Nat) : Int) + (kk : Nat) = 2 ^ n := by rw [EN.out]; omega
            go_wp2_with (first
              | (go_at_call 18; (with_reducible refine (SB _ (HT.out _ hS.out.below)).mono ?_); rintro rr w3 ⟨rfl, hB3⟩; have hS3 := hid (hS.out.on hB3); have g1 : ∀ j, w3.cell? ⟨w.heap.size + 1, j, none⟩ = _ := hS3.out.b2.cell; have g3 := hS3.out.b2.lt)
              | (go_at_call 13; (with_reducible refine (R3 _ (HT.out _ (bal (btr hS.out.below hB3) _))).mono ?_); rintro rr w4 ⟨rfl, hB4⟩))
            go_ret
            exact ⟨rfl, btr (bal (btr hS.out.below hB3) _) hB4⟩
      · go_wp2_with (go_at_call 18; (with_reducible refine (SB _ (HT.out _ hS.out.below)).mono ?_); rintro rr w3 ⟨rfl, hB3⟩)
        go_ret
        exact ⟨rfl, bal (btr hS.out.below hB3) _⟩
set_option maxHeartbeats 1000000 in
set_option maxRecDepth 100000 in
theorem lowest_no (n o1 o2 o3 a1 a2 a3 e : Int) (w : World) (hT : Tab w) (he : ¬ e = 0) (SH : ∀ w, Calls Tryd.prog 13 #[.int .i64 n, rv o1 o2 o3, rv a1 a2 a3] w fun x w' => x = .returned (.tuple #[.int .u64 0, .int .i64 e]) ∧ Below w.heap.size w w') :
    Calls Tryd.prog 6 #[.int .i64 n, rv o1 o2 o3, rv a1 a2 a3] w fun x w' => x = .returned (.bool true) ∧ Below w.heap.size w w' := by
  have AW := fun w h => awake_any w h
  have HT : Hid (∀ w', Below w.heap.size w w' → Tab w') := fun w' h => hT.below h
  clear hT
  go_enter Tryd.func6, Tryd.ntmps6
  go_wp2_with (first
    | (go_at_call 7; (with_reducible refine (AW _ (HT.out _ (bal (bal (Below.refl _ _) _) _))).mono ?_); rintro x w1 ⟨rfl, hB⟩; obtain ⟨B1, B2⟩ := two_box hB; have c0 : ∀ j, w1.cell? ⟨w.heap.size, j, none⟩ = _ := B1.cell; have c1 : ∀ j, w1.cell? ⟨w.heap.size + 1, j, none⟩ = _ := B2.cell; have l0 := B1.lt; have l1 := B2.lt)
    | (go_at_call 13; (with_reducible refine (SH _).mono ?_); rintro x w2 ⟨rfl, hB2⟩))
  go_ret
  exact ⟨rfl, btr (btr (bal (bal (Below.refl _ _) _) _) hB) hB2⟩
theorem lowest_any (n o1 o2 o3 a1 a2 a3 : Int) (w : World) (hT : Tab w) (_ : -9223372036854775808 ≤ n ∧ n ≤ 9223372036854775807) :
    Calls Tryd.prog 6 #[.int .i64 n, rv o1 o2 o3, rv a1 a2 a3] w fun x w' => x = .returned (.bool true) ∧ Below w.heap.size w w' := by
  by_cases h : n < 0 ∨ 16 < n
  · exact lowest_no n o1 o2 o3 a1 a2 a3 2 w hT (by decide) (fun w => shown_no n o1 o2 o3 a1 a2 a3 w h)
  · obtain ⟨k, rfl⟩ := Int.eq_ofNat_of_zero_le (by omega : 0 ≤ n)
    by_cases hf : flt k o1 o2 o3 a1 a2 a3 = 0
    · exact lowest_ok k o1 o2 o3 a1 a2 a3 w hT (by omega) hf
    · exact lowest_no k o1 o2 o3 a1 a2 a3 _ w hT (by omega) (fun w => shown_bad k o1 o2 o3 a1 a2 a3 w (by omega) hf)
end Go.Proofs.YtcfmhkhfmcmkbaaDoor
