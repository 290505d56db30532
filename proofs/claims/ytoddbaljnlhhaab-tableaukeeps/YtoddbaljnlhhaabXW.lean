/-
  Put together of: E4.
-/
import Derived.Test.YtoddbaljnlhhaabXU
import Derived.Test.YtoddbaljnlhhaabXV
namespace Go.Proofs.Ytoddbaljnlhhaab
open Go.RowKit Go.Sort
open PL (pv PS bt)

/-- Does v stand among the first k? -/
def hasV (q : Nat → Int) (v : Int) : Nat → Bool
  | 0 => false
  | k + 1 => hasV q v k || q k == v
/-- Is one of the first k out of range? -/
def outQ (n : Int) (q : Nat → Int) : Nat → Bool
  | 0 => false
  | k + 1 => outQ n q k || !decide (0 ≤ q k ∧ q k < n)
/-- Does one of the first k stand there twice? -/
def dupQ (q : Nat → Int) : Nat → Bool
  | 0 => false
  | k + 1 => dupQ q k || hasV q (q k) k
theorem hasV_mono {q : Nat → Int} {v : Int} {j k : Nat} (h : j ≤ k) (hj : hasV q v j = true) : hasV q v k = true := by
  induction k with
  | zero => obtain rfl : j = 0 := by omega
            exact hj
  | succ k ih =>
    by_cases e : j = k + 1
    · rw [← e]; exact hj
    · unfold hasV; rw [ih (by omega)]; rfl
theorem outQ_mono {n : Int} {q : Nat → Int} {j k : Nat} (h : j ≤ k) (hj : outQ n q j = true) : outQ n q k = true := by
  induction k with
  | zero => obtain rfl : j = 0 := by omega
            exact hj
  | succ k ih =>
    by_cases e : j = k + 1
    · rw [← e]; exact hj
    · unfold outQ; rw [ih (by omega)]; rfl
theorem dupQ_mono {q : Nat → Int} {j k : Nat} (h : j ≤ k) (hj : dupQ q j = true) : dupQ q k = true := by
  induction k with
  | zero => obtain rfl : j = 0 := by omega
            exact hj
  | succ k ih =>
    by_cases e : j = k + 1
    · rw [← e]; exact hj
    · unfold dupQ; rw [ih (by omega)]; rfl
/-- What is wrong with a gate on these qubits. -/
def gE (n : Int) (s : ByteArray) (q : Nat → Int) (m : Nat) : Int :=
  if gar s = 0 then 80 else if ¬ m = gar s then 111 else if outQ n q m = true then 112 else if dupQ q m = true then 113 else if gcl s = true then 0 else 181
set_option maxHeartbeats 1000000 in
theorem index_any (q : Nat → Int) (v : Int) (aq : Option Addr) (m cq : Nat) (w : World) (HQ : BL.Row aq q m w) (hm : m ≤ cq) (hc : cq ≤ 9223372036854775807) :
    Calls Try.prog 75 #[.slice aq m cq, .int .i64 v] w fun e w' => ∃ r : Int, e = .returned (.int .i64 r) ∧ (0 ≤ r ↔ hasV q v m = true) ∧ w' = w := by
  have HH := hid HQ
  clear HQ
  go_enter Try.func75, Try.ntmps75
  go_wp2
  go_loop [8] (fun v8 => ∃ k : Nat, k ≤ m ∧ v8 = .int .i64 (k : Nat) ∧ Hid (hasV q v k = false)) (fun v8 => m - (intOf v8).toNat)
  case atStart => exact ⟨0, Nat.zero_le _, rfl, rfl⟩
  case round =>
    obtain ⟨k, hk, rfl, HV⟩ := hrel
    by_cases hlt : k < m
    case neg =>
      obtain rfl : k = m := by omega
      go_wp2
      go_ret
      exact ⟨-1, rfl, by rw [HV.out]; simp, rfl⟩
    obtain ⟨b, o, rfl, hcell⟩ := HH.out.at_ k hlt
    have HS : Hid (hasV q v (k + 1) = (hasV q v k || q k == v)) := rfl
    have HM : Hid (hasV q v (k + 1) = true → hasV q v m = true) := fun h => hasV_mono (by omega) h
    have hkm : k < 9223372036854775807 := by omega
    generalize q k = u at *
    by_cases e : v = u
    · subst e
      have hY : Hid (hasV q v m = true) := HM.out (by rw [HS.out]; simp)
      go_wp2
      go_ret
      exact ⟨_, rfl, ⟨fun _ => hY.out, fun _ => by omega⟩, rfl⟩
    · have e2 : ¬ u = v := fun h => e h.symm
      have hY : Hid (hasV q v (k + 1) = false) := by show _ = _; rw [HS.out, HV.out]; simp [e2]
      go_wp2
      go_round
      case rel => exact ⟨k + 1, by omega, by go_num, hY⟩
      case measure => simp [intOf]; omega
set_option maxHeartbeats 1000000 in
theorem contains_any (q : Nat → Int) (v : Int) (aq : Option Addr) (m cq : Nat) (w : World) (HQ : BL.Row aq q m w) (hm : m ≤ cq) (hc : cq ≤ 9223372036854775807) :
    Calls Try.prog 53 #[.slice aq m cq, .int .i64 v] w fun e w' => e = .returned (.bool (hasV q v m)) ∧ w' = w := by
  have IX := index_any q v aq m cq w HQ hm hc
  clear HQ
  generalize hasV q v m = b at *
  go_enter Try.func53, Try.ntmps53
  go_wp2_with (go_at_call 75; (with_reducible refine IX.mono ?_); rintro e w1 ⟨r, rfl, hr, rfl⟩; (have HR := hid hr); clear hr)
  go_ret
  refine ⟨?_, rfl⟩
  have hr := HR.out
  show Ending.returned (.bool (decide (0 ≤ r))) = _
  by_cases h : 0 ≤ r
  · rw [hr.1 h, decide_eq_true h]
  · have : b = false := by cases b with
      | false => rfl
      | true => exact absurd (hr.2 rfl) h
    rw [this, decide_eq_false h]
set_option maxHeartbeats 1000000 in
set_option maxRecDepth 100000 in
theorem checkGate_any (t : Tb) (a : Option Addr) (c : Nat) (s : ByteArray) (q : Nat → Int) (aq : Option Addr) (m cq : Nat) (w : World) (HQ : BL.Row aq q m w) (hm : m ≤ cq) (hc : cq ≤ 9223372036854775807) :
    Calls Try.prog 30 #[t.v a c, .string s, .slice aq m cq] w fun e w' => e = .returned (.int .i64 (gE t.n s q m)) ∧ Below w.heap.size w w' := by
  have AR := fun w => arity_any s w
  have CL := fun w => clifford_any s w
  have hK0 := bk_new w #[.int .i64 t.n, .slice a t.rows.length c] 24
  have hB0 := bal (Below.refl w.heap.size w) (.cells #[.int .i64 t.n, .slice a t.rows.length c] 24)
  by_cases h0 : gar s = 0
  · have hE : gE t.n s q m = 80 := by unfold gE; rw [if_pos h0]
    rw [hE]
    rw [h0] at AR
    clear CL HQ hE h0
    obtain ⟨n, rs⟩ := t
    go_enter Try.func30, Try.ntmps30
    go_wp2_with (go_at_call 52; (with_reducible refine (AR _).mono ?_); rintro e w1 ⟨rfl, hB1⟩)
    go_ret
    exact ⟨rfl, btr hB0 hB1⟩
  by_cases hme : m = gar s
  case neg =>
    have hE : gE t.n s q m = 111 := by unfold gE; rw [if_neg h0, if_pos hme]
    rw [hE]
    have hn0 : ((gar s : Nat) : Int) ≠ 0 := by omega
    have hn1 : ((m : Nat) : Int) ≠ (gar s : Nat) := by omega
    have hn1' : ((m : Int) != (gar s : Nat)) = true := bne_iff_ne.2 hn1
    clear CL HQ hE h0 hme
    generalize gar s = g at *
    obtain ⟨n, rs⟩ := t
    go_enter Try.func30, Try.ntmps30
    go_wp2_with (go_at_call 52; (with_reducible refine (AR _).mono ?_); rintro e w1 ⟨rfl, hB1⟩)
    go_ret
    exact ⟨rfl, btr hB0 hB1⟩
  have hE : gE t.n s q m = if outQ t.n q m = true then 112 else if dupQ q m = true then 113 else if gcl s = true then 0 else 181 := by unfold gE; rw [if_neg h0, if_neg (by omega)]
  have HE := hid hE
  have hg3 := gar_le s
  rw [← hme] at AR h0 hg3
  have HHQ := fun (x : Int) w => hasQubit_any t a c x w
  have CT := hid (fun (v : Int) (k : Nat) (hk : k ≤ m) w (h : BL.Row aq q k w) => contains_any q v aq k cq w h (by omega) hc)
  have HH := hid HQ
  obtain ⟨E, hEE⟩ : ∃ E, E = gE t.n s q m := ⟨_, rfl⟩
  rw [← hEE] at HE ⊢
  clear hE hme HQ hEE
  generalize gcl s = gc at *
  have hm0 : ((m : Int) == 0) = false := beq_eq_false_iff_ne.2 (by omega)
  have hm1 : decide ((m : Int) = 0) = false := decide_eq_false (by omega)
  have hm2 : ((m : Int) != (m : Int)) = false := bne_self_eq_false' _
  obtain ⟨n, rs⟩ := t
  simp only at *
  go_enter Try.func30, Try.ntmps30
  go_wp2_with (go_at_call 52; (with_reducible refine (AR _).mono ?_); rintro e w1 ⟨rfl, hB1⟩)
  have HK1 := hid (bk_on hK0 hB1)
  have HB1 := hid (btr hB0 hB1)
  clear hK0 hB0 hB1 AR
  go_loopw [22] (fun v22 wx => ∃ k : Nat, k ≤ m ∧ v22 = .int .i64 (k : Nat) ∧ Hid (BK wx w.heap.size #[.int .i64 n, .slice a rs.length c] 24) ∧ Hid (Below w.heap.size w wx) ∧ Hid (outQ n q k = false)) (fun v22 _ => m - (intOf v22).toNat)
  case atStart => exact ⟨0, Nat.zero_le _, rfl, HK1, HB1, rfl⟩
  case round =>
    clear HK1 HB1
    obtain ⟨k, hk, rfl, HK1, HB1, HO⟩ := hrel
    have d1 := HK1.out.cell
    have l1 := HK1.out.lt
    by_cases hlt : k < m
    case pos =>
      obtain ⟨b, o, rfl, hcell⟩ := (HH.out.below HB1.out).at_ k hlt
      have hbl := block_lt_of_cell hcell
      have HS : Hid (outQ n q (k + 1) = (outQ n q k || !decide (0 ≤ q k ∧ q k < n))) := rfl
      have HM : Hid (outQ n q (k + 1) = true → outQ n q m = true) := fun h => outQ_mono (by omega) h
      have R := HHQ (q k)
      generalize q k = u at *
      by_cases hin : 0 ≤ u ∧ u < n
      · have hY : Hid (outQ n q (k + 1) = false) := by show _ = _; rw [HS.out, HO.out, decide_eq_true hin]; rfl
        rw [decide_eq_true hin] at R
        clear hin HS
        go_wp2_with (go_at_call 49; (with_reducible refine (R _).mono ?_); rintro e w2 ⟨rfl, hB2⟩)
        exact ⟨⟨k + 1, by omega, rfl, bk_on HK1.out hB2, btr HB1.out hB2, hY⟩, by simp only [intOf]; omega⟩
      · have hY : Hid (E = 112) := by
          show _ = _
          rw [HE.out, if_pos (HM.out (by rw [HS.out, decide_eq_false hin]; simp))]
        rw [decide_eq_false hin] at R
        clear hin HS
        go_wp2_with (go_at_call 49; (with_reducible refine (R _).mono ?_); rintro e w2 ⟨rfl, hB2⟩)
        go_ret
        exact ⟨by rw [hY.out]; rfl, btr HB1.out hB2⟩
    obtain rfl : k = m := by omega
    have HE2 : Hid (E = if dupQ q k = true then 113 else if gc = true then 0 else 181) := by
      show _ = _
      rw [HE.out, if_neg (by rw [HO.out]; decide)]
    clear HE HO
    go_wp2
    go_loopw [33] (fun v33 wx => ∃ j : Nat, j ≤ k ∧ v33 = .int .i64 (j : Nat) ∧ Hid (Below w.heap.size w wx) ∧ Hid (dupQ q j = false)) (fun v33 _ => k - (intOf v33).toNat)
    case atStart => exact ⟨0, Nat.zero_le _, rfl, HB1, rfl⟩
    case round =>
      clear HB1 d1 l1 HK1
      obtain ⟨j, hj, rfl, HB1, HD⟩ := hrel
      by_cases hlj : j < k
      case pos =>
        obtain ⟨b, o, rfl, hcell⟩ := (HH.out.below HB1.out).at_ j hlj
        have HS : Hid (dupQ q (j + 1) = (dupQ q j || hasV q (q j) j)) := rfl
        have HM : Hid (dupQ q (j + 1) = true → dupQ q k = true) := fun h => dupQ_mono (by omega) h
        have R := CT.out (q j) j (by omega) _ ⟨fun i hi => (HH.out.below HB1.out).at_ i (by omega)⟩
        generalize q j = u at *
        by_cases hin : hasV q u j = true
        · have hY : Hid (E = 113) := by
            show _ = _
            rw [HE2.out, if_pos (HM.out (by rw [HS.out, hin]; simp))]
          rw [hin] at R
          clear hin HS
          go_wp2_with (go_at_call 53; (with_reducible refine R.mono ?_); rintro e w2 ⟨rfl, rfl⟩)
          go_ret
          exact ⟨by rw [hY.out]; rfl, HB1.out⟩
        · have hY : Hid (dupQ q (j + 1) = false) := by show _ = _; rw [HS.out, HD.out, Bool.eq_false_iff.2 hin]; rfl
          rw [Bool.eq_false_iff.2 hin] at R
          clear hin HS
          go_wp2_with (go_at_call 53; (with_reducible refine R.mono ?_); rintro e w2 ⟨rfl, rfl⟩)
          exact ⟨⟨j + 1, by omega, rfl, HB1, hY⟩, by simp only [intOf]; omega⟩
      obtain rfl : j = k := by omega
      have HE3 : Hid (E = if gc = true then 0 else 181) := by
        show _ = _
        rw [HE2.out, if_neg (by rw [HD.out]; decide)]
      clear HE2 HD
      cases gc with
      | true =>
        go_wp2_with (go_at_call 54; (with_reducible refine (CL _).mono ?_); rintro e w2 ⟨rfl, hB2⟩)
        go_ret
        exact ⟨by rw [HE3.out]; rfl, btr HB1.out hB2⟩
      | false =>
        go_wp2_with (go_at_call 54; (with_reducible refine (CL _).mono ?_); rintro e w2 ⟨rfl, hB2⟩)
        go_ret
        exact ⟨by rw [HE3.out]; rfl, btr HB1.out hB2⟩
end Go.Proofs.Ytoddbaljnlhhaab
