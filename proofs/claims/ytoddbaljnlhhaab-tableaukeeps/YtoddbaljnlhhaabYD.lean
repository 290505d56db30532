/-
  Put together of: C2 E9.
-/
import Derived.Test.YtoddbaljnlhhaabXY
import Derived.Test.YtoddbaljnlhhaabYC
namespace Go.Proofs.Ytoddbaljnlhhaab
open Go.RowKit Go.Sort
open PL (pv PS bt cgk cgT cgB)

def okB (N : Nat) (r : Pr) : Bool := decide (r.n = N) && (decide (r.x < 2 ^ N) && (decide (r.z < 2 ^ N) && (decide (0 ≤ r.f) && (decide (r.f ≤ 3) && decide (r.f % 2 = 0)))))
def rtB (N : Nat) (rs : List Pr) : Bool := decide (N ≤ 64) && (decide (rs.length = 2 * N) && (rs.all (okB N) && (List.range rs.length).all fun j => (List.range j).all fun k => decide (comP (rs.getD j ⟨0, 0, 0, 0⟩) (rs.getD k ⟨0, 0, 0, 0⟩) ↔ ¬ j = k + N)))
theorem rtB_rt {N : Nat} {rs : List Pr} (h : rtB N rs = true) : Rt ⟨N, rs⟩ := by
  unfold rtB at h
  simp only [Bool.and_eq_true, decide_eq_true_eq] at h
  obtain ⟨h1, h2, h3, h4⟩ := h
  refine ⟨by show (0 : Int) ≤ (N : Nat); omega, by show ((N : Nat) : Int) ≤ 64; omega, by show (rs.length : Int) = 2 * (N : Nat); omega, fun j hj => ?_, fun j hj k hk => ?_⟩
  · have h := List.all_eq_true.1 h3 rs[j] (List.getElem_mem _)
    unfold okB at h
    simp only [Bool.and_eq_true, decide_eq_true_eq] at h
    obtain ⟨e1, e2, e3, e4, e5, e6⟩ := h
    show rowOk (N : Nat) rs[j]
    refine ⟨⟨by omega, by omega, ?_, ?_, e4, e5⟩, e1, e6⟩
    · rw [e1]; exact e2
    · rw [e1]; exact e3
  · have h := PL.all_range (PL.all_range h4 hj) hk
    simp only [decide_eq_true_eq] at h
    have hk2 : k < rs.length := Nat.lt_trans hk hj
    rw [List.getD_eq_getElem?_getD, List.getD_eq_getElem?_getD, List.getElem?_eq_getElem hj, List.getElem?_eq_getElem hk2] at h
    simp only [Option.getD_some] at h
    show comP rs[j] rs[k] ↔ ¬ ((j : Nat) : Int) = (k : Int) + (N : Nat)
    rw [h]
    omega
/-- Qubit i stands at place i. -/
def qI (i : Nat) : Int := i
def aw0 : List Pr := [⟨2, 1, 0, 0⟩, ⟨2, 2, 0, 0⟩, ⟨2, 0, 1, 0⟩, ⟨2, 0, 2, 0⟩]
def aw1 : List Pr := [⟨2, 0, 1, 0⟩, ⟨2, 2, 0, 0⟩, ⟨2, 1, 0, 0⟩, ⟨2, 0, 2, 0⟩]
def aw2 : List Pr := [⟨2, 0, 1, 0⟩, ⟨2, 2, 0, 0⟩, ⟨2, 3, 0, 0⟩, ⟨2, 0, 3, 0⟩]
theorem aw0_is : zUp 2 2 = aw0 := by kernel_rfl
theorem aw1_is : aw0.map (trR 6 qI) = aw1 := by kernel_rfl
theorem aw2_is : aw1.map (trR 11 qI) = aw2 := by kernel_rfl
theorem aw0_rt : Rt ⟨2, aw0⟩ := rtB_rt (N := 2) (by decide +kernel)
theorem aw1_rt : Rt ⟨2, aw1⟩ := rtB_rt (N := 2) (by decide +kernel)
theorem aw2_rt : Rt ⟨2, aw2⟩ := rtB_rt (N := 2) (by decide +kernel)
theorem aw_x : valT ⟨2, aw2⟩ ⟨2, 3, 0, 0⟩ = 1 := by decide +kernel
theorem aw_y : valT ⟨2, aw2⟩ ⟨2, 3, 3, 0⟩ = -1 := by decide +kernel
theorem aw_c : fndT ⟨2, aw2⟩ 0 = (0, false, 0) := by decide +kernel
theorem aw_h : gE 2 (cgN 6) qI 1 = 0 := by decide +kernel
theorem aw_cx : gE 2 (cgN 11) qI 2 = 0 := by decide +kernel
theorem aw_p (k : Nat) (hk : k ≤ 2) : BL.Plc qI k := fun j hj => ⟨by unfold qI; omega, by unfold qI; omega, fun i hi => by unfold qI; omega⟩
end Go.Proofs.Ytoddbaljnlhhaab
namespace Go.Proofs.Ytoddbaljnlhhaab
open Go.RowKit Go.Sort
open PL (pv PS bt cgk cgT)

theorem row_bk {W : World} {b n : Nat} {cs : Array Value} {T : TypeId} (h : BK W b cs T) (hc : ∀ i, i < n → cs[i]? = some (.int .i64 (qI i))) : BL.Row (some ⟨b, 0, none⟩) qI n W :=
  ⟨fun i hi => ⟨b, 0, rfl, by rw [Nat.zero_add]; exact (h.cell i).trans (hc i hi)⟩⟩
set_option maxHeartbeats 2000000 in
set_option maxRecDepth 100000 in
theorem awake_any (w : World) : Calls Try.prog 4 #[] w fun e w' => e = .returned (.bool true) ∧ Below w.heap.size w w' := by
  have Z0 : ∀ w, Calls Try.prog 10 #[.int .i64 2] w fun e w' => ∃ v, e = .returned (.tuple #[.agg #[.int .i64 2, v], .int .i64 0]) ∧ OT w' w.heap.size v aw0 ∧ Below w.heap.size w w' := fun w => by
    have h := zero_yes 2 w (by decide)
    rw [aw0_is] at h
    exact h
  have A1 : ∀ a c aq w, TS w a c aw0 → BL.Row aq qI 1 w → Calls Try.prog 5 #[.agg #[.int .i64 2, .slice a aw0.length c], .string ⟨#[104]⟩, .slice aq 1 1] w fun e w' => ∃ v, e = .returned (.tuple #[.agg #[.int .i64 2, v], .int .i64 0]) ∧ OT w' w.heap.size v aw1 ∧ Below w.heap.size w w' := fun a c aq w H HQ => by
    have h := apply_yes ⟨2, aw0⟩ a c 6 (by decide) qI aq 1 w H aw0_rt HQ (by decide) (by decide) aw_h (aw_p 1 (by decide)) (fun j hj => by have hj : j < 1 := hj; show ((j : Nat) : Int) < 2; omega)
    rw [show (⟨2, aw0⟩ : Tb).rows.map (trR 6 qI) = aw1 from aw1_is] at h
    exact h
  have A2 : ∀ a c aq w, TS w a c aw1 → BL.Row aq qI 2 w → Calls Try.prog 5 #[.agg #[.int .i64 2, .slice a aw1.length c], .string ⟨#[99, 120]⟩, .slice aq 2 2] w fun e w' => ∃ v, e = .returned (.tuple #[.agg #[.int .i64 2, v], .int .i64 0]) ∧ OT w' w.heap.size v aw2 ∧ Below w.heap.size w w' := fun a c aq w H HQ => by
    have h := apply_yes ⟨2, aw1⟩ a c 11 (by decide) qI aq 2 w H aw1_rt HQ (by decide) (by decide) aw_cx (aw_p 2 (by decide)) (fun j hj => by have hj : j < 2 := hj; show ((j : Nat) : Int) < 2; omega)
    rw [show (⟨2, aw1⟩ : Tb).rows.map (trR 11 qI) = aw2 from aw2_is] at h
    exact h
  have CE : ∀ a c w, TS w a c aw2 → Calls Try.prog 12 #[.agg #[.int .i64 2, .slice a aw2.length c], .int .i64 0] w fun e w' => e = .returned (.tuple #[.int .i64 0, .bool false, .int .i64 0]) ∧ Below w.heap.size w w' := fun a c w H => by
    have h := certain_t ⟨2, aw2⟩ a c 0 w H aw2_rt
    rw [aw_c] at h
    exact h
  have VX : ∀ a c w, TS w a c aw2 → Calls Try.prog 11 #[.agg #[.int .i64 2, .slice a aw2.length c], .agg #[.int .i64 2, .int .u64 3, .int .u64 0, .int .i64 0]] w fun e w' => ∃ v er, e = .returned (.tuple #[.int .i64 v, .int .i64 er]) ∧ ValA ⟨2, aw2⟩ ⟨2, 3, 0, 0⟩ v er ∧ Below w.heap.size w w' := fun a c w H => valuePub_any ⟨2, aw2⟩ a c ⟨2, 3, 0, 0⟩ w H ⟨by decide, by decide⟩
  have VY : ∀ a c w, TS w a c aw2 → Calls Try.prog 11 #[.agg #[.int .i64 2, .slice a aw2.length c], .agg #[.int .i64 2, .int .u64 3, .int .u64 3, .int .i64 0]] w fun e w' => ∃ v er, e = .returned (.tuple #[.int .i64 v, .int .i64 er]) ∧ ValA ⟨2, aw2⟩ ⟨2, 3, 3, 0⟩ v er ∧ Below w.heap.size w w' := fun a c w H => valuePub_any ⟨2, aw2⟩ a c ⟨2, 3, 3, 0⟩ w H ⟨by decide, by decide⟩
  have HVX : Hid (∀ v er, ValA ⟨2, aw2⟩ ⟨2, 3, 0, 0⟩ v er → v = 1 ∧ er = 0) := fun v er h => by
    rcases h with h | h | h | h
    · exact absurd aw2_rt h.1
    · exact absurd ⟨by decide, by decide, by decide, by decide, by decide, by decide⟩ h.2.1
    · exact absurd h.2.2.1 (by decide)
    · exact ⟨h.2.2.2.2.1.trans aw_x, h.2.2.2.2.2⟩
  have HVY : Hid (∀ v er, ValA ⟨2, aw2⟩ ⟨2, 3, 3, 0⟩ v er → v = -1 ∧ er = 0) := fun v er h => by
    rcases h with h | h | h | h
    · exact absurd aw2_rt h.1
    · exact absurd ⟨by decide, by decide, by decide, by decide, by decide, by decide⟩ h.2.1
    · exact absurd h.2.2.1 (by decide)
    · exact ⟨h.2.2.2.2.1.trans aw_y, h.2.2.2.2.2⟩
  have CK : ∀ w, Calls Try.prog 13 #[.agg #[.int .i64 1, .slice none 0 0]] w fun e w' => e = .returned (.int .i64 180) ∧ Below w.heap.size w w' := fun w => check_f ⟨1, []⟩ none 0 w (TS.nil _ _ _ (by omega)) (fun h => by have := h.len; simp at this)
  have hA2 : aw2.length = 4 := rfl
  generalize aw0 = L0 at *
  generalize aw1 = L1 at *
  generalize aw2 = L2 at *
  have HL2 := hid hA2
  clear hA2
  go_enter Try.func4, Try.ntmps4
  go_upto_region 4 with (first
    | (go_at_call 10; (with_reducible refine (Z0 _).mono ?_); rintro e w1 ⟨v1, rfl, hO1, hB1⟩; (obtain ⟨a1, c1, rfl⟩ := own_shape hO1.own); (have k1 := bk_new w1 #[.int .i64 2, .slice a1 L0.length c1] 24); (have d1 := k1.cell); (have l1 := k1.lt))
    | (go_at_call 5; refine Hid.out ?_))
  refine hid ?_
  obtain ⟨a1', c1', e1, t1⟩ := hO1.ts
  injection e1 with e1 e2 e3
  subst e1 e3
  clear e2
  have hX := bal (bal (Below.refl w1.heap.size w1) (.cells #[.int .i64 2, .slice a1 L0.length c1] 24)) (.cells #[.int .i64 0] 3)
  have kq := bk_new (w1.alloc (.cells #[.int .i64 2, .slice a1 L0.length c1] 24)) #[.int .i64 0] 3
  rw [PL.alz] at kq
  have hq1 : BL.Row (some ⟨w1.heap.size + 1, 0, none⟩) qI 1 ((w1.alloc (.cells #[.int .i64 2, .slice a1 L0.length c1] 24)).alloc (.cells #[.int .i64 0] 3)) := row_bk kq (fun i hi => by
    obtain rfl : i = 0 := by omega
    rfl)
  refine (A1 a1 c1 _ _ (t1.below hX) hq1).mono ?_
  rintro e w2 ⟨v2, rfl, hO2, hB2⟩
  obtain ⟨a2, c2, rfl⟩ := own_shape hO2.own
  have hA2 := btr (btr hB1 hX) hB2
  have k2 := bk_new w2 #[.int .i64 2, .slice a2 L1.length c2] 24
  have d2 := k2.cell
  have l2 := k2.lt
  obtain ⟨a2', c2', e1, t2⟩ := hO2.ts
  injection e1 with e1 e2 e3
  subst e1 e3
  clear e2
  have HA2 := hid hA2
  have HT2 := hid t2
  clear k1 d1 l1 hX kq hq1 t1 hB1 hB2 hO1 hO2 hA2 t2 Z0 A1
  go_upto_region 4 with (go_at_call 5; refine Hid.out ?_)
  refine hid ?_
  have hX := bal (bal (Below.refl w2.heap.size w2) (.cells #[.int .i64 2, .slice a2 L1.length c2] 24)) (.cells #[.int .i64 0, .int .i64 1] 3)
  have kq := bk_new (w2.alloc (.cells #[.int .i64 2, .slice a2 L1.length c2] 24)) #[.int .i64 0, .int .i64 1] 3
  rw [PL.alz] at kq
  have hq1 : BL.Row (some ⟨w2.heap.size + 1, 0, none⟩) qI 2 ((w2.alloc (.cells #[.int .i64 2, .slice a2 L1.length c2] 24)).alloc (.cells #[.int .i64 0, .int .i64 1] 3)) := row_bk kq (fun i hi => by
    rcases (show i = 0 ∨ i = 1 by omega) with rfl | rfl <;> rfl)
  refine (A2 a2 c2 _ _ (HT2.out.below hX) hq1).mono ?_
  rintro e w3 ⟨v3, rfl, hO3, hB3⟩
  obtain ⟨a3, c3, rfl⟩ := own_shape hO3.own
  have hA3 := btr (btr HA2.out hX) hB3
  obtain ⟨a3', c3', e1, t3⟩ := hO3.ts
  injection e1 with e1 e2 e3
  subst e1 e3
  clear e2
  have HA3 := hid (bal hA3 (.cells #[.int .i64 2, .slice a3 L2.length c3] 24))
  have HT3 := hid (t3.below (bal (Below.refl _ _) (.cells #[.int .i64 2, .slice a3 L2.length c3] 24)))
  have HK3 := hid (bk_new w3 #[.int .i64 2, .slice a3 L2.length c3] 24)
  have hl4 : (L2.length : Int) = 4 := by have := HL2.out; omega
  have d3 := HK3.out.cell
  have l3 := HK3.out.lt
  clear hX kq hq1 hB3 hO3 hA3 t3 A2 k2 d2 l2 HT2 HA2
  go_wp2_with (first
    | (go_at_call 11; (with_reducible refine (VX a3 c3 _ HT3.out).mono ?_); rintro e w4 ⟨v, er, rfl, hv, hB4⟩; (obtain ⟨rfl, rfl⟩ := HVX.out _ _ hv); (have k4 := bk_on HK3.out hB4); (have d4 := k4.cell); (have l4 := k4.lt))
    | (go_at_call 11; (with_reducible refine (VY a3 c3 _ (HT3.out.below hB4)).mono ?_); rintro e w5 ⟨v, er, rfl, hv5, hB5⟩; (obtain ⟨rfl, rfl⟩ := HVY.out _ _ hv5); (have k5 := bk_on k4 hB5); (have d5 := k5.cell); (have l5 := k5.lt))
    | (go_at_call 12; (with_reducible refine (CE a3 c3 _ ((HT3.out.below hB4).below hB5)).mono ?_); rintro e w6 ⟨rfl, hB6⟩)
    | (go_at_call 13; (with_reducible refine (CK _).mono ?_); rintro e w7 ⟨rfl, hB7⟩))
  go_ret
  exact ⟨rfl, btr (btr (btr (btr HA3.out hB4) hB5) hB6) hB7⟩
end Go.Proofs.Ytoddbaljnlhhaab
