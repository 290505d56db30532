/-
  Tableaus by numbers: is it right? And the waking test's tableaus.
-/
import Derived.Test.YtoddbaljnlhhaaaXH
namespace Go.Proofs.Ytoddbaljnlhhaaa
open Go.RowKit Go.Sort
open PL (pv PS bt cgk cgT cgB)

def okB (N : Nat) (r : Pr) : Bool := decide (r.n = N) && (decide (r.x < 2 ^ N) && (decide (r.z < 2 ^ N) && (decide (0 ≤ r.f) && (decide (r.f ≤ 3) && decide (r.f % 2 = 0)))))
def rtB (N : Nat) (rs : List Pr) : Bool := decide (N ≤ 64) && (decide (rs.length = 2 * N) && (rs.all (okB N) && (List.range rs.length).all fun j => (List.range j).all fun k => decide (comP (rs.getD j ⟨0, 0, 0, 0⟩) (rs.getD k ⟨0, 0, 0, 0⟩) ↔ ¬ j = k + N)))
theorem rtB_rt {N : Nat} {rs : List Pr} (h : rtB N rs = true) : Rt ⟨N, rs⟩ := by
  unfold rtB at h
  simp only [Bool.and_eq_true, decide_eq_true_eq] at h
  obtain ⟨h1, h2, h3, h4⟩ := h
  refine ⟨by show (0 : Int) ≤ (N : Nat); omega, by show ((N : Nat) : Int) ≤ 64; omega, by show (rs.length : Int) = 2 * (N : Nat); omega, fun j hj => ?_, fun j hj k hk => ?_⟩
  · have h := List.all_eq_true.1 h3 rs[j] (List.getElem_mem _)
    unfold okB at h
    simp only [Bool.and_eq_true, decide_eq_true_eq] at h
    obtain ⟨e1, e2, e3, e4, e5, e6⟩ := h
    show rowOk (N : Nat) rs[j]
    refine ⟨⟨by omega, by omega, ?_, ?_, e4, e5⟩, e1, e6⟩
    · rw [e1]; exact e2
    · rw [e1]; exact e3
  · have h := PL.all_range (PL.all_range h4 hj) hk
    simp only [decide_eq_true_eq] at h
    have hk2 : k < rs.length := Nat.lt_trans hk hj
    rw [List.getD_eq_getElem?_getD, List.getD_eq_getElem?_getD, List.getElem?_eq_getElem hj, List.getElem?_eq_getElem hk2] at h
    simp only [Option.getD_some] at h
    show comP rs[j] rs[k] ↔ ¬ ((j : Nat) : Int) = (k : Int) + (N : Nat)
    rw [h]
    omega
/-- Qubit i stands at place i. -/
def qI (i : Nat) : Int := i
def aw0 : List Pr := [⟨2, 1, 0, 0⟩, ⟨2, 2, 0, 0⟩, ⟨2, 0, 1, 0⟩, ⟨2, 0, 2, 0⟩]
def aw1 : List Pr := [⟨2, 0, 1, 0⟩, ⟨2, 2, 0, 0⟩, ⟨2, 1, 0, 0⟩, ⟨2, 0, 2, 0⟩]
def aw2 : List Pr := [⟨2, 0, 1, 0⟩, ⟨2, 2, 0, 0⟩, ⟨2, 3, 0, 0⟩, ⟨2, 0, 3, 0⟩]
theorem aw0_is : zUp 2 2 = aw0 := by kernel_rfl
theorem aw1_is : aw0.map (trR 6 qI) = aw1 := by kernel_rfl
theorem aw2_is : aw1.map (trR 11 qI) = aw2 := by kernel_rfl
theorem aw0_rt : Rt ⟨2, aw0⟩ := rtB_rt (N := 2) (by decide +kernel)
theorem aw1_rt : Rt ⟨2, aw1⟩ := rtB_rt (N := 2) (by decide +kernel)
theorem aw2_rt : Rt ⟨2, aw2⟩ := rtB_rt (N := 2) (by decide +kernel)
theorem aw_x : valT ⟨2, aw2⟩ ⟨2, 3, 0, 0⟩ = 1 := by decide +kernel
theorem aw_y : valT ⟨2, aw2⟩ ⟨2, 3, 3, 0⟩ = -1 := by decide +kernel
theorem aw_c : fndT ⟨2, aw2⟩ 0 = (0, false, 0) := by decide +kernel
theorem aw_h : gE 2 (cgN 6) qI 1 = 0 := by decide +kernel
theorem aw_cx : gE 2 (cgN 11) qI 2 = 0 := by decide +kernel
theorem aw_p (k : Nat) (hk : k ≤ 2) : BL.Plc qI k := fun j hj => ⟨by unfold qI; omega, by unfold qI; omega, fun i hi => by unfold qI; omega⟩
end Go.Proofs.Ytoddbaljnlhhaaa
