/-
  Put together of: JG.
-/
import Derived.Test.YtoddbaljnlhhaaaYA
import Derived.Test.YtoddbaljnlhhaaaYE
import Derived.Test.YtoddbaljnlhhaaaXZ
import Derived.Test.YtoddbaljnlhhaaaYC
import Derived.BigQuiet
import Derived.BigRegion
namespace Go.Proofs.Ytoddbaljnlhhaaa
open Go.RowKit Go.Sort
open PL (pv PS bt)

def plN (x : Int) (n : Nat) : Nat := (if x < 0 then -(x + 1) else x).toNat % n
theorem plN_lt (x : Int) {n : Nat} (hn : 0 < n) : plN x n < n := Nat.mod_lt _ hn
set_option maxHeartbeats 1000000 in
theorem place_is (x : Int) (n : Nat) (w : World) (h0 : -9223372036854775808 ≤ x) (h1 : x ≤ 9223372036854775807) (hn : 0 < n) (hn2 : n ≤ 64) :
    Calls Try.prog 32 #[.int .i64 x, .int .i64 (n : Nat)] w fun e w' => e = .returned (.int .i64 (plN x n : Nat)) ∧ w' = w := by
  have hn0 : ¬ ((n : Nat) : Int) = 0 := by omega
  have hnb : (((n : Nat) : Int) == 0) = false := by simp; omega
  obtain ⟨y, hy⟩ : ∃ y : Nat, Hid ((y : Int) = if x < 0 then -(x + 1) else x) := by
    by_cases g : x < 0
    · exact ⟨(-(x + 1)).toNat, by show _ = _; rw [if_pos g]; omega⟩
    · exact ⟨x.toNat, by show _ = _; rw [if_neg g]; omega⟩
  have hyl : (y : Int) ≤ 9223372036854775807 := by rw [hy.out]; split <;> omega
  have hP : Hid (plN x n = y % n) := by show _ = _; unfold plN; rw [← hy.out, Int.toNat_natCast]
  have hm : ((y : Int)).tmod (n : Int) = ((y % n : Nat) : Int) := by rw [Int.tmod_eq_emod_of_nonneg (by omega)]; omega
  have hml : y % n < n := Nat.mod_lt _ hn
  have hwm : IntKind.i64.wrap ((y % n : Nat) : Int) = ((y % n : Nat) : Int) := by rw [IntKind.wrap_i64]; omega
  rw [hP.out]
  clear hP
  by_cases g : x < 0
  · have e1 : IntKind.i64.wrap (x + 1) = x + 1 := by rw [IntKind.wrap_i64]; omega
    have e2 : -(x + 1) = (y : Int) := by rw [hy.out, if_pos g]
    have e3 : IntKind.i64.wrap (-(x + 1)) = (y : Int) := by rw [e2, IntKind.wrap_i64]; omega
    have e4 : IntKind.i64.wrap (y : Int) = (y : Int) := by rw [IntKind.wrap_i64]; omega
    clear hy
    go_enter Try.func32, Try.ntmps32
    go_wp2
    exact bodyPost_ret (v := .int .i64 ((y % n : Nat) : Int)) (by simp [results, Try.results32, go_sem]) rfl ⟨rfl, rfl⟩
  · obtain rfl : x = (y : Int) := by rw [hy.out, if_neg g]
    clear hy
    go_enter Try.func32, Try.ntmps32
    go_wp2
    exact bodyPost_ret (v := .int .i64 ((y % n : Nat) : Int)) (by simp [results, Try.results32, go_sem]) rfl ⟨rfl, rfl⟩
set_option maxHeartbeats 1000000 in
set_option maxRecDepth 100000 in
/-- Where the tableau is not right, or of no qubits. -/
theorem values_not (t : Tb) (p : Pr) (a : Option Addr) (c : Nat) (i k : Int) (w : World) (H : TS w a c t.rows) (h : ¬ (Rt t ∧ t.n ≠ 0)) :
    Calls Try.prog 8 #[t.v a c, p.v, .int .i64 i, .int .i64 k] w fun e w' => e = .returned (.bool true) ∧ Below w.heap.size w w' := by
  have AW := hid (fun w' => awake_any w')
  obtain ⟨E, hE, CK⟩ : ∃ E : Int, ((E != 0) = true ∨ (E = 0 ∧ t.n = 0)) ∧ ∀ w', Below w.heap.size w w' → Calls Try.prog 19 #[t.v a c] w' fun e w'' => e = .returned (.int .i64 E) ∧ Below w'.heap.size w' w'' := by
    by_cases hR : Rt t
    · exact ⟨0, .inr ⟨rfl, Classical.not_not.1 fun g => h ⟨hR, g⟩⟩, fun w' hb => rcheck_t t a c w' (H.below hb) hR⟩
    · exact ⟨180, .inl rfl, fun w' hb => rcheck_f t a c w' (H.below hb) hR⟩
  have CK := hid CK
  obtain ⟨hB0, hK0, _⟩ := tp_boxes w t.n (.slice a t.rows.length c) p.n p.f p.x p.z
  have HB := hid hB0
  have K4 := hid hK0
  clear H h hB0 hK0
  obtain ⟨n, rs⟩ := t
  obtain ⟨pn, px, pz, pf⟩ := p
  simp only at *
  go_enter Try.func8, Try.ntmps8
  go_wp2_with (go_at_call 9; refine Hid.out ?_)
  refine hid ?_
  refine (AW.out _).mono ?_
  rintro e w1 ⟨rfl, hN⟩
  replace HB := hid (btr HB.out hN)
  replace K4 := hid (bk_on K4.out hN)
  clear hN AW
  have d4 := K4.out.cell
  have l4 := K4.out.lt
  go_wp2_with (go_at_call 19; refine Hid.out ?_)
  refine hid ?_
  refine (CK.out _ HB.out).mono ?_
  rintro e w2 ⟨rfl, hN⟩
  replace HB := hid (btr HB.out hN)
  replace K4 := hid (bk_on K4.out hN)
  clear hN d4 l4
  have d4 := K4.out.cell
  have l4 := K4.out.lt
  rcases hE with hE | ⟨rfl, rfl⟩
  · go_wp2
    go_ret
    exact ⟨rfl, HB.out⟩
  · go_wp2
    go_ret
    exact ⟨rfl, HB.out⟩
end Go.Proofs.Ytoddbaljnlhhaaa
