/-
  Proved: for every int the law GateEntries (promise P8.3: a gate's entries are noughts and powers of w, halved only in gates that halve; a column has one or two; Column tells the matrix; diagonal gates are diagonal) answers true. No condition.
-/
import Derived.Test.YtjmgcgjmaemgdaaV2
import Derived.Test.YtjmgcgjmaemgdaaV3
import Derived.Test.YtjmgcgjmaemgdaaV4
import Derived.ProofKit
import Derived.OpenShut
import Derived.Carry
namespace Go.Proofs.Ytjmgcgjmaemgdaa
open Go.ChangeShapes Go.WideShapes Go.ChangeAt Go.RowKit Go.Sort

theorem tm25 (n : Int) : -25 < n.tmod 25 ∧ n.tmod 25 < 25 := by
  have h := Int.natAbs_tmod n 25
  have := Nat.mod_lt n.natAbs (show 0 < 25 by decide)
  have e : (25 : Int).natAbs = 25 := rfl
  rw [e] at h
  omega
theorem at25 (n : Int) : ∃ i : Nat, i < 25 ∧ (n.tmod 25 + 25).tmod 25 = (i : Int) := by
  have h := tm25 n
  refine ⟨((n.tmod 25 + 25).tmod 25).toNat, ?_, ?_⟩
  · have h2 := tm25 (n.tmod 25 + 25)
    omega
  · have h3 : 0 ≤ (n.tmod 25 + 25).tmod 25 := Int.tmod_nonneg _ (by omega)
    omega
theorem entries_law (k : Int) (w : World) : Calls Try.prog 6 #[.int .i64 k] w fun e w' => e = .returned (.bool true) ∧ Below w.heap.size w w' := by
  obtain ⟨i, hi, hk⟩ := at25 k
  have h := tm25 k
  rcases (gate_ok i hi).q with hq | hq | hq
  · exact ge_1 k i hi hq hk h.1 h.2 w
  · exact ge_2 k i hi hq hk h.1 h.2 w
  · exact ge_3 k i hi hq hk h.1 h.2 w

theorem Try.own : ownKnob Try.prog.godebug = none := by kernel_rfl
set_option maxHeartbeats 400000 in
set_option maxRecDepth 100000 in
theorem entries_lifted (os : Os) (started : os.Started) (H : Type) (enc : TypeId × Value → H) :
    ReturnsInHanded {} Try.checked os 6 .any (Rows.gateEntriesSpec.pre6 enc Try.prog Try.f6 Rows.gateEntriesRow.domain false) (Rows.gateEntriesSpec.post enc Try.prog Try.f6 false true false false) := by
  refine returnsInHanded_of_change (C := Try.checked) Try.own started (by kernel_rfl) Try.func6
    (ChangeSpec.witness6 (enc := enc) (C := Try.checked) false ⟨#[], #[.int .i64 0], []⟩ 8 (by kernel_rfl) (by kernel_rfl) (by kernel_rfl) (by kernel_rfl)) ?_
  intro W base args ds gs before hval0 hW _ _
  have hval : ∀ (j : Nat) t v, Try.f6.params[j]? = some t → args[j]? = some v → Value.okWide Try.prog W .any base t v := hval0
  have hW' := hW
  obtain ⟨p, q, hA0, hV, rfl, hfz, hnd⟩ := hW
  have hA : DataW.TrodAll enc Try.prog W 0 (fun _ => true) true Try.f6.params.toList args.toList ds p := hA0
  rw [Try.params6] at hA hval
  obtain ⟨v0, vs0, d0, ds0, p0, q0, hargs, rfl, rfl, h0, r0⟩ := trodAll_cons hA
  obtain ⟨rfl, rfl, rfl⟩ := trodAll_nil r0
  obtain rfl : args = #[v0] := by cases args; simp_all
  obtain ⟨rfl, rfl⟩ := trodVars_none hV
  obtain ⟨a0, rfl, rfl, rfl, w0⟩ := open_int Try.underlying3 (hval 0 3 v0 rfl rfl) h0
  clear hA0 hval0
  simp only [List.append_nil] at hW'
  refine (entries_law a0 W).mono fun e W' ⟨he, hB⟩ => ?_
  subst he
  refine ⟨_, rfl, _, _, _, [], [], [], hW', ?_, ?_, rfl, hB.frame _, fun h => by cases h⟩
  · exact trodAll_mk1 (shut_bool Try.underlying4 true)
  · exact trodAll_cons_mk (shut_int Try.underlying3 w0) trodAll_mk0

theorem entries_holds : Rows.GateEntriesSaid :=
  OpenClaim.holds_of_wide 6 Try.f6 rfl rfl rfl rfl rfl rfl rfl ⟨rfl, rfl, rfl, rfl, rfl⟩ rfl rfl rfl rfl rfl (by kernel_rfl) Try.func6 (by kernel_rfl)
    (of_decide_eq_true (by kernel_rfl)) (by unfold Func.isWrapper; first | (rw [if_pos (by decide +kernel)]; kernel_rfl) | (rw [if_neg (by decide +kernel)]; exact ⟨rfl, rfl⟩))
    (fun os started H enc _ => entries_lifted os started H enc)

#print axioms entries_holds
end Go.Proofs.Ytjmgcgjmaemgdaa
