/-
  Proved: for every int the law GateBack (promise P8.2: a gate's inverse takes it back: both products are 1, its matrix is the adjoint, and all that is asked of a gate agrees) answers true. No condition.
-/
import Derived.Test.YtjmgcgjmaemgdaaC6
import Derived.Test.YtjmgcgjmaemgdaaC7
import Derived.Test.YtjmgcgjmaemgdaaD0
import Derived.Test.YtjmgcgjmaemgdaaD1
import Derived.ProofKit
import Derived.OpenShut
import Derived.Carry
namespace Go.Proofs.Ytjmgcgjmaemgdaa
open Go.ChangeShapes Go.WideShapes Go.ChangeAt Go.RowKit Go.Sort

theorem gb_tm (n : Int) : -25 < n.tmod 25 ∧ n.tmod 25 < 25 := by
  have h := Int.natAbs_tmod n 25
  have := Nat.mod_lt n.natAbs (show 0 < 25 by decide)
  have e : (25 : Int).natAbs = 25 := rfl
  rw [e] at h
  omega
theorem gb_at (n : Int) : ∃ i : Nat, i < 25 ∧ (n.tmod 25 + 25).tmod 25 = (i : Int) := by
  have h := gb_tm n
  refine ⟨((n.tmod 25 + 25).tmod 25).toNat, ?_, ?_⟩
  · have h2 := gb_tm (n.tmod 25 + 25)
    omega
  · have h3 : 0 ≤ (n.tmod 25 + 25).tmod 25 := Int.tmod_nonneg _ (by omega)
    omega
theorem matrix_num (i : Nat) (hi : i < 25) (w : World) : Calls Try.prog 18 #[.string (nm i)] w fun e w' => ∃ M, e = .returned (.tuple #[mv M (2 ^ qOf i), .int .i64 0]) ∧ Below w.heap.size w w' ∧ MR w' M (2 ^ qOf i) (eA i) :=
  (matrix_all i hi w).mono fun _ _ ⟨M, he, hM⟩ => ⟨M, he, hM.below, MX.mr (hM.same (fun _ _ => rfl) (fun x y hx hy => eA_cells i hi x y hx hy))⟩
theorem back_law (k : Int) (w : World) : Calls Try.prog 5 #[.int .i64 k] w fun e w' => e = .returned (.bool true) ∧ Below w.heap.size w w' := by
  obtain ⟨i, hi, hk⟩ := gb_at k
  have h := gb_tm k
  have O := back_ok i hi
  have X := fun x y hx hy => ok_xy (O.xy x y hx hy)
  have O' := back_ok (iv i) O.iv
  have X' : ∀ x y, x < 2 ^ qOf i → y < 2 ^ qOf i → (eA (iv i) x y).chk = true := fun x y hx hy => (ok_xy (O'.xy x y (by rw [O.q]; exact hx) (by rw [O.q]; exact hy))).1
  have hN : 2 ^ qOf i = 2 ∨ 2 ^ qOf i = 4 ∨ 2 ^ qOf i = 8 := by
    rcases (gate_ok i hi).q with e | e | e <;> simp [e]
  have h8 : 2 ^ qOf i ≤ 8 := q_le ⟨i, hi⟩
  refine back_core k i hi hk h.1 h.2 w (qOf i : Int) (2 ^ qOf i) ?_ (nm i) (nm (iv i)) rfl (eA i) (eA (iv i)) (hOf i) (cOf i) (dOf i) (inverse_all i hi) ?_ (matrix_num i hi) ?_ (arity_all i hi) ?_ (halves_all i hi) ?_ (clifford_all i hi) ?_ (diagonal_all i hi) ?_ ?_ ?_ ?_ ?_ ?_ ?_
  · rcases (gate_ok i hi).q with e | e | e <;> simp [e]
  · intro w
    have := inverse_all (iv i) O.iv w
    rwa [O.ii] at this
  · intro w
    have := matrix_num (iv i) O.iv w
    rwa [O.q] at this
  · intro w
    have := arity_all (iv i) O.iv w
    rwa [O.q] at this
  · intro w
    have := halves_all (iv i) O.iv w
    rwa [O.h] at this
  · intro w
    have := clifford_all (iv i) O.iv w
    rwa [O.c] at this
  · intro w
    have := diagonal_all (iv i) O.iv w
    rwa [O.d] at this
  · intro V M M' hM hM'
    exact (mul_any hM hM' hN (fun x y hx hy => (X x y hx hy).1) X' (fun x y hx hy => (X x y hx hy).2.1)).mono fun _ _ ⟨P, he, hP⟩ => ⟨P, he, hP.below, hP.mr.same fun x y hx hy => (X x y hx hy).2.2.1⟩
  · intro V M M' hM hM'
    exact (mul_any hM hM' hN X' (fun x y hx hy => (X x y hx hy).1) (fun x y hx hy => (X x y hx hy).2.2.2.1)).mono fun _ _ ⟨P, he, hP⟩ => ⟨P, he, hP.below, hP.mr.same fun x y hx hy => (X x y hx hy).2.2.2.2.1⟩
  · intro V M hM
    exact (adj_any hM hN (fun x y hx hy => (X x y hx hy).1)).mono fun _ _ ⟨P, he, hP⟩ => ⟨P, he, hP.below, hP.mr.same fun x y hx hy => (X x y hx hy).2.2.2.2.2⟩
  · intro V M hM
    exact unitary_any hM hN (fun x y hx hy => (X x y hx hy).1) (fun x y hx hy => (X x y hx hy).2.2.2.2.2) X' (fun x y hx hy => (X x y hx hy).2.1) (fun x y hx hy => (X x y hx hy).2.2.1)
  · intro V M hM
    exact eye_any hM h8
  · intro V M M' hM hM'
    exact same_any hM hM' h8 X'

theorem Try.ownB : ownKnob Try.prog.godebug = none := by kernel_rfl
set_option maxHeartbeats 400000 in
set_option maxRecDepth 100000 in
theorem back_lifted (os : Os) (started : os.Started) (H : Type) (enc : TypeId × Value → H) :
    ReturnsInHanded {} Try.checked os 5 .any (Rows.gateBackSpec.pre6 enc Try.prog Try.f5 Rows.gateBackRow.domain false) (Rows.gateBackSpec.post enc Try.prog Try.f5 false true false false) := by
  refine returnsInHanded_of_change (C := Try.checked) Try.ownB started (by kernel_rfl) Try.func5
    (ChangeSpec.witness6 (enc := enc) (C := Try.checked) false ⟨#[], #[.int .i64 0], []⟩ 8 (by kernel_rfl) (by kernel_rfl) (by kernel_rfl) (by kernel_rfl)) ?_
  intro W base args ds gs before hval0 hW _ _
  have hval : ∀ (j : Nat) t v, Try.f5.params[j]? = some t → args[j]? = some v → Value.okWide Try.prog W .any base t v := hval0
  have hW' := hW
  obtain ⟨p, q, hA0, hV, rfl, hfz, hnd⟩ := hW
  have hA : DataW.TrodAll enc Try.prog W 0 (fun _ => true) true Try.f5.params.toList args.toList ds p := hA0
  rw [Try.params5] at hA hval
  obtain ⟨v0, vs0, d0, ds0, p0, q0, hargs, rfl, rfl, h0, r0⟩ := trodAll_cons hA
  obtain ⟨rfl, rfl, rfl⟩ := trodAll_nil r0
  obtain rfl : args = #[v0] := by cases args; simp_all
  obtain ⟨rfl, rfl⟩ := trodVars_none hV
  obtain ⟨a0, rfl, rfl, rfl, w0⟩ := open_int Try.underlying3 (hval 0 3 v0 rfl rfl) h0
  clear hA0 hval0
  simp only [List.append_nil] at hW'
  refine (back_law a0 W).mono fun e W' ⟨he, hB⟩ => ?_
  subst he
  refine ⟨_, rfl, _, _, _, [], [], [], hW', ?_, ?_, rfl, hB.frame _, fun h => by cases h⟩
  · exact trodAll_mk1 (shut_bool Try.underlying4 true)
  · exact trodAll_cons_mk (shut_int Try.underlying3 w0) trodAll_mk0

theorem back_holds : Rows.GateBackSaid :=
  OpenClaim.holds_of_wide 5 Try.f5 rfl rfl rfl rfl rfl rfl rfl ⟨rfl, rfl, rfl, rfl, rfl⟩ rfl rfl rfl rfl rfl (by kernel_rfl) Try.func5 (by kernel_rfl)
    (of_decide_eq_true (by kernel_rfl)) (by unfold Func.isWrapper; first | (rw [if_pos (by decide +kernel)]; kernel_rfl) | (rw [if_neg (by decide +kernel)]; exact ⟨rfl, rfl⟩))
    (fun os started H enc _ => back_lifted os started H enc)

#print axioms back_holds
end Go.Proofs.Ytjmgcgjmaemgdaa
