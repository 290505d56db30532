/-
  Proved: for every two Pauli strings, of any make, the law PauliProducts (promise P7.1: every Check, Mul, Commute, Weight, Adjoint and Text is the document's) answers true. No condition.
-/
import Derived.Test.YtbkdehnemhkbkaaPr1
import Derived.Test.YtbkdehnemhkbkaaRow0
namespace Go.Proofs.Ytbkdehnemhkbkaa
open Go.ChangeShapes Go.WideShapes Go.ChangeAt Go.RowKit Go.Sort

theorem products_any (n : Int) (x z : Nat) (f : Int) (n' : Int) (x' z' : Nat) (f' : Int) (w : World)
    (hx : x < 18446744073709551616) (hz : z < 18446744073709551616) (hx' : x' < 18446744073709551616) (hz' : z' < 18446744073709551616) :
    Calls Try.prog 4 #[pv n x z f, pv n' x' z' f'] w fun r w' => r = .returned (.bool true) ∧ Below w.heap.size w w' := by
  by_cases ga : Good n x z f
  · obtain ⟨p, hp, _, rfl, rfl, rfl, rfl⟩ := ga.ps
    by_cases gb : Good n' x' z' f'
    · obtain ⟨q, hq, _, rfl, rfl, rfl, rfl⟩ := gb.ps
      by_cases hn : p.n = q.n
      · exact products_core p.n p.x p.z p.f q.n q.x q.z q.f 0 0 0 0 0 0 (wgt p.x p.z : Nat) (decide (comB p.x p.z q.x q.z = 0)) ⟨p.text.toArray⟩ (p.mul q).n (p.mul q).x (p.mul q).z (p.mul q).f p.adj.n p.adj.x p.adj.z p.adj.f w
          hp.check (rcheck_yes p hp) (fun w => mul_yes p q w hp hq hn) (fun w => commute_yes p q w hp hq hn) (fun w => weight_yes p w hp) (fun w => adjoint_yes p w hp) (fun w => text_yes p w hp)
          (fun w => rmul_yes p q w hp hq hn) (fun w => rcommute_yes p q w hp hq hn) (fun w => rweight_yes p w hp) (fun w => radj_yes p w hp) (fun w => rtext_yes p w hp)
      · have hB := both_ok p q hp hq
        rw [if_neg hn] at hB
        exact products_core p.n p.x p.z p.f q.n q.x q.z q.f 0 2 2 0 0 0 (wgt p.x p.z : Nat) false ⟨p.text.toArray⟩ 0 0 0 0 p.adj.n p.adj.x p.adj.z p.adj.f w
          hp.check (rcheck_yes p hp) (fun w => mul_no _ _ _ _ _ _ _ _ 2 w hB (by decide)) (fun w => commute_no _ _ _ _ _ _ _ _ 2 w hB (by decide)) (fun w => weight_yes p w hp) (fun w => adjoint_yes p w hp) (fun w => text_yes p w hp)
          (fun w => rmul_n p q w hp hq hn) (fun w => rcommute_no p.n p.x p.z p.f q.n q.x q.z q.f 2 ⟨0, 0, 0, 0⟩ 2 w (by decide) (fun w => rmul_n p q w hp hq hn) (fun w => rmul_n q p w hq hp (fun e => hn e.symm))) (fun w => rweight_yes p w hp) (fun w => radj_yes p w hp) (fun w => rtext_yes p w hp)
    · have hB := both_b p hp n' x' z' f' hx' hz' gb
      exact products_core p.n p.x p.z p.f n' x' z' f' 0 70 70 0 0 0 (wgt p.x p.z : Nat) false ⟨p.text.toArray⟩ 0 0 0 0 p.adj.n p.adj.x p.adj.z p.adj.f w
        hp.check (rcheck_yes p hp) (fun w => mul_no _ _ _ _ _ _ _ _ 70 w hB (by decide)) (fun w => commute_no _ _ _ _ _ _ _ _ 70 w hB (by decide)) (fun w => weight_yes p w hp) (fun w => adjoint_yes p w hp) (fun w => text_yes p w hp)
        (fun w => rmul_b p hp n' x' z' f' w hx' hz' gb) (fun w => rcommute_no p.n p.x p.z p.f n' x' z' f' 70 ⟨0, 0, 0, 0⟩ 70 w (by decide) (fun w => rmul_b p hp n' x' z' f' w hx' hz' gb) (fun w => rmul_a n' x' z' f' p.n p.x p.z p.f w hx' hz' gb)) (fun w => rweight_yes p w hp) (fun w => radj_yes p w hp) (fun w => rtext_yes p w hp)
  · have hB := both_a n x z f n' x' z' f' hx hz ga
    have M2 : Cal 20 #[pv n' x' z' f', pv n x z f] ⟨0, 0, 0, 0⟩ 70 := fun w => by
      by_cases gb : Good n' x' z' f'
      · obtain ⟨q, hq, _, rfl, rfl, rfl, rfl⟩ := gb.ps
        exact rmul_b q hq n x z f w hx hz ga
      · exact rmul_a n' x' z' f' n x z f w hx' hz' gb
    exact products_core n x z f n' x' z' f' 70 70 70 70 70 70 0 false ⟨#[]⟩ 0 0 0 0 0 0 0 0 w
      (fun w => check_no n x z f w hx hz ga) (fun w => rcheck_no n x z f w hx hz ga) (fun w => mul_no _ _ _ _ _ _ _ _ 70 w hB (by decide)) (fun w => commute_no _ _ _ _ _ _ _ _ 70 w hB (by decide)) (fun w => weight_no n x z f w hx hz ga) (fun w => adjoint_no n x z f w hx hz ga) (fun w => text_no n x z f w hx hz ga)
      (fun w => rmul_a n x z f n' x' z' f' w hx hz ga) (fun w => rcommute_no n x z f n' x' z' f' 70 ⟨0, 0, 0, 0⟩ 70 w (by decide) (fun w => rmul_a n x z f n' x' z' f' w hx hz ga) M2) (fun w => rweight_no n x z f w hx hz ga) (fun w => radj_no n x z f w hx hz ga) (fun w => rtext_no n x z f w hx hz ga)

set_option maxHeartbeats 400000 in
set_option maxRecDepth 100000 in
theorem products_lifted (os : Os) (started : os.Started) (H : Type) (enc : TypeId × Value → H) :
    ReturnsInHanded {} Try.checked os 4 .any (Rows.pauliProductsSpec.pre6 enc Try.prog Try.f4 Rows.pauliProductsRow.domain false) (Rows.pauliProductsSpec.post enc Try.prog Try.f4 false true false false) := by
  refine returnsInHanded_of_change (C := Try.checked) Try.own started (by kernel_rfl) Try.func4
    (ChangeSpec.witness6 (enc := enc) (C := Try.checked) false ⟨#[], #[pv 0 0 0 0, pv 0 0 0 0], []⟩ 8 (by kernel_rfl) (by kernel_rfl) (by kernel_rfl) (by kernel_rfl)) ?_
  intro W base args ds gs before hval0 hW _ _
  have hval : ∀ (j : Nat) t v, Try.f4.params[j]? = some t → args[j]? = some v → Value.okWide Try.prog W .any base t v := hval0
  have hW' := hW
  obtain ⟨p, q, hA0, hV, rfl, hfz, hnd⟩ := hW
  have hA : DataW.TrodAll enc Try.prog W 0 (fun _ => true) true Try.f4.params.toList args.toList ds p := hA0
  rw [Try.params4] at hA hval
  obtain ⟨v0, vs0, d0, ds0, p0, q0, hargs, rfl, rfl, h0, r0⟩ := trodAll_cons hA
  obtain ⟨v1, vs1, d1, ds1, p1, q1, rfl, rfl, rfl, h1, r1⟩ := trodAll_cons r0
  obtain ⟨rfl, rfl, rfl⟩ := trodAll_nil r1
  obtain rfl : args = #[v0, v1] := by cases args; simp_all
  obtain ⟨rfl, rfl⟩ := trodVars_none hV
  obtain ⟨a0, a1, a2, a3, rfl, rfl, rfl, wa0, wa1, wa2, wa3, la1, la2⟩ := open_pauli (hval 0 25 v0 rfl rfl) h0
  obtain ⟨b0, b1, b2, b3, rfl, rfl, rfl, wb0, wb1, wb2, wb3, lb1, lb2⟩ := open_pauli (hval 1 25 v1 rfl rfl) h1
  clear hA0 hval0
  simp only [List.append_nil] at hW'
  refine (products_any a0 a1 a2 a3 b0 b1 b2 b3 W la1 la2 lb1 lb2).mono fun e W' ⟨he, hB⟩ => ?_
  subst he
  refine ⟨_, rfl, _, _, _, [], [], [], hW', ?_, ?_, rfl, hB.frame _, fun h => by cases h⟩
  · exact trodAll_mk1 (shut_bool Try.underlying4 true)
  · exact trodAll_cons_mk (shut_pauli wa0 wa1 wa2 wa3) (trodAll_cons_mk (shut_pauli wb0 wb1 wb2 wb3) trodAll_mk0)

theorem products_holds : Rows.PauliProductsSaid :=
  OpenClaim.holds_of_wide 4 Try.f4 rfl rfl rfl rfl rfl rfl rfl ⟨rfl, rfl, rfl, rfl, rfl⟩ rfl rfl rfl rfl rfl (by kernel_rfl) Try.func4 (by kernel_rfl)
    (of_decide_eq_true (by kernel_rfl)) (by unfold Func.isWrapper; first | (rw [if_pos (by decide +kernel)]; kernel_rfl) | (rw [if_neg (by decide +kernel)]; exact ⟨rfl, rfl⟩))
    (fun os started H enc _ => products_lifted os started H enc)

#print axioms products_holds
end Go.Proofs.Ytbkdehnemhkbkaa
