/-
  Proved: for every two ints and every byte the law PauliMakes (promise P7.1: every Eye, One and Check is the document's) answers true. No condition.
-/
import Derived.Test.YtbkdehnemhkbkaaP6
import Derived.Test.YtbkdehnemhkbkaaRow0
namespace Go.Proofs.Ytbkdehnemhkbkaa
open Go.ChangeShapes Go.WideShapes Go.ChangeAt Go.RowKit Go.Sort

theorem ok0 : PS.ok ⟨0, 0, 0, 0⟩ := ⟨by decide, by decide, by decide, by decide⟩
theorem makes_any (n q : Int) (c : Nat) (w : World) (hc : c < 256) :
    Calls Try.prog 3 #[.int .i64 n, .int .i64 q, .int .u8 (c : Int)] w fun r w' => r = .returned (.bool true) ∧ Below w.heap.size w w' := by
  by_cases hn : n < 0 ∨ 64 < n
  · exact makes_core n q c ⟨0, 0, 0, 0⟩ ⟨0, 0, 0, 0⟩ 2 2 w (fun w => reye_no n w hn) (fun w => eye_no n w hn) (fun w => rone_no n q c w (.inl hn)) (fun w => one_no n q c w hc (.inl hn))
      (PS.ok.check ok0) (rcheck_yes _ ok0) (PS.ok.check ok0)
  · obtain ⟨N, rfl⟩ := Int.eq_ofNat_of_zero_le (show 0 ≤ n by omega)
    have hN : N ≤ 64 := by omega
    have okE : PS.ok ⟨N, 0, 0, 0⟩ := ⟨hN, Nat.two_pow_pos N, Nat.two_pow_pos N, Nat.zero_lt_succ 3⟩
    by_cases hq : q < 0 ∨ 0 ≤ q ∧ ((N : Int) ≤ q ∨ q < (N : Int) ∧ c ≠ 88 ∧ c ≠ 89 ∧ c ≠ 90)
    · have h : ((N : Int) < 0 ∨ 64 < (N : Int)) ∨ (0 ≤ (N : Int) ∧ (N : Int) ≤ 64) ∧ (q < 0 ∨ 0 ≤ q ∧ ((N : Int) ≤ q ∨ q < (N : Int) ∧ c ≠ 88 ∧ c ≠ 89 ∧ c ≠ 90)) := .inr ⟨by omega, hq⟩
      exact makes_core N q c ⟨N, 0, 0, 0⟩ ⟨0, 0, 0, 0⟩ 0 2 w (fun w => reye_yes N w hN) (fun w => eye_yes N w hN) (fun w => rone_no N q c w h) (fun w => one_no N q c w hc h)
        (PS.ok.check okE) (rcheck_yes _ okE) (PS.ok.check ok0)
    · obtain ⟨Q, rfl⟩ := Int.eq_ofNat_of_zero_le (show 0 ≤ q by omega)
      have hQ : Q < N := by omega
      have hp : 2 ^ Q < 2 ^ N := Nat.pow_lt_pow_right (by decide) hQ
      have hz : 0 < 2 ^ N := Nat.two_pow_pos N
      have : c = 88 ∨ c = 89 ∨ c = 90 := by omega
      rcases this with rfl | rfl | rfl
      · have okO : PS.ok ⟨N, 2 ^ Q, 0, 0⟩ := ⟨hN, hp, hz, Nat.zero_lt_succ 3⟩
        exact makes_core N Q 88 ⟨N, 0, 0, 0⟩ ⟨N, 2 ^ Q, 0, 0⟩ 0 0 w (fun w => reye_yes N w hN) (fun w => eye_yes N w hN) (fun w => rone_x N Q w hN hQ) (fun w => one_x N Q w hN hQ) (PS.ok.check okE) (rcheck_yes _ okE) (PS.ok.check okO)
      · have okO : PS.ok ⟨N, 2 ^ Q, 2 ^ Q, 0⟩ := ⟨hN, hp, hp, Nat.zero_lt_succ 3⟩
        exact makes_core N Q 89 ⟨N, 0, 0, 0⟩ ⟨N, 2 ^ Q, 2 ^ Q, 0⟩ 0 0 w (fun w => reye_yes N w hN) (fun w => eye_yes N w hN) (fun w => rone_y N Q w hN hQ) (fun w => one_y N Q w hN hQ) (PS.ok.check okE) (rcheck_yes _ okE) (PS.ok.check okO)
      · have okO : PS.ok ⟨N, 0, 2 ^ Q, 0⟩ := ⟨hN, hz, hp, Nat.zero_lt_succ 3⟩
        exact makes_core N Q 90 ⟨N, 0, 0, 0⟩ ⟨N, 0, 2 ^ Q, 0⟩ 0 0 w (fun w => reye_yes N w hN) (fun w => eye_yes N w hN) (fun w => rone_z N Q w hN hQ) (fun w => one_z N Q w hN hQ) (PS.ok.check okE) (rcheck_yes _ okE) (PS.ok.check okO)

set_option maxHeartbeats 400000 in
set_option maxRecDepth 100000 in
theorem makes_lifted (os : Os) (started : os.Started) (H : Type) (enc : TypeId × Value → H) :
    ReturnsInHanded {} Try.checked os 3 .any (Rows.pauliMakesSpec.pre6 enc Try.prog Try.f3 Rows.pauliMakesRow.domain false) (Rows.pauliMakesSpec.post enc Try.prog Try.f3 false true false false) := by
  refine returnsInHanded_of_change (C := Try.checked) Try.own started (by kernel_rfl) Try.func3
    (ChangeSpec.witness6 (enc := enc) (C := Try.checked) false ⟨#[], #[.int .i64 0, .int .i64 0, .int .u8 0], []⟩ 8 (by kernel_rfl) (by kernel_rfl) (by kernel_rfl) (by kernel_rfl)) ?_
  intro W base args ds gs before hval0 hW _ _
  have hval : ∀ (j : Nat) t v, Try.f3.params[j]? = some t → args[j]? = some v → Value.okWide Try.prog W .any base t v := hval0
  have hW' := hW
  obtain ⟨p, q, hA0, hV, rfl, hfz, hnd⟩ := hW
  have hA : DataW.TrodAll enc Try.prog W 0 (fun _ => true) true Try.f3.params.toList args.toList ds p := hA0
  rw [Try.params3] at hA hval
  obtain ⟨v0, vs0, d0, ds0, p0, q0, hargs, rfl, rfl, h0, r0⟩ := trodAll_cons hA
  obtain ⟨v1, vs1, d1, ds1, p1, q1, rfl, rfl, rfl, h1, r1⟩ := trodAll_cons r0
  obtain ⟨v2, vs2, d2, ds2, p2, q2, rfl, rfl, rfl, h2, r2⟩ := trodAll_cons r1
  obtain ⟨rfl, rfl, rfl⟩ := trodAll_nil r2
  obtain rfl : args = #[v0, v1, v2] := by cases args; simp_all
  obtain ⟨rfl, rfl⟩ := trodVars_none hV
  obtain ⟨a0, rfl, rfl, rfl, w0⟩ := open_int Try.underlying3 (hval 0 3 v0 rfl rfl) h0
  obtain ⟨a1, rfl, rfl, rfl, w1⟩ := open_int Try.underlying3 (hval 1 3 v1 rfl rfl) h1
  obtain ⟨a2, rfl, rfl, rfl, w2⟩ := open_int Try.underlying5 (hval 2 5 v2 rfl rfl) h2
  clear hA0 hval0
  simp only [List.append_nil] at hW'
  obtain ⟨c, rfl, hc⟩ : ∃ c : Nat, a2 = c ∧ c < 256 := by
    have := bounds_u8 w2
    exact ⟨a2.toNat, by omega, by omega⟩
  refine (makes_any a0 a1 c W hc).mono fun e W' ⟨he, hB⟩ => ?_
  subst he
  refine ⟨_, rfl, _, _, _, [], [], [], hW', ?_, ?_, rfl, hB.frame _, fun h => by cases h⟩
  · exact trodAll_mk1 (shut_bool Try.underlying4 true)
  · exact trodAll_cons_mk (shut_int Try.underlying3 w0) (trodAll_cons_mk (shut_int Try.underlying3 w1) (trodAll_cons_mk (shut_int Try.underlying5 w2) trodAll_mk0))

theorem makes_holds : Rows.PauliMakesSaid :=
  OpenClaim.holds_of_wide 3 Try.f3 rfl rfl rfl rfl rfl rfl rfl ⟨rfl, rfl, rfl, rfl, rfl⟩ rfl rfl rfl rfl rfl (by kernel_rfl) Try.func3 (by kernel_rfl)
    (of_decide_eq_true (by kernel_rfl)) (by unfold Func.isWrapper; first | (rw [if_pos (by decide +kernel)]; kernel_rfl) | (rw [if_neg (by decide +kernel)]; exact ⟨rfl, rfl⟩))
    (fun os started H enc _ => makes_lifted os started H enc)

#print axioms makes_holds
end Go.Proofs.Ytbkdehnemhkbkaa
