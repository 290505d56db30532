/-
  Proved: for every two circuits the law CircuitJoins (promise P11.1: every Inverse and Then against the reference) answers true, and both circuits read afterwards as they read before. No condition.
-/
import Derived.Test.YtfaoegiignalkaaK2
import Derived.Test.YtfaoegiignalkaaJ11
import Derived.Test.YtfaoegiignalkaaRow0
namespace Go.Proofs.Ytfaoegiignalkaa
open Go.ChangeShapes Go.WideShapes Go.ChangeAt Go.ChangeMaps Go.RowKit Go.Sort

theorem rthen_any (c d : Ci) (a1 a2 : Option Addr) (c1 c2 : Nat) (A1 A2 : Nat → Option Addr) (C1 C2 : Nat → Nat) (w : World) (H1 : OS w a1 c1 c.ops A1 C1) (H2 : OS w a2 c2 d.ops A2 C2) :
    Calls Try.prog 19 #[civ c a1 c1, civ d a2 c2] w fun e w' => ThR c d w e w' := by
  by_cases h : (lk c).2.2 ≠ 0 ∨ (lk d).2.2 ≠ 0 ∨ c.q ≠ d.q ∨ c.b ≠ d.b
  · exact rthen_no c d a1 a2 c1 c2 A1 A2 C1 C2 w H1 H2 h
  · simp only [not_or, Decidable.not_not] at h
    exact rthen_yes c d a1 a2 c1 c2 A1 A2 C1 C2 w H1 H2 h.1 h.2.1 h.2.2.1 h.2.2.2
theorem Try.ownJ : ownKnob Try.prog.godebug = none := by kernel_rfl
set_option maxHeartbeats 400000 in
set_option maxRecDepth 100000 in
theorem joins_lifted (os : Os) (started : os.Started) (H : Type) (enc : TypeId × Value → H) :
    ReturnsInHanded {} Try.checked os 4 .any (Rows.circuitJoinsSpec.pre6 enc Try.prog Try.f4 Rows.circuitJoinsRow.domain false) (Rows.circuitJoinsSpec.post enc Try.prog Try.f4 false true false false) := by
  refine returnsInHanded_of_change (C := Try.checked) Try.ownJ started (by kernel_rfl) Try.func4
    (ChangeSpec.witness6 (enc := enc) (C := Try.checked) false ⟨#[], #[.agg #[.int .i64 0, .int .i64 0, .slice none 0 0], .agg #[.int .i64 0, .int .i64 0, .slice none 0 0]], []⟩ 8 (by kernel_rfl) (by kernel_rfl) (by kernel_rfl) (by kernel_rfl)) ?_
  intro W base args ds gs before hval0 hW _ _
  have hval : ∀ (j : Nat) t v, Try.f4.params[j]? = some t → args[j]? = some v → Value.okWide Try.prog W .any base t v := hval0
  have hW' := hW
  obtain ⟨p, q, hA0, hV, rfl, hfz, hnd⟩ := hW
  have hA : DataW.TrodAll enc Try.prog W 0 (fun _ => true) true Try.f4.params.toList args.toList ds p := hA0
  rw [Try.params4] at hA hval
  obtain ⟨v0, vs0, d0, ds0, p0, q0, hargs, rfl, rfl, h0, r0⟩ := trodAll_cons hA
  obtain ⟨v1, vs1, d1, ds1, p1, q1, rfl, rfl, rfl, h1, r1⟩ := trodAll_cons r0
  obtain ⟨rfl, rfl, rfl⟩ := trodAll_nil r1
  obtain rfl : args = #[v0, v1] := by cases args; simp_all
  obtain ⟨rfl, rfl⟩ := trodVars_none hV
  obtain ⟨c, a1, c1, A1, C1, rfl, hO1⟩ := circ_of_trod (hval 0 24 v0 rfl rfl) h0
  obtain ⟨d, a2, c2, A2, C2, rfl, hO2⟩ := circ_of_trod (hval 1 24 v1 rfl rfl) h1
  clear hA0 hval0
  simp only [List.append_nil] at hW'
  have hlt0 : ∀ x ∈ p0, x.block < W.heap.size := fun x hx => hW'.lt x (by simp [hx])
  have hlt1 : ∀ x ∈ p1, x.block < W.heap.size := fun x hx => hW'.lt x (by simp [hx])
  refine (joins_core c d a1 a2 c1 c2 A1 A2 C1 C2 W hO1 hO2 (fun w1 g1 g2 => rthen_any c d a1 a2 c1 c2 A1 A2 C1 C2 w1 g1 g2)).mono fun e W' ⟨he, hB⟩ => ?_
  subst he
  refine ⟨_, rfl, _, _, _, [], p0 ++ p1, [], hW', ?_, ?_, rfl, hB.frame _, fun h => by cases h⟩
  · exact trodAll_mk1 (shut_bool Try.underlying4 true)
  · have g0 := Below.trod Try.laidOut (by kernel_rfl) (of_decide_eq_true (by kernel_rfl)) h0 hB hlt0
    have g1 := Below.trod Try.laidOut (by kernel_rfl) (of_decide_eq_true (by kernel_rfl)) h1 hB hlt1
    have := trodAll_cons_mk g0 (trodAll_cons_mk g1 trodAll_mk0)
    simp only [List.append_nil] at this
    exact this

theorem joins_holds : Rows.CircuitJoinsSaid :=
  OpenClaim.holds_of_wide 4 Try.f4 rfl rfl rfl rfl rfl rfl rfl ⟨rfl, rfl, rfl, rfl, rfl⟩ rfl rfl rfl rfl rfl (by kernel_rfl) Try.func4 (by kernel_rfl)
    (of_decide_eq_true (by kernel_rfl)) (by unfold Func.isWrapper; first | (rw [if_pos (by decide +kernel)]; kernel_rfl) | (rw [if_neg (by decide +kernel)]; exact ⟨rfl, rfl⟩))
    (fun os started H enc _ => joins_lifted os started H enc)

#print axioms joins_holds
end Go.Proofs.Ytfaoegiignalkaa
