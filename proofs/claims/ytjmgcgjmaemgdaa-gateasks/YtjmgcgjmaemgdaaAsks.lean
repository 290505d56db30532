/-
  Proved: for every name and every int the law GateAsks (promise P8.1: what is asked of a gate by its name: Arity, Halves, Clifford, Diagonal, Inverse, Matrix and Column are as the chapter's table says) answers true. No condition.
-/
import Derived.Test.YtjmgcgjmaemgdaaH
import Derived.ProofKit
import Derived.OpenShut
import Derived.Carry
import Derived.ChangeMaps5
namespace Go.Proofs.Ytjmgcgjmaemgdaa
open Go.ChangeShapes Go.WideShapes Go.ChangeAt Go.ChangeMaps Go.RowKit Go.Sort

theorem column_out_all (i : Nat) (hi : i < 25) (y : Int) (hy : y < 0 ∨ ((2 ^ qOf i : Nat) : Int) ≤ y) (w : World) : Calls Try.prog 21 #[.string (nm i), .int .i64 y] w fun e w' => e = .returned (.tuple #[.slice none 0 0, .slice none 0 0, .int .i64 2]) ∧ Below w.heap.size w w' := by
  have : i = 0 ∨ i = 1 ∨ i = 2 ∨ i = 3 ∨ i = 4 ∨ i = 5 ∨ i = 6 ∨ i = 7 ∨ i = 8 ∨ i = 9 ∨ i = 10 ∨ i = 11 ∨ i = 12 ∨ i = 13 ∨ i = 14 ∨ i = 15 ∨ i = 16 ∨ i = 17 ∨ i = 18 ∨ i = 19 ∨ i = 20 ∨ i = 21 ∨ i = 22 ∨ i = 23 ∨ i = 24 := by omega
  rcases this with rfl | rfl | rfl | rfl | rfl | rfl | rfl | rfl | rfl | rfl | rfl | rfl | rfl | rfl | rfl | rfl | rfl | rfl | rfl | rfl | rfl | rfl | rfl | rfl | rfl
  · rw [qOf_0] at hy
    rw [nm_0]
    exact column_out hit_0 (by decide) y hy w
  · rw [qOf_1] at hy
    rw [nm_1]
    exact column_out hit_1 (by decide) y hy w
  · rw [qOf_2] at hy
    rw [nm_2]
    exact column_out hit_2 (by decide) y hy w
  · rw [qOf_3] at hy
    rw [nm_3]
    exact column_out hit_3 (by decide) y hy w
  · rw [qOf_4] at hy
    rw [nm_4]
    exact column_out hit_4 (by decide) y hy w
  · rw [qOf_5] at hy
    rw [nm_5]
    exact column_out hit_5 (by decide) y hy w
  · rw [qOf_6] at hy
    rw [nm_6]
    exact column_out hit_6 (by decide) y hy w
  · rw [qOf_7] at hy
    rw [nm_7]
    exact column_out hit_7 (by decide) y hy w
  · rw [qOf_8] at hy
    rw [nm_8]
    exact column_out hit_8 (by decide) y hy w
  · rw [qOf_9] at hy
    rw [nm_9]
    exact column_out hit_9 (by decide) y hy w
  · rw [qOf_10] at hy
    rw [nm_10]
    exact column_out hit_10 (by decide) y hy w
  · rw [qOf_11] at hy
    rw [nm_11]
    exact column_out hit_11 (by decide) y hy w
  · rw [qOf_12] at hy
    rw [nm_12]
    exact column_out hit_12 (by decide) y hy w
  · rw [qOf_13] at hy
    rw [nm_13]
    exact column_out hit_13 (by decide) y hy w
  · rw [qOf_14] at hy
    rw [nm_14]
    exact column_out hit_14 (by decide) y hy w
  · rw [qOf_15] at hy
    rw [nm_15]
    exact column_out hit_15 (by decide) y hy w
  · rw [qOf_16] at hy
    rw [nm_16]
    exact column_out hit_16 (by decide) y hy w
  · rw [qOf_17] at hy
    rw [nm_17]
    exact column_out hit_17 (by decide) y hy w
  · rw [qOf_18] at hy
    rw [nm_18]
    exact column_out hit_18 (by decide) y hy w
  · rw [qOf_19] at hy
    rw [nm_19]
    exact column_out hit_19 (by decide) y hy w
  · rw [qOf_20] at hy
    rw [nm_20]
    exact column_out hit_20 (by decide) y hy w
  · rw [qOf_21] at hy
    rw [nm_21]
    exact column_out hit_21 (by decide) y hy w
  · rw [qOf_22] at hy
    rw [nm_22]
    exact column_out hit_22 (by decide) y hy w
  · rw [qOf_23] at hy
    rw [nm_23]
    exact column_out hit_23 (by decide) y hy w
  · rw [qOf_24] at hy
    rw [nm_24]
    exact column_out hit_24 (by decide) y hy w
theorem asks_law (s : ByteArray) (y : Int) (w : World) : Calls Try.prog 3 #[.string s, .int .i64 y] w fun e w' => e = .returned (.bool true) ∧ Below w.heap.size w w' := by
  rcases hit_or_miss s with ⟨i, hi, rfl⟩ | H
  · have O := back_ok i hi
    have h8 : 2 ^ qOf i ≤ 8 := q_le ⟨i, hi⟩
    have hc : ∀ x y, x < 2 ^ qOf i → y < 2 ^ qOf i → (eA i x y).chk = true := fun x y hx hy => (ok_xy (O.xy x y hx hy)).1
    have Ma1 : ∀ w, Calls Try.prog 18 #[.string (nm i)] w fun e w' => ∃ v, e = .returned (.tuple #[v, .int .i64 0]) ∧ Below w.heap.size w w' ∧ (fun W v => ∃ M, v = mv M (2 ^ qOf i) ∧ MR W M (2 ^ qOf i) (eA i)) w' v := fun w =>
      (matrix_all i hi w).mono fun _ _ ⟨M, he, hM⟩ => ⟨_, he, hM.below, M, rfl, MX.mr (hM.same (fun _ _ => rfl) (fun x y hx hy => eA_cells i hi x y hx hy))⟩
    have SA : ∀ V a b, (fun W v => ∃ M, v = mv M (2 ^ qOf i) ∧ MR W M (2 ^ qOf i) (eA i)) V a → (fun W v => MG W (2 ^ qOf i) (eA i) v) V b → Calls Try.prog 20 #[a, b] V fun e w' => e = .returned (.bool true) ∧ Below V.heap.size V w' := fun V a b ⟨M, ha, hM⟩ hb => by
      subst ha
      exact same2_any hM hb h8 hc
    by_cases hy : 0 ≤ y ∧ y < ((2 ^ qOf i : Nat) : Int)
    · obtain ⟨k, rfl⟩ : ∃ k : Nat, y = (k : Int) := ⟨y.toNat, by omega⟩
      have hk : k < 2 ^ qOf i := by omega
      have hl := ((gate_ok i hi).col k hk).l1
      have hl2 := ((gate_ok i hi).col k hk).l2
      exact asks_in (k : Int) w (qOf i) (hOf i) 0 0 (cOf i) (dOf i) (nm (iv i)) _ _ (ens i k).length (enR (ens i k)) (enH (ens i k)) (fun j => mo (enP (ens i k) j)) (by omega) (fun j hj => (ens_va i k hi hk j hj).2.2.2)
        (arity_all i hi) (rarity_all i hi) (halves_all i hi) (rhalves_all i hi) (clifford_all i hi) (rclifford_all i hi) (diagonal_all i hi) (rdiagonal_all i hi) (inverse_all i hi) (rinverse_all i hi)
        Ma1 (rmatrix_all i hi) (fun W W2 v ⟨M, hv, hM⟩ hb => ⟨M, hv, hM.on hb⟩) SA
        (fun w => (column_all i k hi hk w).mono fun _ _ h => ql_of h (by omega)) (fun w => (rcolumn_all i k hi hk w).mono fun _ _ h => ql_of h (by omega))
    · have hy' : y < 0 ∨ ((2 ^ qOf i : Nat) : Int) ≤ y := by omega
      exact asks_nil y w (qOf i) (hOf i) 0 0 2 (cOf i) (dOf i) (nm (iv i)) _ _
        (arity_all i hi) (rarity_all i hi) (halves_all i hi) (rhalves_all i hi) (clifford_all i hi) (rclifford_all i hi) (diagonal_all i hi) (rdiagonal_all i hi) (inverse_all i hi) (rinverse_all i hi)
        Ma1 (rmatrix_all i hi) (fun W W2 v ⟨M, hv, hM⟩ hb => ⟨M, hv, hM.on hb⟩) SA
        (column_out_all i hi y hy') (rcolumn_out (qOf i : Int) (rarity_all i hi) (by rcases (gate_ok i hi).q with e | e | e <;> simp [e]) y (by
          rw [Int.toNat_natCast]
          rcases hy' with h | h
          · exact .inl h
          · exact .inr (by push_cast at h; exact h)))
  · exact asks_nil y w 0 0 80 80 80 false false ⟨#[]⟩ (fun _ v => v = .slice none 0 0) (fun _ v => v = .slice none 0 0)
      (arity_miss H) (rarity_miss H) (halves_miss H) (rhalves_miss H) (clifford_miss H) (rclifford_miss H) (diagonal_miss H) (rdiagonal_miss H) (inverse_miss (miss_find H)) (rinverse_miss H)
      (fun w => (matrix_miss H w).mono fun _ _ ⟨he, hb⟩ => ⟨_, he, hb, rfl⟩) (fun w => (rmatrix_miss H w).mono fun _ _ ⟨he, hb⟩ => ⟨_, he, by rw [hb]; exact Below.refl _ _, rfl⟩) (fun W W2 v h _ => h)
      (fun V a b ha hb => by subst ha; subst hb; exact same_nil V)
      (column_miss H y) (rcolumn_miss H y)

theorem Try.ownA : ownKnob Try.prog.godebug = none := by kernel_rfl
set_option maxHeartbeats 400000 in
set_option maxRecDepth 100000 in
theorem asks_lifted (os : Os) (started : os.Started) (H : Type) (enc : TypeId × Value → H) :
    ReturnsInHanded {} Try.checked os 3 .any (Rows.gateAsksSpec.pre6 enc Try.prog Try.f3 Rows.gateAsksRow.domain false) (Rows.gateAsksSpec.post enc Try.prog Try.f3 false true false false) := by
  refine returnsInHanded_of_change (C := Try.checked) Try.ownA started (by kernel_rfl) Try.func3
    (ChangeSpec.witness6 (enc := enc) (C := Try.checked) false ⟨#[], #[.string ByteArray.empty, .int .i64 0], []⟩ 8 (by kernel_rfl) (by kernel_rfl) (by kernel_rfl) (by kernel_rfl)) ?_
  intro W base args ds gs before hval0 hW _ _
  have hval : ∀ (j : Nat) t v, Try.f3.params[j]? = some t → args[j]? = some v → Value.okWide Try.prog W .any base t v := hval0
  have hW' := hW
  obtain ⟨p, q, hA0, hV, rfl, hfz, hnd⟩ := hW
  have hA : DataW.TrodAll enc Try.prog W 0 (fun _ => true) true Try.f3.params.toList args.toList ds p := hA0
  rw [Try.params3] at hA hval
  obtain ⟨v0, vs0, d0, ds0, p0, q0, hargs, rfl, rfl, h0, r0⟩ := trodAll_cons hA
  obtain ⟨v1, vs1, d1, ds1, p1, q1, rfl, rfl, rfl, h1, r1⟩ := trodAll_cons r0
  obtain ⟨rfl, rfl, rfl⟩ := trodAll_nil r1
  obtain rfl : args = #[v0, v1] := by cases args; simp_all
  obtain ⟨rfl, rfl⟩ := trodVars_none hV
  obtain ⟨s, rfl, rfl, rfl, hs⟩ := open_string Try.underlying9 (hval 0 9 v0 rfl rfl) h0
  obtain ⟨y, rfl, rfl, rfl, w1⟩ := open_int Try.underlying3 (hval 1 3 v1 rfl rfl) h1
  clear hA0 hval0
  simp only [List.append_nil] at hW'
  refine (asks_law s y W).mono fun e W' ⟨he, hB⟩ => ?_
  subst he
  refine ⟨_, rfl, _, _, _, [], [], [], hW', ?_, ?_, rfl, hB.frame _, fun h => by cases h⟩
  · exact trodAll_mk1 (shut_bool Try.underlying4 true)
  · exact trodAll_cons_mk (shut_string Try.underlying9 hs) (trodAll_cons_mk (shut_int Try.underlying3 w1) trodAll_mk0)

theorem asks_holds : Rows.GateAsksSaid :=
  OpenClaim.holds_of_wide 3 Try.f3 rfl rfl rfl rfl rfl rfl rfl ⟨rfl, rfl, rfl, rfl, rfl⟩ rfl rfl rfl rfl rfl (by kernel_rfl) Try.func3 (by kernel_rfl)
    (of_decide_eq_true (by kernel_rfl)) (by unfold Func.isWrapper; first | (rw [if_pos (by decide +kernel)]; kernel_rfl) | (rw [if_neg (by decide +kernel)]; exact ⟨rfl, rfl⟩))
    (fun os started H enc _ => asks_lifted os started H enc)

#print axioms asks_holds
end Go.Proofs.Ytjmgcgjmaemgdaa
