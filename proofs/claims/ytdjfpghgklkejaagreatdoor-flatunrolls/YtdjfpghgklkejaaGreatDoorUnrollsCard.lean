/-
  Proved: for every list of rows the law FlatUnrolls (promise P12.4: a repeat that is written out changes no circuit) answers true, and the rows read afterwards as they read before. No condition. The tables of math/bits and strconv and the two errors of strconv are as the program's text lays them.
-/
import Derived.Test.YtdjfpghgklkejaaGreatDoorCards
import Derived.Test.YtdjfpghgklkejaaGreatDoorTie
import Derived.Test.YtdjfpghgklkejaaGreatDoorXB
import Derived.Test.YtdjfpghgklkejaaGreatDoorYE
import Derived.Test.YtdjfpghgklkejaaGreatDoorYF
import Derived.SizedLaws
import Derived.Deep.DeepHandedRow
import Derived.SevenTiedAt
import Derived.ChangeMaps5
namespace Go.Proofs.YtdjfpghgklkejaaGreatDoor
open Go.ChangeShapes Go.WideShapes Go.ChangeAt Go.ChangeMaps Go.RowKit

set_option maxRecDepth 100000 in
theorem flatUnrolls_reads (os : Os) {H : Type} (enc : TypeId × Value → H) : ∃ places, DataW.whole enc Tryz.prog ((World.laidAll Tryz.prog os seatLaid).forCall (fun _ _ => 0) ⟨#[], #[.slice none 0 0], []⟩).memory Tryz.f8.params.toList Rows.flatUnrollsSpec.vars false (#[.slice none 0 0] : Array Value).toList 8 = some ([.nil], [], places) :=
  ⟨[], by kernel_rfl⟩
set_option maxRecDepth 100000 in
theorem flatUnrolls_lifted (os : Os) (started : os.Started) (H : Type) (enc : TypeId × Value → H) (F : Stop.Interp) :
    ReturnsInHanded {} Tryz.checked os 8 .any ((OpenSpec.ofChange Rows.flatUnrollsSpec).preRow enc Tryz.prog Tryz.f8 Rows.flatUnrollsRow.domain false Rows.flatUnrollsRow.laid)
      (((OpenSpec.ofChange Rows.flatUnrollsSpec).at F).post enc Tryz.prog Tryz.f8 false true false false) := by
  obtain ⟨places, hx⟩ := flatUnrolls_reads os enc
  refine returnsInHanded_of_row (C := Tryz.checked) (s := OpenSpec.ofChange Rows.flatUnrollsSpec) Tryz.own started (by kernel_rfl) Tryz.func8
    ⟨World.laidAll Tryz.prog os seatLaid, fun _ _ => 0, ⟨#[], #[.slice none 0 0], []⟩, World.laidAll_os _ _ _, World.shaped_of_ZipB (by kernel_rfl) (by kernel_rfl),
      rfl, (Input.okWide_of_okWideB (by kernel_rfl)).2,
      OpenSpec.preRow_of_cond 8 hx (by kernel_rfl) (fun k hk => by cases hk) (by kernel_rfl) (seat_met os _), by
        simp only [Assume.holds]
        exact ⟨by simp, by simp, fun _ => Modest.zero, by simp, by simp⟩⟩ ?_
  intro W base args ds gs before hval0 hW _ _ hsz0 hL _ _
  have hval : ∀ (j : Nat) t v, Tryz.f8.params[j]? = some t → args[j]? = some v → Value.okWide Tryz.prog W .any base t v := hval0
  have hsz : (DataW.weightsEach Tryz.prog (Tryz.f8.params.toList ++ Rows.flatUnrollsSpec.plain.varTypes Tryz.prog) (ds ++ gs)).all (· ≤ reachBytes) = true := hsz0
  have hW' := hW
  obtain ⟨p, q, hA0, hV, rfl, hfz, hnd⟩ := hW
  have hA : DataW.TrodAll enc Tryz.prog W 0 (fun _ => true) true Tryz.f8.params.toList args.toList ds p := hA0
  rw [Tryz.params8] at hA hval hsz
  obtain ⟨v0, vs0, d0, ds0, p0, q0, hargs, rfl, rfl, h0, r0⟩ := trodAll_cons hA
  obtain ⟨rfl, rfl, rfl⟩ := trodAll_nil r0
  obtain rfl : args = #[v0] := by cases args; simp_all
  obtain ⟨rfl, rfl⟩ := trodVars_none hV
  have hsz' : (DataW.weightsEach Tryz.prog [22] [d0]).all (· ≤ reachBytes) = true := hsz
  obtain ⟨rs, hSR, hlen, hSz, hwt⟩ := rows2_of_trod (hval 0 22 v0 rfl rfl) h0
  have hw := hwt reachBytes (fun n hn => by
    have := List.all_eq_true.1 hsz' n (by simp only [DataW.weightsEach, List.append_nil]; exact hn)
    simpa using this)
  have hZ : SzR rs := fun r hr => by
    obtain ⟨z1, z2, z3, z4, z5, z6, z7⟩ := hSz r hr
    have := hw.2 r hr
    unfold reachBytes at this
    exact ⟨z1, by omega, z3, z4, z5, z6, z7⟩
  clear hA0 hval0
  simp only [List.append_nil] at hW'
  have hlt : ∀ x ∈ p0, x.block < W.heap.size := fun x hx => hW'.lt x (by simp [hx])
  refine (unrolls_of unrolled_any W v0 rs (vr_of_laid hL) hSR hZ).mono fun e W' ⟨he, hB⟩ => ?_
  subst he
  refine ⟨_, rfl, _, _, _, [], p0, [], hW', ?_, ?_, rfl, hB.frame _, fun h => by cases h⟩
  · exact trodAll_mk1 (shut_bool Tryz.underlying4 true)
  · have g0 := Below.trod Tryz.laidOut (by kernel_rfl) (of_decide_eq_true (by kernel_rfl)) h0 hB hlt
    have := trodAll_cons_mk g0 trodAll_mk0
    simp only [List.append_nil] at this
    exact this

theorem flatUnrolls_row : Rows.FlatUnrollsSaid :=
  OpenClaim.holds_of_cond 8 Tryz.f8 rfl rfl rfl rfl rfl rfl rfl ⟨rfl, rfl, rfl, rfl, rfl⟩ rfl rfl rfl rfl rfl (by kernel_rfl) Tryz.func8 (by kernel_rfl)
    (of_decide_eq_true (by kernel_rfl)) (by unfold Func.isWrapper; first | (rw [if_pos (by decide +kernel)]; kernel_rfl) | (rw [if_neg (by decide +kernel)]; exact ⟨rfl, rfl⟩))
    (fun os started H enc _ F => by rw [OpenClaim.pre_eq_preRow]; exact flatUnrolls_lifted os started H enc F)

theorem flatUnrolls_holds : Rows.FlatUnrollsCardSaid :=
  Claim7.holds_tied_plain_at .later [] [.data, .data, .data, .sentinel, .sentinel] true (true, "8d91e53267eb5bfb544638c8e049a370566031fe19ed6a7909a2bca264538808") true
    flatUnrolls_row (fun _ h => by cases h) (by kernel_rfl) (fun _ h => by cases h) flatUnrolls_row_tie rfl ⟨rfl, rfl⟩ (by kernel_rfl) rfl
    (fun f fn hf hfn => by
      obtain rfl : f = 8 := Option.some.inj ((show Tryz.prog.funcNamed "cubit/cubitlaw12.FlatUnrolls" = some 8 by kernel_rfl).symm.trans hf) |>.symm
      obtain rfl : fn = Tryz.f8 := (Option.some.inj (Tryz.func8.symm.trans hfn)).symm
      exact ⟨by kernel_rfl, fun j t ht => by
        rw [Tryz.params8] at ht
        have h9 : Tryz.prog.wantsStandIn 22 = false := by kernel_rfl
        match j, ht with
        | 0, ht => simp at ht; subst ht; exact h9
        | n + 1, ht => simp at ht⟩)
    (by kernel_rfl)
#print axioms flatUnrolls_holds
end Go.Proofs.YtdjfpghgklkejaaGreatDoor
