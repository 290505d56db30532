/-
  Proved: for every two uint64 and every list of ints the law BitsPlaces (promise P3.1: every Pick and Put; the places stay as they are, spare room included) answers true, and the list reads afterwards as it read before. The table of math/bits is as the program's text lays it (the card's tie).
-/
import Derived.Test.YtcehedlmpnaofaaDoorCards
import Derived.Test.YtcehedlmpnaofaaDoorTie
import Derived.Test.YtcehedlmpnaofaaDoorOpen2
import Derived.Test.YtcehedlmpnaofaaDoorPlaces
namespace Go.Proofs.YtcehedlmpnaofaaDoor
open Go.ChangeShapes Go.WideShapes Go.ChangeAt Go.RowKit

set_option maxRecDepth 100000 in
theorem places_lifted (os : Os) (started : os.Started) (H : Type) (enc : TypeId × Value → H) :
    ReturnsInHanded {} Tryd.checked os 4 .any (fun w args => (Rows.bitsPlacesSpec.pre enc Tryd.prog Tryd.f4 [] false w args ∧ laidMetH Tryd.prog tabLaid w) ∧ sizedMet enc Tryd.prog Tryd.f4 (OpenSpec.ofChange Rows.bitsPlacesSpec) false w args)
      (Rows.bitsPlacesSpec.post enc Tryd.prog Tryd.f4 false true false false) := by
  refine returnsInHanded_of_change_and (C := Tryd.checked) (X := fun w _ => laidMetH Tryd.prog tabLaid w) (fun _ _ _ hh h => h.of_heap hh) Tryd.own started (by kernel_rfl) Tryd.func4
    (ChangeSpec.witness_shaped (enc := enc) (C := Tryd.checked) (os := os) (X := fun w _ => laidMetH Tryd.prog tabLaid w) false (World.doorLaid Tryd.prog 14 os) #[.int .u64 0, .int .u64 0, .slice none 0 0] 8 rfl (World.shaped_of_RefB (by kernel_rfl) (by kernel_rfl)) (by kernel_rfl) (by kernel_rfl) (by kernel_rfl) (door_met os _)) ?_
  intro W base args ds gs before hval0 hW _ hsz0 _ _
  have hval : ∀ (j : Nat) t v, Tryd.f4.params[j]? = some t → args[j]? = some v → Value.okWide Tryd.prog W .any base t v := hval0
  have hsz : (DataW.weightsEach Tryd.prog (Tryd.f4.params.toList ++ Rows.bitsPlacesSpec.plain.varTypes Tryd.prog) (ds ++ gs)).all (· ≤ reachBytes) = true := hsz0
  have hW' := hW
  obtain ⟨p, q, hA0, hV, rfl, hfz, hnd⟩ := hW
  have hA : DataW.TrodAll enc Tryd.prog W 0 (fun _ => true) true Tryd.f4.params.toList args.toList ds p := hA0
  rw [Tryd.params4] at hA hval hsz
  obtain ⟨v0, vs0, d0, ds0, p0, q0, hargs, rfl, rfl, h0, r0⟩ := trodAll_cons hA
  obtain ⟨v1, vs1, d1, ds1, p1, q1, rfl, rfl, rfl, h1, r1⟩ := trodAll_cons r0
  obtain ⟨v2, vs2, d2, ds2, p2, q2, rfl, rfl, rfl, h2, r2⟩ := trodAll_cons r1
  obtain ⟨rfl, rfl, rfl⟩ := trodAll_nil r2
  obtain rfl : args = #[v0, v1, v2] := by cases args; simp_all
  obtain ⟨rfl, rfl⟩ := trodVars_none hV
  obtain ⟨a0, rfl, rfl, rfl, w0⟩ := open_int Tryd.underlying22 (hval 0 22 v0 rfl rfl) h0
  obtain ⟨a1, rfl, rfl, rfl, w1⟩ := open_int Tryd.underlying22 (hval 1 22 v1 rfl rfl) h1
  obtain ⟨a, n, cap, f, rfl, hr, hnone, hrow⟩ := row_of_reach (j := 2) (hval 2 36 v2 rfl rfl) h2 hsz rfl rfl
  clear hA0 hval0
  simp only [List.append_nil, List.nil_append] at hW'
  have hlt : ∀ x ∈ p2, x.block < W.heap.size := fun x hx => by simpa using hW'.lt x hx
  obtain ⟨x, rfl, hx⟩ : ∃ x : Nat, a0 = x ∧ x < 18446744073709551616 := by
    have := bounds_u64 w0
    exact ⟨a0.toNat, by omega, by omega⟩
  obtain ⟨y, rfl, hy⟩ : ∃ x : Nat, a1 = x ∧ x < 18446744073709551616 := by
    have := bounds_u64 w1
    exact ⟨a1.toNat, by omega, by omega⟩
  refine (places_any x y a f n cap W hx hy hr hnone hrow).mono fun e W' ⟨he, hB⟩ => ?_
  subst he
  refine ⟨_, rfl, _, _, _, [], p2, [], hW', ?_, ?_, rfl, hB.frame _, fun h => by cases h⟩
  · exact trodAll_mk1 (shut_bool Tryd.underlying4 true)
  · have h2' := Below.trod Tryd.laidOut (by kernel_rfl) (of_decide_eq_true (by kernel_rfl)) h2 hB hlt
    have := trodAll_cons_mk (shut_int Tryd.underlying22 w0) (trodAll_cons_mk (shut_int Tryd.underlying22 w1) (trodAll_cons_mk h2' trodAll_mk0))
    simp only [List.nil_append, List.append_nil] at this
    exact this

theorem places_row : Rows.BitsPlacesSaid :=
  OpenClaim.holds_of_wide 4 Tryd.f4 rfl rfl rfl rfl rfl rfl rfl ⟨rfl, rfl, rfl, rfl, rfl⟩ rfl rfl rfl rfl rfl (by kernel_rfl) Tryd.func4 (by kernel_rfl)
    (of_decide_eq_true (by kernel_rfl)) (by unfold Func.isWrapper; first | (rw [if_pos (by decide +kernel)]; kernel_rfl) | (rw [if_neg (by decide +kernel)]; exact ⟨rfl, rfl⟩))
    (fun os started H enc _ => places_lifted os started H enc)

theorem places_holds : Rows.BitsPlacesCardSaid :=
  Claim7.holds_tied_plain_at .later [] [.data] true (true, "4ff8eb559a1fe0027f5efc6cd938038ece8db83f2e6e6d355693f51362e64978") false
    places_row (fun _ h => by cases h) (by kernel_rfl) (fun _ h => by cases h) bitsPlaces_row_tie rfl ⟨rfl, rfl⟩ (by kernel_rfl) rfl
    (fun f fn hf hfn => by
      obtain rfl : f = 4 := Option.some.inj ((show Tryd.prog.funcNamed "cubit/cubitlaw03.BitsPlaces" = some 4 by kernel_rfl).symm.trans hf) |>.symm
      obtain rfl : fn = Tryd.f4 := (Option.some.inj (Tryd.func4.symm.trans hfn)).symm
      exact ⟨by kernel_rfl, fun j t ht => by
        rw [Tryd.params4] at ht
        have h22 : Tryd.prog.wantsStandIn 22 = false := by kernel_rfl
        have h36 : Tryd.prog.wantsStandIn 36 = false := by kernel_rfl
        match j, ht with
        | 0, ht => simp at ht; subst ht; exact h22
        | 1, ht => simp at ht; subst ht; exact h22
        | 2, ht => simp at ht; subst ht; exact h36
        | n + 3, ht => simp at ht⟩)
    (by kernel_rfl)
#print axioms places_holds
end Go.Proofs.YtcehedlmpnaofaaDoor
