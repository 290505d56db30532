/-
  Proved: for every list of coins and every two roots (whatever their fields) the law CoinTosses (promise P16.1: every Check and Toss tells what the document's answer tells) answers true, and the list reads afterwards as it read before. The table of math/bits is as the program's text lays it (the card's tie).
-/
import Derived.Test.YtcfmhkhfmcmkbaaDoorCards
import Derived.Test.YtcfmhkhfmcmkbaaDoorTie
import Derived.Test.YtcfmhkhfmcmkbaaDoorXC
import Derived.Test.YtcfmhkhfmcmkbaaDoorXO
namespace Go.Proofs.YtcfmhkhfmcmkbaaDoor
open Go.ChangeShapes Go.WideShapes Go.ChangeAt Go.RowKit

set_option maxRecDepth 100000 in
theorem coinTosses_lifted (os : Os) (started : os.Started) (H : Type) (enc : TypeId × Value → H) :
    ReturnsInHanded {} Tryd.checked os 3 .any (fun w args => (Rows.coinTossesSpec.pre enc Tryd.prog Tryd.f3 [] false w args ∧ laidMetH Tryd.prog tabLaid w) ∧ sizedMet enc Tryd.prog Tryd.f3 (OpenSpec.ofChange Rows.coinTossesSpec) false w args)
      (Rows.coinTossesSpec.post enc Tryd.prog Tryd.f3 false true false false) := by
  refine returnsInHanded_of_change_and (C := Tryd.checked) (X := fun w _ => laidMetH Tryd.prog tabLaid w) (fun _ _ _ hh h => h.of_heap hh) Tryd.own started (by kernel_rfl) Tryd.func3
    (ChangeSpec.witness_shaped (enc := enc) (C := Tryd.checked) (os := os) (X := fun w _ => laidMetH Tryd.prog tabLaid w) false (World.doorLaid Tryd.prog 72 os) #[.slice none 0 0, .agg #[.int .i64 0, .int .i64 0, .int .i64 0], .agg #[.int .i64 0, .int .i64 0, .int .i64 0]] 8 rfl (World.shaped_of_RefB (by kernel_rfl) (by kernel_rfl)) (by kernel_rfl) (by kernel_rfl) (by kernel_rfl) (door_met os _)) ?_
  intro W base args ds gs before hval0 hW _ _ hL _
  have hval : ∀ (j : Nat) t v, Tryd.f3.params[j]? = some t → args[j]? = some v → Value.okWide Tryd.prog W .any base t v := hval0
  have hW' := hW
  obtain ⟨p, q, hA0, hV, rfl, hfz, hnd⟩ := hW
  have hA : DataW.TrodAll enc Tryd.prog W 0 (fun _ => true) true Tryd.f3.params.toList args.toList ds p := hA0
  rw [Tryd.params3] at hA hval
  obtain ⟨v0, vs0, d0, ds0, p0, q0, hargs, rfl, rfl, h0, r0⟩ := trodAll_cons hA
  obtain ⟨v1, vs1, d1, ds1, p1, q1, rfl, rfl, rfl, h1, r1⟩ := trodAll_cons r0
  obtain ⟨v2, vs2, d2, ds2, p2, q2, rfl, rfl, rfl, h2, r2⟩ := trodAll_cons r1
  obtain ⟨rfl, rfl, rfl⟩ := trodAll_nil r2
  obtain rfl : args = #[v0, v1, v2] := by cases args; simp_all
  obtain ⟨rfl, rfl⟩ := trodVars_none hV
  obtain ⟨aa, len, cap, rfl⟩ := okWide_slice Tryd.underlying22 (hval 0 22 v0 rfl rfl)
  have h00 := h0
  obtain ⟨fuel0, hf0⟩ := h0
  obtain ⟨a, cp, cs, ecs, hCS⟩ := coins_of_trod hf0
  simp [Value.cells] at ecs
  obtain ⟨rfl, rfl, rfl⟩ := ecs
  obtain ⟨a0, b0, c0, rfl, rfl, rfl, wa0, wb0, wc0⟩ := open_root (hval 1 24 v1 rfl rfl) h1
  obtain ⟨a1, b1, c1, rfl, rfl, rfl, wa1, wb1, wc1⟩ := open_root (hval 2 24 v2 rfl rfl) h2
  clear hA0 hval0
  simp only [List.append_nil] at hW'
  have hlt : ∀ x ∈ p0, x.block < W.heap.size := fun x hx => by simpa using hW'.lt x hx
  refine (tosses_any _ _ cs a0 b0 c0 a1 b1 c1 W (tab_of_laid hL) hCS).mono fun e W' ⟨he, hB⟩ => ?_
  subst he
  refine ⟨_, rfl, _, _, _, [], p0, [], hW', ?_, ?_, rfl, hB.frame _, fun h => by cases h⟩
  · exact trodAll_mk1 (shut_bool Tryd.underlying4 true)
  · have h2' := Below.trod Tryd.laidOut (by kernel_rfl) (of_decide_eq_true (by kernel_rfl)) h00 hB hlt
    have := trodAll_cons_mk h2' (trodAll_cons_mk (shut_root wa0 wb0 wc0) (trodAll_cons_mk (shut_root wa1 wb1 wc1) trodAll_mk0))
    simp only [List.append_nil] at this
    exact this

theorem coinTosses_row : Rows.CoinTossesSaid :=
  OpenClaim.holds_of_wide 3 Tryd.f3 rfl rfl rfl rfl rfl rfl rfl ⟨rfl, rfl, rfl, rfl, rfl⟩ rfl rfl rfl rfl rfl (by kernel_rfl) Tryd.func3 (by kernel_rfl)
    (of_decide_eq_true (by kernel_rfl)) (by unfold Func.isWrapper; first | (rw [if_pos (by decide +kernel)]; kernel_rfl) | (rw [if_neg (by decide +kernel)]; exact ⟨rfl, rfl⟩))
    (fun os started H enc _ => coinTosses_lifted os started H enc)

theorem coinTosses_holds : Rows.CoinTossesCardSaid :=
  Claim7.holds_tied_plain_at .later [] [.data] true (true, "d5ba81b96f500894e34cd511d92b5173016d144a57f404fc4dd77830aa5a5f97") true
    coinTosses_row (fun _ h => by cases h) (by kernel_rfl) (fun _ h => by cases h) coinTosses_row_tie rfl ⟨rfl, rfl⟩ (by kernel_rfl) rfl
    (fun f fn hf hfn => by
      obtain rfl : f = 3 := Option.some.inj ((show Tryd.prog.funcNamed "cubit/cubitlaw16.CoinTosses" = some 3 by kernel_rfl).symm.trans hf) |>.symm
      obtain rfl : fn = Tryd.f3 := (Option.some.inj (Tryd.func3.symm.trans hfn)).symm
      exact ⟨by kernel_rfl, fun j t ht => by
        rw [Tryd.params3] at ht
        have h22 : Tryd.prog.wantsStandIn 22 = false := by kernel_rfl
        have h24 : Tryd.prog.wantsStandIn 24 = false := by kernel_rfl
        match j, ht with
        | 0, ht => simp at ht; subst ht; exact h22
        | 1, ht => simp at ht; subst ht; exact h24
        | 2, ht => simp at ht; subst ht; exact h24
        | n + 3, ht => simp at ht⟩)
    (by kernel_rfl)
#print axioms coinTosses_holds
end Go.Proofs.YtcfmhkhfmcmkbaaDoor
