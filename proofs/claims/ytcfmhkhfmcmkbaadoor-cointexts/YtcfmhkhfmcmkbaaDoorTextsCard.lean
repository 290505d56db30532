/-
  Proved: for every coin (whatever its fields) and every list of texts the law CoinTexts (promises P16.1, P16.4: every Text and Parse tells what the document's answer tells, and a coin's text is read as the coin) answers true, and the list reads afterwards as it read before. The tables of math/bits and strconv and the two errors of strconv are as the program's text lays them (the card's tie).
-/
import Derived.Test.YtcfmhkhfmcmkbaaDoorCards
import Derived.Test.YtcfmhkhfmcmkbaaDoorTie
import Derived.Test.YtcfmhkhfmcmkbaaDoorXS
import Derived.Deep.DeepHandedRow
import Derived.SevenTiedAt
import Derived.ChangeMaps5
namespace Go.Proofs.YtcfmhkhfmcmkbaaDoor
open Go.ChangeShapes Go.WideShapes Go.ChangeAt Go.ChangeMaps Go.RowKit

set_option maxRecDepth 100000 in
theorem coinTexts_reads (os : Os) {H : Type} (enc : TypeId × Value → H) : ∃ places, DataW.whole enc Tryd.prog ((World.laidAll Tryd.prog os textsLaid).forCall (fun _ _ => 0) ⟨#[], #[.agg #[.int .u64 0, .int .i64 0], .slice none 0 0], []⟩).memory Tryd.f5.params.toList Rows.coinTextsSpec.vars false (#[.agg #[.int .u64 0, .int .i64 0], .slice none 0 0] : Array Value).toList 8 = some ([.agg [.lit (.int .u64 0), .lit (.int .i64 0)], .nil], [], places) :=
  ⟨[], by kernel_rfl⟩
set_option maxRecDepth 100000 in
theorem coinTexts_lifted (os : Os) (started : os.Started) (H : Type) (enc : TypeId × Value → H) (F : Stop.Interp) :
    ReturnsInHanded {} Tryd.checked os 5 .any ((OpenSpec.ofChange Rows.coinTextsSpec).preRow enc Tryd.prog Tryd.f5 Rows.coinTextsRow.domain false Rows.coinTextsRow.laid)
      (((OpenSpec.ofChange Rows.coinTextsSpec).at F).post enc Tryd.prog Tryd.f5 false true false false) := by
  obtain ⟨places, hx⟩ := coinTexts_reads os enc
  refine returnsInHanded_of_row (C := Tryd.checked) (s := OpenSpec.ofChange Rows.coinTextsSpec) Tryd.own started (by kernel_rfl) Tryd.func5
    ⟨World.laidAll Tryd.prog os textsLaid, fun _ _ => 0, ⟨#[], #[.agg #[.int .u64 0, .int .i64 0], .slice none 0 0], []⟩, World.laidAll_os _ _ _, World.shaped_of_ZipB (by kernel_rfl) (by kernel_rfl),
      rfl, (Input.okWide_of_okWideB (by kernel_rfl)).2,
      OpenSpec.preRow_of_cond 8 hx (by kernel_rfl) (fun k hk => by cases hk) (by kernel_rfl) (texts_met os _), by
        simp only [Assume.holds]
        exact ⟨by simp, by simp, fun _ => Modest.zero, by simp, by simp⟩⟩ ?_
  intro W base args ds gs before hval0 hW _ _ hsz0 hL _ _
  have hval : ∀ (j : Nat) t v, Tryd.f5.params[j]? = some t → args[j]? = some v → Value.okWide Tryd.prog W .any base t v := hval0
  have hsz : (DataW.weightsEach Tryd.prog (Tryd.f5.params.toList ++ Rows.coinTextsSpec.plain.varTypes Tryd.prog) (ds ++ gs)).all (· ≤ reachBytes) = true := hsz0
  have hW' := hW
  obtain ⟨p, q, hA0, hV, rfl, hfz, hnd⟩ := hW
  have hA : DataW.TrodAll enc Tryd.prog W 0 (fun _ => true) true Tryd.f5.params.toList args.toList ds p := hA0
  rw [Tryd.params5] at hA hval hsz
  obtain ⟨v0, vs0, d0, ds0, p0, q0, hargs, rfl, rfl, h0, r0⟩ := trodAll_cons hA
  obtain ⟨v1, vs1, d1, ds1, p1, q1, rfl, rfl, rfl, h1, r1⟩ := trodAll_cons r0
  obtain ⟨rfl, rfl, rfl⟩ := trodAll_nil r1
  obtain rfl : args = #[v0, v1] := by cases args; simp_all
  obtain ⟨rfl, rfl⟩ := trodVars_none hV
  obtain ⟨m, l, rfl, rfl, rfl, wm, wl⟩ := open_coin (hval 0 28 v0 rfl rfl) h0
  have hsz' : (DataW.weightsEach Tryd.prog [28, 42] [.agg [.lit (.int .u64 m), .lit (.int .i64 l)], d1]).all (· ≤ reachBytes) = true := hsz
  obtain ⟨a, cp, ss, rfl, hSS⟩ := strs_of_trod (hval 1 42 v1 rfl rfl) h1 hsz'
  clear hA0 hval0
  simp only [List.append_nil, List.nil_append] at hW'
  have hlt : ∀ x ∈ p1, x.block < W.heap.size := fun x hx => by simpa using hW'.lt x hx
  refine (texts_any m l (bounds_u64 wm).1 (bounds_i64 wl) a cp ss W (vr_of_laid hL) hSS).mono fun e W' ⟨he, hB⟩ => ?_
  subst he
  refine ⟨_, rfl, _, _, _, [], p1, [], hW', ?_, ?_, rfl, hB.frame _, fun h => by cases h⟩
  · exact trodAll_mk1 (shut_bool Tryd.underlying4 true)
  · have h2' := Below.trod Tryd.laidOut (by kernel_rfl) (of_decide_eq_true (by kernel_rfl)) h1 hB hlt
    have := trodAll_cons_mk (shut_coin wm wl) (trodAll_cons_mk h2' trodAll_mk0)
    simp only [List.append_nil, List.nil_append] at this
    exact this

theorem coinTexts_row : Rows.CoinTextsSaid :=
  OpenClaim.holds_of_cond 5 Tryd.f5 rfl rfl rfl rfl rfl rfl rfl ⟨rfl, rfl, rfl, rfl, rfl⟩ rfl rfl rfl rfl rfl (by kernel_rfl) Tryd.func5 (by kernel_rfl)
    (of_decide_eq_true (by kernel_rfl)) (by unfold Func.isWrapper; first | (rw [if_pos (by decide +kernel)]; kernel_rfl) | (rw [if_neg (by decide +kernel)]; exact ⟨rfl, rfl⟩))
    (fun os started H enc _ F => by rw [OpenClaim.pre_eq_preRow]; exact coinTexts_lifted os started H enc F)

theorem coinTexts_holds : Rows.CoinTextsCardSaid :=
  Claim7.holds_tied_plain_at .later [] [.data, .data, .data, .sentinel, .sentinel] true (true, "d5ba81b96f500894e34cd511d92b5173016d144a57f404fc4dd77830aa5a5f97") true
    coinTexts_row (fun _ h => by cases h) (by kernel_rfl) (fun _ h => by cases h) coinTexts_row_tie rfl ⟨rfl, rfl⟩ (by kernel_rfl) rfl
    (fun f fn hf hfn => by
      obtain rfl : f = 5 := Option.some.inj ((show Tryd.prog.funcNamed "cubit/cubitlaw16.CoinTexts" = some 5 by kernel_rfl).symm.trans hf) |>.symm
      obtain rfl : fn = Tryd.f5 := (Option.some.inj (Tryd.func5.symm.trans hfn)).symm
      exact ⟨by kernel_rfl, fun j t ht => by
        rw [Tryd.params5] at ht
        have h28 : Tryd.prog.wantsStandIn 28 = false := by kernel_rfl
        have h42 : Tryd.prog.wantsStandIn 42 = false := by kernel_rfl
        match j, ht with
        | 0, ht => simp at ht; subst ht; exact h28
        | 1, ht => simp at ht; subst ht; exact h42
        | n + 2, ht => simp at ht⟩)
    (by kernel_rfl)
#print axioms coinTexts_holds
end Go.Proofs.YtcfmhkhfmcmkbaaDoor
