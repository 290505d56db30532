/-
  Proved: for every root (whatever its fields) and every text, of bulk at most 1048576, the law RootTexts (promises P5.1, P5.5: Float bit by bit, Text and Parse answer as the chapter says, and there and back) answers true. The tables of math/bits, strconv and unicode/utf8 and the two errors of strconv are as the program's text lays them (the card's tie); unicode/utf8.first is the pinned table. The bound is the given one of the second form.
-/
import Derived.Test.YtalaacfoaelipaaDoorCards
import Derived.Test.YtalaacfoaelipaaDoorTie
import Derived.Test.YtalaacfoaelipaaDoorX8
import Derived.Deep.DeepHandedRow
import Derived.SevenTiedAt
import Derived.ChangeMaps5
namespace Go.Proofs.YtalaacfoaelipaaDoor
open Go.ChangeShapes Go.WideShapes Go.ChangeAt Go.ChangeMaps Go.RowKit

set_option maxRecDepth 100000 in
theorem rootTexts_reads (os : Os) {H : Type} (enc : TypeId × Value → H) : ∃ places, DataW.whole enc Tryd.prog ((World.laidAll Tryd.prog os textsLaid).forCall (fun _ _ => 0) ⟨#[], #[.agg #[.int .i64 0, .int .i64 0, .int .i64 0], .string ⟨#[]⟩], []⟩).memory Tryd.f6.params.toList Rows.rootTextsSpec.vars false #[Value.agg #[.int .i64 0, .int .i64 0, .int .i64 0], .string ⟨#[]⟩].toList 8 = some ([.agg [.lit (.int .i64 0), .lit (.int .i64 0), .lit (.int .i64 0)], .lit (.string [])], [], places) :=
  ⟨[], by kernel_rfl⟩
set_option maxRecDepth 100000 in
theorem rootTextsUpto_lifted (os : Os) (started : os.Started) (H : Type) (enc : TypeId × Value → H) (F : Stop.Interp) :
    ReturnsInHanded {} Tryd.checked os 6 .any ((Rows.OpenSpec.upto Rows.rootTextsSpec).preRow enc Tryd.prog Tryd.f6 Rows.rootTextsUptoRow.domain false Rows.rootTextsUptoRow.laid)
      (((Rows.OpenSpec.upto Rows.rootTextsSpec).at F).post enc Tryd.prog Tryd.f6 false true false false) := by
  obtain ⟨places, hx⟩ := rootTexts_reads os enc
  refine returnsInHanded_of_row (C := Tryd.checked) (s := Rows.OpenSpec.upto Rows.rootTextsSpec) Tryd.own started (by kernel_rfl) Tryd.func6
    ⟨World.laidAll Tryd.prog os textsLaid, fun _ _ => 0, ⟨#[], #[.agg #[.int .i64 0, .int .i64 0, .int .i64 0], .string ⟨#[]⟩], []⟩, World.laidAll_os _ _ _, World.shaped_of_ZipB (by kernel_rfl) (by kernel_rfl),
      rfl, (Input.okWide_of_okWideB (by kernel_rfl)).2,
      OpenSpec.preRow_of_cond 8 hx (by kernel_rfl) (fun k hk => by cases hk; kernel_rfl) (by kernel_rfl) (texts_met os _), by
        simp only [Assume.holds]
        exact ⟨by simp, by simp, fun _ => Modest.zero, by simp, by simp⟩⟩ ?_
  intro W base args ds gs before hval0 hW _ hcond _ hL hsh _
  have hval : ∀ (j : Nat) t v, Tryd.f6.params[j]? = some t → args[j]? = some v → Value.okWide Tryd.prog W .any base t v := hval0
  have hW' := hW
  obtain ⟨p, q, hA0, hV, rfl, hfz, hnd⟩ := hW
  have hA : DataW.TrodAll enc Tryd.prog W 0 (fun _ => true) true Tryd.f6.params.toList args.toList ds p := hA0
  rw [Tryd.params6] at hA hval
  obtain ⟨v0, vs0, d0, ds0, p0, q0, hargs, rfl, rfl, h0, r0⟩ := trodAll_cons hA
  obtain ⟨v1, vs1, d1, ds1, p1, q1, rfl, rfl, rfl, h1, r1⟩ := trodAll_cons r0
  obtain ⟨rfl, rfl, rfl⟩ := trodAll_nil r1
  obtain rfl : args = #[v0, v1] := by cases args; simp_all
  obtain ⟨rfl, rfl⟩ := trodVars_none hV
  obtain ⟨a0, b0, c0, rfl, rfl, rfl, wa0, wb0, wc0⟩ := open_root (hval 0 23 v0 rfl rfl) h0
  obtain ⟨s, rfl, rfl, rfl, ws⟩ := open_string Tryd.underlying9 (hval 1 9 v1 rfl rfl) h1
  clear hA0 hval0
  simp only [List.append_nil] at hW'
  have hb : s.size ≤ 1048576 := by
    have h : Rows.uptoSmall H _ = true := hcond _ rfl
    have h2 := of_decide_eq_true h
    have e : s.data.toList.length = s.size := rfl
    simp only [List.append_nil, Rows.uptoBulkAll, Rows.uptoBulk, e] at h2
    omega
  refine (texts_any a0 b0 c0 s W hb (vr_of_laid hL hsh)).mono fun e W' ⟨he, hB⟩ => ?_
  subst he
  refine ⟨_, rfl, _, _, _, [], [], [], hW', ?_, ?_, rfl, hB.frame _, fun h => by cases h⟩
  · exact trodAll_mk1 (shut_bool Tryd.underlying4 true)
  · exact trodAll_cons_mk (shut_root wa0 wb0 wc0) (trodAll_cons_mk (shut_string Tryd.underlying9 ws) trodAll_mk0)

theorem rootTextsUpto_row : Rows.RootTextsUptoSaid :=
  OpenClaim.holds_of_cond 6 Tryd.f6 rfl rfl rfl rfl rfl rfl rfl ⟨rfl, rfl, rfl, rfl, rfl⟩ rfl rfl rfl rfl rfl (by kernel_rfl) Tryd.func6 (by kernel_rfl)
    (of_decide_eq_true (by kernel_rfl)) (by unfold Func.isWrapper; first | (rw [if_pos (by decide +kernel)]; kernel_rfl) | (rw [if_neg (by decide +kernel)]; exact ⟨rfl, rfl⟩))
    (fun os started H enc _ F => by rw [OpenClaim.pre_eq_preRow]; exact rootTextsUpto_lifted os started H enc F)

theorem rootTextsUpto_holds : Rows.RootTextsUptoCardSaid :=
  Claim7.holds_tied_plain_at .later [] [.data, .data, .data, .data, .sentinel, .sentinel, .pinned] true (true, "77608490ccbbc25fa592a584ef2fa1dd227ba8cae450dc5bc3acd644ac0f4700") true
    rootTextsUpto_row (fun _ h => by cases h) (by kernel_rfl) (fun _ h => by cases h) rootTextsUpto_row_tie rfl ⟨rfl, rfl⟩ (by kernel_rfl) rfl
    (fun f fn hf hfn => by
      obtain rfl : f = 6 := Option.some.inj ((show Tryd.prog.funcNamed "cubit/cubitlaw05.RootTexts" = some 6 by kernel_rfl).symm.trans hf) |>.symm
      obtain rfl : fn = Tryd.f6 := (Option.some.inj (Tryd.func6.symm.trans hfn)).symm
      exact ⟨by kernel_rfl, fun j t ht => by
        rw [Tryd.params6] at ht
        have h23 : Tryd.prog.wantsStandIn 23 = false := by kernel_rfl
        have h9 : Tryd.prog.wantsStandIn 9 = false := by kernel_rfl
        match j, ht with
        | 0, ht => simp at ht; subst ht; exact h23
        | 1, ht => simp at ht; subst ht; exact h9
        | n + 2, ht => simp at ht⟩)
    (by kernel_rfl)
#print axioms rootTextsUpto_holds
end Go.Proofs.YtalaacfoaelipaaDoor
