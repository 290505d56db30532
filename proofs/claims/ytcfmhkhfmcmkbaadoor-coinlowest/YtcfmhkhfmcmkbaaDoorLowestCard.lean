/-
  Proved: for every number and every two roots (whatever their fields) the law CoinLowest (promises P16.2, P16.3: the coins that tell 1 are the lowest ones, as many as Shown says; with the other weight they make up all coins, or one more; a certain outcome hangs on no coin) answers true. The table of math/bits is as the program's text lays it (the card's tie).
-/
import Derived.Test.YtcfmhkhfmcmkbaaDoorCards
import Derived.Test.YtcfmhkhfmcmkbaaDoorTie
import Derived.Test.YtcfmhkhfmcmkbaaDoorXC
import Derived.Test.YtcfmhkhfmcmkbaaDoorXO
namespace Go.Proofs.YtcfmhkhfmcmkbaaDoor
open Go.ChangeShapes Go.WideShapes Go.ChangeAt Go.RowKit

set_option maxRecDepth 100000 in
theorem coinLowest_lifted (os : Os) (started : os.Started) (H : Type) (enc : TypeId × Value → H) :
    ReturnsInHanded {} Tryd.checked os 6 .any (fun w args => (Rows.coinLowestSpec.pre enc Tryd.prog Tryd.f6 [] false w args ∧ laidMetH Tryd.prog tabLaid w) ∧ sizedMet enc Tryd.prog Tryd.f6 (OpenSpec.ofChange Rows.coinLowestSpec) false w args)
      (Rows.coinLowestSpec.post enc Tryd.prog Tryd.f6 false true false false) := by
  refine returnsInHanded_of_change_and (C := Tryd.checked) (X := fun w _ => laidMetH Tryd.prog tabLaid w) (fun _ _ _ hh h => h.of_heap hh) Tryd.own started (by kernel_rfl) Tryd.func6
    (ChangeSpec.witness_shaped (enc := enc) (C := Tryd.checked) (os := os) (X := fun w _ => laidMetH Tryd.prog tabLaid w) false (World.doorLaid Tryd.prog 72 os) #[.int .i64 0, .agg #[.int .i64 0, .int .i64 0, .int .i64 0], .agg #[.int .i64 0, .int .i64 0, .int .i64 0]] 8 rfl (World.shaped_of_RefB (by kernel_rfl) (by kernel_rfl)) (by kernel_rfl) (by kernel_rfl) (by kernel_rfl) (door_met os _)) ?_
  intro W base args ds gs before hval0 hW _ _ hL _
  have hval : ∀ (j : Nat) t v, Tryd.f6.params[j]? = some t → args[j]? = some v → Value.okWide Tryd.prog W .any base t v := hval0
  have hW' := hW
  obtain ⟨p, q, hA0, hV, rfl, hfz, hnd⟩ := hW
  have hA : DataW.TrodAll enc Tryd.prog W 0 (fun _ => true) true Tryd.f6.params.toList args.toList ds p := hA0
  rw [Tryd.params6] at hA hval
  obtain ⟨v0, vs0, d0, ds0, p0, q0, hargs, rfl, rfl, h0, r0⟩ := trodAll_cons hA
  obtain ⟨v1, vs1, d1, ds1, p1, q1, rfl, rfl, rfl, h1, r1⟩ := trodAll_cons r0
  obtain ⟨v2, vs2, d2, ds2, p2, q2, rfl, rfl, rfl, h2, r2⟩ := trodAll_cons r1
  obtain ⟨rfl, rfl, rfl⟩ := trodAll_nil r2
  obtain rfl : args = #[v0, v1, v2] := by cases args; simp_all
  obtain ⟨rfl, rfl⟩ := trodVars_none hV
  obtain ⟨n, rfl, rfl, rfl, wn⟩ := open_int Tryd.underlying3 (hval 0 3 v0 rfl rfl) h0
  obtain ⟨a0, b0, c0, rfl, rfl, rfl, wa0, wb0, wc0⟩ := open_root (hval 1 24 v1 rfl rfl) h1
  obtain ⟨a1, b1, c1, rfl, rfl, rfl, wa1, wb1, wc1⟩ := open_root (hval 2 24 v2 rfl rfl) h2
  clear hA0 hval0
  simp only [List.append_nil] at hW'
  have hn : -9223372036854775808 ≤ n ∧ n ≤ 9223372036854775807 := by
    have := bounds_i64 wn
    omega
  refine (lowest_any n a0 b0 c0 a1 b1 c1 W (tab_of_laid hL) hn).mono fun e W' ⟨he, hB⟩ => ?_
  subst he
  refine ⟨_, rfl, _, _, _, [], [], [], hW', ?_, ?_, rfl, hB.frame _, fun h => by cases h⟩
  · exact trodAll_mk1 (shut_bool Tryd.underlying4 true)
  · exact trodAll_cons_mk (shut_int Tryd.underlying3 wn) (trodAll_cons_mk (shut_root wa0 wb0 wc0) (trodAll_cons_mk (shut_root wa1 wb1 wc1) trodAll_mk0))

theorem coinLowest_row : Rows.CoinLowestSaid :=
  OpenClaim.holds_of_wide 6 Tryd.f6 rfl rfl rfl rfl rfl rfl rfl ⟨rfl, rfl, rfl, rfl, rfl⟩ rfl rfl rfl rfl rfl (by kernel_rfl) Tryd.func6 (by kernel_rfl)
    (of_decide_eq_true (by kernel_rfl)) (by unfold Func.isWrapper; first | (rw [if_pos (by decide +kernel)]; kernel_rfl) | (rw [if_neg (by decide +kernel)]; exact ⟨rfl, rfl⟩))
    (fun os started H enc _ => coinLowest_lifted os started H enc)

theorem coinLowest_holds : Rows.CoinLowestCardSaid :=
  Claim7.holds_tied_plain_at .later [] [.data] true (true, "d5ba81b96f500894e34cd511d92b5173016d144a57f404fc4dd77830aa5a5f97") true
    coinLowest_row (fun _ h => by cases h) (by kernel_rfl) (fun _ h => by cases h) coinLowest_row_tie rfl ⟨rfl, rfl⟩ (by kernel_rfl) rfl
    (fun f fn hf hfn => by
      obtain rfl : f = 6 := Option.some.inj ((show Tryd.prog.funcNamed "cubit/cubitlaw16.CoinLowest" = some 6 by kernel_rfl).symm.trans hf) |>.symm
      obtain rfl : fn = Tryd.f6 := (Option.some.inj (Tryd.func6.symm.trans hfn)).symm
      exact ⟨by kernel_rfl, fun j t ht => by
        rw [Tryd.params6] at ht
        have h3 : Tryd.prog.wantsStandIn 3 = false := by kernel_rfl
        have h24 : Tryd.prog.wantsStandIn 24 = false := by kernel_rfl
        match j, ht with
        | 0, ht => simp at ht; subst ht; exact h3
        | 1, ht => simp at ht; subst ht; exact h24
        | 2, ht => simp at ht; subst ht; exact h24
        | n + 3, ht => simp at ht⟩)
    (by kernel_rfl)
#print axioms coinLowest_holds
end Go.Proofs.YtcfmhkhfmcmkbaaDoor
