/-
  Proved: for every list of rows of bulk at most 1048576 the law ParseShows (promise P10.1, rule 5: Show answers as the document says, whatever the rows; the rows stay as they are) answers true, and the rows read afterwards as they read before. The bound is the given one of the second form. The tables of math/bits and strconv and the two errors of strconv are as the program's text lays them (the card's tie).
-/
import Derived.Test.YtiepbfeliehjnaaDoorX2
import Derived.Test.YtiepbfeliehjnaaDoorX1
import Derived.Test.YtiepbfeliehjnaaDoorCards
import Derived.Test.YtiepbfeliehjnaaDoorTie
import Derived.Deep.DeepHandedRow
import Derived.SevenTiedAt
import Derived.ChangeMaps5
namespace Go.Proofs.YtiepbfeliehjnaaDoor
open Go.RowKit Go.Sort

theorem str_self (s : ByteArray) : (s.toList == s.toList) = true := by simp
set_option maxHeartbeats 4000000 in
set_option maxRecDepth 100000 in
theorem shows_any (rs : List Rw) (v : Value) (w : World) (hS : SR w v rs) (hv : VR w) (hl : rs.length ≤ 1048576) (hz : ∀ r ∈ rs, r.name.size ≤ 1048576 ∧ r.args.length ≤ 1048576 ∧ ∀ a ∈ r.args, a.n.size ≤ 1048576)
    (hT : chk rs.length 0 rs = true → (bodyB rs.length 0 rs).length ≤ 1099511627776) :
    Calls Tryd.prog 4 #[v] w fun e w' => e = .returned (.bool true) ∧ Below w.heap.size w w' := by
  have hzb : SzB rs := fun r hr => by
    obtain ⟨h1, h2, h3⟩ := hz r hr
    exact ⟨by omega, by omega, fun a ha => by have := h3 a ha; omega⟩
  have hzs : Szs rs := fun r hr => by
    obtain ⟨h1, h2, h3⟩ := hz r hr
    exact ⟨by omega, by omega, fun a ha => by have := h3 a ha; omega⟩
  obtain ⟨s1, f1, hSO⟩ := sout_ex rs
  have AW := awake_any w hv
  have GR : ∀ W, Below w.heap.size w W → Calls Tryd.prog 12 #[v] W fun e W' => (∃ b : Bool, e = .returned (.bool b)) ∧ Below W.heap.size W W' := fun W h => great_any rs v w W hS h (by omega) hzs
  have CP : ∀ W, Below w.heap.size w W → Calls Tryd.prog 13 #[v] W fun e W' => ∃ g cap vs, e = .returned (.slice (some ⟨g, 0, none⟩) rs.length cap) ∧ CPD W' g cap rs vs ∧ Below W.heap.size W W' := fun W h => copied_any rs v w W hS h hl (fun r hr => (hz r hr).2.1)
  have RSH : ∀ W, Below w.heap.size w W → Calls Tryd.prog 14 #[v] W fun x W' => x = .returned (.tuple #[.string s1, .int .i64 f1]) ∧ Below W.heap.size W W' := fun W h => rshow_any rs v s1 f1 w W hS h (by omega) hzb hT hSO
  have SH : ∀ W g cap vs, Below w.heap.size w W → CPD W g cap rs vs → Calls Tryd.prog 15 #[.slice (some ⟨g, 0, none⟩) rs.length cap] W fun x W' => x = .returned (.tuple #[.string s1, .int .i64 f1]) ∧ Below W.heap.size W W' := fun W g cap vs h hC => show_any rs _ s1 f1 W hC.sr (hv.below h) (by omega) hzs hSO
  have KP : ∀ W g cap vs, Below w.heap.size w W → CPD W g cap rs vs → Calls Tryd.prog 16 #[.slice (some ⟨g, 0, none⟩) rs.length cap, v] W fun e W' => e = .returned (.bool true) ∧ Below W.heap.size W W' := fun W g cap vs h hC => kept_any rs g cap vs v W hC (hS.below h) (by omega) (fun r hr => by have := (hz r hr).2.1; omega)
  have hss := str_self s1
  obtain ⟨ra, rc, hvv⟩ : ∃ a c, v = .slice a rs.length c := by obtain ⟨a, c, _, e, _⟩ := hS; exact ⟨a, c, e⟩
  subst hvv
  clear hS hv hz hzb hzs hSO hT
  go_enter Tryd.func4, Tryd.ntmps4
  go_wp2_with (first
    | (go_at_call 8; (with_reducible refine AW.mono ?_); rintro e w1 ⟨rfl, h1⟩)
    | (go_at_call 12; (with_reducible refine (GR _ h1).mono ?_); rintro e w2 ⟨⟨gb, rfl⟩, h2⟩; have h12 := btr h1 h2; cases gb)
    | (go_at_call 13; (with_reducible refine (CP _ h12).mono ?_); rintro e w3 ⟨g, cap, vs, rfl, hC, h3⟩; have h13 := btr h12 h3)
    | (go_at_call 14; (with_reducible refine (RSH _ h13).mono ?_); rintro e w4 ⟨rfl, h4⟩; have h14 := btr h13 h4; have hC4 := hC.below h4)
    | (go_at_call 15; (with_reducible refine (SH _ _ _ _ h14 hC4).mono ?_); rintro e w5 ⟨rfl, h5⟩; have h15 := btr h14 h5; have hC5 := hC4.below h5)
    | (go_at_call 16; (with_reducible refine (KP _ _ _ _ h15 hC5).mono ?_); rintro e w6 ⟨rfl, h6⟩; have h16 := btr h15 h6))
  all_goals (try go_ret)
  all_goals (first | exact ⟨rfl, h16⟩ | exact ⟨rfl, h12⟩)
end Go.Proofs.YtiepbfeliehjnaaDoor
namespace Go.Proofs.YtiepbfeliehjnaaDoor
open Go.ChangeShapes Go.WideShapes Go.ChangeAt Go.ChangeMaps Go.RowKit

set_option maxRecDepth 100000 in
theorem parseShows_reads (os : Os) {H : Type} (enc : TypeId × Value → H) : ∃ places, DataW.whole enc Tryd.prog ((World.laidAll Tryd.prog os seatLaid).forCall (fun _ _ => 0) ⟨#[], #[.slice none 0 0], []⟩).memory Tryd.f4.params.toList Rows.parseShowsSpec.vars false (#[.slice none 0 0] : Array Value).toList 8 = some ([.nil], [], places) :=
  ⟨[], by kernel_rfl⟩
set_option maxRecDepth 100000 in
theorem parseShowsUpto_lifted (os : Os) (started : os.Started) (H : Type) (enc : TypeId × Value → H) (F : Stop.Interp) :
    ReturnsInHanded {} Tryd.checked os 4 .any ((Rows.OpenSpec.upto Rows.parseShowsSpec).preRow enc Tryd.prog Tryd.f4 Rows.parseShowsUptoRow.domain false Rows.parseShowsUptoRow.laid)
      (((Rows.OpenSpec.upto Rows.parseShowsSpec).at F).post enc Tryd.prog Tryd.f4 false true false false) := by
  obtain ⟨places, hx⟩ := parseShows_reads os enc
  refine returnsInHanded_of_row (C := Tryd.checked) (s := Rows.OpenSpec.upto Rows.parseShowsSpec) Tryd.own started (by kernel_rfl) Tryd.func4
    ⟨World.laidAll Tryd.prog os seatLaid, fun _ _ => 0, ⟨#[], #[.slice none 0 0], []⟩, World.laidAll_os _ _ _, World.shaped_of_ZipB (by kernel_rfl) (by kernel_rfl),
      rfl, (Input.okWide_of_okWideB (by kernel_rfl)).2,
      OpenSpec.preRow_of_cond 8 hx (by kernel_rfl) (fun k hk => by cases hk; kernel_rfl) (by kernel_rfl) (seat_met os _), by
        simp only [Assume.holds]
        exact ⟨by simp, by simp, fun _ => Modest.zero, by simp, by simp⟩⟩ ?_
  intro W base args ds gs before hval0 hW _ hcond _ hL _ _
  have hval : ∀ (j : Nat) t v, Tryd.f4.params[j]? = some t → args[j]? = some v → Value.okWide Tryd.prog W .any base t v := hval0
  have hW' := hW
  obtain ⟨p, q, hA0, hV, rfl, hfz, hnd⟩ := hW
  have hA : DataW.TrodAll enc Tryd.prog W 0 (fun _ => true) true Tryd.f4.params.toList args.toList ds p := hA0
  rw [Tryd.params4] at hA hval
  obtain ⟨v1, vs1, d1, ds1, p1, q1, hargs, rfl, rfl, h1, r1⟩ := trodAll_cons hA
  obtain ⟨rfl, rfl, rfl⟩ := trodAll_nil r1
  obtain rfl : args = #[v1] := by cases args; simp_all
  obtain ⟨rfl, rfl⟩ := trodVars_none hV
  obtain ⟨rs, hSR, hbk⟩ := rows2_of_trod (hval 0 23 v1 rfl rfl) h1
  clear hA0 hval0
  simp only [List.append_nil] at hW'
  have hb : rbs rs ≤ 1048576 := by
    have h : Rows.uptoSmall H _ = true := hcond _ rfl
    have h2 := of_decide_eq_true h
    simp only [List.append_nil, Rows.uptoBulkAll] at h2
    omega
  have hlen := rbs_lnz rs
  have hlt1 : ∀ x ∈ p1, x.block < W.heap.size := fun x hx => hW'.lt x (by simp [hx])
  refine (shows_any rs v1 W hSR (vr_of_laid hL) (by omega) (fun r hr => ?_) (fun hc => ?_)).mono fun e W' ⟨he, hB⟩ => ?_
  · have h2 := rbs_mem rs r hr
    have h3 := abk_lnz r.args
    unfold rbk at h2
    exact ⟨by omega, by omega, fun a ha => by have := abk_mem r.args a ha; omega⟩
  · have := body_lnz rs.length 0 rs hc (by omega)
    omega
  subst he
  refine ⟨_, rfl, _, _, _, [], p1, [], hW', ?_, ?_, rfl, hB.frame _, fun h => by cases h⟩
  · exact trodAll_mk1 (shut_bool Tryd.underlying4 true)
  · have g1 := Below.trod Tryd.laidOut (by kernel_rfl) (of_decide_eq_true (by kernel_rfl)) h1 hB hlt1
    have := trodAll_cons_mk g1 trodAll_mk0
    simp only [List.append_nil] at this
    exact this

theorem parseShowsUpto_row : Rows.ParseShowsUptoSaid :=
  OpenClaim.holds_of_cond 4 Tryd.f4 rfl rfl rfl rfl rfl rfl rfl ⟨rfl, rfl, rfl, rfl, rfl⟩ rfl rfl rfl rfl rfl (by kernel_rfl) Tryd.func4 (by kernel_rfl)
    (of_decide_eq_true (by kernel_rfl)) (by unfold Func.isWrapper; first | (rw [if_pos (by decide +kernel)]; kernel_rfl) | (rw [if_neg (by decide +kernel)]; exact ⟨rfl, rfl⟩))
    (fun os started H enc _ F => by rw [OpenClaim.pre_eq_preRow]; exact parseShowsUpto_lifted os started H enc F)

theorem parseShowsUpto_holds : Rows.ParseShowsUptoCardSaid :=
  Claim7.holds_tied_plain_at .later [] [.data, .data, .data, .sentinel, .sentinel] true (true, "0937423718dbd680fc645ac16274ec260f615cc820eb8e79a3a54bf676557c7e") true
    parseShowsUpto_row (fun _ h => by cases h) (by kernel_rfl) (fun _ h => by cases h) parseShowsUpto_row_tie rfl ⟨rfl, rfl⟩ (by kernel_rfl) rfl
    (fun f fn hf hfn => by
      obtain rfl : f = 4 := Option.some.inj ((show Tryd.prog.funcNamed "cubit/cubitlaw10.ParseShows" = some 4 by kernel_rfl).symm.trans hf) |>.symm
      obtain rfl : fn = Tryd.f4 := (Option.some.inj (Tryd.func4.symm.trans hfn)).symm
      exact ⟨by kernel_rfl, fun j t ht => by
        rw [Tryd.params4] at ht
        have h3 : Tryd.prog.wantsStandIn 23 = false := by kernel_rfl
        match j, ht with
        | 0, ht => simp at ht; subst ht; exact h3
        | n + 1, ht => simp at ht⟩)
    (by kernel_rfl)
#print axioms parseShowsUpto_holds
end Go.Proofs.YtiepbfeliehjnaaDoor
