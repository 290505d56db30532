/-
  fit of the reference, by kind.
-/
import Derived.Test.YtiepbfeliehjnaaDoorC2
namespace Go.Proofs.YtiepbfeliehjnaaDoor
open Go.RowKit Go.Sort

set_option maxHeartbeats 2000000 in
set_option maxRecDepth 100000 in
theorem rfit_reset (nm : ByteArray) (ag : List Ar) (nu ro pl : Int) (av : Value) (w W : World) (hS : SA w av ag) (hB : Below w.heap.size w W) (_hn : nm.size ≤ 9223372036854775807) (hl : ag.length ≤ 9223372036854775807) (hz : ∀ a ∈ ag, a.n.size ≤ 9223372036854775807) :
    Calls Tryd.prog 48 #[.agg #[.string ⟨#[114, 101, 115, 101, 116]⟩, .string nm, av, .int .i64 nu, .int .i64 ro, .int .i64 pl]] W fun e W' => e = .returned (.bool (rowB ⟨wReset, nm, ag, nu, ro, pl⟩)) ∧ Below W.heap.size W W' := by
  have AR := fun w' h => arguments_any ag 1 true av w w' hS h hl hz
  obtain ⟨aa, ac, rfl⟩ : ∃ aa ac, av = .slice aa ag.length ac := by obtain ⟨aa, ac, e, _⟩ := hS; exact ⟨aa, ac, e⟩
  have HB : Hid (Below w.heap.size w W) := hB
  have HE : Hid (rowB ⟨wReset, nm, ag, nu, ro, pl⟩ = (decide (nm = ⟨#[]⟩) && decide (nu = 0) && (decide (0 ≤ ro) && decide (ro = 0)) && ((decide ((1 : Int) < 0) || decide ((ag.length : Int) = 1)) && ag.all (argOk true)))) := rowB_reset nm ag nu ro pl
  obtain ⟨RB, hRB⟩ : ∃ b, b = rowB ⟨wReset, nm, ag, nu, ro, pl⟩ := ⟨_, rfl⟩
  rw [← hRB] at HE ⊢
  clear hRB hS hB
  generalize ((decide ((1 : Int) < 0) || decide ((ag.length : Int) = 1)) && ag.all (argOk true)) = AB at *
  have hBX : ∀ o, Hid (Below W.heap.size W (W.alloc o)) := fun o => bal (Below.refl _ _) _
  have hBW : ∀ o, Below w.heap.size w (W.alloc o) := fun o => bal HB.out _
  by_cases he : nm = ⟨#[]⟩
  case neg =>
    have q0 := ne_lit he
    have hF : Hid (RB = false) := by show RB = false; rw [HE.out, decide_eq_false he]; simp
    clear HE
    go_enter Tryd.func48, Tryd.ntmps48
    go_wp2_with (first | (go_at_call 68; (with_reducible refine (AR _ (hBW _)).mono ?_); rintro e w2 ⟨rfl, hw⟩; rw [hw]; clear hw))
    go_ret
    exact ⟨by rw [hF.out]; rfl, (hBX _).out⟩
  case pos =>
  subst he
  rw [decide_eq_true rfl] at HE
  by_cases hr0 : ro < 0
  case pos =>
    have hF : Hid (RB = false) := by show RB = false; rw [HE.out, decide_eq_false (show ¬ 0 ≤ ro by omega)]; simp
    clear HE
    go_enter Tryd.func48, Tryd.ntmps48
    go_wp2_with (first | (go_at_call 68; (with_reducible refine (AR _ (hBW _)).mono ?_); rintro e w2 ⟨rfl, hw⟩; rw [hw]; clear hw))
    go_ret
    exact ⟨by rw [hF.out]; rfl, (hBX _).out⟩
  case neg =>
  rw [decide_eq_true (show 0 ≤ ro by omega)] at HE
  by_cases hr1 : ro = 0
  case neg =>
    have q1 : (ro != 0) = true := by simpa using hr1
    have hF : Hid (RB = false) := by show RB = false; rw [HE.out, decide_eq_false hr1]; simp
    clear HE
    go_enter Tryd.func48, Tryd.ntmps48
    go_wp2_with (first | (go_at_call 68; (with_reducible refine (AR _ (hBW _)).mono ?_); rintro e w2 ⟨rfl, hw⟩; rw [hw]; clear hw))
    go_ret
    exact ⟨by rw [hF.out]; rfl, (hBX _).out⟩
  case pos =>
  subst hr1
  rw [decide_eq_true rfl] at HE
  by_cases hm0 : nu < 0
  case pos =>
    have hF : Hid (RB = false) := by show RB = false; rw [HE.out, decide_eq_false (show ¬ nu = 0 by omega)]; simp
    clear HE
    go_enter Tryd.func48, Tryd.ntmps48
    go_wp2_with (first | (go_at_call 68; (with_reducible refine (AR _ (hBW _)).mono ?_); rintro e w2 ⟨rfl, hw⟩; rw [hw]; clear hw))
    go_ret
    exact ⟨by rw [hF.out]; rfl, (hBX _).out⟩
  case neg =>
  by_cases hm1 : 9007199254740991 < nu
  case pos =>
    have hF : Hid (RB = false) := by show RB = false; rw [HE.out, decide_eq_false (show ¬ nu = 0 by omega)]; simp
    clear HE
    go_enter Tryd.func48, Tryd.ntmps48
    go_wp2_with (first | (go_at_call 68; (with_reducible refine (AR _ (hBW _)).mono ?_); rintro e w2 ⟨rfl, hw⟩; rw [hw]; clear hw))
    go_ret
    exact ⟨by rw [hF.out]; rfl, (hBX _).out⟩
  case neg =>
  by_cases hm2 : nu = 0
  case neg =>
    have q2 : (nu != 0) = true := by simpa using hm2
    have hF : Hid (RB = false) := by show RB = false; rw [HE.out, decide_eq_false hm2]; simp
    clear HE
    go_enter Tryd.func48, Tryd.ntmps48
    go_wp2_with (first | (go_at_call 68; (with_reducible refine (AR _ (hBW _)).mono ?_); rintro e w2 ⟨rfl, hw⟩; rw [hw]; clear hw))
    go_ret
    exact ⟨by rw [hF.out]; rfl, (hBX _).out⟩
  case pos =>
  subst hm2
  rw [decide_eq_true rfl] at HE
  have hF : Hid (RB = AB) := by show RB = AB; rw [HE.out]; simp
  clear HE
  go_enter Tryd.func48, Tryd.ntmps48
  go_wp2_with (first | (go_at_call 68; (with_reducible refine (AR _ (hBW _)).mono ?_); rintro e w2 ⟨rfl, hw⟩; rw [hw]; clear hw))
  go_ret
  exact ⟨by rw [hF.out]; rfl, (hBX _).out⟩
set_option maxHeartbeats 2000000 in
set_option maxRecDepth 100000 in
theorem rfit_use (nm : ByteArray) (ag : List Ar) (nu ro pl : Int) (av : Value) (w W : World) (hS : SA w av ag) (hB : Below w.heap.size w W) (hn : nm.size ≤ 9223372036854775807) (hl : ag.length ≤ 9223372036854775807) (hz : ∀ a ∈ ag, a.n.size ≤ 9223372036854775807) :
    Calls Tryd.prog 48 #[.agg #[.string ⟨#[117, 115, 101]⟩, .string nm, av, .int .i64 nu, .int .i64 ro, .int .i64 pl]] W fun e W' => e = .returned (.bool (rowB ⟨wUse, nm, ag, nu, ro, pl⟩)) ∧ Below W.heap.size W W' := by
  have AR := fun w' h => arguments_any ag (-1) true av w w' hS h hl hz
  have NM := fun w => named_any nm w hn
  obtain ⟨aa, ac, rfl⟩ : ∃ aa ac, av = .slice aa ag.length ac := by obtain ⟨aa, ac, e, _⟩ := hS; exact ⟨aa, ac, e⟩
  have HB : Hid (Below w.heap.size w W) := hB
  have HE : Hid (rowB ⟨wUse, nm, ag, nu, ro, pl⟩ = (plnN nm && decide (nu = 0) && (decide (0 ≤ ro) && decide (ro = 0)) && ((decide (((-1) : Int) < 0) || decide ((ag.length : Int) = (-1))) && ag.all (argOk true)))) := rowB_use nm ag nu ro pl
  obtain ⟨RB, hRB⟩ : ∃ b, b = rowB ⟨wUse, nm, ag, nu, ro, pl⟩ := ⟨_, rfl⟩
  rw [← hRB] at HE ⊢
  clear hRB hS hB
  generalize ((decide (((-1) : Int) < 0) || decide ((ag.length : Int) = (-1))) && ag.all (argOk true)) = AB at *
  have hBX : ∀ o, Hid (Below W.heap.size W (W.alloc o)) := fun o => bal (Below.refl _ _) _
  have hBW : ∀ o, Below w.heap.size w (W.alloc o) := fun o => bal HB.out _
  by_cases he : nm = ⟨#[]⟩
  case pos =>
    subst he
    have hp0 : plnN ⟨#[]⟩ = false := by decide
    have hF : Hid (RB = false) := by show RB = false; rw [HE.out, hp0]; simp
    clear HE
    go_enter Tryd.func48, Tryd.ntmps48
    go_wp2_with (first | (go_at_call 67; (with_reducible refine (NM _).mono ?_); rintro e w1 ⟨rfl, hw⟩; rw [hw]; clear hw) | (go_at_call 68; (with_reducible refine (AR _ (hBW _)).mono ?_); rintro e w2 ⟨rfl, hw⟩; rw [hw]; clear hw))
    go_ret
    exact ⟨by rw [hF.out]; rfl, (hBX _).out⟩
  case neg =>
  have q0 := ne_lit he
  clear he
  cases hp : plnN nm with
  | false =>
    rw [hp] at NM
    have hF : Hid (RB = false) := by show RB = false; rw [HE.out, hp]; simp
    clear HE
    go_enter Tryd.func48, Tryd.ntmps48
    go_wp2_with (first | (go_at_call 67; (with_reducible refine (NM _).mono ?_); rintro e w1 ⟨rfl, hw⟩; rw [hw]; clear hw) | (go_at_call 68; (with_reducible refine (AR _ (hBW _)).mono ?_); rintro e w2 ⟨rfl, hw⟩; rw [hw]; clear hw))
    go_ret
    exact ⟨by rw [hF.out]; rfl, (hBX _).out⟩
  | true =>
  rw [hp] at NM HE
  clear hp
  by_cases hr0 : ro < 0
  case pos =>
    have hF : Hid (RB = false) := by show RB = false; rw [HE.out, decide_eq_false (show ¬ 0 ≤ ro by omega)]; simp
    clear HE
    go_enter Tryd.func48, Tryd.ntmps48
    go_wp2_with (first | (go_at_call 67; (with_reducible refine (NM _).mono ?_); rintro e w1 ⟨rfl, hw⟩; rw [hw]; clear hw) | (go_at_call 68; (with_reducible refine (AR _ (hBW _)).mono ?_); rintro e w2 ⟨rfl, hw⟩; rw [hw]; clear hw))
    go_ret
    exact ⟨by rw [hF.out]; rfl, (hBX _).out⟩
  case neg =>
  rw [decide_eq_true (show 0 ≤ ro by omega)] at HE
  by_cases hr1 : ro = 0
  case neg =>
    have q1 : (ro != 0) = true := by simpa using hr1
    have hF : Hid (RB = false) := by show RB = false; rw [HE.out, decide_eq_false hr1]; simp
    clear HE
    go_enter Tryd.func48, Tryd.ntmps48
    go_wp2_with (first | (go_at_call 67; (with_reducible refine (NM _).mono ?_); rintro e w1 ⟨rfl, hw⟩; rw [hw]; clear hw) | (go_at_call 68; (with_reducible refine (AR _ (hBW _)).mono ?_); rintro e w2 ⟨rfl, hw⟩; rw [hw]; clear hw))
    go_ret
    exact ⟨by rw [hF.out]; rfl, (hBX _).out⟩
  case pos =>
  subst hr1
  rw [decide_eq_true rfl] at HE
  by_cases hm0 : nu < 0
  case pos =>
    have hF : Hid (RB = false) := by show RB = false; rw [HE.out, decide_eq_false (show ¬ nu = 0 by omega)]; simp
    clear HE
    go_enter Tryd.func48, Tryd.ntmps48
    go_wp2_with (first | (go_at_call 67; (with_reducible refine (NM _).mono ?_); rintro e w1 ⟨rfl, hw⟩; rw [hw]; clear hw) | (go_at_call 68; (with_reducible refine (AR _ (hBW _)).mono ?_); rintro e w2 ⟨rfl, hw⟩; rw [hw]; clear hw))
    go_ret
    exact ⟨by rw [hF.out]; rfl, (hBX _).out⟩
  case neg =>
  by_cases hm1 : 9007199254740991 < nu
  case pos =>
    have hF : Hid (RB = false) := by show RB = false; rw [HE.out, decide_eq_false (show ¬ nu = 0 by omega)]; simp
    clear HE
    go_enter Tryd.func48, Tryd.ntmps48
    go_wp2_with (first | (go_at_call 67; (with_reducible refine (NM _).mono ?_); rintro e w1 ⟨rfl, hw⟩; rw [hw]; clear hw) | (go_at_call 68; (with_reducible refine (AR _ (hBW _)).mono ?_); rintro e w2 ⟨rfl, hw⟩; rw [hw]; clear hw))
    go_ret
    exact ⟨by rw [hF.out]; rfl, (hBX _).out⟩
  case neg =>
  by_cases hm2 : nu = 0
  case neg =>
    have q2 : (nu != 0) = true := by simpa using hm2
    have hF : Hid (RB = false) := by show RB = false; rw [HE.out, decide_eq_false hm2]; simp
    clear HE
    go_enter Tryd.func48, Tryd.ntmps48
    go_wp2_with (first | (go_at_call 67; (with_reducible refine (NM _).mono ?_); rintro e w1 ⟨rfl, hw⟩; rw [hw]; clear hw) | (go_at_call 68; (with_reducible refine (AR _ (hBW _)).mono ?_); rintro e w2 ⟨rfl, hw⟩; rw [hw]; clear hw))
    go_ret
    exact ⟨by rw [hF.out]; rfl, (hBX _).out⟩
  case pos =>
  subst hm2
  rw [decide_eq_true rfl] at HE
  have hF : Hid (RB = AB) := by show RB = AB; rw [HE.out]; simp
  clear HE
  go_enter Tryd.func48, Tryd.ntmps48
  go_wp2_with (first | (go_at_call 67; (with_reducible refine (NM _).mono ?_); rintro e w1 ⟨rfl, hw⟩; rw [hw]; clear hw) | (go_at_call 68; (with_reducible refine (AR _ (hBW _)).mono ?_); rintro e w2 ⟨rfl, hw⟩; rw [hw]; clear hw))
  go_ret
  exact ⟨by rw [hF.out]; rfl, (hBX _).out⟩
end Go.Proofs.YtiepbfeliehjnaaDoor
