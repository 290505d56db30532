/-
  The law's awake.
-/
import Derived.Test.YtiepbfeliehjnaaDoorQ1
namespace Go.Proofs.YtiepbfeliehjnaaDoor
open Go.RowKit Go.Sort

def wake1 : ByteArray := ⟨#[113, 117, 98, 105, 116, 115, 32, 113, 32, 50, 59, 32, 104, 32, 113, 91, 48, 93, 59]⟩
def wakeT : List Tk := [⟨1, wQubits, 0⟩, ⟨1, ⟨#[113]⟩, 7⟩, ⟨2, ⟨#[50]⟩, 9⟩, ⟨3, ⟨#[59]⟩, 10⟩, ⟨1, ⟨#[104]⟩, 12⟩, ⟨1, ⟨#[113]⟩, 14⟩, ⟨3, ⟨#[91]⟩, 15⟩, ⟨2, ⟨#[48]⟩, 16⟩, ⟨3, ⟨#[93]⟩, 17⟩, ⟨3, ⟨#[59]⟩, 18⟩]
def wakeR : List Rw := [⟨wQubits, ⟨#[113]⟩, [], 2, 0, 0⟩, ⟨wUse, ⟨#[104]⟩, [⟨⟨#[113]⟩, 0⟩], 0, 0, 12⟩]
theorem wake1_pre : it wake1 14 = (19, wakeT) := by kernel_rfl
theorem wake1_out : Out wake1 wakeT 0 0 := .inr (.inl ⟨by decide, ⟨14, wake1_pre⟩, rfl, rfl⟩)
theorem wake1_prog : progP (wake1.size : Nat) (wakeT.length + 1) wakeT = .ok wakeR := by kernel_rfl
theorem wake1_p : POut wake1 wakeR 0 0 := ⟨wakeT, 0, 0, wake1_out, .inr ⟨rfl, .inr ⟨wake1_prog, rfl, rfl⟩⟩⟩
def wake2 : ByteArray := ⟨#[104, 32, 113, 91, 48, 93]⟩
def wakeU : List Tk := [⟨1, ⟨#[104]⟩, 0⟩, ⟨1, ⟨#[113]⟩, 2⟩, ⟨3, ⟨#[91]⟩, 3⟩, ⟨2, ⟨#[48]⟩, 4⟩, ⟨3, ⟨#[93]⟩, 5⟩]
theorem wake2_pre : it wake2 6 = (6, wakeU) := by kernel_rfl
theorem wake2_out : Out wake2 wakeU 0 0 := .inr (.inl ⟨by decide, ⟨6, wake2_pre⟩, rfl, rfl⟩)
theorem wake2_prog : progP (wake2.size : Nat) (wakeU.length + 1) wakeU = .error (6, 101) := by kernel_rfl
theorem wake2_p : POut wake2 [] 6 101 := ⟨wakeU, 0, 0, wake2_out, .inr ⟨rfl, .inl ⟨6, 101, wake2_prog, rfl, rfl, rfl⟩⟩⟩
theorem two_of {vs : List Value} (h : wakeR.length = vs.length) : ∃ x y, vs = [x, y] := by
  match vs, h with
  | [x, y], _ => exact ⟨x, y, rfl⟩
set_option maxHeartbeats 2000000 in
set_option maxRecDepth 100000 in
theorem awake_any (w : World) (hv : VR w) : Calls Tryd.prog 8 #[] w fun e w' => e = .returned (.bool true) ∧ Below w.heap.size w w' := by
  have P1 : Calls Tryd.prog 10 #[.string ⟨#[113, 117, 98, 105, 116, 115, 32, 113, 32, 50, 59, 32, 104, 32, 113, 91, 48, 93, 59]⟩] w fun x w' => ∃ v, x = .returned (.tuple #[v, .int .i64 0, .int .i64 0]) ∧ OR w' w.heap.size v wakeR ∧ Below w.heap.size w w' := parse_any wake1 wakeR 0 0 w (by decide) hv wake1_p
  have P2 : ∀ w1, VR w1 → Calls Tryd.prog 10 #[.string ⟨#[104, 32, 113, 91, 48, 93]⟩] w1 fun x w' => ∃ v, x = .returned (.tuple #[v, .int .i64 6, .int .i64 101]) ∧ OR w' w1.heap.size v [] ∧ Below w1.heap.size w1 w' := fun w1 h => parse_any wake2 [] 6 101 w1 (by decide) h wake2_p
  have HV : Hid (VR w) := hv
  clear hv
  go_enter Tryd.func8, Tryd.ntmps8
  go_wp2_with (first
    | (go_at_call 10; (with_reducible refine P1.mono ?_); rintro e w1 ⟨v1, rfl, hO1, hB1⟩)
    | (go_at_call 10; (with_reducible refine (P2 w1 (HV.out.below hB1)).mono ?_); rintro e w2 ⟨v2, rfl, hO2, hB2⟩; have hS := hO1.sr.below hB2; obtain ⟨a, c, vs, rfl, hc, hvs, hA, hR⟩ := hS; obtain ⟨b, o, rfl, r⟩ := hR 0 (by decide); obtain ⟨v3, v4, rfl⟩ := two_of hvs; obtain ⟨a4, c4, rfl, _, _⟩ := hA 1 (by decide) (by simp); have d0 : w2.cell? ⟨b, o + 3, none⟩ = some (.int .i64 2) := r.c3 0 (by decide); have d1 : w2.cell? ⟨b, o + 6 + 1, none⟩ = some (.string ⟨#[104]⟩) := r.c1 1 (by decide); have d2 : w2.cell? ⟨b, o + 6 + 5, none⟩ = some (.int .i64 12) := r.c5 1 (by decide); have d3 : w2.cell? ⟨b, o + 6 + 2, none⟩ = some (.slice a4 1 c4) := r.c2 1 (by decide) (by simp); have hc2 : 2 ≤ c := hc; have hbl := r.lt; have hK := btr hB1 hB2; clear r hc hR hA hO1 hO2 hB1 hB2 hvs))
  go_ret
  exact ⟨rfl, hK⟩
end Go.Proofs.YtiepbfeliehjnaaDoor
