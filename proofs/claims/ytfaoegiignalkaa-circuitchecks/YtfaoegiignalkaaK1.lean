/-
  The law CircuitChecks, walked.
-/
import Derived.Test.YtfaoegiignalkaaA1
import Derived.Test.YtfaoegiignalkaaD5
namespace Go.Proofs.Ytfaoegiignalkaa
open Go.RowKit Go.Shelf

set_option maxHeartbeats 4000000 in
set_option maxRecDepth 100000 in
theorem checks_any (c : Ci) (a : Option Addr) (cp : Nat) (A : Nat → Option Addr) (C : Nat → Nat) (w : World) (H : OS w a cp c.ops A C) :
    Calls Try.prog 3 #[civ c a cp] w fun e w' => e = .returned (.bool true) ∧ Below w.heap.size w w' := by
  have AW := fun w => awake_any w
  have F10 := fun w1 h => rcheck_any c a cp A C w1 h
  have F11 := fun w1 h => rhalvesC_any c a cp A C w1 h
  have F12 := fun w1 h => rclean_any c a cp A C w1 h
  have F13 := fun w1 h => rcliffordC_any c a cp A C w1 h
  have F14 := fun w1 h => check_any c a cp A C w1 h
  have F15 := fun w1 h => halvesC_any c a cp A C w1 h
  have F16 := fun w1 h => clean_any c a cp A C w1 h
  have F17 := fun w1 h => cliffordC_any c a cp A C w1 h
  have HO : Hid (OS w a cp c.ops A C) := H
  clear H
  generalize (lk c).1 = P at *
  generalize (lk c).2.1 = Hv at *
  generalize (lk c).2.2 = E at *
  generalize clnB c = cl at *
  generalize cfdB c = cf at *
  go_enter Try.func3, Try.ntmps3
  have HB : Below w.heap.size w (w.alloc (.cells #[.int .i64 c.q, .int .i64 c.b, .slice a c.ops.length cp] 24)) := bal (Below.refl _ _) _
  have kb : BK (w.alloc (.cells #[.int .i64 c.q, .int .i64 c.b, .slice a c.ops.length cp] 24)) w.heap.size #[.int .i64 c.q, .int .i64 c.b, .slice a c.ops.length cp] 24 := bk_new _ _ _
  go_wp2_with (first
    | (go_at_call 9; (with_reducible refine (AW _).mono ?_); rintro e w1 ⟨rfl, hB1⟩; replace HB := btr HB hB1; replace kb : BK w1 w.heap.size #[.int .i64 c.q, .int .i64 c.b, .slice a c.ops.length cp] 24 := (hB1.block _ kb.lt).trans kb; have kc := kb.cell)
    | (go_at_call 10; (with_reducible refine (F10 _ (HO.out.below HB)).mono ?_); rintro e w1 ⟨rfl, hB1⟩; replace HB := btr HB hB1; replace kb : BK w1 w.heap.size #[.int .i64 c.q, .int .i64 c.b, .slice a c.ops.length cp] 24 := (hB1.block _ kb.lt).trans kb; clear kc; have kc := kb.cell)
    | (go_at_call 11; (with_reducible refine (F11 _ (HO.out.below HB)).mono ?_); rintro e w1 ⟨rfl, hB1⟩; replace HB := btr HB hB1; replace kb : BK w1 w.heap.size #[.int .i64 c.q, .int .i64 c.b, .slice a c.ops.length cp] 24 := (hB1.block _ kb.lt).trans kb; clear kc; have kc := kb.cell)
    | (go_at_call 12; (with_reducible refine (F12 _ (HO.out.below HB)).mono ?_); rintro e w1 ⟨rfl, hB1⟩; replace HB := btr HB hB1; replace kb : BK w1 w.heap.size #[.int .i64 c.q, .int .i64 c.b, .slice a c.ops.length cp] 24 := (hB1.block _ kb.lt).trans kb; clear kc; have kc := kb.cell)
    | (go_at_call 13; (with_reducible refine (F13 _ (HO.out.below HB)).mono ?_); rintro e w1 ⟨rfl, hB1⟩; replace HB := btr HB hB1; replace kb : BK w1 w.heap.size #[.int .i64 c.q, .int .i64 c.b, .slice a c.ops.length cp] 24 := (hB1.block _ kb.lt).trans kb; clear kc; have kc := kb.cell)
    | (go_at_call 14; (with_reducible refine (F14 _ (HO.out.below HB)).mono ?_); rintro e w1 ⟨rfl, hB1⟩; replace HB := btr HB hB1; replace kb : BK w1 w.heap.size #[.int .i64 c.q, .int .i64 c.b, .slice a c.ops.length cp] 24 := (hB1.block _ kb.lt).trans kb; clear kc; have kc := kb.cell)
    | (go_at_call 15; (with_reducible refine (F15 _ (HO.out.below HB)).mono ?_); rintro e w1 ⟨rfl, hB1⟩; replace HB := btr HB hB1; replace kb : BK w1 w.heap.size #[.int .i64 c.q, .int .i64 c.b, .slice a c.ops.length cp] 24 := (hB1.block _ kb.lt).trans kb; clear kc; have kc := kb.cell)
    | (go_at_call 16; (with_reducible refine (F16 _ (HO.out.below HB)).mono ?_); rintro e w1 ⟨rfl, hB1⟩; replace HB := btr HB hB1; replace kb : BK w1 w.heap.size #[.int .i64 c.q, .int .i64 c.b, .slice a c.ops.length cp] 24 := (hB1.block _ kb.lt).trans kb; clear kc; have kc := kb.cell)
    | (go_at_call 17; (with_reducible refine (F17 _ (HO.out.below HB)).mono ?_); rintro e w1 ⟨rfl, hB1⟩; replace HB := btr HB hB1))
  go_ret
  exact ⟨rfl, HB⟩
end Go.Proofs.Ytfaoegiignalkaa
