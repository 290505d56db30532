/-
  What cx's Dot answers on two lists of two whole complex numbers that are the same numbers.
-/
import Derived.Test.YtbjikmbebodliabParts
import Derived.Deep.QuietTactic
import Derived.BigQuiet
import Derived.LoopN
namespace Go.Proofs.Ytbjikmbebodliab
open Go.RowKit

/-- The call of function f with these arguments answers v and leaves the world as it is. -/
structure Ret (f : Nat) (args : Array Value) (v : Value) : Prop where
  calls : ∀ w, Calls Try.prog f args w fun x w' => x = .returned v ∧ w' = w

set_option maxHeartbeats 800000 in
theorem dot_bits (bx bv : Nat) (a b c d e1 f1 g1 k1 e2 f2 g2 k2 : Nat) (w : World)
    (x0 : w.cell? ⟨bx, 0, none⟩ = some (.complex .f64 a b)) (x1 : w.cell? ⟨bx, 1, none⟩ = some (.complex .f64 c d))
    (y0 : w.cell? ⟨bv, 0, none⟩ = some (.complex .f64 a b)) (y1 : w.cell? ⟨bv, 1, none⟩ = some (.complex .f64 c d))
    (m1 : Ret 6 #[.complex .f64 a b, .complex .f64 a (Op.negFloat .f64 b)] (.complex .f64 e1 f1))
    (s1 : Ret 7 #[.complex .f64 0 0, .complex .f64 e1 f1] (.complex .f64 g1 k1))
    (m2 : Ret 6 #[.complex .f64 c d, .complex .f64 c (Op.negFloat .f64 d)] (.complex .f64 e2 f2))
    (s2 : Ret 7 #[.complex .f64 g1 k1, .complex .f64 e2 f2] (.complex .f64 g2 k2)) :
    Calls Try.prog 12 #[.slice (some ⟨bx, 0, none⟩) 2 2, .slice (some ⟨bv, 0, none⟩) 2 2] w fun x w' => x = .returned (.complex .f64 g2 k2) ∧ ∃ n, w' = w.drewN n := by
  go_enter Try.func12, Try.ntmps12
  go_wp2
  refine wp_loop_rounds 3 ?_
  rw [rounds_succ]
  go_wp2
  go_quiet ((first
    | (go_at_call 9; exact Calls.quiet_of_same (conj_bits _ _ _))
    | (go_at_call 6; exact Calls.quiet_of_same (m1.calls _))
    | (go_at_call 7; exact Calls.quiet_of_same (s1.calls _))))
  have z1 : (w.drewN nq).cell? ⟨bx, 1, none⟩ = some (.complex .f64 c d) := by simpa using x1
  have z2 : (w.drewN nq).cell? ⟨bv, 1, none⟩ = some (.complex .f64 c d) := by simpa using y1
  obtain ⟨w1, hw1⟩ : ∃ w1, w1 = w.drewN nq := ⟨_, rfl⟩
  have HW : Hid (w1 = w.drewN nq) := hw1
  rw [← hw1] at z1 z2
  rw [← hw1]
  clear hw1 x0 x1 y0 y1 m1 s1
  go_wp2
  rw [rounds_succ]
  go_wp2
  go_quiet ((first
    | (go_at_call 9; exact Calls.quiet_of_same (conj_bits _ _ _))
    | (go_at_call 6; exact Calls.quiet_of_same (m2.calls _))
    | (go_at_call 7; exact Calls.quiet_of_same (s2.calls _))))
  go_wp2
  rw [rounds_succ]
  go_wp2
  go_ret
  exact ⟨rfl, _, by rw [HW.out, World.drewN_drewN]⟩

end Go.Proofs.Ytbjikmbebodliab
