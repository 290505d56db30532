/-
  Put together of: G2.
-/
import Derived.Test.YtcfmhkhfmcmkbaaDoorXC
import Derived.Deep.CutRange
namespace Go.Proofs.YtcfmhkhfmcmkbaaDoor
open Go.RowKit Go.Sort

/-- The first that isn't nought. -/
def first4 (a b c d : Int) : Int := if a ≠ 0 then a else if b ≠ 0 then b else if c ≠ 0 then c else d
set_option maxHeartbeats 1000000 in
theorem compare_core (B C : Nat) (x3 x2 x1 x0 y3 y2 y1 y0 c3 c2 c1 c0 : Int) (w : World)
    (a0 : w.cell? ⟨B, 0, none⟩ = some (.int .u64 x3)) (a1 : w.cell? ⟨B, 1, none⟩ = some (.int .u64 x2)) (a2 : w.cell? ⟨B, 2, none⟩ = some (.int .u64 x1)) (a3 : w.cell? ⟨B, 3, none⟩ = some (.int .u64 x0))
    (b0 : w.cell? ⟨C, 0, none⟩ = some (.int .u64 y3)) (b1 : w.cell? ⟨C, 1, none⟩ = some (.int .u64 y2)) (b2 : w.cell? ⟨C, 2, none⟩ = some (.int .u64 y1)) (b3 : w.cell? ⟨C, 3, none⟩ = some (.int .u64 y0))
    (H3 : ∀ w, Calls Tryd.prog 108 #[.int .u64 x3, .int .u64 y3] w fun e w' => e = .returned (.int .i64 c3) ∧ w' = w)
    (H2 : ∀ w, Calls Tryd.prog 108 #[.int .u64 x2, .int .u64 y2] w fun e w' => e = .returned (.int .i64 c2) ∧ w' = w)
    (H1 : ∀ w, Calls Tryd.prog 108 #[.int .u64 x1, .int .u64 y1] w fun e w' => e = .returned (.int .i64 c1) ∧ w' = w)
    (H0 : ∀ w, Calls Tryd.prog 108 #[.int .u64 x0, .int .u64 y0] w fun e w' => e = .returned (.int .i64 c0) ∧ w' = w) :
    Calls Tryd.prog 97 #[.slice (some ⟨B, 0, none⟩) 4 4, .slice (some ⟨C, 0, none⟩) 4 4] w fun e w' => e = .returned (.int .i64 (first4 c3 c2 c1 c0)) ∧ w' = w := by
  unfold first4
  by_cases e3 : c3 = 0
  · rw [if_neg (by simpa using e3)]
    by_cases e2 : c2 = 0
    · rw [if_neg (by simpa using e2)]
      by_cases e1 : c1 = 0
      · rw [if_neg (by simpa using e1)]
        by_cases e0 : c0 = 0
        · subst e0 e1 e2 e3
          go_enter Tryd.func97, Tryd.ntmps97
          go_wp2
          refine wp_loop_rounds 5 ?_
          rw [rounds_succ]
          go_wp2_with (go_at_call 108; (with_reducible refine (H3 _).mono ?_); rintro e w1 ⟨rfl, rfl⟩)
          rw [rounds_succ]
          go_wp2_with (go_at_call 108; (with_reducible refine (H2 _).mono ?_); rintro e w1 ⟨rfl, rfl⟩)
          rw [rounds_succ]
          go_wp2_with (go_at_call 108; (with_reducible refine (H1 _).mono ?_); rintro e w1 ⟨rfl, rfl⟩)
          rw [rounds_succ]
          go_wp2_with (go_at_call 108; (with_reducible refine (H0 _).mono ?_); rintro e w1 ⟨rfl, rfl⟩)
          rw [rounds_succ]
          go_wp2
          go_ret
          exact ⟨rfl, rfl⟩
        · subst e1 e2 e3
          go_enter Tryd.func97, Tryd.ntmps97
          go_wp2
          refine wp_loop_rounds 5 ?_
          rw [rounds_succ]
          go_wp2_with (go_at_call 108; (with_reducible refine (H3 _).mono ?_); rintro e w1 ⟨rfl, rfl⟩)
          rw [rounds_succ]
          go_wp2_with (go_at_call 108; (with_reducible refine (H2 _).mono ?_); rintro e w1 ⟨rfl, rfl⟩)
          rw [rounds_succ]
          go_wp2_with (go_at_call 108; (with_reducible refine (H1 _).mono ?_); rintro e w1 ⟨rfl, rfl⟩)
          rw [rounds_succ]
          go_wp2_with (go_at_call 108; (with_reducible refine (H0 _).mono ?_); rintro e w1 ⟨rfl, rfl⟩)
          go_ret
          exact ⟨rfl, rfl⟩
      · rw [if_pos (by simpa using e1)]
        subst e2 e3
        go_enter Tryd.func97, Tryd.ntmps97
        go_wp2
        refine wp_loop_rounds 5 ?_
        rw [rounds_succ]
        go_wp2_with (go_at_call 108; (with_reducible refine (H3 _).mono ?_); rintro e w1 ⟨rfl, rfl⟩)
        rw [rounds_succ]
        go_wp2_with (go_at_call 108; (with_reducible refine (H2 _).mono ?_); rintro e w1 ⟨rfl, rfl⟩)
        rw [rounds_succ]
        go_wp2_with (go_at_call 108; (with_reducible refine (H1 _).mono ?_); rintro e w1 ⟨rfl, rfl⟩)
        go_ret
        exact ⟨rfl, rfl⟩
    · rw [if_pos (by simpa using e2)]
      subst e3
      go_enter Tryd.func97, Tryd.ntmps97
      go_wp2
      refine wp_loop_rounds 5 ?_
      rw [rounds_succ]
      go_wp2_with (go_at_call 108; (with_reducible refine (H3 _).mono ?_); rintro e w1 ⟨rfl, rfl⟩)
      rw [rounds_succ]
      go_wp2_with (go_at_call 108; (with_reducible refine (H2 _).mono ?_); rintro e w1 ⟨rfl, rfl⟩)
      go_ret
      exact ⟨rfl, rfl⟩
  · rw [if_pos (by simpa using e3)]
    go_enter Tryd.func97, Tryd.ntmps97
    go_wp2
    refine wp_loop_rounds 5 ?_
    rw [rounds_succ]
    go_wp2_with (go_at_call 108; (with_reducible refine (H3 _).mono ?_); rintro e w1 ⟨rfl, rfl⟩)
    go_ret
    exact ⟨rfl, rfl⟩

theorem first4_pos (u v : Int) (hu : 0 ≤ u) (hu1 : u < 115792089237316195423570985008687907853269984665640564039457584007913129639936) (hv : 0 ≤ v) (hv1 : v < 115792089237316195423570985008687907853269984665640564039457584007913129639936) :
    0 < first4 (cmpI (q3 u) (q3 v)) (cmpI (q2 u) (q2 v)) (cmpI (q1 u) (q1 v)) (cmpI (q0 u) (q0 v)) ↔ v < u := by
  have key : ∀ x y : Int, (cmpI x y = 0 ↔ x = y) ∧ (0 < cmpI x y ↔ y < x) := fun x y => by unfold cmpI; split <;> (try split) <;> omega
  have k3 := key (q3 u) (q3 v)
  have k2 := key (q2 u) (q2 v)
  have k1 := key (q1 u) (q1 v)
  have k0 := key (q0 u) (q0 v)
  generalize cmpI (q3 u) (q3 v) = c3 at *
  generalize cmpI (q2 u) (q2 v) = c2 at *
  generalize cmpI (q1 u) (q1 v) = c1 at *
  generalize cmpI (q0 u) (q0 v) = c0 at *
  have eu : u = q3 u * 6277101735386680763835789423207666416102355444464034512896 + q2 u * 340282366920938463463374607431768211456 + q1 u * 18446744073709551616 + q0 u := by unfold q0 q1 q2 q3; omega
  have ev : v = q3 v * 6277101735386680763835789423207666416102355444464034512896 + q2 v * 340282366920938463463374607431768211456 + q1 v * 18446744073709551616 + q0 v := by unfold q0 q1 q2 q3; omega
  have b : ∀ x : Int, (0 ≤ q0 x ∧ q0 x < 18446744073709551616) ∧ (0 ≤ q1 x ∧ q1 x < 18446744073709551616) ∧ (0 ≤ q2 x ∧ q2 x < 18446744073709551616) := fun x => by unfold q0 q1 q2; omega
  have bu := b u
  have bv := b v
  generalize q3 u = u3 at *
  generalize q2 u = u2 at *
  generalize q1 u = u1 at *
  generalize q0 u = u0 at *
  generalize q3 v = v3 at *
  generalize q2 v = v2 at *
  generalize q1 v = v1 at *
  generalize q0 v = v0 at *
  unfold first4
  split
  · omega
  · split
    · omega
    · split <;> omega
end Go.Proofs.YtcfmhkhfmcmkbaaDoor
