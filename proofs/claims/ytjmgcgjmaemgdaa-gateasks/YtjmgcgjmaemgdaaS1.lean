/-
  The reference's Check, plain, Turn of whole complex numbers.
-/
import Derived.Test.YtjmgcgjmaemgdaaE3
namespace Go.Proofs.Ytjmgcgjmaemgdaa
open Go.RowKit Go.Sort

theorem fb_ge {n : Int} (h : sm n) : FloatKind.f64.format.order (fb n) 14069245235905429503 = some .gt := by
  rcases sm_cases h with rfl | rfl | rfl | rfl | rfl | rfl | rfl | rfl | rfl <;> decide +kernel
theorem fb_le {n : Int} (h : sm n) : FloatKind.f64.format.order (fb n) 4845873199050653695 = some .lt := by
  rcases sm_cases h with rfl | rfl | rfl | rfl | rfl | rfl | rfl | rfl | rfl <;> decide +kernel
theorem fb_ne {n : Int} (h : sm n) (h0 : n ≠ 0) : (FloatKind.f64.format.order (fb n) 0 == some .eq) = false := by
  rcases sm_cases h with rfl | rfl | rfl | rfl | rfl | rfl | rfl | rfl | rfl <;> first | exact absurd rfl h0 | decide +kernel
theorem quo_nought (w : World) : (binOp .quo 114 (.float .f64 4607182418800017408) (.float .f64 (fb 0))).run Try.prog w = .ok (.float .f64 9218868437227405312) w := by kernel_rfl
set_option maxHeartbeats 400000 in
theorem rwhole (n : Int) (w : World) (h : sm n) : Calls Try.prog 92 #[.float .f64 (fb n)] w fun e w' => e = .returned (.bool true) ∧ w' = w := by
  have e1 := fb_same h
  have c1 := fb_int h
  have c2 := int_fb h
  have g1 := fb_ge h
  have g2 := fb_le h
  by_cases h0 : n = 0
  · subst h0
    have q := quo_nought
    have q2 : FloatKind.f64.format.order 9218868437227405312 0 = some .gt := by decide +kernel
    have q3 : FloatKind.f64.format.order (fb 0) 0 = some .eq := by decide +kernel
    go_enter Try.func92, Try.ntmps92
    go_wp2
    all_goals (go_ret; exact ⟨by simp, rfl⟩)
  · have e2 := fb_ne h h0
    go_enter Try.func92, Try.ntmps92
    go_wp2
    all_goals (go_ret; exact ⟨by simp, rfl⟩)
set_option maxHeartbeats 400000 in
theorem rgcheck (a b : Int) (w : World) (ha : sm a) (hb : sm b) : Calls Try.prog 84 #[cx a b] w fun e w' => e = .returned (.int .i64 0) ∧ w' = w := by
  have A := fun w => rwhole a w ha
  have B := fun w => rwhole b w hb
  go_enter Try.func84, Try.ntmps84
  go_wp2_with (first
    | (go_at_call 92; (with_reducible refine (A _).mono ?_); rintro e w1 ⟨rfl, rfl⟩)
    | (go_at_call 92; (with_reducible refine (B _).mono ?_); rintro e w1 ⟨rfl, rfl⟩))
  all_goals (go_ret; exact ⟨by simp, rfl⟩)
set_option maxHeartbeats 400000 in
theorem rplain (p q r s : Nat) (w : World) (h : floatBits .add .f64 p 0 = some r) (g : floatBits .add .f64 q 0 = some s) : Calls Try.prog 87 #[.float .f64 p, .float .f64 q] w fun e w' => e = .returned (.complex .f64 r s) ∧ w' = w := by
  have h1 := run_fadd h
  have h2 := run_fadd g
  go_enter Try.func87, Try.ntmps87
  go_wp2
  all_goals (go_ret; exact ⟨by simp, rfl⟩)
set_option maxHeartbeats 400000 in
theorem rgturn (a b : Int) (w : World) (ha : sm a) (hb : sm b) : Calls Try.prog 75 #[cx a b, .int .i64 1] w fun e w' => e = .returned (.tuple #[cx (-b) a, .int .i64 0]) ∧ w' = w := by
  have C := fun w => rgcheck a b w ha hb
  have hn := run_fneg
  have P1 := fun w => rplain _ _ _ _ w (fb_neg hb) (fb_keep ha)
  have b1 : bits BinOp.and IntKind.i64 1 3 = 1 := by decide +kernel
  go_enter Try.func75, Try.ntmps75
  go_upto_region 6 with (go_at_call 84; (with_reducible refine (C _).mono ?_); rintro e w1 ⟨rfl, rfl⟩)
  refine wp_loop_rounds 2 ?_
  rw [rounds_succ]
  go_wp2
  rw [rounds_succ]
  go_wp2_with (go_at_call 87; (with_reducible refine (P1 _).mono ?_); rintro e w2 ⟨rfl, rfl⟩)
  go_ret2
  exact ⟨rfl, rfl⟩
end Go.Proofs.Ytjmgcgjmaemgdaa
