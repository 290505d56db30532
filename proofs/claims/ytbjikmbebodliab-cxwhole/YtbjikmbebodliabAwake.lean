/-
  The law's own waking test ('awake') answers true: a closed call.
-/
import Derived.Test.YtbjikmbebodliabParts
import Derived.Laws.Externs
namespace Go.Proofs.Ytbjikmbebodliab
open Go.RowKit

theorem run_bits (b : Nat) (w : World) : (callFunc 19 #[.float .f64 b]).run Try.prog w = .ok (.value (.int .u64 b)) w := by
  rw [run_callFunc_extern Try.func19 (by kernel_rfl) (by kernel_rfl) (by kernel_rfl) (e := Extern.MathFloatBits.float64bits) (by kernel_rfl) #[.float .f64 b] w]
  rfl
theorem run_frombits (n : Int) (w : World) : (callFunc 22 #[.int .u64 n]).run Try.prog w = .ok (.value (.float .f64 n.toNat)) w := by
  rw [run_callFunc_extern Try.func22 (by kernel_rfl) (by kernel_rfl) (by kernel_rfl) (e := Extern.MathFloatBits.float64frombits) (by kernel_rfl) #[.int .u64 n] w]
  rfl

/-- The float p is a number. -/
structure Num (p : Nat) : Prop where
  h : (FloatKind.f64.format.order p p != some .eq) = false

set_option maxHeartbeats 400000 in
theorem alike_same {p : Nat} (w : World) (hp : Num p) :
    Calls Try.prog 18 #[.float .f64 p, .float .f64 p] w fun e w' => e = .returned (.bool true) ∧ w' = w := by
  have h := hp.h
  have hb := run_bits
  go_enter Try.func18, Try.ntmps18
  go_wp2
  all_goals (go_ret; exact ⟨by simp, rfl⟩)

set_option maxHeartbeats 400000 in
theorem same_same {p q : Nat} (w : World) (h : Num p) (g : Num q) :
    Calls Try.prog 13 #[.complex .f64 p q, .complex .f64 p q] w fun e w' => e = .returned (.bool true) ∧ w' = w := by
  go_enter Try.func13, Try.ntmps13
  go_wp2_with (go_at_call 18; refine (alike_same _ (by assumption)).mono ?_; rintro e w' ⟨rfl, rfl⟩)
  all_goals (go_ret; exact ⟨rfl, rfl⟩)

set_option maxHeartbeats 400000 in
theorem signbit_neg (w : World) :
    Calls Try.prog 14 #[.float .f64 9223372036854775808] w fun e w' => e = .returned (.bool true) ∧ w' = w := by
  have hb := run_bits
  go_enter Try.func14, Try.ntmps14
  go_wp2
  all_goals (go_ret; exact ⟨by simp [show wrap64 9223372036854775808 < 0 from by decide +kernel], rfl⟩)

set_option maxHeartbeats 400000 in
theorem nan_any (w : World) :
    Calls Try.prog 16 #[] w fun e w' => e = .returned (.float .f64 9221120237041090561) ∧ w' = w := by
  have hb := run_frombits
  go_enter Try.func16, Try.ntmps16
  go_wp2
  all_goals (go_ret; exact ⟨by simp, rfl⟩)

set_option maxHeartbeats 400000 in
theorem isnan_nan (w : World) :
    Calls Try.prog 21 #[.float .f64 9221120237041090561] w fun e w' => e = .returned (.bool true) ∧ w' = w := by
  have h : (FloatKind.f64.format.order 9221120237041090561 9221120237041090561 != some .eq) = true := by kernel_rfl
  go_enter Try.func21, Try.ntmps21
  go_wp2
  all_goals (go_ret; exact ⟨by simp, rfl⟩)

set_option maxHeartbeats 400000 in
theorem abs_plain {p : Nat} (w : World) (h : (bits .andNot .u64 (p : Int) 9223372036854775808).toNat = p) :
    Calls Try.prog 23 #[.float .f64 p] w fun e w' => e = .returned (.float .f64 p) ∧ w' = w := by
  have hb := run_bits
  have hc := run_frombits
  go_enter Try.func23, Try.ntmps23
  go_wp2
  all_goals (go_ret; exact ⟨rfl, rfl⟩)

set_option maxHeartbeats 400000 in
theorem isinf_not {p : Nat} (w : World) (h : (bits .andNot .u64 (p : Int) 9223372036854775808).toNat = p) (g : (FloatKind.f64.format.order p 9218868437227405311 == some .gt) = false) :
    Calls Try.prog 20 #[.float .f64 p, .int .i64 0] w fun e w' => e = .returned (.bool false) ∧ w' = w := by
  have G : Hid ((FloatKind.f64.format.order p 9218868437227405311 == some .gt) = false) := g
  have HH : Hid ((bits .andNot .u64 (p : Int) 9223372036854775808).toNat = p) := h
  clear g h
  go_enter Try.func20, Try.ntmps20
  go_wp2_with (go_at_call 23; refine (abs_plain _ HH.out).mono ?_; rintro e w' ⟨rfl, rfl⟩)
  all_goals (go_ret; exact ⟨by rw [G.out]; rfl, rfl⟩)

set_option maxHeartbeats 400000 in
theorem kind_nan (w : World) :
    Calls Try.prog 15 #[.complex .f64 9221120237041090561 0] w fun e w' => e = .returned (.int .i64 2) ∧ w' = w := by
  go_enter Try.func15, Try.ntmps15
  go_wp2_with (first
    | (go_at_call 20; refine (isinf_not _ (by kernel_rfl) (by kernel_rfl)).mono ?_; rintro e w' ⟨rfl, rfl⟩)
    | (go_at_call 21; refine (isnan_nan _).mono ?_; rintro e w' ⟨rfl, rfl⟩))
  all_goals (go_ret; exact ⟨rfl, rfl⟩)

theorem mul_awake (w : World) : Calls Try.prog 6 #[.complex .f64 4607182418800017408 4611686018427387904, .complex .f64 4613937818241073152 4616189618054758400] w fun x w' => x = .returned (.complex .f64 13840687554816376832 4621819117588971520) ∧ w' = w :=
  mul_bits _ _ _ _ ((floatBits .mul .f64 4607182418800017408 4613937818241073152).getD 0) ((floatBits .mul .f64 4611686018427387904 4616189618054758400).getD 0) ((floatBits .mul .f64 4607182418800017408 4616189618054758400).getD 0) ((floatBits .mul .f64 4611686018427387904 4613937818241073152).getD 0) _ _ w (by kernel_rfl) (by kernel_rfl) (by kernel_rfl) (by kernel_rfl) (by kernel_rfl) (by kernel_rfl)

theorem conj_awake (w : World) : Calls Try.prog 9 #[.complex .f64 4607182418800017408 0] w fun x w' => x = .returned (.complex .f64 4607182418800017408 9223372036854775808) ∧ w' = w :=
  conj_bits _ _ w

theorem num_five : Num 13840687554816376832 := ⟨by kernel_rfl⟩
theorem num_ten : Num 4621819117588971520 := ⟨by kernel_rfl⟩

set_option maxHeartbeats 400000 in
theorem awake_any (w : World) : Calls Try.prog 4 #[] w fun e w' => e = .returned (.bool true) ∧ w' = w := by
  go_enter Try.func4, Try.ntmps4
  go_wp2_with (first
    | (go_at_call 6; refine (mul_awake _).mono ?_; rintro e w' ⟨rfl, rfl⟩)
    | (go_at_call 13; refine (same_same _ num_five num_ten).mono ?_; rintro e w' ⟨rfl, rfl⟩)
    | (go_at_call 9; refine (conj_awake _).mono ?_; rintro e w' ⟨rfl, rfl⟩)
    | (go_at_call 14; refine (signbit_neg _).mono ?_; rintro e w' ⟨rfl, rfl⟩)
    | (go_at_call 16; refine (nan_any _).mono ?_; rintro e w' ⟨rfl, rfl⟩)
    | (go_at_call 15; refine (kind_nan _).mono ?_; rintro e w' ⟨rfl, rfl⟩))
  all_goals (go_ret; exact ⟨rfl, rfl⟩)

end Go.Proofs.Ytbjikmbebodliab
