/-
  Small whole numbers as floats: what package gauss answers of them.
-/
import Derived.Test.YtjmgcgjmaemgdaaRows
import Derived.WalkKit
import Derived.BigQuiet
import Derived.RowKit
import Derived.Carry
import Derived.Laws.Externs
import Derived.Laws.EntriesVeiled
import Derived.Laws.ComplexArith
import Derived.WalkSpells
import Derived.WalkLawsBesides
import Derived.Deep.QuietTactic
import Derived.Deep.RegionHeld3
import Derived.Lib.QuietBelow
import Derived.Deep.CutRange
namespace Go.Proofs.Ytjmgcgjmaemgdaa
open Go.RowKit Go.Sort

theorem below_drew {B : Nat} {a w : World} (h : Below B a w) : Below B a w.drew := ⟨h.os, h.tape, h.output, h.size, h.block⟩
theorem below_drewN {B : Nat} {a w : World} (h : Below B a w) (n : Nat) : Below B a (w.drewN n) := ⟨h.os, h.tape, h.output, h.size, h.block⟩
theorem bal {a w : World} (h : Below a.heap.size a w) (o : Obj) : Below a.heap.size a (w.alloc o) := h.alloc h.size o
theorem btr {a w w1 : World} (h : Below a.heap.size a w) (g : Below w.heap.size w w1) : Below a.heap.size a w1 := h.trans (g.mono h.size)

@[go_sem] theorem run_store_complex {P : Program} {w : World} {a : Addr} {m : Mode} (k : FloatKind) (x y : Nat) : (store a (.complex k x y) m).run P w = stored P w a (.complex k x y) m := run_store P w a _ m rfl
@[go_sem] theorem run_store_float {P : Program} {w : World} {a : Addr} {m : Mode} (k : FloatKind) (x : Nat) : (store a (.float k x) m).run P w = stored P w a (.float k x) m := run_store P w a _ m rfl
theorem run_bits (b : Nat) (w : World) : (callFunc 96 #[.float .f64 b]).run Try.prog w = .ok (.value (.int .u64 b)) w := by
  rw [run_callFunc_extern Try.func96 (by kernel_rfl) (by kernel_rfl) (by kernel_rfl) (e := Extern.MathFloatBits.float64bits) (by kernel_rfl) #[.float .f64 b] w]
  rfl
theorem run_frombits (n : Int) (w : World) : (callFunc 95 #[.int .u64 n]).run Try.prog w = .ok (.value (.float .f64 n.toNat)) w := by
  rw [run_callFunc_extern Try.func95 (by kernel_rfl) (by kernel_rfl) (by kernel_rfl) (e := Extern.MathFloatBits.float64frombits) (by kernel_rfl) #[.int .u64 n] w]
  rfl

/-- The float that stands for the whole number n. -/
def mg : Nat → Nat
  | 0 => 0
  | 1 => 4607182418800017408
  | 2 => 4611686018427387904
  | 3 => 4613937818241073152
  | 4 => 4616189618054758400
  | 5 => 4617315517961601024
  | 6 => 4618441417868443648
  | 7 => 4619567317775286272
  | 8 => 4620693217682128896
  | _ => 0
def fb (n : Int) : Nat := (if n < 0 then 9223372036854775808 else 0) + mg n.natAbs
def sm (n : Int) : Prop := -4 ≤ n ∧ n ≤ 4
theorem sm_cases {n : Int} (h : sm n) : n = -4 ∨ n = -3 ∨ n = -2 ∨ n = -1 ∨ n = 0 ∨ n = 1 ∨ n = 2 ∨ n = 3 ∨ n = 4 := by unfold sm at h; omega

theorem abs_bits {n : Int} (h : sm n) : bits .andNot .u64 (fb n : Int) 9223372036854775808 = (fb n.natAbs : Int) := by
  rcases sm_cases h with rfl | rfl | rfl | rfl | rfl | rfl | rfl | rfl | rfl <;> decide +kernel
set_option maxHeartbeats 400000 in
theorem abs_any (n : Int) (w : World) (h : sm n) : Calls Try.prog 93 #[.float .f64 (fb n)] w fun e w' => e = .returned (.float .f64 (fb n.natAbs)) ∧ w' = w := by
  have hb := run_bits
  have hf := run_frombits
  have ha := abs_bits h
  go_enter Try.func93, Try.ntmps93
  go_wp2
  all_goals (go_ret; exact ⟨by simp, rfl⟩)
theorem sign_nought : wrap64 (fb 0 : Int) = 0 := by decide +kernel
set_option maxHeartbeats 400000 in
theorem signbit_any (w : World) : Calls Try.prog 94 #[.float .f64 (fb 0)] w fun e w' => e = .returned (.bool false) ∧ w' = w := by
  have hb := run_bits
  have hs := sign_nought
  go_enter Try.func94, Try.ntmps94
  go_wp2
  all_goals (go_ret; exact ⟨by simp, rfl⟩)

theorem abs_le {n : Int} (h : sm n) : FloatKind.f64.format.order (fb n.natAbs) 4845873199050653695 = some .lt := by
  rcases sm_cases h with rfl | rfl | rfl | rfl | rfl | rfl | rfl | rfl | rfl <;> decide +kernel
set_option maxHeartbeats 400000 in
theorem within_any (b m cap : Nat) (f : Nat → Int) (w : World) (hm : m ≤ 8) (hf : ∀ j, j < m → w.cell? ⟨b, j, none⟩ = some (.float .f64 (fb (f j))) ∧ sm (f j)) :
    Calls Try.prog 89 #[.slice (some ⟨b, 0, none⟩) m cap] w fun e w' => e = .returned (.bool true) ∧ w' = w := by
  have HF : Hid (∀ j, j < m → w.cell? ⟨b, j, none⟩ = some (.float .f64 (fb (f j))) ∧ sm (f j)) := hf
  clear hf
  go_enter Try.func89, Try.ntmps89
  go_upto_region 2 with (fail)
  go_loop [7] (fun v => ∃ k : Nat, k ≤ m ∧ v = .int .i64 k) (fun v => m - (intOf v).toNat)
  case atStart => exact ⟨0, by omega, rfl⟩
  case round =>
    obtain ⟨k, hk, rfl⟩ := hrel
    by_cases hlt : k < m
    · obtain ⟨hc, hs⟩ := HF.out k hlt
      have A := fun w => abs_any (f k) w hs
      have L := abs_le hs
      generalize f k = x at *
      go_wp2_with (go_at_call 93; (with_reducible refine (A _).mono ?_); rintro e w1 ⟨rfl, rfl⟩)
      go_round
      case rel => exact ⟨k + 1, by omega, by go_num⟩
      case measure => simp [intOf]; omega
    · go_wp2
      go_ret
      exact ⟨rfl, rfl⟩
theorem fb_same {n : Int} (h : sm n) : FloatKind.f64.format.order (fb n) (fb n) = some .eq := by
  rcases sm_cases h with rfl | rfl | rfl | rfl | rfl | rfl | rfl | rfl | rfl <;> decide +kernel
theorem fb_pos {n : Int} (h : sm n) (h0 : n ≠ 0) : (FloatKind.f64.format.order (fb n) 0 != some .eq) = true := by
  rcases sm_cases h with rfl | rfl | rfl | rfl | rfl | rfl | rfl | rfl | rfl <;> first | exact absurd rfl h0 | decide +kernel
theorem fb_int {n : Int} (h : sm n) (w : World) : (convert 114 2 (.float .f64 (fb n))).run Try.prog w = .ok (.int .i64 n) w := by
  rcases sm_cases h with rfl | rfl | rfl | rfl | rfl | rfl | rfl | rfl | rfl <;> kernel_rfl
theorem int_fb {n : Int} (h : sm n) (w : World) : (convert 2 114 (.int .i64 n)).run Try.prog w = .ok (.float .f64 (fb n)) w := by
  rcases sm_cases h with rfl | rfl | rfl | rfl | rfl | rfl | rfl | rfl | rfl <;> kernel_rfl
set_option maxHeartbeats 400000 in
theorem whole_any (n : Int) (w : World) (h : sm n) : Calls Try.prog 91 #[.float .f64 (fb n)] w fun e w' => e = .returned (.bool true) ∧ Below w.heap.size w w' := by
  have WI := within_any w.heap.size 1 1 (fun _ => n) (w.alloc (.cells #[.float .f64 (fb n)] 114)) (by omega) (fun j hj => by
    obtain rfl : j = 0 := by omega
    exact ⟨by simp [go_sem], h⟩)
  have SB := fun w => signbit_any w
  have e1 := fb_same h
  have c1 := fb_int h
  have c2 := int_fb h
  have hW : Below w.heap.size w (w.alloc (.cells #[.float .f64 (fb n)] 114)) := bal (Below.refl _ _) _
  by_cases h0 : n = 0
  · subst h0
    go_enter Try.func91, Try.ntmps91
    go_wp2_with (first
      | (go_at_call 89; (with_reducible refine WI.mono ?_); rintro e w1 ⟨rfl, rfl⟩)
      | (go_at_call 94; (with_reducible refine (SB _).mono ?_); rintro e w1 ⟨rfl, rfl⟩))
    all_goals (go_ret; exact ⟨by simp, hW⟩)
  · have e2 := fb_pos h h0
    go_enter Try.func91, Try.ntmps91
    go_wp2_with (go_at_call 89; (with_reducible refine WI.mono ?_); rintro e w1 ⟨rfl, rfl⟩)
    all_goals (go_ret; exact ⟨by simp, hW⟩)
end Go.Proofs.Ytjmgcgjmaemgdaa
