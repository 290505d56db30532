/-
  What packages gauss and ring answer of small whole numbers.
-/
import Derived.Test.YtjmgcgjmaemgdaaE1
namespace Go.Proofs.Ytjmgcgjmaemgdaa
open Go.RowKit Go.Sort

/-- The complex number a + b i. -/
abbrev cx (a b : Int) : Value := .complex .f64 (fb a) (fb b)

set_option maxHeartbeats 400000 in
theorem gcheck (a b : Int) (w : World) (ha : sm a) (hb : sm b) : Calls Try.prog 80 #[cx a b] w fun e w' => e = .returned (.int .i64 0) ∧ Below w.heap.size w w' := by
  have A := fun w => whole_any a w ha
  have B := fun w => whole_any b w hb
  go_enter Try.func80, Try.ntmps80
  go_wp2_with (first
    | (go_at_call 91; (with_reducible refine (A _).mono ?_); rintro e w1 ⟨rfl, hN1⟩)
    | (go_at_call 91; (with_reducible refine (B _).mono ?_); rintro e w2 ⟨rfl, hN2⟩))
  all_goals (go_ret; exact ⟨by simp, btr hN1 hN2⟩)

theorem run_fadd {a b r : Nat} (h : floatBits .add .f64 a b = some r) (t : TypeId) (w : World) : (binOp .add t (.float .f64 a) (.float .f64 b)).run Try.prog w = .ok (.float .f64 r) w := run_float_arith w .add t .f64 a b r h
set_option maxHeartbeats 400000 in
theorem plain_any (p q r s : Nat) (w : World) (h : floatBits .add .f64 p 0 = some r) (g : floatBits .add .f64 q 0 = some s) : Calls Try.prog 83 #[.float .f64 p, .float .f64 q] w fun e w' => e = .returned (.complex .f64 r s) ∧ w' = w := by
  have h1 := run_fadd h
  have h2 := run_fadd g
  go_enter Try.func83, Try.ntmps83
  go_wp2
  all_goals (go_ret; exact ⟨by simp, rfl⟩)
theorem fb_keep {n : Int} (h : sm n) : floatBits .add .f64 (fb n) 0 = some (fb n) := by
  rcases sm_cases h with rfl | rfl | rfl | rfl | rfl | rfl | rfl | rfl | rfl <;> decide +kernel
theorem fb_neg {n : Int} (h : sm n) : floatBits .add .f64 (Op.negFloat .f64 (fb n)) 0 = some (fb (-n)) := by
  rcases sm_cases h with rfl | rfl | rfl | rfl | rfl | rfl | rfl | rfl | rfl <;> decide +kernel
theorem run_fneg (b : Nat) (w : World) : (Op.unary .neg (.float .f64 b)).run Try.prog w = .ok (.float .f64 (Op.negFloat .f64 b)) w := rfl

/-- The parts of a number times i to the q. -/
def re4 : Nat → Int → Int → Int
  | 0, a, _ => a
  | 1, _, b => -b
  | 2, a, _ => -a
  | _, _, b => b
def im4 : Nat → Int → Int → Int
  | 0, _, b => b
  | 1, a, _ => a
  | 2, _, b => -b
  | _, a, _ => -a
theorem re4_sm (q : Nat) {a b : Int} (ha : sm a) (hb : sm b) : sm (re4 q a b) := by
  unfold sm at *
  unfold re4
  split <;> omega
theorem im4_sm (q : Nat) {a b : Int} (ha : sm a) (hb : sm b) : sm (im4 q a b) := by
  unfold sm at *
  unfold im4
  split <;> omega
set_option maxHeartbeats 400000 in
theorem gturn (a b k : Int) (q : Nat) (w : World) (ha : sm a) (hb : sm b) (hq : bits .and .i64 k 3 = (q : Int)) (h4 : q < 4) :
    Calls Try.prog 70 #[cx a b, .int .i64 k] w fun e w' => e = .returned (.tuple #[cx (re4 q a b) (im4 q a b), .int .i64 0]) ∧ Below w.heap.size w w' := by
  have C := fun w => gcheck a b w ha hb
  have hn := run_fneg
  have P1 := fun w => plain_any _ _ _ _ w (fb_neg hb) (fb_keep ha)
  have P2 := fun w => plain_any _ _ _ _ w (fb_neg ha) (fb_neg hb)
  have P3 := fun w => plain_any _ _ _ _ w (fb_keep hb) (fb_neg ha)
  have : q = 0 ∨ q = 1 ∨ q = 2 ∨ q = 3 := by omega
  rcases this with rfl | rfl | rfl | rfl
  all_goals
    simp only [re4, im4]
    go_enter Try.func70, Try.ntmps70
    go_wp2_with (first
      | (go_at_call 80; (with_reducible refine (C _).mono ?_); rintro e w1 ⟨rfl, hN1⟩)
      | (go_at_call 83; (with_reducible refine (P1 _).mono ?_); rintro e w2 ⟨rfl, rfl⟩)
      | (go_at_call 83; (with_reducible refine (P2 _).mono ?_); rintro e w2 ⟨rfl, rfl⟩)
      | (go_at_call 83; (with_reducible refine (P3 _).mono ?_); rintro e w2 ⟨rfl, rfl⟩))
    go_ret2
    exact ⟨rfl, hN1⟩
/-- An element of the ring: (a + b i) + (c + d i) w. -/
abbrev rg (a b c d : Int) : Value := .agg #[cx a b, cx c d]
set_option maxHeartbeats 400000 in
theorem rcheck (a b c d : Int) (w : World) (ha : sm a) (hb : sm b) (hc : sm c) (hd : sm d) : Calls Try.prog 67 #[rg a b c d] w fun e w' => e = .returned (.int .i64 0) ∧ Below w.heap.size w w' := by
  have A := fun w => gcheck a b w ha hb
  have B := fun w => gcheck c d w hc hd
  have hW : Below w.heap.size w (w.alloc (.cells #[cx a b, cx c d] 44)) := bal (Below.refl _ _) _
  have h1 : (w.alloc (.cells #[cx a b, cx c d] 44)).cell? ⟨w.heap.size, 1, none⟩ = some (cx c d) := by simp [go_sem]
  have hl : w.heap.size < (w.alloc (.cells #[cx a b, cx c d] 44)).heap.size := by simp [go_sem]
  go_enter Try.func67, Try.ntmps67
  go_wp2_with (first
    | (go_at_call 80; (with_reducible refine (A _).mono ?_); rintro e w1 ⟨rfl, hN1⟩; replace hW := btr hW hN1; have h2 := (hN1.cell (p := ⟨w.heap.size, 1, none⟩) hl).trans h1)
    | (go_at_call 80; (with_reducible refine (B _).mono ?_); rintro e w2 ⟨rfl, hN2⟩; replace hW := btr hW hN2))
  all_goals (go_ret; exact ⟨by simp, hW⟩)

set_option maxHeartbeats 400000 in
/-- ring.element, where no step was refused. -/
theorem element_any (p q r s : Nat) (b m cap : Nat) (w : World) (hm : m ≤ 8) (hb : b < w.heap.size) (hf : ∀ j, j < m → w.cell? ⟨b, j, none⟩ = some (.int .i64 0)) :
    Calls Try.prog 71 #[.complex .f64 p q, .complex .f64 r s, .slice (some ⟨b, 0, none⟩) m cap] w fun e w' => e = .returned (.tuple #[.agg #[.complex .f64 p q, .complex .f64 r s], .int .i64 0]) ∧ Below w.heap.size w w' := by
  have HF : Hid (∀ o j, j < m → (w.alloc o).cell? ⟨b, j, none⟩ = some (.int .i64 0)) := fun o j hj => by
    rw [((Below.refl w.heap.size w).alloc (Nat.le_refl _) o).cell (p := ⟨b, j, none⟩) hb]; exact hf j hj
  clear hf
  go_enter Try.func71, Try.ntmps71
  go_upto_region 2 with (fail)
  go_loop [12] (fun v => ∃ k : Nat, k ≤ m ∧ v = .int .i64 k) (fun v => m - (intOf v).toNat)
  case atStart => exact ⟨0, by omega, rfl⟩
  case round =>
    obtain ⟨k, hk, rfl⟩ := hrel
    by_cases hlt : k < m
    · have hc := fun o => HF.out o k hlt
      go_wp2
      go_round
      case rel => exact ⟨k + 1, by omega, by go_num⟩
      case measure => simp [intOf]; omega
    · go_wp2
      refine bodyPost_ret (v := .tuple #[.agg #[.complex .f64 p q, .complex .f64 r s], .int .i64 0]) (by simp [results, Try.results71, go_sem]) rfl ⟨rfl, ?_⟩
      exact bal (Below.refl _ _) _
end Go.Proofs.Ytjmgcgjmaemgdaa
