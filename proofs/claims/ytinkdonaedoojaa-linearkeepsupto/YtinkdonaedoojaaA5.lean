/-
  Mul where it refuses; Apply; slices.Clone; the pair of a matrix.
-/
import Derived.Test.YtinkdonaedoojaaA4
namespace Go.Proofs.Ytinkdonaedoojaa
open Go.RowKit

set_option maxHeartbeats 2000000 in
set_option maxRecDepth 100000 in
theorem mul_bad (N N' : Int) (n n' : Nat) (a a' : Option Addr) (c c' : Nat) (f g F : Nat → Nat) (w : World) (H : RR w a n f) (H' : RR w a' n' g) (hx : ¬ (Gd N n f ∧ Gd N' n' g ∧ N = N')) :
    Calls Try.prog 14 #[lv N a n c, lv N' a' n' c'] w fun e w' => LR w w' e 0 0 F 2 := by
  obtain ⟨hB0, hK0, hK1, hK2⟩ := boxes3 w (lcs N a n c) (lcs N' a' n' c') zl
  have HB0 := hid hB0
  have HK0 := hid hK0
  have HK1 := hid hK1
  have HK2 := hid hK2
  clear hB0 hK0 hK1 hK2
  by_cases h1 : Gd N n f
  case neg =>
    have C1 := fun w' (h : Below w.heap.size w w') => check_bad N n a c f w' (H.below h) h1
    clear hx H H' h1
    go_enter Try.func14, Try.ntmps14
    go_upto_region 2 with (go_at_call 9; (with_reducible refine (C1 _ HB0.out).mono ?_); rintro e w1 ⟨rfl, hN⟩)
    have HB1 := hid (btr HB0.out hN)
    have K2 := hid (bk_on HK2.out hN)
    clear HB0 HK0 HK1 HK2 hN C1
    have d2 := K2.out.cell
    have l2 := K2.out.lt
    have f2 := K2.out.free
    obtain ⟨q0, q1⟩ := two_set K2.out (.int .i64 0) (.slice none 0 0)
    go_wp2
    exact bodyPost_ret (v := .tuple #[.agg #[.int .i64 0, .slice none 0 0], .int .i64 2]) (by simp [results, Try.results14, go_sem, q0, q1]) rfl (lr_zero F (bset (bset HB1.out _ _ _ (by omega)) _ _ _ (by omega)))
  have hC1 := fun w' (h : Below w.heap.size w w') => check_any N n a c f 0 w' (H.below h) (.inl ⟨rfl, h1⟩)
  have C1 := hC1
  clear hC1
  by_cases h2 : Gd N' n' g
  case neg =>
    have C2 := fun w' (h : Below w.heap.size w w') => check_bad N' n' a' c' g w' (H'.below h) h2
    clear hx H H' h1 h2
    go_enter Try.func14, Try.ntmps14
    go_upto_region 2 with (go_at_call 9; (with_reducible refine (C1 _ HB0.out).mono ?_); rintro e w1 ⟨rfl, hN⟩)
    have HB1 := hid (btr HB0.out hN)
    have K1 := hid (bk_on HK1.out hN)
    have K2 := hid (bk_on HK2.out hN)
    clear HB0 HK0 HK1 HK2 hN C1
    have d1 := K1.out.cell
    have l1 := K1.out.lt
    go_upto_region 5 with (go_at_call 9; (with_reducible refine (C2 _ HB1.out).mono ?_); rintro e w2 ⟨rfl, hN⟩)
    have HB2 := hid (btr HB1.out hN)
    replace K2 := hid (bk_on K2.out hN)
    clear HB1 hN C2 d1 l1 K1
    have d2 := K2.out.cell
    have l2 := K2.out.lt
    have f2 := K2.out.free
    obtain ⟨q0, q1⟩ := two_set K2.out (.int .i64 0) (.slice none 0 0)
    go_wp2
    exact bodyPost_ret (v := .tuple #[.agg #[.int .i64 0, .slice none 0 0], .int .i64 2]) (by simp [results, Try.results14, go_sem, q0, q1]) rfl (lr_zero F (bset (bset HB2.out _ _ _ (by omega)) _ _ _ (by omega)))
  have h3 : (N != N') = true := bne_iff_ne.2 (fun e => hx ⟨h1, h2, e⟩)
  have C2 := fun w' (h : Below w.heap.size w w') => check_any N' n' a' c' g 0 w' (H'.below h) (.inl ⟨rfl, h2⟩)
  clear hx H H' h1 h2
  go_enter Try.func14, Try.ntmps14
  go_upto_region 2 with (go_at_call 9; (with_reducible refine (C1 _ HB0.out).mono ?_); rintro e w1 ⟨rfl, hN⟩)
  have HB1 := hid (btr HB0.out hN)
  have K0 := hid (bk_on HK0.out hN)
  have K1 := hid (bk_on HK1.out hN)
  have K2 := hid (bk_on HK2.out hN)
  clear HB0 HK0 HK1 HK2 hN C1
  have d1 := K1.out.cell
  have l1 := K1.out.lt
  go_upto_region 5 with (go_at_call 9; (with_reducible refine (C2 _ HB1.out).mono ?_); rintro e w2 ⟨rfl, hN⟩)
  have HB2 := hid (btr HB1.out hN)
  replace K0 := hid (bk_on K0.out hN)
  replace K1 := hid (bk_on K1.out hN)
  replace K2 := hid (bk_on K2.out hN)
  clear HB1 hN C2 d1 l1
  have d0 := K0.out.cell
  have l0 := K0.out.lt
  have d1 := K1.out.cell
  have l1 := K1.out.lt
  have d2 := K2.out.cell
  have l2 := K2.out.lt
  have f2 := K2.out.free
  obtain ⟨q0, q1⟩ := two_set K2.out (.int .i64 0) (.slice none 0 0)
  go_wp2
  exact bodyPost_ret (v := .tuple #[.agg #[.int .i64 0, .slice none 0 0], .int .i64 2]) (by simp [results, Try.results14, go_sem, q0, q1]) rfl (lr_zero F (bset (bset HB2.out _ _ _ (by omega)) _ _ _ (by omega)))
theorem mk_or (p : Nat → Nat) (hp : ∀ i, p i ≤ 1) (k : Nat) : mk p (k + 1) = mk p k ||| p k * 2 ^ k := ext_bt fun i => by
  rw [bt_or, bt_mk p hp, bt_mk p hp]
  have h : bt (p k * 2 ^ k) i = if i = k then p k else 0 := by
    rcases (show p k = 0 ∨ p k = 1 by have := hp k; omega) with e | e
    · rw [e, Nat.zero_mul, bt_nought]; split <;> rfl
    · rw [e, Nat.one_mul, bt_pow]
  rw [h]
  by_cases e : i = k
  · subst e; rw [if_pos (by omega), if_pos rfl, if_neg (by omega)]; omega
  · rw [if_neg e]
    by_cases h1 : i < k
    · rw [if_pos (by omega), if_pos h1]; omega
    · rw [if_neg (by omega), if_neg h1]; omega
theorem mk_step (p : Nat → Nat) (hp : ∀ i, p i ≤ 1) (k : Nat) (hk : k < 64) : bits .or .u64 (mk p k : Int) (IntKind.u64.wrap ((p k : Int) * 2 ^ k)) = (mk p (k + 1) : Int) := by
  rw [i_bitmul (hp k) hk, i_or _ _ (mk_lt p k (by omega)) (bit_mul_lt (hp k) hk), mk_or p hp]
theorem and_lt {a : Nat} (b : Nat) (ha : a < 18446744073709551616) : a &&& b < 18446744073709551616 := Nat.lt_of_le_of_lt Nat.and_le_left ha
/-- What a matrix makes of a number, as far as k. -/
def apN (f : Nat → Nat) (x k : Nat) : Nat := mk (fun i => par (f i &&& x)) k
theorem apN_step (f : Nat → Nat) (x k : Nat) (hk : k < 64) : bits .or .u64 (apN f x k : Int) (IntKind.u64.wrap ((par (f k &&& x) : Int) * 2 ^ k)) = (apN f x (k + 1) : Int) := mk_step (fun i => par (f i &&& x)) (fun _ => par_le _) k hk
set_option maxHeartbeats 2000000 in
set_option maxRecDepth 100000 in
theorem apply_good (n : Nat) (a : Option Addr) (c : Nat) (f : Nat → Nat) (x : Nat) (w : World) (H : RR w a n f) (hf : Gd n n f) (hx : x < 2 ^ n) :
    Calls Try.prog 16 #[lv n a n c, .int .u64 x] w fun e w' => e = .returned (.tuple #[.int .u64 (apN f x n : Nat), .int .i64 0]) ∧ Below w.heap.size w w' := by
  have hn : n ≤ 64 := by have := hf.2.1; omega
  have hx64 : x < 18446744073709551616 := Nat.lt_of_lt_of_le hx (Nat.pow_le_pow_right (by decide) hn)
  have C1 := fun w' (h : Below w.heap.size w w') => check_good n a c f w' (H.below h) hn hf.2.2.2
  have C2 := fun w' => fits_any x n w' hx64 hn
  rw [decide_eq_true hx] at C2
  have C3 := fun k w' (h : k < n) => parity_any (f k &&& x) w' (and_lt x (H.lt k h))
  have HB0 := hid (bal (Below.refl w.heap.size w) (.cells (lcs n a n c) 24))
  have HK0 := hid (bk_new w (lcs n a n c) 24)
  have HLT := hid H.lt
  have HH := hid H
  clear H hf hx
  go_enter Try.func16, Try.ntmps16
  go_upto_region 2 with (go_at_call 9; (with_reducible refine (C1 _ HB0.out).mono ?_); rintro e w1 ⟨rfl, hN⟩)
  have HB1 := hid (btr HB0.out hN)
  have K0 := hid (bk_on HK0.out hN)
  clear HB0 HK0 hN C1
  have d0 := K0.out.cell
  have l0 := K0.out.lt
  go_wp2_with (go_at_call 26; (with_reducible refine (C2 _).mono ?_); rintro e w2 ⟨rfl, rfl⟩)
  go_loop [7, 23] (fun y i => ∃ k : Nat, k ≤ n ∧ i = .int .i64 k ∧ y = .int .u64 (apN f x k : Nat)) (fun _ i => n - (intOf i).toNat)
  case atStart => exact ⟨0, Nat.zero_le _, rfl, rfl⟩
  case round =>
    obtain ⟨k, hk, rfl, rfl⟩ := hrel
    by_cases hlt : k < n
    · obtain ⟨b, o, rfl, hc, hb⟩ := (HH.out.below HB1.out).at_ k hlt
      have CC := fun w' => C3 k w' hlt
      have HS := hid (apN_step f x k (by omega))
      have hpl := par_le (f k &&& x)
      have ha := u64_and_nat (f k) x (HLT.out k hlt) hx64
      have hc1 : IntKind.u64.wrap (par (f k &&& x) : Int) = (par (f k &&& x) : Int) := i_wrap (by omega)
      generalize par (f k &&& x) = P at *
      generalize f k &&& x = Y at *
      go_wp2_with (go_at_call 31; (with_reducible refine (CC _).mono ?_); rintro e w2 ⟨rfl, rfl⟩)
      go_round
      case rel => exact ⟨k + 1, by omega, by go_num, by rw [HS.out]⟩
      case measure => simp [intOf]; omega
    · obtain rfl : k = n := by omega
      go_wp2
      go_ret2
      exact ⟨rfl, HB1.out⟩
end Go.Proofs.Ytinkdonaedoojaa
