/-
  Sizes, products and bounds of root's wide numbers.
-/
import Derived.Test.YtalaacfoaelipaaDoorW1
import Derived.Test.YtalaacfoaelipaaDoorShelf
namespace Go.Proofs.YtalaacfoaelipaaDoor
open Go.RowKit Go.Sort

theorem below_of_drew {a w : World} (h : Below a.drew.heap.size a.drew w) : Below a.heap.size a w := ⟨h.os, h.tape, h.output, h.size, h.block⟩
def absI (a : Int) : Int := if a < 0 then -a else a
set_option maxHeartbeats 400000 in
theorem size_any (a : Int) (w : World) (ha : In128 a) :
    Calls Tryd.prog 67 #[wd a] w fun e w' => e = .returned (wd (absI a)) ∧ Below w.heap.size w w' := by
  unfold absI
  by_cases h : a < 0
  · rw [if_pos h]
    go_enter Tryd.func67, Tryd.ntmps67
    go_wp2_with (first
      | (go_at_call 60; refine (sign_neg a _ ha h).mono ?_; rintro e w1 ⟨rfl, hB⟩; obtain ⟨hc1, hf1⟩ := bcell hB)
      | (go_at_call 68; refine (negative_any a _).mono ?_; rintro e w2 ⟨rfl, hN⟩; have hB := btr hB hN; clear hc1 hf1; obtain ⟨hc2, hf2⟩ := bcell hB))
    exact bodyPost_ret (v := wd (-a)) (by simp [results, Tryd.results67, go_sem, hc2]) rfl ⟨rfl, ((btr (bal (bal (Below.refl _ _) _) _) hB).setCell (by simp) _).setCell (by simp) _⟩
  · rw [if_neg h]
    have hs : sgn a = 0 ∨ sgn a = 1 := by unfold sgn; rw [if_neg h]; split <;> simp
    rcases hs with hs | hs
    all_goals
      have HS := fun w => sign_any a w ha
      rw [hs] at HS
      go_enter Tryd.func67, Tryd.ntmps67
      go_wp2_with (first
        | (go_at_call 60; refine (HS _).mono ?_; rintro e w1 ⟨rfl, hB⟩; obtain ⟨hc1, hf1⟩ := bcell hB))
      exact bodyPost_ret (v := wd a) (by simp [results, Tryd.results67, go_sem, hc1]) rfl ⟨rfl, ((btr (bal (bal (Below.refl _ _) _) _) hB).setCell (by simp) _).setCell (by simp) _⟩

set_option maxHeartbeats 400000 in
theorem narrow_yes (a : Int) (w : World) (h0 : -9223372036854775808 ≤ a) (h1 : a ≤ 9223372036854775807) :
    Calls Tryd.prog 63 #[wd a] w fun e w' => e = .returned (.tuple #[.int .i64 a, .bool true]) ∧ Below w.heap.size w w' := by
  have e1 : wrap64 (loW a) = a := by unfold loW wrap64; omega
  have HW := fun w => wideOf_any a w h0 h1
  go_enter Tryd.func63, Tryd.ntmps63
  go_wp2
  go_region_held3 (fun w' => w'.cell? ⟨w.heap.size, 0, none⟩ = some (.int .u64 (hiW a)) ∧ w'.cell? ⟨w.heap.size, 1, none⟩ = some (.int .u64 (loW a))) (go_keep)
    (first
      | (go_at_call 34; refine (HW _).mono ?_; rintro e w1 ⟨rfl, hB⟩; obtain ⟨hc1, hf1⟩ := bcell hB))
  go_wp2
  go_ret2
  exact ⟨rfl, btr (bal (Below.refl _ _) _) (below_of_drew hB)⟩
set_option maxHeartbeats 400000 in
theorem narrow_no (a : Int) (w : World) (ha : In128 a) (h : a < -9223372036854775808 ∨ 9223372036854775807 < a) :
    Calls Tryd.prog 63 #[wd a] w fun e w' => e = .returned (.tuple #[.int .i64 0, .bool false]) ∧ Below w.heap.size w w' := by
  obtain ⟨n, e1⟩ : ∃ n, wrap64 (loW a) = n := ⟨_, rfl⟩
  have n0 : -9223372036854775808 ≤ n ∧ n ≤ 9223372036854775807 := by rw [← e1]; unfold wrap64; omega
  have h3 : ¬ hiW a = hiW n := by rw [← e1]; unfold In128 at ha; unfold hiW loW wrap64; omega
  have h4 : ¬ hiW n = hiW a := fun e => h3 e.symm
  have HW := fun w => wideOf_any n w n0.1 n0.2
  clear h
  go_enter Tryd.func63, Tryd.ntmps63
  go_wp2
  go_region_held3 (fun w' => w'.cell? ⟨w.heap.size, 0, none⟩ = some (.int .u64 (hiW a)) ∧ w'.cell? ⟨w.heap.size, 1, none⟩ = some (.int .u64 (loW a))) (go_keep)
    (first
      | (go_at_call 34; refine (HW _).mono ?_; rintro e w1 ⟨rfl, hB⟩; obtain ⟨hc1, hf1⟩ := bcell hB))
  go_wp2
  go_ret2
  exact ⟨rfl, btr (bal (Below.refl _ _) _) (below_of_drew hB)⟩

theorem m_mul (x y : Int) (hx : 0 ≤ x) (hx1 : x < 18446744073709551616) (hy : 0 ≤ y) (hy1 : y < 18446744073709551616) : x * y / 18446744073709551616 = hiW (x * y) ∧ x * y % 18446744073709551616 = loW (x * y) := by
  have h1 : x * y ≤ 18446744073709551615 * 18446744073709551615 := Int.mul_le_mul (by omega) (by omega) hy (by omega)
  have h0 : 0 ≤ x * y := Int.mul_nonneg hx hy
  unfold hiW loW
  omega
set_option maxHeartbeats 1000000 in
theorem mul64_any (x y : Int) (w : World) (hx : 0 ≤ x) (hx1 : x < 18446744073709551616) (hy : 0 ≤ y) (hy1 : y < 18446744073709551616) :
    Calls Tryd.prog 66 #[.int .u64 x, .int .u64 y] w fun e w' => e = .returned (.tuple #[.int .u64 (hiW (x * y)), .int .u64 (loW (x * y))]) ∧ w' = w := by
  obtain ⟨X, rfl⟩ := Int.eq_ofNat_of_zero_le hx
  obtain ⟨Y, rfl⟩ := Int.eq_ofNat_of_zero_le hy
  obtain ⟨m1, m2⟩ := m_mul X Y hx hx1 hy hy1
  refine (Tryd.bits_Mul64 X Y (by omega) (by omega) w).mono ?_
  rintro e w' ⟨rfl, rfl⟩
  refine ⟨?_, rfl⟩
  rw [← m1, ← m2]
  simp

theorem absI_b (m : Int) (h0 : -9223372036854775808 ≤ m) (h1 : m ≤ 9223372036854775807) : loW (absI m) = absI m ∧ 0 ≤ absI m ∧ absI m < 18446744073709551616 := by
  unfold loW absI; split <;> omega
theorem absI_mul (m n : Int) : absI m * absI n = if (m < 0) = (n < 0) then m * n else -(m * n) := by
  unfold absI
  by_cases h1 : m < 0 <;> by_cases h2 : n < 0 <;> simp [h1, h2, Int.neg_mul, Int.mul_neg]
theorem fld1 (h l : Int) (w : World) : (Instr.field 64 (.agg #[.int .u64 h, .int .u64 l]) 1).run Tryd.prog w = .ok (.int .u64 l) w := by kernel_rfl
set_option maxHeartbeats 1000000 in
theorem product_core (m n x y v : Int) (w : World)
    (W1 : ∀ w, Calls Tryd.prog 34 #[.int .i64 m] w fun e w' => e = .returned (wd m) ∧ Below w.heap.size w w')
    (W2 : ∀ w, Calls Tryd.prog 34 #[.int .i64 n] w fun e w' => e = .returned (wd n) ∧ Below w.heap.size w w')
    (S1 : ∀ w, Calls Tryd.prog 67 #[wd m] w fun e w' => e = .returned (wd x) ∧ Below w.heap.size w w')
    (S2 : ∀ w, Calls Tryd.prog 67 #[wd n] w fun e w' => e = .returned (wd y) ∧ Below w.heap.size w w')
    (HM : ∀ w, Calls Tryd.prog 66 #[.int .u64 (loW x), .int .u64 (loW y)] w fun e w' => e = .returned (.tuple #[.int .u64 (hiW v), .int .u64 (loW v)]) ∧ w' = w) :
    Calls Tryd.prog 45 #[.int .i64 m, .int .i64 n] w fun e w' => e = .returned (wd (if (m < 0) = (n < 0) then v else -v)) ∧ Below w.heap.size w w' := by
  have F1 := fld1
  by_cases h3 : m < 0 <;> by_cases h4 : n < 0
  · rw [if_pos (by simp [h3, h4])]
    go_enter Tryd.func45, Tryd.ntmps45
    go_wp2_with (first
      | (go_at_call 34; (with_reducible refine (W1 _).mono ?_); rintro e w1 ⟨rfl, hN⟩; (first | (replace hB := btr hB hN) | (have hB := hN)); obtain ⟨hc, hf⟩ := bcell hB)
      | (go_at_call 34; (with_reducible refine (W2 _).mono ?_); rintro e w1 ⟨rfl, hN⟩; (first | (replace hB := btr hB hN) | (have hB := hN)); obtain ⟨hc, hf⟩ := bcell hB)
      | (go_at_call 67; (with_reducible refine (S1 _).mono ?_); rintro e w1 ⟨rfl, hN⟩; unfold wd; (first | (replace hB := btr hB hN) | (have hB := hN)); obtain ⟨hc, hf⟩ := bcell hB)
      | (go_at_call 67; (with_reducible refine (S2 _).mono ?_); rintro e w1 ⟨rfl, hN⟩; unfold wd; (first | (replace hB := btr hB hN) | (have hB := hN)); obtain ⟨hc, hf⟩ := bcell hB)
      | (go_at_call 66; (with_reducible refine (HM _).mono ?_); rintro e w1 ⟨rfl, rfl⟩)
      | (go_at_call 68; refine (negative_any _ _).mono ?_; rintro e w1 ⟨rfl, hN⟩; (first | (replace hB := btr hB hN) | (have hB := hN)); obtain ⟨hc, hf⟩ := bcell hB))
    exact bodyPost_ret (v := wd v) (by simp [results, Tryd.results45, go_sem, hc]) rfl ⟨rfl, ((btr (bal (Below.refl _ _) _) hB).setCell (by simp) _).setCell (by simp) _⟩
  · rw [if_neg (by simp [h3, h4])]
    have d4 : decide (n < 0) = false := by simpa using h4
    go_enter Tryd.func45, Tryd.ntmps45
    go_wp2_with (first
      | (go_at_call 34; (with_reducible refine (W1 _).mono ?_); rintro e w1 ⟨rfl, hN⟩; (first | (replace hB := btr hB hN) | (have hB := hN)); obtain ⟨hc, hf⟩ := bcell hB)
      | (go_at_call 34; (with_reducible refine (W2 _).mono ?_); rintro e w1 ⟨rfl, hN⟩; (first | (replace hB := btr hB hN) | (have hB := hN)); obtain ⟨hc, hf⟩ := bcell hB)
      | (go_at_call 67; (with_reducible refine (S1 _).mono ?_); rintro e w1 ⟨rfl, hN⟩; unfold wd; (first | (replace hB := btr hB hN) | (have hB := hN)); obtain ⟨hc, hf⟩ := bcell hB)
      | (go_at_call 67; (with_reducible refine (S2 _).mono ?_); rintro e w1 ⟨rfl, hN⟩; unfold wd; (first | (replace hB := btr hB hN) | (have hB := hN)); obtain ⟨hc, hf⟩ := bcell hB)
      | (go_at_call 66; (with_reducible refine (HM _).mono ?_); rintro e w1 ⟨rfl, rfl⟩)
      | (go_at_call 68; refine (negative_any _ _).mono ?_; rintro e w1 ⟨rfl, hN⟩; (first | (replace hB := btr hB hN) | (have hB := hN)); obtain ⟨hc, hf⟩ := bcell hB))
    exact bodyPost_ret (v := wd (-v)) (by simp [results, Tryd.results45, go_sem, hc]) rfl ⟨rfl, ((btr (bal (Below.refl _ _) _) hB).setCell (by simp) _).setCell (by simp) _⟩
  · rw [if_neg (by simp [h3, h4])]
    have d4 : decide (m < 0) = false := by simpa using h3
    go_enter Tryd.func45, Tryd.ntmps45
    go_wp2_with (first
      | (go_at_call 34; (with_reducible refine (W1 _).mono ?_); rintro e w1 ⟨rfl, hN⟩; (first | (replace hB := btr hB hN) | (have hB := hN)); obtain ⟨hc, hf⟩ := bcell hB)
      | (go_at_call 34; (with_reducible refine (W2 _).mono ?_); rintro e w1 ⟨rfl, hN⟩; (first | (replace hB := btr hB hN) | (have hB := hN)); obtain ⟨hc, hf⟩ := bcell hB)
      | (go_at_call 67; (with_reducible refine (S1 _).mono ?_); rintro e w1 ⟨rfl, hN⟩; unfold wd; (first | (replace hB := btr hB hN) | (have hB := hN)); obtain ⟨hc, hf⟩ := bcell hB)
      | (go_at_call 67; (with_reducible refine (S2 _).mono ?_); rintro e w1 ⟨rfl, hN⟩; unfold wd; (first | (replace hB := btr hB hN) | (have hB := hN)); obtain ⟨hc, hf⟩ := bcell hB)
      | (go_at_call 66; (with_reducible refine (HM _).mono ?_); rintro e w1 ⟨rfl, rfl⟩)
      | (go_at_call 68; refine (negative_any _ _).mono ?_; rintro e w1 ⟨rfl, hN⟩; (first | (replace hB := btr hB hN) | (have hB := hN)); obtain ⟨hc, hf⟩ := bcell hB))
    exact bodyPost_ret (v := wd (-v)) (by simp [results, Tryd.results45, go_sem, hc]) rfl ⟨rfl, ((btr (bal (Below.refl _ _) _) hB).setCell (by simp) _).setCell (by simp) _⟩
  · rw [if_pos (by simp [h3, h4])]
    have d3 : decide (m < 0) = false := by simpa using h3
    have d4 : decide (n < 0) = false := by simpa using h4
    go_enter Tryd.func45, Tryd.ntmps45
    go_wp2_with (first
      | (go_at_call 34; (with_reducible refine (W1 _).mono ?_); rintro e w1 ⟨rfl, hN⟩; (first | (replace hB := btr hB hN) | (have hB := hN)); obtain ⟨hc, hf⟩ := bcell hB)
      | (go_at_call 34; (with_reducible refine (W2 _).mono ?_); rintro e w1 ⟨rfl, hN⟩; (first | (replace hB := btr hB hN) | (have hB := hN)); obtain ⟨hc, hf⟩ := bcell hB)
      | (go_at_call 67; (with_reducible refine (S1 _).mono ?_); rintro e w1 ⟨rfl, hN⟩; unfold wd; (first | (replace hB := btr hB hN) | (have hB := hN)); obtain ⟨hc, hf⟩ := bcell hB)
      | (go_at_call 67; (with_reducible refine (S2 _).mono ?_); rintro e w1 ⟨rfl, hN⟩; unfold wd; (first | (replace hB := btr hB hN) | (have hB := hN)); obtain ⟨hc, hf⟩ := bcell hB)
      | (go_at_call 66; (with_reducible refine (HM _).mono ?_); rintro e w1 ⟨rfl, rfl⟩)
      | (go_at_call 68; refine (negative_any _ _).mono ?_; rintro e w1 ⟨rfl, hN⟩; (first | (replace hB := btr hB hN) | (have hB := hN)); obtain ⟨hc, hf⟩ := bcell hB))
    exact bodyPost_ret (v := wd v) (by simp [results, Tryd.results45, go_sem, hc]) rfl ⟨rfl, ((btr (bal (Below.refl _ _) _) hB).setCell (by simp) _).setCell (by simp) _⟩
theorem product_any (m n : Int) (w : World) (m0 : -9223372036854775808 ≤ m) (m1 : m ≤ 9223372036854775807) (n0 : -9223372036854775808 ≤ n) (n1 : n ≤ 9223372036854775807) :
    Calls Tryd.prog 45 #[.int .i64 m, .int .i64 n] w fun e w' => e = .returned (wd (m * n)) ∧ Below w.heap.size w w' := by
  obtain ⟨a1, a2, a3⟩ := absI_b m m0 m1
  obtain ⟨b1, b2, b3⟩ := absI_b n n0 n1
  have hp := absI_mul m n
  have := product_core m n (absI m) (absI n) (absI m * absI n) w (fun w => wideOf_any m w m0 m1) (fun w => wideOf_any n w n0 n1)
    (fun w => size_any m w (by unfold In128; omega)) (fun w => size_any n w (by unfold In128; omega)) (fun w => by rw [a1, b1]; exact mul64_any (absI m) (absI n) w a2 a3 b2 b3)
  have e : (if (m < 0) = (n < 0) then absI m * absI n else -(absI m * absI n)) = m * n := by
    rw [hp]; split <;> simp
  rwa [e] at this
end Go.Proofs.YtalaacfoaelipaaDoor
