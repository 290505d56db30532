/-
  Squares in four words, and how they are compared.
-/
import Derived.Test.YtalaacfoaelipaaDoorW6
namespace Go.Proofs.YtalaacfoaelipaaDoor
open Go.RowKit Go.Sort

/-- The four words of a number below 2^256. -/
def q0 (v : Int) : Int := v % 18446744073709551616
def q1 (v : Int) : Int := v / 18446744073709551616 % 18446744073709551616
def q2 (v : Int) : Int := v / 340282366920938463463374607431768211456 % 18446744073709551616
def q3 (v : Int) : Int := v / 6277101735386680763835789423207666416102355444464034512896 % 18446744073709551616
abbrev qd (v : Int) : Value := .agg #[.int .u64 (q3 v), .int .u64 (q2 v), .int .u64 (q1 v), .int .u64 (q0 v)]

theorem sq_math (X Y Z : Int) (hX : 0 ≤ X) (hX1 : X < 85070591730234615865843651857942052864) (hY : 0 ≤ Y) (hY1 : Y < 340282366920938463463374607431768211456) (hZ : 0 ≤ Z) (hZ1 : Z < 340282366920938463463374607431768211456) :
    let T := X * 340282366920938463463374607431768211456 + Y * 18446744073709551616 + Z
    loW Z = q0 T ∧ (hiW Z + loW Y) % 18446744073709551616 = q1 T ∧ (loW X + hiW Y + (hiW Z + loW Y) / 18446744073709551616) % 18446744073709551616 = q2 T ∧
    IntKind.u64.wrap (hiW X + (loW X + hiW Y + (hiW Z + loW Y) / 18446744073709551616) / 18446744073709551616) = q3 T := by
  intro T
  rw [IntKind.wrap_u64]
  unfold hiW loW q0 q1 q2 q3 T
  refine ⟨by omega, by omega, by omega, by omega⟩
theorem sq_is (a : Int) (ha : 0 ≤ a) (ha1 : a < 170141183460469231731687303715884105728) :
    hiW a * hiW a * 340282366920938463463374607431768211456 + (2 * hiW a) * loW a * 18446744073709551616 + loW a * loW a = a * a ∧
    (0 ≤ hiW a * hiW a ∧ hiW a * hiW a < 85070591730234615865843651857942052864) ∧ (0 ≤ 2 * hiW a * loW a ∧ 2 * hiW a * loW a < 340282366920938463463374607431768211456) ∧ (0 ≤ loW a * loW a ∧ loW a * loW a < 340282366920938463463374607431768211456) := by
  have e : a = hiW a * 18446744073709551616 + loW a := by unfold hiW loW; omega
  have h1 : 0 ≤ hiW a ∧ hiW a < 9223372036854775808 := by unfold hiW; omega
  have h2 := loW_b a
  generalize hiW a = h at *
  generalize loW a = l at *
  subst e
  refine ⟨?_, ⟨Int.mul_nonneg h1.1 h1.1, ?_⟩, ⟨Int.mul_nonneg (by omega) h2.1, ?_⟩, ⟨Int.mul_nonneg h2.1 h2.1, ?_⟩⟩
  · have e1 : h * 18446744073709551616 * (h * 18446744073709551616) = h * h * 340282366920938463463374607431768211456 := by rw [Int.mul_assoc, Int.mul_left_comm 18446744073709551616 h 18446744073709551616, ← Int.mul_assoc]; rfl
    have e2 : h * 18446744073709551616 * l = h * l * 18446744073709551616 := Int.mul_right_comm _ _ _
    have e3 : l * (h * 18446744073709551616) = h * l * 18446744073709551616 := by rw [← Int.mul_assoc, Int.mul_comm l h]
    have e4 : 2 * h * l = 2 * (h * l) := Int.mul_assoc _ _ _
    rw [Int.add_mul, Int.mul_add, Int.mul_add, e1, e2, e3, e4]
    generalize h * h = X at *
    generalize h * l = Y at *
    generalize l * l = Z at *
    omega
  · have := Int.mul_le_mul (show h ≤ 9223372036854775807 by omega) (show h ≤ 9223372036854775807 by omega) h1.1 (by omega); omega
  · have := Int.mul_le_mul (show 2 * h ≤ 18446744073709551614 by omega) (show l ≤ 18446744073709551615 by omega) h2.1 (by omega); omega
  · have := Int.mul_le_mul (show l ≤ 18446744073709551615 by omega) (show l ≤ 18446744073709551615 by omega) h2.1 (by omega); omega

set_option maxHeartbeats 1000000 in
theorem square_any (a : Int) (w : World) (ha : 0 ≤ a) (ha1 : a < 170141183460469231731687303715884105728) :
    Calls Tryd.prog 71 #[wd a] w fun e w' => e = .returned (qd (a * a)) ∧ Below w.heap.size w w' := by
  obtain ⟨hs, hX, hY, hZ⟩ := sq_is a ha ha1
  have M := sq_math (hiW a * hiW a) (2 * hiW a * loW a) (loW a * loW a) hX.1 hX.2 hY.1 hY.2 hZ.1 hZ.2
  simp only [hs] at M
  obtain ⟨n0, n1, n2, n3⟩ := M
  have h1 : 0 ≤ hiW a ∧ hiW a < 9223372036854775808 := by unfold hiW; omega
  have h2 := loW_b a
  have e2 : IntKind.u64.wrap (2 * hiW a) = 2 * hiW a := by rw [IntKind.wrap_u64]; omega
  have T1 := fun w => mul64_any (hiW a) (hiW a) w h1.1 (by omega) h1.1 (by omega)
  have T2 := fun w => mul64_any (2 * hiW a) (loW a) w (by omega) (by omega) h2.1 h2.2
  have T3 := fun w => mul64_any (loW a) (loW a) w h2.1 h2.2 h2.1 h2.2
  generalize a * a = V at *
  generalize hiW a * hiW a = X at *
  generalize 2 * hiW a * loW a = Y at *
  generalize loW a * loW a = Z at *
  generalize hH : 2 * hiW a = H at *
  have x1 := hiW_b X; have x2 := loW_b X; have y1 := hiW_b Y; have y2 := loW_b Y; have z1 := hiW_b Z
  have A0 := fun w => add64_0 (hiW Z) (loW Y) z1.1 y2.1 w
  have A1 := fun w => add64_law (loW X) (hiW Y) ((hiW Z + loW Y) / 18446744073709551616) x2.1 y1.1 (by omega) (by omega) w
  clear hX hY hZ hs h1 h2 ha ha1 x1 x2 y1 y2 z1
  generalize (hiW Z + loW Y) / 18446744073709551616 = k1 at *
  generalize (loW X + hiW Y + k1) / 18446744073709551616 = k2 at *
  go_enter Tryd.func71, Tryd.ntmps71
  go_wp2_with (first
    | (go_at_call 66; (with_reducible refine (T1 _).mono ?_); rintro e w1 ⟨rfl, rfl⟩)
    | (go_at_call 66; (with_reducible refine (T2 _).mono ?_); rintro e w1 ⟨rfl, rfl⟩)
    | (go_at_call 66; (with_reducible refine (T3 _).mono ?_); rintro e w1 ⟨rfl, rfl⟩))
  exact bodyPost_ret (v := qd V) (by simp [*, results, Tryd.results71, go_sem]) rfl ⟨rfl, bal (bal (Below.refl w.heap.size w) _) _⟩

/-- How two numbers compare. -/
def cmpI (x y : Int) : Int := if x < y then -1 else if y < x then 1 else 0
theorem isNaN_any (x : Int) (w : World) : Calls Tryd.prog 90 #[.int .u64 x] w fun e w' => e = .returned (.bool false) ∧ w' = w := by
  go_enter Tryd.func90, Tryd.ntmps90
  go_wp2
  go_ret
  exact ⟨rfl, rfl⟩
theorem cmp_any (x y : Int) (w : World) : Calls Tryd.prog 81 #[.int .u64 x, .int .u64 y] w fun e w' => e = .returned (.int .i64 (cmpI x y)) ∧ w' = w := by
  unfold cmpI
  by_cases h1 : x < y
  · rw [if_pos h1]
    go_enter Tryd.func81, Tryd.ntmps81
    go_wp2_with (go_at_call 90; refine (isNaN_any _ _).mono ?_; rintro e w1 ⟨rfl, rfl⟩)
    go_ret
    exact ⟨rfl, rfl⟩
  · rw [if_neg h1]
    by_cases h2 : y < x
    · rw [if_pos h2]
      go_enter Tryd.func81, Tryd.ntmps81
      go_wp2_with (go_at_call 90; refine (isNaN_any _ _).mono ?_; rintro e w1 ⟨rfl, rfl⟩)
      go_ret
      exact ⟨rfl, rfl⟩
    · rw [if_neg h2]
      go_enter Tryd.func81, Tryd.ntmps81
      go_wp2_with (go_at_call 90; refine (isNaN_any _ _).mono ?_; rintro e w1 ⟨rfl, rfl⟩)
      go_ret
      exact ⟨rfl, rfl⟩

theorem m_tw (v : Int) (hv : 0 ≤ v) (hv1 : v < 57896044618658097711785492504343953926634992332820282019728792003956564819968) :
    bits .or .u64 (IntKind.u64.wrap (q3 v * 2)) (q2 v / 9223372036854775808) = q3 (v * 2) ∧ bits .or .u64 (IntKind.u64.wrap (q2 v * 2)) (q1 v / 9223372036854775808) = q2 (v * 2) ∧
    bits .or .u64 (IntKind.u64.wrap (q1 v * 2)) (q0 v / 9223372036854775808) = q1 (v * 2) ∧ IntKind.u64.wrap (q0 v * 2) = q0 (v * 2) := by
  have key : ∀ x y : Int, 0 ≤ x → x < 18446744073709551616 → 0 ≤ y → y < 18446744073709551616 → bits .or .u64 (IntKind.u64.wrap (x * 2)) (y / 9223372036854775808) = x * 2 % 18446744073709551616 + y / 9223372036854775808 := fun x y x0 x1 y0 y1 => by
    rw [IntKind.wrap_u64]
    exact or_join' _ _ 2 1 rfl (x % 9223372036854775808) (by omega) (by omega) (by omega) (by omega) (by omega) (by omega)
  have b0 : 0 ≤ q0 v ∧ q0 v < 18446744073709551616 := by unfold q0; omega
  have b1 : 0 ≤ q1 v ∧ q1 v < 18446744073709551616 := by unfold q1; omega
  have b2 : 0 ≤ q2 v ∧ q2 v < 18446744073709551616 := by unfold q2; omega
  have b3 : 0 ≤ q3 v ∧ q3 v < 18446744073709551616 := by unfold q3; omega
  rw [key _ _ b3.1 b3.2 b2.1 b2.2, key _ _ b2.1 b2.2 b1.1 b1.2, key _ _ b1.1 b1.2 b0.1 b0.2, IntKind.wrap_u64]
  unfold q0 q1 q2 q3
  refine ⟨by omega, by omega, by omega, by omega⟩
set_option maxHeartbeats 1000000 in
theorem twice_any (v : Int) (w : World) (hv : 0 ≤ v) (hv1 : v < 57896044618658097711785492504343953926634992332820282019728792003956564819968) :
    Calls Tryd.prog 72 #[qd v] w fun e w' => e = .returned (qd (v * 2)) ∧ Below w.heap.size w w' := by
  obtain ⟨n3, n2, n1, n0⟩ := m_tw v hv hv1
  clear hv hv1
  generalize v * 2 = u at *
  go_enter Tryd.func72, Tryd.ntmps72
  go_wp2
  refine wp_loop_rounds 4 ?_
  rw [rounds_succ]
  go_wp2
  go_region
  go_wp2
  rw [rounds_succ]
  go_wp2
  go_region
  go_wp2
  rw [rounds_succ]
  go_wp2
  go_region
  go_wp2
  rw [rounds_succ]
  go_wp2
  exact bodyPost_ret (v := qd u) (by simp [*, results, Tryd.results72, go_sem]) rfl ⟨rfl, by repeat (first | exact Below.refl w.heap.size w | refine below_drew ?_ | refine bal ?_ _)⟩
end Go.Proofs.YtalaacfoaelipaaDoor
