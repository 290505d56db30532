/-
  Put together of: W6 Laid G1.
-/
import Derived.Test.YtcfmhkhfmcmkbaaDoorXB
import Derived.Test.YtcfmhkhfmcmkbaaDoorRows
import Derived.ProofKit
import Derived.OpenShut
import Derived.Carry
import Derived.LaidMore
import Derived.LaidOnce
import Derived.LaidSub
import Derived.Lib.LaidTab
import Derived.Stop.Joined
namespace Go.Proofs.YtcfmhkhfmcmkbaaDoor
open Go.RowKit Go.Sort

/-- A root, and a root with an error, as values. -/
abbrev rv (p q k : Int) : Value := .agg #[.int .i64 p, .int .i64 q, .int .i64 k]
abbrev rtV (r : Rt) : Value := .tuple #[.agg #[.int .i64 r.p, .int .i64 r.q, .int .i64 r.k], .int .i64 r.e]

theorem sgn_zero (a : Int) : sgn a = 0 ↔ a = 0 := by unfold sgn; split <;> (try split) <;> omega
theorem div_in (a : Int) (n : Nat) (ha : In128 a) : In128 (a / 2 ^ n) := by
  unfold In128 at *
  have ht := pow_pos' n
  generalize (2 : Int) ^ n = t at *
  constructor
  · rw [Int.le_ediv_iff_mul_le ht]
    have := Int.mul_le_mul_of_nonneg_left (show 1 ≤ t by omega) (show (0 : Int) ≤ 170141183460469231731687303715884105728 by omega)
    omega
  · rw [Int.ediv_lt_iff_lt_mul ht]
    have := Int.mul_le_mul_of_nonneg_left (show 1 ≤ t by omega) (show (0 : Int) ≤ 170141183460469231731687303715884105728 by omega)
    omega
/-- What narrow tells of a number. -/
def nrw (a : Int) : Bool := decide (-9223372036854775808 ≤ a ∧ a ≤ 9223372036854775807)
theorem narrow_any (a : Int) (w : World) (ha : In128 a) :
    Calls Tryd.prog 48 #[wd a] w fun e w' => e = .returned (.tuple #[.int .i64 (if nrw a = true then a else 0), .bool (nrw a)]) ∧ Below w.heap.size w w' := by
  by_cases h : -9223372036854775808 ≤ a ∧ a ≤ 9223372036854775807
  · have : nrw a = true := by unfold nrw; simpa using h
    rw [this, if_pos rfl]
    exact narrow_yes a w h.1 h.2
  · have : nrw a = false := by unfold nrw; simpa using h
    rw [this, if_neg (by simp)]
    exact narrow_no a w ha (by omega)

theorem zero_any (k : Nat) (w : World) :
    Calls Tryd.prog 29 #[wd 0, wd 0, .int .i64 k] w fun e w' => e = .returned (.tuple #[.agg #[.int .i64 0, .int .i64 0, .int .i64 0], .int .i64 0]) ∧ Below w.heap.size w w' := by
  have S := fun w => sign_nil w
  go_enter Tryd.func29, Tryd.ntmps29
  go_wp2_with (first
    | (go_at_call 45; (refine (S _).mono ?_); rintro e w1 ⟨rfl, hN⟩; (first | (replace hB := btr hB hN) | (have hB := hN)); obtain ⟨hc, hf⟩ := bcell hB))
  exact bodyPost_ret (v := .tuple #[.agg #[.int .i64 0, .int .i64 0, .int .i64 0], .int .i64 0]) (by simp [*, results, Tryd.results29, go_sem]) rfl ⟨rfl, bset (bset (bset (btr (bal (bal (bal (Below.refl w.heap.size w) _) _) _) hB) _ _ _ (by omega)) _ _ _ (by omega)) _ _ _ (by omega)⟩

theorem oneForm_any (p q : Int) (k : Nat) (w : World) (hT : Tab w) (hp : In128 p) (hq : In128 q) (hk : k ≤ 9223372036854775807) (h : k ≤ 64 ∨ evn p q < 64 ∨ (p = 0 ∧ q = 0)) :
    Calls Tryd.prog 29 #[wd p, wd q, .int .i64 k] w fun e w' => e = .returned (rtV (one p q k)) ∧ Below w.heap.size w w' := by
  by_cases h0 : p = 0 ∧ q = 0
  · obtain ⟨rfl, rfl⟩ := h0
    have : one 0 0 k = ⟨0, 0, 0, 0⟩ := by unfold one; rw [if_pos ⟨rfl, rfl⟩]
    rw [this]
    exact zero_any k w
  · have h' : k ≤ 64 ∨ evn p q < 64 := by
      rcases h with h | h | h
      · exact Or.inl h
      · exact Or.inr h
      · exact absurd h h0
    have hvv := hv_evn p q k h' (evn_le p q)
    have hle := evn_le p q
    have hn : hv k p q ≤ k := hv_le k p q
    have hn64 : hv k p q ≤ 64 := by omega
    have hdp := div_in p (hv k p q) hp
    have hdq := div_in q (hv k p q) hq
    have := oneForm_core p q (p / 2 ^ hv k p q) (q / 2 ^ hv k p q) _ _ k (hv k p q) _ _ _ _ (evn p q) w hT hn hk (by omega)
      (fun w => sign_any p w hp) (fun w => sign_any q w hq)
      (by rw [sgn_zero, sgn_zero]; omega) (fun w hT => evenness_any p q w hT) (fun w => down_any p _ w hn64 hp) (fun w => down_any q _ w hn64 hq)
      (fun w => narrow_any _ w hdp) (fun w => narrow_any _ w hdq) (fun w => within_any _ w) (fun w => within_any _ w)
    refine this.mono ?_
    rintro e w' ⟨rfl, hB⟩
    refine ⟨?_, hB⟩
    unfold one
    rw [if_neg h0]
    generalize p / 2 ^ hv k p q = P at *
    generalize q / 2 ^ hv k p q = Q at *
    by_cases hP : inP P = true
    · have n1 : nrw P = true := by rw [inP_iff] at hP; unfold nrw; simp; omega
      by_cases hQ : inP Q = true
      · have n2 : nrw Q = true := by rw [inP_iff] at hQ; unfold nrw; simp; omega
        by_cases h60 : k - hv k p q ≤ 60
        · simp [n1, n2, hP, hQ, h60]
        · simp [n1, n2, hP, hQ, h60]
      · rw [if_neg (by rintro ⟨a, b, c, d, e⟩; rw [if_pos b] at d; exact hQ d), if_neg (by rintro ⟨a, b, c⟩; exact hQ b)]
    · rw [if_neg (by rintro ⟨a, b, c, d, e⟩; rw [if_pos a] at c; exact hP c), if_neg (by rintro ⟨a, b, c⟩; exact hP a)]

theorem both_yes (a b c d e f : Int) (w : World) (h1 : isRoot a b c) (h2 : isRoot d e f) :
    Calls Tryd.prog 28 #[rv a b c, rv d e f] w fun e w' => e = .returned (.int .i64 0) ∧ Below w.heap.size w w' := by
  have C1 := fun w => check_yes a b c w h1
  have C2 := fun w => check_yes d e f w h2
  clear h1 h2
  go_enter Tryd.func28, Tryd.ntmps28
  go_wp2_with (first
    | (go_at_call 44; (with_reducible refine (C1 _).mono ?_); rintro e w1 ⟨rfl, hB⟩; obtain ⟨hc, hf⟩ := bcell hB)
    | (go_at_call 44; (with_reducible refine (C2 _).mono ?_); rintro e w1 ⟨rfl, hN⟩; replace hB := btr hB hN))
  go_ret
  exact ⟨rfl, btr (bal (bal (Below.refl w.heap.size w) _) _) hB⟩
theorem both_no (a b c d e f : Int) (w : World) (h : ¬ (isRoot a b c ∧ isRoot d e f)) :
    Calls Tryd.prog 28 #[rv a b c, rv d e f] w fun e w' => e = .returned (.int .i64 2) ∧ Below w.heap.size w w' := by
  by_cases h1 : isRoot a b c
  · have C1 := fun w => check_yes a b c w h1
    have C2 := fun w => check_no d e f w (fun h2 => h ⟨h1, h2⟩)
    clear h1 h
    go_enter Tryd.func28, Tryd.ntmps28
    go_wp2_with (first
      | (go_at_call 44; (with_reducible refine (C1 _).mono ?_); rintro e w1 ⟨rfl, hB⟩; obtain ⟨hc, hf⟩ := bcell hB)
      | (go_at_call 44; (with_reducible refine (C2 _).mono ?_); rintro e w1 ⟨rfl, hN⟩; replace hB := btr hB hN))
    go_ret
    exact ⟨rfl, btr (bal (bal (Below.refl w.heap.size w) _) _) hB⟩
  · have C1 := fun w => check_no a b c w h1
    clear h1 h
    go_enter Tryd.func28, Tryd.ntmps28
    go_wp2_with (first
      | (go_at_call 44; (with_reducible refine (C1 _).mono ?_); rintro e w1 ⟨rfl, hB⟩; obtain ⟨hc, hf⟩ := bcell hB))
    go_ret
    exact ⟨rfl, btr (bal (bal (Below.refl w.heap.size w) _) _) hB⟩
end Go.Proofs.YtcfmhkhfmcmkbaaDoor
namespace Go.Proofs.YtcfmhkhfmcmkbaaDoor
open Go.RowKit Go.Sort

/-- The four words of a number below 2^256. -/
def q0 (v : Int) : Int := v % 18446744073709551616
def q1 (v : Int) : Int := v / 18446744073709551616 % 18446744073709551616
def q2 (v : Int) : Int := v / 340282366920938463463374607431768211456 % 18446744073709551616
def q3 (v : Int) : Int := v / 6277101735386680763835789423207666416102355444464034512896 % 18446744073709551616
abbrev qd (v : Int) : Value := .agg #[.int .u64 (q3 v), .int .u64 (q2 v), .int .u64 (q1 v), .int .u64 (q0 v)]

theorem sq_math (X Y Z : Int) (hX : 0 ≤ X) (hX1 : X < 85070591730234615865843651857942052864) (hY : 0 ≤ Y) (hY1 : Y < 340282366920938463463374607431768211456) (hZ : 0 ≤ Z) (hZ1 : Z < 340282366920938463463374607431768211456) :
    let T := X * 340282366920938463463374607431768211456 + Y * 18446744073709551616 + Z
    loW Z = q0 T ∧ (hiW Z + loW Y) % 18446744073709551616 = q1 T ∧ (loW X + hiW Y + (hiW Z + loW Y) / 18446744073709551616) % 18446744073709551616 = q2 T ∧
    IntKind.u64.wrap (hiW X + (loW X + hiW Y + (hiW Z + loW Y) / 18446744073709551616) / 18446744073709551616) = q3 T := by
  intro T
  rw [IntKind.wrap_u64]
  unfold hiW loW q0 q1 q2 q3 T
  refine ⟨by omega, by omega, by omega, by omega⟩
theorem sq_is (a : Int) (ha : 0 ≤ a) (ha1 : a < 170141183460469231731687303715884105728) :
    hiW a * hiW a * 340282366920938463463374607431768211456 + (2 * hiW a) * loW a * 18446744073709551616 + loW a * loW a = a * a ∧
    (0 ≤ hiW a * hiW a ∧ hiW a * hiW a < 85070591730234615865843651857942052864) ∧ (0 ≤ 2 * hiW a * loW a ∧ 2 * hiW a * loW a < 340282366920938463463374607431768211456) ∧ (0 ≤ loW a * loW a ∧ loW a * loW a < 340282366920938463463374607431768211456) := by
  have e : a = hiW a * 18446744073709551616 + loW a := by unfold hiW loW; omega
  have h1 : 0 ≤ hiW a ∧ hiW a < 9223372036854775808 := by unfold hiW; omega
  have h2 := loW_b a
  generalize hiW a = h at *
  generalize loW a = l at *
  subst e
  refine ⟨?_, ⟨Int.mul_nonneg h1.1 h1.1, ?_⟩, ⟨Int.mul_nonneg (by omega) h2.1, ?_⟩, ⟨Int.mul_nonneg h2.1 h2.1, ?_⟩⟩
  · have e1 : h * 18446744073709551616 * (h * 18446744073709551616) = h * h * 340282366920938463463374607431768211456 := by rw [Int.mul_assoc, Int.mul_left_comm 18446744073709551616 h 18446744073709551616, ← Int.mul_assoc]; rfl
    have e2 : h * 18446744073709551616 * l = h * l * 18446744073709551616 := Int.mul_right_comm _ _ _
    have e3 : l * (h * 18446744073709551616) = h * l * 18446744073709551616 := by rw [← Int.mul_assoc, Int.mul_comm l h]
    have e4 : 2 * h * l = 2 * (h * l) := Int.mul_assoc _ _ _
    rw [Int.add_mul, Int.mul_add, Int.mul_add, e1, e2, e3, e4]
    generalize h * h = X at *
    generalize h * l = Y at *
    generalize l * l = Z at *
    omega
  · have := Int.mul_le_mul (show h ≤ 9223372036854775807 by omega) (show h ≤ 9223372036854775807 by omega) h1.1 (by omega); omega
  · have := Int.mul_le_mul (show 2 * h ≤ 18446744073709551614 by omega) (show l ≤ 18446744073709551615 by omega) h2.1 (by omega); omega
  · have := Int.mul_le_mul (show l ≤ 18446744073709551615 by omega) (show l ≤ 18446744073709551615 by omega) h2.1 (by omega); omega

set_option maxHeartbeats 1000000 in
theorem square_any (a : Int) (w : World) (ha : 0 ≤ a) (ha1 : a < 170141183460469231731687303715884105728) :
    Calls Tryd.prog 94 #[wd a] w fun e w' => e = .returned (qd (a * a)) ∧ Below w.heap.size w w' := by
  obtain ⟨hs, hX, hY, hZ⟩ := sq_is a ha ha1
  have M := sq_math (hiW a * hiW a) (2 * hiW a * loW a) (loW a * loW a) hX.1 hX.2 hY.1 hY.2 hZ.1 hZ.2
  simp only [hs] at M
  obtain ⟨n0, n1, n2, n3⟩ := M
  have h1 : 0 ≤ hiW a ∧ hiW a < 9223372036854775808 := by unfold hiW; omega
  have h2 := loW_b a
  have e2 : IntKind.u64.wrap (2 * hiW a) = 2 * hiW a := by rw [IntKind.wrap_u64]; omega
  have T1 := fun w => mul64_any (hiW a) (hiW a) w h1.1 (by omega) h1.1 (by omega)
  have T2 := fun w => mul64_any (2 * hiW a) (loW a) w (by omega) (by omega) h2.1 h2.2
  have T3 := fun w => mul64_any (loW a) (loW a) w h2.1 h2.2 h2.1 h2.2
  generalize a * a = V at *
  generalize hiW a * hiW a = X at *
  generalize 2 * hiW a * loW a = Y at *
  generalize loW a * loW a = Z at *
  generalize hH : 2 * hiW a = H at *
  have x1 := hiW_b X; have x2 := loW_b X; have y1 := hiW_b Y; have y2 := loW_b Y; have z1 := hiW_b Z
  have A0 := fun w => add64_0 (hiW Z) (loW Y) z1.1 y2.1 w
  have A1 := fun w => add64_law (loW X) (hiW Y) ((hiW Z + loW Y) / 18446744073709551616) x2.1 y1.1 (by omega) (by omega) w
  clear hX hY hZ hs h1 h2 ha ha1 x1 x2 y1 y2 z1
  generalize (hiW Z + loW Y) / 18446744073709551616 = k1 at *
  generalize (loW X + hiW Y + k1) / 18446744073709551616 = k2 at *
  go_enter Tryd.func94, Tryd.ntmps94
  go_wp2_with (first
    | (go_at_call 106; (with_reducible refine (T1 _).mono ?_); rintro e w1 ⟨rfl, rfl⟩)
    | (go_at_call 106; (with_reducible refine (T2 _).mono ?_); rintro e w1 ⟨rfl, rfl⟩)
    | (go_at_call 106; (with_reducible refine (T3 _).mono ?_); rintro e w1 ⟨rfl, rfl⟩))
  exact bodyPost_ret (v := qd V) (by simp [*, results, Tryd.results94, go_sem]) rfl ⟨rfl, bal (bal (Below.refl w.heap.size w) _) _⟩

/-- How two numbers compare. -/
def cmpI (x y : Int) : Int := if x < y then -1 else if y < x then 1 else 0
theorem isNaN_any (x : Int) (w : World) : Calls Tryd.prog 113 #[.int .u64 x] w fun e w' => e = .returned (.bool false) ∧ w' = w := by
  go_enter Tryd.func113, Tryd.ntmps113
  go_wp2
  go_ret
  exact ⟨rfl, rfl⟩
theorem cmp_any (x y : Int) (w : World) : Calls Tryd.prog 108 #[.int .u64 x, .int .u64 y] w fun e w' => e = .returned (.int .i64 (cmpI x y)) ∧ w' = w := by
  unfold cmpI
  by_cases h1 : x < y
  · rw [if_pos h1]
    go_enter Tryd.func108, Tryd.ntmps108
    go_wp2_with (go_at_call 113; refine (isNaN_any _ _).mono ?_; rintro e w1 ⟨rfl, rfl⟩)
    go_ret
    exact ⟨rfl, rfl⟩
  · rw [if_neg h1]
    by_cases h2 : y < x
    · rw [if_pos h2]
      go_enter Tryd.func108, Tryd.ntmps108
      go_wp2_with (go_at_call 113; refine (isNaN_any _ _).mono ?_; rintro e w1 ⟨rfl, rfl⟩)
      go_ret
      exact ⟨rfl, rfl⟩
    · rw [if_neg h2]
      go_enter Tryd.func108, Tryd.ntmps108
      go_wp2_with (go_at_call 113; refine (isNaN_any _ _).mono ?_; rintro e w1 ⟨rfl, rfl⟩)
      go_ret
      exact ⟨rfl, rfl⟩

theorem m_tw (v : Int) (hv : 0 ≤ v) (hv1 : v < 57896044618658097711785492504343953926634992332820282019728792003956564819968) :
    bits .or .u64 (IntKind.u64.wrap (q3 v * 2)) (q2 v / 9223372036854775808) = q3 (v * 2) ∧ bits .or .u64 (IntKind.u64.wrap (q2 v * 2)) (q1 v / 9223372036854775808) = q2 (v * 2) ∧
    bits .or .u64 (IntKind.u64.wrap (q1 v * 2)) (q0 v / 9223372036854775808) = q1 (v * 2) ∧ IntKind.u64.wrap (q0 v * 2) = q0 (v * 2) := by
  have key : ∀ x y : Int, 0 ≤ x → x < 18446744073709551616 → 0 ≤ y → y < 18446744073709551616 → bits .or .u64 (IntKind.u64.wrap (x * 2)) (y / 9223372036854775808) = x * 2 % 18446744073709551616 + y / 9223372036854775808 := fun x y x0 x1 y0 y1 => by
    rw [IntKind.wrap_u64]
    exact or_join' _ _ 2 1 rfl (x % 9223372036854775808) (by omega) (by omega) (by omega) (by omega) (by omega) (by omega)
  have b0 : 0 ≤ q0 v ∧ q0 v < 18446744073709551616 := by unfold q0; omega
  have b1 : 0 ≤ q1 v ∧ q1 v < 18446744073709551616 := by unfold q1; omega
  have b2 : 0 ≤ q2 v ∧ q2 v < 18446744073709551616 := by unfold q2; omega
  have b3 : 0 ≤ q3 v ∧ q3 v < 18446744073709551616 := by unfold q3; omega
  rw [key _ _ b3.1 b3.2 b2.1 b2.2, key _ _ b2.1 b2.2 b1.1 b1.2, key _ _ b1.1 b1.2 b0.1 b0.2, IntKind.wrap_u64]
  unfold q0 q1 q2 q3
  refine ⟨by omega, by omega, by omega, by omega⟩
set_option maxHeartbeats 1000000 in
theorem twice_any (v : Int) (w : World) (hv : 0 ≤ v) (hv1 : v < 57896044618658097711785492504343953926634992332820282019728792003956564819968) :
    Calls Tryd.prog 96 #[qd v] w fun e w' => e = .returned (qd (v * 2)) ∧ Below w.heap.size w w' := by
  obtain ⟨n3, n2, n1, n0⟩ := m_tw v hv hv1
  clear hv hv1
  generalize v * 2 = u at *
  go_enter Tryd.func96, Tryd.ntmps96
  go_wp2
  refine wp_loop_rounds 4 ?_
  rw [rounds_succ]
  go_wp2
  go_region
  go_wp2
  rw [rounds_succ]
  go_wp2
  go_region
  go_wp2
  rw [rounds_succ]
  go_wp2
  go_region
  go_wp2
  rw [rounds_succ]
  go_wp2
  exact bodyPost_ret (v := qd u) (by simp [*, results, Tryd.results96, go_sem]) rfl ⟨rfl, by repeat (first | exact Below.refl w.heap.size w | refine below_drew ?_ | refine bal ?_ _)⟩
end Go.Proofs.YtcfmhkhfmcmkbaaDoor
namespace Go.Proofs.YtcfmhkhfmcmkbaaDoor
open Go.ChangeShapes Go.WideShapes Go.ChangeAt Go.RowKit Go.Joins

theorem Tryd.own : ownKnob Tryd.prog.godebug = none := by kernel_rfl
theorem Tryd.laidOut : laidOutB Tryd.prog = true := by kernel_rfl
def tabLaid : List (String × DataW Unit) := [("math/bits.deBruijn64tab", Rows.laid_math_bits_deBruijn64tab)]
theorem door_met (os : Os) (args : Array Value) : laidMetH Tryd.prog tabLaid ((World.doorLaid Tryd.prog 72 os).forCall (fun _ _ => 0) ⟨#[], args, []⟩).memory :=
  laidMetH_of_parts3 (fuel := 8) (laidMet_of_run' 8 (by kernel_rfl) (by kernel_rfl)) (by kernel_rfl) (by kernel_rfl)
theorem tab_of_laid {W : World} (h : laidMetH Tryd.prog tabLaid W) : Tab W := by
  have h' : laidMet Tryd.prog [("math/bits.deBruijn64tab", Lib.tabData .u8 (Lib.deBruijn64tab.map fun n : Nat => (n : Int)))] W := h
  have ht : Lib.TabIs Tryd.prog W "math/bits.deBruijn64tab" .u8 (Lib.deBruijn64tab.map fun n : Nat => (n : Int)) :=
    Lib.tabIs_of_head (g := 1) (t := 140) (e := 5) (by kernel_rfl) (by kernel_rfl) Tryd.underlying140 Tryd.underlying5 (by kernel_rfl) (by kernel_rfl) h'
  refine ⟨fun j hj => ?_⟩
  have hc := ht.cell (g := 1) (by kernel_rfl) j (by rw [List.length_map]; exact hj)
  rw [hc]
  simp only [List.getD, List.getElem?_map]
  cases Lib.deBruijn64tab[j]? <;> rfl

theorem Tryd.cells24 : Tryd.prog.cellsOf 24 = 3 := by kernel_rfl
set_option maxRecDepth 100000 in
theorem open_root {H : Type} {enc : TypeId × Value → H} {W : World} {base b0 : Nat} {sp : Nat → Bool} {held : Bool} {r : Reach} {v : Value} {d : DataW H} {p : List MemPlace}
    (hv : Value.okWide Tryd.prog W r b0 24 v) (h : DataW.Trod enc Tryd.prog W base sp held 24 v d p) :
    ∃ a b c : Int, v = rv a b c ∧ d = .agg [.lit (.int .i64 a), .lit (.int .i64 b), .lit (.int .i64 c)] ∧ p = [] ∧ (Lit.int .i64 a).wf = true ∧ (Lit.int .i64 b).wf = true ∧ (Lit.int .i64 c).wf = true := by
  obtain ⟨c0, c1, c2, y0, y1, y2, m, rfl, rfl, rfl, h0, h1, h2⟩ := open_agg3 Tryd.underlying24 (by kernel_rfl) Tryd.cells24 hv h
  obtain ⟨a, e0, rfl, wa⟩ := DataW.trod_int Tryd.underlying2 h0
  obtain ⟨b, e1, rfl, wb⟩ := DataW.trod_int Tryd.underlying2 h1
  obtain ⟨c, e2, rfl, wc⟩ := DataW.trod_int Tryd.underlying3 h2
  simp at e0 e1 e2
  subst e0 e1 e2
  exact ⟨a, b, c, rfl, rfl, rfl, wa, wb, wc⟩
set_option maxRecDepth 100000 in
theorem shut_root {H : Type} {enc : TypeId × Value → H} {W : World} {base : Nat} {sp : Nat → Bool} {held : Bool} {a b c : Int} (wa : (Lit.int .i64 a).wf = true) (wb : (Lit.int .i64 b).wf = true) (wc : (Lit.int .i64 c).wf = true) :
    DataW.Trod enc Tryd.prog W base sp held 24 (rv a b c) (.agg [.lit (.int .i64 a), .lit (.int .i64 b), .lit (.int .i64 c)]) [] :=
  shut_agg3 (y0 := (.lit (.int .i64 a), [])) (y1 := (.lit (.int .i64 b), [])) (y2 := (.lit (.int .i64 c), [])) Tryd.underlying24 (by kernel_rfl) Tryd.cells24
    ⟨1, by simp [DataW.trod, Tryd.underlying2, wa]⟩ ⟨1, by simp [DataW.trod, Tryd.underlying2, wb]⟩ ⟨1, by simp [DataW.trod, Tryd.underlying3, wc]⟩
end Go.Proofs.YtcfmhkhfmcmkbaaDoor
