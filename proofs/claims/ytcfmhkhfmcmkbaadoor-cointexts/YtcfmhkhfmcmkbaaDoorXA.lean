/-
  Put together of: W0 W1 Shelf W2 S0 W3 W4.
-/
import Derived.WalkKit
import Derived.Laws.Bits64b
import Derived.Test.YtcfmhkhfmcmkbaaDoorRows
import Derived.BigQuiet
import Derived.Deep.QuietTactic
import Derived.Deep.RegionHeld3
import Derived.Lib.QuietBelow
import Derived.Laws.Externs
import Derived.Shelf.LaysM
import Derived.Shelf.Strconv.Itoa3
import Derived.Shelf.Strconv.Itoa4
import Derived.Shelf.Bits.Mul64
import Derived.Test.YtcfmhkhfmcmkbaaDoorProg
import Derived.Lib.TrailingZeros
import Derived.Lib.LaidTab
import Derived.Lib.SmallJoins
namespace Go.Proofs.YtcfmhkhfmcmkbaaDoor
open Go.RowKit

/-- The high word and the low word of a whole number, in two's complement. -/
def hiW (v : Int) : Int := v / 18446744073709551616 % 18446744073709551616
def loW (v : Int) : Int := v % 18446744073709551616
theorem hiW_b (v : Int) : 0 ≤ hiW v ∧ hiW v < 18446744073709551616 := by unfold hiW; omega
theorem loW_b (v : Int) : 0 ≤ loW v ∧ loW v < 18446744073709551616 := by unfold loW; omega
/-- Within 128 bits. -/
def In128 (v : Int) : Prop := -170141183460469231731687303715884105728 ≤ v ∧ v < 170141183460469231731687303715884105728
theorem w_eq {a b : Int} (h1 : hiW a = hiW b) (h2 : loW a = loW b) (ha : In128 a) (hb : In128 b) : a = b := by
  unfold In128 hiW loW at *; omega

theorem m_of (n : Int) (h0 : -9223372036854775808 ≤ n) (h1 : n ≤ 9223372036854775807) :
    IntKind.u64.wrap (n / 9223372036854775808) = hiW n ∧ IntKind.u64.wrap n = loW n := by
  unfold hiW loW; rw [IntKind.wrap_u64, IntKind.wrap_u64]; omega
theorem m_plus (a b : Int) : (loW a + loW b) % 18446744073709551616 = loW (a + b) ∧ (hiW a + hiW b + (loW a + loW b) / 18446744073709551616) % 18446744073709551616 = hiW (a + b) := by
  unfold hiW loW; omega
def bor (x y : Int) : Int := if x < y then 1 else 0
theorem m_neg (a : Int) : (18446744073709551616 - loW a) % 18446744073709551616 = loW (-a) ∧ (18446744073709551616 - hiW a - bor 0 (loW a)) % 18446744073709551616 = hiW (-a) := by
  unfold hiW loW bor; split <;> omega

theorem or_join (x y n : Nat) (hy : y < 2 ^ n) : 2 ^ n * x ||| y = 2 ^ n * x + y := (Nat.two_pow_add_eq_or_of_lt hy x).symm
theorem or_join' (h y t : Int) (n : Nat) (ht : t = 2 ^ n) (x : Int) (hx : h = t * x) (hx0 : 0 ≤ x) (hh : h < 18446744073709551616) (hy0 : 0 ≤ y) (hy : y < t) (hy' : y < 18446744073709551616) :
    bits .or .u64 h y = h + y := by
  obtain ⟨X, rfl⟩ := Int.eq_ofNat_of_zero_le hx0
  obtain ⟨Y, rfl⟩ := Int.eq_ofNat_of_zero_le hy0
  have e : h = ((2 ^ n * X : Nat) : Int) := by rw [hx, ht]; simp
  subst ht
  have hY : Y < 2 ^ n := by exact_mod_cast hy
  rw [e]
  rw [e] at hh
  rw [bits_or_u64_nat _ _ (by omega) (by omega), or_join X Y n hY]
  simp

theorem pow_split (n : Nat) (hn : n ≤ 64) : (2 : Int) ^ n * 2 ^ (64 - n) = 18446744073709551616 := by
  rw [← Int.pow_add, show n + (64 - n) = 64 by omega]; rfl
theorem pow_pos' (n : Nat) : (0 : Int) < 2 ^ n := Int.pow_pos (by omega)

/-- The high word of a number t-fold; t s = 2^64. -/
theorem m_up (a : Int) (n : Nat) (hn : n ≤ 64) :
    bits .or .u64 (IntKind.u64.wrap (hiW a * 2 ^ n)) (loW a / 2 ^ (64 - n)) = hiW (a * 2 ^ n) ∧ IntKind.u64.wrap (loW a * 2 ^ n) = loW (a * 2 ^ n) := by
  have hp := pow_split n hn
  have ht := pow_pos' n
  have hs := pow_pos' (64 - n)
  rw [IntKind.wrap_u64, IntKind.wrap_u64]
  have hl := loW_b a
  have hh := hiW_b a
  generalize hT : (2 : Int) ^ n = t at *
  generalize (2 : Int) ^ (64 - n) = s at *
  have e1 : loW a / s < t := by
    apply Int.ediv_lt_of_lt_mul hs
    rw [hp]; exact hl.2
  have e0 : 0 ≤ loW a / s := Int.ediv_nonneg hl.1 (by omega)
  have d1 : hiW a * t % 18446744073709551616 = t * (hiW a % s) := by
    rw [← hp, Int.mul_comm (hiW a) t, Int.mul_emod_mul_of_pos _ _ ht]
  constructor
  · have b1 : t * (hiW a % s) < 18446744073709551616 := by rw [← d1]; exact Int.emod_lt_of_pos _ (by omega)
    have m1 := Int.emod_nonneg (hiW a) (Int.ne_of_gt hs)
    have mle : t ≤ 18446744073709551616 := by
      have := Int.mul_le_mul_of_nonneg_left (show 1 ≤ s by omega) (Int.le_of_lt ht)
      rwa [Int.mul_one, hp] at this
    rw [d1, or_join' _ _ t n hT.symm (hiW a % s) rfl m1 b1 e0 e1 (by omega)]
    -- the high word of the product
    have a1 : a = 18446744073709551616 * (a / 18446744073709551616) + loW a := by unfold loW; omega
    have q1 : a * t / 18446744073709551616 = a / 18446744073709551616 * t + loW a / s := by
      have : a * t = loW a * t + 18446744073709551616 * (a / 18446744073709551616 * t) := by
        conv => lhs; rw [a1]
        rw [Int.add_mul, Int.mul_assoc]; omega
      rw [this, Int.add_mul_ediv_left _ _ (by omega)]
      have : loW a * t / 18446744073709551616 = loW a / s := by
        rw [← hp, Int.mul_comm (loW a) t, Int.mul_ediv_mul_of_pos _ _ ht]
      omega
    have hw : hiW (a * t) = (a / 18446744073709551616 * t + loW a / s) % 18446744073709551616 := by unfold hiW; rw [q1]
    rw [hw]
    have q2 : a / 18446744073709551616 * t % 18446744073709551616 = t * (hiW a % s) := by
      rw [← d1]; unfold hiW
      rw [Int.mul_emod (a / 18446744073709551616 % 18446744073709551616) t, Int.emod_emod_of_dvd _ (Int.dvd_refl _), ← Int.mul_emod]
    rw [Int.add_emod, q2]
    have b2 : t * (hiW a % s) + loW a / s < 18446744073709551616 := by
      have : hiW a % s ≤ s - 1 := by have := Int.emod_lt_of_pos (hiW a) hs; omega
      have := Int.mul_le_mul_of_nonneg_left this (Int.le_of_lt ht)
      rw [Int.mul_sub, hp] at this
      omega
    have b0 : 0 ≤ t * (hiW a % s) := Int.mul_nonneg (by omega) m1
    rw [Int.emod_eq_of_lt e0 (by omega), Int.emod_eq_of_lt (by omega) b2]
  · unfold loW
    rw [Int.mul_emod (a % 18446744073709551616) t, Int.emod_emod_of_dvd _ (Int.dvd_refl _), ← Int.mul_emod]

/-- The words of a number over t. -/
theorem m_down (a : Int) (n : Nat) (hn : n ≤ 64) (ha : In128 a) :
    IntKind.u64.wrap (wrap64 (hiW a) / 2 ^ n) = hiW (a / 2 ^ n) ∧ bits .or .u64 (IntKind.u64.wrap (hiW a * 2 ^ (64 - n))) (loW a / 2 ^ n) = loW (a / 2 ^ n) := by
  have hp := pow_split n hn
  have ht := pow_pos' n
  have hs := pow_pos' (64 - n)
  have hl := loW_b a
  have hh := hiW_b a
  have hwr : wrap64 (hiW a) = a / 18446744073709551616 := by
    unfold In128 at ha; unfold hiW wrap64; omega
  rw [IntKind.wrap_u64, IntKind.wrap_u64, hwr]
  generalize (2 : Int) ^ n = t at *
  generalize hS : (2 : Int) ^ (64 - n) = s at *
  constructor
  · unfold hiW
    rw [Int.ediv_ediv_of_nonneg (by omega), Int.ediv_ediv_of_nonneg (by omega), Int.mul_comm]
  · have hp' : s * t = 18446744073709551616 := by rw [Int.mul_comm]; exact hp
    have e1 : loW a / t < s := by
      apply Int.ediv_lt_of_lt_mul ht
      rw [hp']; exact hl.2
    have e0 : 0 ≤ loW a / t := Int.ediv_nonneg hl.1 (by omega)
    have d1 : hiW a * s % 18446744073709551616 = s * (hiW a % t) := by
      rw [← hp', Int.mul_comm (hiW a) s, Int.mul_emod_mul_of_pos _ _ hs]
    have b1 : s * (hiW a % t) < 18446744073709551616 := by rw [← d1]; exact Int.emod_lt_of_pos _ (by omega)
    have m1 := Int.emod_nonneg (hiW a) (Int.ne_of_gt ht)
    have mle : s ≤ 18446744073709551616 := by
      have := Int.mul_le_mul_of_nonneg_left (show 1 ≤ t by omega) (Int.le_of_lt hs)
      rwa [Int.mul_one, hp'] at this
    rw [d1, or_join' _ _ s (64 - n) hS.symm (hiW a % t) rfl m1 b1 e0 e1 (by omega)]
    have a1 : a = 18446744073709551616 * (a / 18446744073709551616) + loW a := by unfold loW; omega
    have q1 : a / t = a / 18446744073709551616 * s + loW a / t := by
      have : a = loW a + t * (a / 18446744073709551616 * s) := by
        conv => lhs; rw [a1]
        rw [Int.mul_comm (a / 18446744073709551616) s, ← Int.mul_assoc, hp]; omega
      conv => lhs; rw [this]
      rw [Int.add_mul_ediv_left _ _ (by omega)]
      omega
    have hw : loW (a / t) = (a / 18446744073709551616 * s + loW a / t) % 18446744073709551616 := by unfold loW; rw [q1]; rfl
    rw [hw]
    have q2 : a / 18446744073709551616 * s % 18446744073709551616 = s * (hiW a % t) := by
      rw [← d1]; unfold hiW
      rw [Int.mul_emod (a / 18446744073709551616 % 18446744073709551616) s, Int.emod_emod_of_dvd _ (Int.dvd_refl _), ← Int.mul_emod]
    rw [Int.add_emod, q2]
    have b2 : s * (hiW a % t) + loW a / t < 18446744073709551616 := by
      have : hiW a % t ≤ t - 1 := by have := Int.emod_lt_of_pos (hiW a) ht; omega
      have := Int.mul_le_mul_of_nonneg_left this (Int.le_of_lt hs)
      rw [Int.mul_sub, hp'] at this
      omega
    have b0 : 0 ≤ s * (hiW a % t) := Int.mul_nonneg (by omega) m1
    rw [Int.emod_eq_of_lt e0 (by omega), Int.emod_eq_of_lt (by omega) b2]
end Go.Proofs.YtcfmhkhfmcmkbaaDoor
namespace Go.Proofs.YtcfmhkhfmcmkbaaDoor
open Go.RowKit Go.Sort

theorem ret_int {k : IntKind} {a b : Int} (h : a = b) : Ending.returned (.int k a) = .returned (.int k b) := by rw [h]
theorem bcell {W w1 : World} (hb : Below W.heap.size W w1) : (∀ b o, b < W.heap.size → w1.cell? ⟨b, o, none⟩ = W.cell? ⟨b, o, none⟩) ∧ (∀ b o, b < W.heap.size → w1.frozen? ⟨b, o, none⟩ = W.frozen? ⟨b, o, none⟩) :=
  ⟨fun b o h => hb.cell (p := ⟨b, o, none⟩) h, fun b o h => hb.frozen (p := ⟨b, o, none⟩) h⟩
theorem below_drewN {B : Nat} {a w : World} (h : Below B a w) (n : Nat) : Below B a (w.drewN n) := ⟨h.os, h.tape, h.output, h.size, h.block⟩
theorem below_drew {B : Nat} {a w : World} (h : Below B a w) : Below B a w.drew := ⟨h.os, h.tape, h.output, h.size, h.block⟩

theorem bal {a w : World} (h : Below a.heap.size a w) (o : Obj) : Below a.heap.size a (w.alloc o) := h.alloc h.size o
theorem btr {a w w1 : World} (h : Below a.heap.size a w) (g : Below w.heap.size w w1) : Below a.heap.size a w1 := h.trans (g.mono h.size)

/-- A wide number as a value. -/
abbrev wd (v : Int) : Value := .agg #[.int .u64 (hiW v), .int .u64 (loW v)]
theorem wd_eq {a b c d : Int} (h : a = c) (g : b = d) : Ending.returned (.agg #[.int .u64 a, .int .u64 b]) = .returned (.agg #[.int .u64 c, .int .u64 d]) := by rw [h, g]

theorem add64_law (x y c : Int) (hx : 0 ≤ x) (hy : 0 ≤ y) (hc0 : 0 ≤ c) (hc : c ≤ 1) (w : World) :
    (callFunc 71 #[.int .u64 x, .int .u64 y, .int .u64 c]).run Tryd.prog w =
      .ok (.value (.tuple #[.int .u64 ((x + y + c) % 18446744073709551616), .int .u64 ((x + y + c) / 18446744073709551616)])) w := by
  rw [run_callFunc_extern Tryd.func71 (by kernel_rfl) (by kernel_rfl) (by kernel_rfl) (e := add64Entry) (by kernel_rfl), run_add64 x y c hx hy hc0 hc]
  rfl
theorem add64_0 (x y : Int) (hx : 0 ≤ x) (hy : 0 ≤ y) (w : World) :
    (callFunc 71 #[.int .u64 x, .int .u64 y, .int .u64 0]).run Tryd.prog w =
      .ok (.value (.tuple #[.int .u64 ((x + y) % 18446744073709551616), .int .u64 ((x + y) / 18446744073709551616)])) w := by
  have := add64_law x y 0 hx hy (by omega) (by omega) w
  rwa [Int.add_zero] at this

def sub64E : Array Value → Sem Value := fun args => do
  let (x, y, b) ← Extern.MathBitsCarry.three "Sub64" args
  pure (Extern.MathBitsCarry.pair ((x + Extern.MathBitsCarry.m64 - y - b) % Extern.MathBitsCarry.m64) (if x < y + b then 1 else 0))
theorem run_sub64E {P : Program} (x y b : Nat) (hb : b ≤ 1) (w : World) :
    (sub64E #[.int .u64 x, .int .u64 y, .int .u64 b]).run P w =
      .ok (.tuple #[.int .u64 (((x + 18446744073709551616 - y - b) % 18446744073709551616 : Nat) : Int), .int .u64 ((if x < y + b then 1 else 0 : Nat) : Int)]) w := by
  have : b = 0 ∨ b = 1 := by omega
  rcases this with rfl | rfl <;> rfl
theorem sub64_law (y b : Int) (hy : 0 ≤ y) (hy1 : y < 18446744073709551616) (hb0 : 0 ≤ b) (hb : b ≤ 1) (w : World) :
    (callFunc 112 #[.int .u64 0, .int .u64 y, .int .u64 b]).run Tryd.prog w =
      .ok (.value (.tuple #[.int .u64 ((18446744073709551616 - y - b) % 18446744073709551616), .int .u64 (bor 0 (y + b))])) w := by
  obtain ⟨Y, rfl⟩ := Int.eq_ofNat_of_zero_le hy
  obtain ⟨B, rfl⟩ := Int.eq_ofNat_of_zero_le hb0
  have := run_sub64E (P := Tryd.prog) 0 Y B (by omega) w
  rw [run_callFunc_extern Tryd.func112 (by kernel_rfl) (by kernel_rfl) (by kernel_rfl) (e := sub64E) (by kernel_rfl)]
  have e0 : (0 : Int) = ((0 : Nat) : Int) := rfl
  have e1 : (((0 + 18446744073709551616 - Y - B) % 18446744073709551616 : Nat) : Int) = (18446744073709551616 - (Y : Int) - (B : Int)) % 18446744073709551616 := by omega
  have e2 : ((if 0 < Y + B then 1 else 0 : Nat) : Int) = bor ((0 : Nat) : Int) ((Y : Int) + (B : Int)) := by unfold bor; split <;> split <;> omega
  rw [e0, this, e1, e2]
  rfl
theorem sub64_0 (y : Int) (hy : 0 ≤ y) (hy1 : y < 18446744073709551616) (w : World) :
    (callFunc 112 #[.int .u64 0, .int .u64 y, .int .u64 0]).run Tryd.prog w =
      .ok (.value (.tuple #[.int .u64 ((18446744073709551616 - y) % 18446744073709551616), .int .u64 (bor 0 y)])) w := by
  have := sub64_law y 0 hy hy1 (by omega) (by omega) w
  rwa [Int.add_zero, Int.sub_zero] at this
theorem bor_b (x y : Int) : 0 ≤ bor x y ∧ bor x y ≤ 1 := by unfold bor; split <;> omega

theorem wideOf_any (n : Int) (w : World) (h0 : -9223372036854775808 ≤ n) (h1 : n ≤ 9223372036854775807) :
    Calls Tryd.prog 50 #[.int .i64 n] w fun e w' => e = .returned (wd n) ∧ Below w.heap.size w w' := by
  obtain ⟨m1, m2⟩ := m_of n h0 h1
  go_enter Tryd.func50, Tryd.ntmps50
  go_wp2
  exact bodyPost_ret (v := wd n) (by simp [results, Tryd.results50, go_sem]) rfl ⟨rfl, (Below.refl _ _).alloc (Nat.le_refl _) _⟩

set_option maxHeartbeats 400000 in
theorem plus_any (a b : Int) (w : World) :
    Calls Tryd.prog 52 #[wd a, wd b] w fun e w' => e = .returned (wd (a + b)) ∧ Below w.heap.size w w' := by
  obtain ⟨m1, m2⟩ := m_plus a b
  have l1 := loW_b a; have l2 := loW_b b; have l3 := hiW_b a; have l4 := hiW_b b
  have A0 := fun w => add64_0 (loW a) (loW b) l1.1 l2.1 w
  have A1 := fun w => add64_law (hiW a) (hiW b) ((loW a + loW b) / 18446744073709551616) l3.1 l4.1 (by omega) (by omega) w
  go_enter Tryd.func52, Tryd.ntmps52
  go_wp2
  exact bodyPost_ret (v := wd (a + b)) (by simp [results, Tryd.results52, go_sem]) rfl ⟨rfl, bal (bal (bal (Below.refl _ _) _) _) _⟩

set_option maxHeartbeats 400000 in
theorem negative_any (a : Int) (w : World) :
    Calls Tryd.prog 107 #[wd a] w fun e w' => e = .returned (wd (-a)) ∧ Below w.heap.size w w' := by
  obtain ⟨m1, m2⟩ := m_neg a
  have l1 := loW_b a; have l3 := hiW_b a; have bb := bor_b 0 (loW a)
  have A0 := fun w => sub64_0 (loW a) l1.1 l1.2 w
  have A1 := fun w => sub64_law (hiW a) (bor 0 (loW a)) l3.1 l3.2 bb.1 bb.2 w
  go_enter Tryd.func107, Tryd.ntmps107
  go_wp2
  exact bodyPost_ret (v := wd (-a)) (by simp [results, Tryd.results107, go_sem]) rfl ⟨rfl, bal (bal (Below.refl _ _) _) _⟩

set_option maxHeartbeats 400000 in
theorem up_any (a : Int) (n : Nat) (w : World) (hn : n ≤ 64) :
    Calls Tryd.prog 51 #[wd a, .int .i64 n] w fun e w' => e = .returned (wd (a * 2 ^ n)) ∧ Below w.heap.size w w' := by
  obtain ⟨m1, m2⟩ := m_up a n hn
  go_enter Tryd.func51, Tryd.ntmps51
  go_wp2
  go_region
  go_wp2
  exact bodyPost_ret (v := wd (a * 2 ^ n)) (by simp [results, Tryd.results51, go_sem]) rfl ⟨rfl, below_drew (bal (bal (Below.refl _ _) _) _)⟩

set_option maxHeartbeats 400000 in
theorem down_any (a : Int) (n : Nat) (w : World) (hn : n ≤ 64) (ha : In128 a) :
    Calls Tryd.prog 47 #[wd a, .int .i64 n] w fun e w' => e = .returned (wd (a / 2 ^ n)) ∧ Below w.heap.size w w' := by
  obtain ⟨m1, m2⟩ := m_down a n hn ha
  go_enter Tryd.func47, Tryd.ntmps47
  go_wp2
  go_region
  go_wp2
  exact bodyPost_ret (v := wd (a / 2 ^ n)) (by simp [results, Tryd.results47, go_sem]) rfl ⟨rfl, below_drew (bal (bal (Below.refl _ _) _) _)⟩

/-- The sign of a whole number. -/
def sgn (a : Int) : Int := if a < 0 then -1 else if a = 0 then 0 else 1
theorem sign_neg (a : Int) (w : World) (ha : In128 a) (h : a < 0) :
    Calls Tryd.prog 45 #[wd a] w fun e w' => e = .returned (.int .i64 (-1)) ∧ Below w.heap.size w w' := by
  have h1 : wrap64 (hiW a) < 0 := by unfold In128 at ha; unfold hiW wrap64; omega
  go_enter Tryd.func45, Tryd.ntmps45
  go_wp2
  go_ret
  exact ⟨rfl, bal (Below.refl _ _) _⟩
theorem or_zero (a b : Int) (ha : 0 ≤ a) (ha1 : a < 18446744073709551616) (hb : 0 ≤ b) (hb1 : b < 18446744073709551616) : bits .or .u64 a b = 0 ↔ a = 0 ∧ b = 0 := by
  obtain ⟨A, rfl⟩ := Int.eq_ofNat_of_zero_le ha
  obtain ⟨B, rfl⟩ := Int.eq_ofNat_of_zero_le hb
  rw [bits_or_u64_nat A B (by omega) (by omega)]
  have : A ||| B = 0 ↔ A = 0 ∧ B = 0 := Nat.or_eq_zero_iff
  omega
theorem sign_pos (a : Int) (w : World) (ha : In128 a) (h : 0 < a) :
    Calls Tryd.prog 45 #[wd a] w fun e w' => e = .returned (.int .i64 1) ∧ Below w.heap.size w w' := by
  have h1 : ¬ wrap64 (hiW a) < 0 := by unfold In128 at ha; unfold hiW wrap64; omega
  have h2 : ¬ bits .or .u64 (hiW a) (loW a) = 0 := by
    rw [or_zero _ _ (hiW_b a).1 (hiW_b a).2 (loW_b a).1 (loW_b a).2]
    unfold In128 at ha; unfold hiW loW; omega
  go_enter Tryd.func45, Tryd.ntmps45
  go_wp2
  go_ret
  exact ⟨rfl, bal (Below.refl _ _) _⟩
theorem sign_nil (w : World) :
    Calls Tryd.prog 45 #[wd 0] w fun e w' => e = .returned (.int .i64 0) ∧ Below w.heap.size w w' := by
  have h1 : hiW 0 = 0 := by decide
  have h2 : loW 0 = 0 := by decide
  unfold wd
  rw [h1, h2]
  go_enter Tryd.func45, Tryd.ntmps45
  go_wp2
  go_ret
  exact ⟨rfl, bal (Below.refl _ _) _⟩
theorem sign_any (a : Int) (w : World) (ha : In128 a) :
    Calls Tryd.prog 45 #[wd a] w fun e w' => e = .returned (.int .i64 (sgn a)) ∧ Below w.heap.size w w' := by
  unfold sgn
  by_cases h : a < 0
  · rw [if_pos h]; exact sign_neg a w ha h
  · rw [if_neg h]
    by_cases h0 : a = 0
    · subst h0; exact sign_nil w
    · rw [if_neg h0]; exact sign_pos a w ha (by omega)

end Go.Proofs.YtcfmhkhfmcmkbaaDoor
namespace Go.Proofs
open Go.Shelf
def Tryd.laysM171_ren : Go.Shelf.Ren := ⟨fun | 171 => 105 | 243 => 111 | 246 => 114 | 283 => 63 | 284 => 64 | 285 => 65 | 286 => 66 | 129 => 83 | 317 => 82 | 318 => 84 | 319 => 85 | 320 => 86 | 337 => 98 | 338 => 70 | n => n, fun | 3 => 3 | 9 => 9 | 2 => 2 | 4 => 4 | 171 => 112 | 0 => 0 | 53 => 26 | 37 => 81 | 5 => 5 | 173 => 115 | 212 => 129 | 51 => 130 | 20 => 20 | 213 => 131 | 46 => 118 | 232 => 154 | 233 => 140 | n => n, fun | 17 => 0 | 18 => 5 | 19 => 1 | n => n⟩
theorem Tryd.laysM171 : Go.Proofs.LaysM.n171 Tryd.prog Tryd.laysM171_ren := {
  mixed := by kernel_rfl
  f129 := Tryd.func83.trans (congrArg some (by kernel_rfl))
  f171 := Tryd.func105.trans (congrArg some (by kernel_rfl))
  f243 := Tryd.func111.trans (congrArg some (by kernel_rfl))
  f246 := Tryd.func114.trans (congrArg some (by kernel_rfl))
  f283 := Tryd.func63.trans (congrArg some (by kernel_rfl))
  f284 := Tryd.func64.trans (congrArg some (by kernel_rfl))
  f285 := Tryd.func65.trans (congrArg some (by kernel_rfl))
  f286 := Tryd.func66.trans (congrArg some (by kernel_rfl))
  f317 := Tryd.func82.trans (congrArg some (by kernel_rfl))
  f318 := Tryd.func84.trans (congrArg some (by kernel_rfl))
  f319 := Tryd.func85.trans (congrArg some (by kernel_rfl))
  f320 := Tryd.func86.trans (congrArg some (by kernel_rfl))
  f337 := Tryd.func98.trans (congrArg some (by kernel_rfl))
  f338 := Tryd.func70.trans (congrArg some (by kernel_rfl))
  t0 := Tryd.underlying0
  a0 := Tryd.isAgg0
  z0 := Tryd.sizeOf0
  v0 := Tryd.zeroValue0
  t2 := Tryd.underlying2
  a2 := Tryd.isAgg2
  z2 := Tryd.sizeOf2
  v2 := Tryd.zeroValue2
  t3 := Tryd.underlying3
  a3 := Tryd.isAgg3
  z3 := Tryd.sizeOf3
  v3 := Tryd.zeroValue3
  t4 := Tryd.underlying4
  a4 := Tryd.isAgg4
  z4 := Tryd.sizeOf4
  v4 := Tryd.zeroValue4
  t5 := Tryd.underlying5
  a5 := Tryd.isAgg5
  z5 := Tryd.sizeOf5
  v5 := Tryd.zeroValue5
  t9 := Tryd.underlying9
  a9 := Tryd.isAgg9
  z9 := Tryd.sizeOf9
  v9 := Tryd.zeroValue9
  t20 := Tryd.underlying20
  a20 := Tryd.isAgg20
  z20 := Tryd.sizeOf20
  v20 := Tryd.zeroValue20
  t37 := Tryd.underlying81
  a37 := Tryd.isAgg81
  z37 := Tryd.sizeOf81
  v37 := Tryd.zeroValue81
  t46 := Tryd.underlying118
  a46 := Tryd.isAgg118
  z46 := Tryd.sizeOf118
  v46 := Tryd.zeroValue118
  t51 := Tryd.underlying130
  a51 := Tryd.isAgg130
  z51 := Tryd.sizeOf130
  v51 := Tryd.zeroValue130
  t53 := Tryd.underlying26
  a53 := Tryd.isAgg26
  z53 := Tryd.sizeOf26
  v53 := Tryd.zeroValue26
  t171 := Tryd.underlying112
  a171 := Tryd.isAgg112
  z171 := Tryd.sizeOf112
  v171 := Tryd.zeroValue112
  t173 := Tryd.underlying115
  a173 := Tryd.isAgg115
  z173 := Tryd.sizeOf115
  v173 := Tryd.zeroValue115
  t212 := Tryd.underlying129
  a212 := Tryd.isAgg129
  z212 := Tryd.sizeOf129
  v212 := Tryd.zeroValue129
  t213 := Tryd.underlying131
  a213 := Tryd.isAgg131
  z213 := Tryd.sizeOf131
  t232 := Tryd.underlying154
  a232 := Tryd.isAgg154
  z232 := Tryd.sizeOf154
  v232 := Tryd.zeroValue154
  t233 := Tryd.underlying140
  a233 := Tryd.isAgg140
  z233 := Tryd.sizeOf140
  v233 := Tryd.zeroValue140
  g17 := by kernel_rfl
  g18 := by kernel_rfl
  g19 := by kernel_rfl
  i0 := by kernel_rfl
  i2 := by kernel_rfl
  i3 := by kernel_rfl
  i4 := by kernel_rfl
  i5 := by kernel_rfl
  i9 := by kernel_rfl
  i20 := by kernel_rfl
  i37 := by kernel_rfl
  i46 := by kernel_rfl
  i51 := by kernel_rfl
  i53 := by kernel_rfl
  i171 := by kernel_rfl
  i173 := by kernel_rfl
  i212 := by kernel_rfl
  i232 := by kernel_rfl
  i233 := by kernel_rfl
  m17 := by kernel_rfl
  m18 := by kernel_rfl
  m19 := by kernel_rfl }
open Go.RowKit Go.Sort Go.Lib in
theorem Tryd.strconv_Itoa (n : Int) (h0 : -9223372036854775808 ≤ n) (h1 : n ≤ 9223372036854775807) (w : World) (htab : Lib.TabIs Tryd.prog w "internal/strconv.uint64pow10" .u64 Lib.pow10Tab) :
    Calls Tryd.prog 105 #[.int .i64 n] w fun e w' => e = .returned (.string ⟨(Lib.itoa n).toArray⟩) ∧ ∃ k os, w' = grow (w.drewN k) os := Any.strconv_Itoa Tryd.laysM171 n h0 h1 w htab
open Go.RowKit Go.Sort Go.Lib in
def Tryd.lays264_ren : Go.Shelf.Ren := ⟨fun | 264 => 106 | n => n, fun | 53 => 26 | 46 => 118 | n => n, fun | n => n⟩
theorem Tryd.lays264 : Go.Proofs.Lays.n264 Tryd.prog Tryd.lays264_ren := {
  mixed := by kernel_rfl
  f264 := Tryd.func106.trans (congrArg some (by kernel_rfl))
  t46 := Tryd.underlying118
  a46 := Tryd.isAgg118
  z46 := Tryd.sizeOf118
  v46 := Tryd.zeroValue118
  t53 := Tryd.underlying26
  a53 := Tryd.isAgg26
  z53 := Tryd.sizeOf26
  v53 := Tryd.zeroValue26 }
open Go.RowKit Go.Lib in
theorem Tryd.bits_Mul64 (x y : Nat) (hx : x < 18446744073709551616) (hy : y < 18446744073709551616) (w : World) :
    Calls Tryd.prog 106 #[.int .u64 x, .int .u64 y] w fun e w' => e = .returned (.tuple #[.int .u64 ((x * y / 18446744073709551616 : Nat) : Int), .int .u64 ((x * y % 18446744073709551616 : Nat) : Int)]) ∧ w' = w := Any.bits_Mul64 Tryd.lays264 x y hx hy w
end Go.Proofs
namespace Go.Proofs.YtcfmhkhfmcmkbaaDoor
open Go.RowKit Go.Sort

theorem below_of_drew {a w : World} (h : Below a.drew.heap.size a.drew w) : Below a.heap.size a w := ⟨h.os, h.tape, h.output, h.size, h.block⟩
def absI (a : Int) : Int := if a < 0 then -a else a
set_option maxHeartbeats 400000 in
theorem size_any (a : Int) (w : World) (ha : In128 a) :
    Calls Tryd.prog 95 #[wd a] w fun e w' => e = .returned (wd (absI a)) ∧ Below w.heap.size w w' := by
  unfold absI
  by_cases h : a < 0
  · rw [if_pos h]
    go_enter Tryd.func95, Tryd.ntmps95
    go_wp2_with (first
      | (go_at_call 45; refine (sign_neg a _ ha h).mono ?_; rintro e w1 ⟨rfl, hB⟩; obtain ⟨hc1, hf1⟩ := bcell hB)
      | (go_at_call 107; refine (negative_any a _).mono ?_; rintro e w2 ⟨rfl, hN⟩; have hB := btr hB hN; clear hc1 hf1; obtain ⟨hc2, hf2⟩ := bcell hB))
    exact bodyPost_ret (v := wd (-a)) (by simp [results, Tryd.results95, go_sem, hc2]) rfl ⟨rfl, ((btr (bal (bal (Below.refl _ _) _) _) hB).setCell (by simp) _).setCell (by simp) _⟩
  · rw [if_neg h]
    have hs : sgn a = 0 ∨ sgn a = 1 := by unfold sgn; rw [if_neg h]; split <;> simp
    rcases hs with hs | hs
    all_goals
      have HS := fun w => sign_any a w ha
      rw [hs] at HS
      go_enter Tryd.func95, Tryd.ntmps95
      go_wp2_with (first
        | (go_at_call 45; refine (HS _).mono ?_; rintro e w1 ⟨rfl, hB⟩; obtain ⟨hc1, hf1⟩ := bcell hB))
      exact bodyPost_ret (v := wd a) (by simp [results, Tryd.results95, go_sem, hc1]) rfl ⟨rfl, ((btr (bal (bal (Below.refl _ _) _) _) hB).setCell (by simp) _).setCell (by simp) _⟩

set_option maxHeartbeats 400000 in
theorem narrow_yes (a : Int) (w : World) (h0 : -9223372036854775808 ≤ a) (h1 : a ≤ 9223372036854775807) :
    Calls Tryd.prog 48 #[wd a] w fun e w' => e = .returned (.tuple #[.int .i64 a, .bool true]) ∧ Below w.heap.size w w' := by
  have e1 : wrap64 (loW a) = a := by unfold loW wrap64; omega
  have HW := fun w => wideOf_any a w h0 h1
  go_enter Tryd.func48, Tryd.ntmps48
  go_wp2
  go_region_held3 (fun w' => w'.cell? ⟨w.heap.size, 0, none⟩ = some (.int .u64 (hiW a)) ∧ w'.cell? ⟨w.heap.size, 1, none⟩ = some (.int .u64 (loW a))) (go_keep)
    (first
      | (go_at_call 50; refine (HW _).mono ?_; rintro e w1 ⟨rfl, hB⟩; obtain ⟨hc1, hf1⟩ := bcell hB))
  go_wp2
  go_ret2
  exact ⟨rfl, btr (bal (Below.refl _ _) _) (below_of_drew hB)⟩
set_option maxHeartbeats 400000 in
theorem narrow_no (a : Int) (w : World) (ha : In128 a) (h : a < -9223372036854775808 ∨ 9223372036854775807 < a) :
    Calls Tryd.prog 48 #[wd a] w fun e w' => e = .returned (.tuple #[.int .i64 0, .bool false]) ∧ Below w.heap.size w w' := by
  obtain ⟨n, e1⟩ : ∃ n, wrap64 (loW a) = n := ⟨_, rfl⟩
  have n0 : -9223372036854775808 ≤ n ∧ n ≤ 9223372036854775807 := by rw [← e1]; unfold wrap64; omega
  have h3 : ¬ hiW a = hiW n := by rw [← e1]; unfold In128 at ha; unfold hiW loW wrap64; omega
  have h4 : ¬ hiW n = hiW a := fun e => h3 e.symm
  have HW := fun w => wideOf_any n w n0.1 n0.2
  clear h
  go_enter Tryd.func48, Tryd.ntmps48
  go_wp2
  go_region_held3 (fun w' => w'.cell? ⟨w.heap.size, 0, none⟩ = some (.int .u64 (hiW a)) ∧ w'.cell? ⟨w.heap.size, 1, none⟩ = some (.int .u64 (loW a))) (go_keep)
    (first
      | (go_at_call 50; refine (HW _).mono ?_; rintro e w1 ⟨rfl, hB⟩; obtain ⟨hc1, hf1⟩ := bcell hB))
  go_wp2
  go_ret2
  exact ⟨rfl, btr (bal (Below.refl _ _) _) (below_of_drew hB)⟩

theorem m_mul (x y : Int) (hx : 0 ≤ x) (hx1 : x < 18446744073709551616) (hy : 0 ≤ y) (hy1 : y < 18446744073709551616) : x * y / 18446744073709551616 = hiW (x * y) ∧ x * y % 18446744073709551616 = loW (x * y) := by
  have h1 : x * y ≤ 18446744073709551615 * 18446744073709551615 := Int.mul_le_mul (by omega) (by omega) hy (by omega)
  have h0 : 0 ≤ x * y := Int.mul_nonneg hx hy
  unfold hiW loW
  omega
set_option maxHeartbeats 1000000 in
theorem mul64_any (x y : Int) (w : World) (hx : 0 ≤ x) (hx1 : x < 18446744073709551616) (hy : 0 ≤ y) (hy1 : y < 18446744073709551616) :
    Calls Tryd.prog 106 #[.int .u64 x, .int .u64 y] w fun e w' => e = .returned (.tuple #[.int .u64 (hiW (x * y)), .int .u64 (loW (x * y))]) ∧ w' = w := by
  obtain ⟨X, rfl⟩ := Int.eq_ofNat_of_zero_le hx
  obtain ⟨Y, rfl⟩ := Int.eq_ofNat_of_zero_le hy
  obtain ⟨m1, m2⟩ := m_mul X Y hx hx1 hy hy1
  refine (Tryd.bits_Mul64 X Y (by omega) (by omega) w).mono ?_
  rintro e w' ⟨rfl, rfl⟩
  refine ⟨?_, rfl⟩
  rw [← m1, ← m2]
  simp

theorem absI_b (m : Int) (h0 : -9223372036854775808 ≤ m) (h1 : m ≤ 9223372036854775807) : loW (absI m) = absI m ∧ 0 ≤ absI m ∧ absI m < 18446744073709551616 := by
  unfold loW absI; split <;> omega
theorem absI_mul (m n : Int) : absI m * absI n = if (m < 0) = (n < 0) then m * n else -(m * n) := by
  unfold absI
  by_cases h1 : m < 0 <;> by_cases h2 : n < 0 <;> simp [h1, h2, Int.neg_mul, Int.mul_neg]
theorem fld1 (h l : Int) (w : World) : (Instr.field 67 (.agg #[.int .u64 h, .int .u64 l]) 1).run Tryd.prog w = .ok (.int .u64 l) w := by kernel_rfl
end Go.Proofs.YtcfmhkhfmcmkbaaDoor
namespace Go.Proofs.YtcfmhkhfmcmkbaaDoor
open Go.RowKit

/-- What a call tells: the parts, the power, the error. -/
structure Rt where
  p : Int
  q : Int
  k : Int
  e : Int

/-- How often both can be halved, k times at most. -/
def hv : Nat → Int → Int → Nat
  | 0, _, _ => 0
  | k + 1, p, q => if p % 2 = 0 ∧ q % 2 = 0 then hv k (p / 2) (q / 2) + 1 else 0

/-- The bound of a part. -/
def inP (n : Int) : Bool := decide (-9007199254740991 ≤ n ∧ n ≤ 9007199254740991)
theorem inP_iff (n : Int) : inP n = true ↔ -9007199254740991 ≤ n ∧ n ≤ 9007199254740991 := by unfold inP; simp
theorem inP_no (n : Int) : inP n = false ↔ n < -9007199254740991 ∨ 9007199254740991 < n := by unfold inP; simp; omega

/-- The root of a value, or the error 3. -/
def one (p q : Int) (k : Nat) : Rt :=
  if p = 0 ∧ q = 0 then ⟨0, 0, 0, 0⟩
  else if inP (p / 2 ^ hv k p q) = true ∧ inP (q / 2 ^ hv k p q) = true ∧ k - hv k p q ≤ 60 then ⟨p / 2 ^ hv k p q, q / 2 ^ hv k p q, ((k - hv k p q : Nat) : Int), 0⟩
  else ⟨0, 0, 0, 3⟩

/-- A root in its one form. -/
def isRoot (p q k : Int) : Prop :=
  (-9007199254740991 ≤ p ∧ p ≤ 9007199254740991) ∧ (-9007199254740991 ≤ q ∧ q ≤ 9007199254740991) ∧ (0 ≤ k ∧ k ≤ 60) ∧ (k = 0 ∨ p % 2 = 1 ∨ q % 2 = 1)

theorem dv_succ (n : Nat) (p : Int) : (2 : Int) ^ (n + 1) ∣ p ↔ p % 2 = 0 ∧ (2 : Int) ^ n ∣ p / 2 := by
  constructor
  · rintro ⟨c, hc⟩
    rw [Int.pow_succ, Int.mul_right_comm] at hc
    have : p / 2 = 2 ^ n * c := by generalize (2 : Int) ^ n * c = t at *; omega
    exact ⟨by generalize (2 : Int) ^ n * c = t at *; omega, c, this⟩
  · rintro ⟨h0, c, hc⟩
    refine ⟨c, ?_⟩
    rw [Int.pow_succ, Int.mul_right_comm]
    generalize (2 : Int) ^ n * c = t at *; omega
theorem hv_le : ∀ (k : Nat) (p q : Int), hv k p q ≤ k
  | 0, _, _ => Nat.le_refl _
  | k + 1, p, q => by
    unfold hv; split
    · have := hv_le k (p / 2) (q / 2); omega
    · omega
theorem hv_dvd : ∀ (k : Nat) (p q : Int), (2 : Int) ^ hv k p q ∣ p ∧ (2 : Int) ^ hv k p q ∣ q
  | 0, p, q => by simp [hv]
  | k + 1, p, q => by
    unfold hv; split
    · rename_i h
      have := hv_dvd k (p / 2) (q / 2)
      exact ⟨(dv_succ _ _).2 ⟨h.1, this.1⟩, (dv_succ _ _).2 ⟨h.2, this.2⟩⟩
    · simp
theorem hv_most : ∀ (k : Nat) (p q : Int), hv k p q = k ∨ ¬ ((2 : Int) ^ (hv k p q + 1) ∣ p ∧ (2 : Int) ^ (hv k p q + 1) ∣ q)
  | 0, p, q => by simp [hv]
  | k + 1, p, q => by
    unfold hv; split
    · rename_i h
      rcases hv_most k (p / 2) (q / 2) with h1 | h1
      · left; omega
      · right
        rintro ⟨a, b⟩
        exact h1 ⟨((dv_succ _ _).1 a).2, ((dv_succ _ _).1 b).2⟩
    · rename_i h
      right
      rintro ⟨a, b⟩
      exact h ⟨((dv_succ _ _).1 a).1, ((dv_succ _ _).1 b).1⟩
theorem hv_eq : ∀ (k n : Nat) (p q : Int), n ≤ k → (2 : Int) ^ n ∣ p → (2 : Int) ^ n ∣ q → (n = k ∨ ¬ ((2 : Int) ^ (n + 1) ∣ p ∧ (2 : Int) ^ (n + 1) ∣ q)) → hv k p q = n
  | 0, n, _, _, hn, _, _, _ => by unfold hv; omega
  | k + 1, n, p, q, hn, hp, hq, hm => by
    unfold hv
    cases n with
    | zero =>
      rw [if_neg]
      rintro ⟨a, b⟩
      rcases hm with h | h
      · omega
      · exact h ⟨(dv_succ _ _).2 ⟨a, by simp⟩, (dv_succ _ _).2 ⟨b, by simp⟩⟩
    | succ n =>
      obtain ⟨a, a'⟩ := (dv_succ _ _).1 hp
      obtain ⟨b, b'⟩ := (dv_succ _ _).1 hq
      rw [if_pos ⟨a, b⟩, hv_eq k n (p / 2) (q / 2) (by omega) a' b']
      rcases hm with h | h
      · left; omega
      · right
        rintro ⟨c, d⟩
        exact h ⟨(dv_succ _ _).2 ⟨a, c⟩, (dv_succ _ _).2 ⟨b, d⟩⟩

theorem dvd_lo (n : Nat) (hn : n ≤ 64) (p : Int) : (2 : Int) ^ n ∣ p ↔ (2 : Int) ^ n ∣ loW p := by
  have h : (2 : Int) ^ n ∣ 18446744073709551616 := ⟨2 ^ (64 - n), (pow_split n hn).symm⟩
  unfold loW
  exact (Int.dvd_emod_sub_self (x := p) (m := 18446744073709551616)).elim fun c hc => by
    constructor
    · intro hp
      have e : p % 18446744073709551616 = p + 18446744073709551616 * c := by omega
      rw [e]; exact Int.dvd_add hp (Int.dvd_mul_of_dvd_left h)
    · intro hp
      have e : p = p % 18446744073709551616 + 18446744073709551616 * (-c) := by rw [Int.mul_neg]; omega
      rw [e]; exact Int.dvd_add hp (Int.dvd_mul_of_dvd_left h)
/-- The low words' common noughts at the end. -/
def evn (p q : Int) : Nat := Lib.ctz 64 ((loW p).toNat ||| (loW q).toNat)
theorem or_dvd (n A B : Nat) : 2 ^ n ∣ (A ||| B) ↔ 2 ^ n ∣ A ∧ 2 ^ n ∣ B := by
  rw [Nat.dvd_iff_mod_eq_zero, Nat.dvd_iff_mod_eq_zero, Nat.dvd_iff_mod_eq_zero, Nat.or_mod_two_pow, Nat.or_eq_zero_iff]
theorem lo_dvd (n : Nat) (hn : n ≤ 64) (p : Int) : (2 : Int) ^ n ∣ p ↔ 2 ^ n ∣ (loW p).toNat := by
  rw [dvd_lo n hn]
  have h0 := (loW_b p).1
  conv => lhs; rw [← Int.toNat_of_nonneg h0]
  exact_mod_cast Int.natCast_dvd_natCast (m := 2 ^ n) (n := (loW p).toNat)
theorem evn_dvd (p q : Int) (n : Nat) (hn : n ≤ 64) (h : n ≤ evn p q) : (2 : Int) ^ n ∣ p ∧ (2 : Int) ^ n ∣ q := by
  rw [lo_dvd n hn, lo_dvd n hn, ← or_dvd]
  unfold evn Lib.ctz at h
  split at h
  · rename_i h0; rw [h0]; exact Nat.dvd_zero _
  · rename_i h0
    have hl : (loW p).toNat ||| (loW q).toNat < 2 ^ 64 := Nat.or_lt_two_pow (by have := loW_b p; omega) (by have := loW_b q; omega)
    obtain ⟨m, hm, _⟩ := Lib.ctzFrom_spec 64 _ (Nat.pos_of_ne_zero h0) hl
    rw [hm]
    exact Nat.dvd_mul_right_of_dvd (Nat.pow_dvd_pow 2 h) _
theorem evn_not (p q : Int) (h : evn p q < 64) : ¬ ((2 : Int) ^ (evn p q + 1) ∣ p ∧ (2 : Int) ^ (evn p q + 1) ∣ q) := by
  rw [lo_dvd _ (by omega), lo_dvd _ (by omega), ← or_dvd]
  unfold evn Lib.ctz at *
  split at h
  · omega
  · rename_i h0
    rw [if_neg h0]
    have hl : (loW p).toNat ||| (loW q).toNat < 2 ^ 64 := Nat.or_lt_two_pow (by have := loW_b p; omega) (by have := loW_b q; omega)
    obtain ⟨m, hm, _⟩ := Lib.ctzFrom_spec 64 _ (Nat.pos_of_ne_zero h0) hl
    rintro ⟨c, hc⟩
    rw [Nat.pow_succ, Nat.mul_assoc] at hc
    generalize Lib.ctzFrom 64 ((loW p).toNat ||| (loW q).toNat) = z at *
    rw [hm] at hc
    have := Nat.eq_of_mul_eq_mul_left (Nat.two_pow_pos z) hc
    omega
/-- The code's way to count: the noughts at the end of the low words, or k. -/
theorem hv_evn (p q : Int) (k : Nat) (h : k ≤ 64 ∨ evn p q < 64) (h64 : evn p q ≤ 64) : hv k p q = min (evn p q) k := by
  have hd := evn_dvd p q (min (evn p q) k) (by omega) (by omega)
  refine hv_eq k _ p q (by omega) hd.1 hd.2 ?_
  by_cases hk : k ≤ evn p q
  · left; omega
  · right
    rw [show min (evn p q) k = evn p q by omega]
    exact evn_not p q (by omega)
theorem evn_le (p q : Int) : evn p q ≤ 64 := by
  unfold evn Lib.ctz
  split
  · omega
  · rename_i h0
    have hl : (loW p).toNat ||| (loW q).toNat < 2 ^ 64 := Nat.or_lt_two_pow (by have := loW_b p; omega) (by have := loW_b q; omega)
    obtain ⟨m, hm, h⟩ := Lib.ctzFrom_spec 64 _ (Nat.pos_of_ne_zero h0) hl
    omega
theorem evn_lt (p q : Int) (n : Nat) (hn : n ≤ 64) (h : ¬ ((2 : Int) ^ n ∣ p ∧ (2 : Int) ^ n ∣ q)) : evn p q < 64 := by
  rcases Nat.lt_or_ge (evn p q) 64 with h1 | h1
  · exact h1
  · exact absurd (evn_dvd p q n hn (by omega)) h
end Go.Proofs.YtcfmhkhfmcmkbaaDoor
namespace Go.Proofs.YtcfmhkhfmcmkbaaDoor
open Go.RowKit Go.Sort

/-- The table of math/bits, where its variable lies. -/
structure Tab (w : World) : Prop where
  bit : ∀ j, j < 64 → w.cell? ⟨1, j, none⟩ = some (.int .u8 (Lib.deBruijn64tab.getD j 0))
theorem Tab.below {w w' : World} (h : Tab w) (hb : Below w.heap.size w w') : Tab w' where
  bit := fun j hj => by
    have h0 : 1 < w.heap.size := block_lt_of_cell (h.bit 0 (by omega))
    exact (hb.cell (p := ⟨1, j, none⟩) h0).trans (h.bit j hj)
theorem Tab.alloc {w : World} (h : Tab w) (o : Obj) : Tab (w.alloc o) := h.below (bal (Below.refl _ _) _)

theorem tz_zero (w : World) : Calls Tryd.prog 70 #[.int .u64 0] w fun e w' => e = .returned (.int .i64 64) ∧ w' = w := by
  go_enter Tryd.func70, Tryd.ntmps70
  go_wp2
  go_ret
  exact ⟨rfl, rfl⟩
theorem low_key (x k : Nat) (hx : x < 18446744073709551616) (h0 : x ≠ 0) (hk : x &&& (18446744073709551616 - x) = 2 ^ k) :
    IntKind.u64.wrap (bits .and .u64 (x : Int) (IntKind.u64.wrap (-(x : Int))) * 285870213051353865) / 288230376151711744 = ((2 ^ k * 285870213051353865 % 18446744073709551616 / 288230376151711744 : Nat) : Int) := by
  have e : IntKind.u64.wrap (-(x : Int)) = ((18446744073709551616 - x : Nat) : Int) := by rw [IntKind.wrap_u64]; omega
  rw [e, bits_and_u64_nat _ _ hx (by omega), hk, IntKind.wrap_u64]
  generalize 2 ^ k = m
  omega
theorem tz_core (x k idx : Nat) (w : World) (h1 : ((x : Int) == 0) = false) (hk : k < 64) (hi : idx < 64)
    (key : IntKind.u64.wrap (bits .and .u64 (x : Int) (IntKind.u64.wrap (-(x : Int))) * 285870213051353865) / 288230376151711744 = (idx : Int))
    (hc : w.cell? ⟨1, idx, none⟩ = some (.int .u8 k)) :
    Calls Tryd.prog 70 #[.int .u64 x] w fun e w' => e = .returned (.int .i64 k) ∧ w' = w := by
  go_enter Tryd.func70, Tryd.ntmps70
  go_wp2_with (simp only [key])
  go_ret
  exact ⟨rfl, rfl⟩
theorem low_at (x : Nat) (hx : x < 18446744073709551616) (h0 : x ≠ 0) : ∃ idx : Nat, idx < 64 ∧ Lib.ctz 64 x < 64 ∧ Lib.deBruijn64tab.getD idx 0 = Lib.ctz 64 x ∧
    IntKind.u64.wrap (bits .and .u64 (x : Int) (IntKind.u64.wrap (-(x : Int))) * 285870213051353865) / 288230376151711744 = (idx : Int) := by
  obtain ⟨hlow, hk⟩ := Lib.lowest_bit 64 x h0 hx
  obtain ⟨hi, htab⟩ := Lib.deBruijn64_at _ hk
  exact ⟨_, hi, hk, htab, low_key x _ hx h0 hlow⟩
theorem tz_any (x : Nat) (w : World) (hx : x < 18446744073709551616) (hT : Tab w) :
    Calls Tryd.prog 70 #[.int .u64 x] w fun e w' => e = .returned (.int .i64 (Lib.ctz 64 x)) ∧ w' = w := by
  by_cases h0 : x = 0
  · subst h0; exact tz_zero w
  · obtain ⟨idx, hi, hk, htab, key⟩ := low_at x hx h0
    have hc := hT.bit _ hi
    rw [htab] at hc
    exact tz_core x _ idx w (by simp; omega) hk hi key hc

theorem evenness_any (p q : Int) (w : World) (hT : Tab w) :
    Calls Tryd.prog 46 #[wd p, wd q] w fun e w' => e = .returned (.int .i64 (evn p q)) ∧ Below w.heap.size w w' := by
  have h1 := loW_b p
  have h2 := loW_b q
  have hx : (loW p).toNat ||| (loW q).toNat < 18446744073709551616 := Nat.or_lt_two_pow (n := 64) (by omega) (by omega)
  have e1 : bits .or .u64 (loW p) (loW q) = (((loW p).toNat ||| (loW q).toNat : Nat) : Int) := by
    have := bits_or_u64_nat (loW p).toNat (loW q).toNat (by omega) (by omega)
    rwa [Int.toNat_of_nonneg h1.1, Int.toNat_of_nonneg h2.1] at this
  have H := fun w hT => tz_any ((loW p).toNat ||| (loW q).toNat) w hx hT
  have HT := (hT.alloc (.cells #[.int .u64 (hiW p), .int .u64 (loW p)] 67)).alloc (.cells #[.int .u64 (hiW q), .int .u64 (loW q)] 67)
  unfold evn
  generalize (loW p).toNat ||| (loW q).toNat = x at *
  go_enter Tryd.func46, Tryd.ntmps46
  go_wp2_with (first
    | (go_at_call 70; refine (H _ HT).mono ?_; rintro e w1 ⟨rfl, rfl⟩))
  go_ret
  exact ⟨rfl, bal (bal (Below.refl _ _) _) _⟩

theorem within_any (n : Int) (w : World) : Calls Tryd.prog 49 #[.int .i64 n] w fun e w' => e = .returned (.bool (inP n)) ∧ w' = w := by
  by_cases h1 : -9007199254740991 ≤ n
  · by_cases h2 : n ≤ 9007199254740991
    · have : inP n = true := (inP_iff n).2 ⟨h1, h2⟩
      rw [this]
      clear this
      go_enter Tryd.func49, Tryd.ntmps49
      go_wp2
      go_ret
      exact ⟨rfl, rfl⟩
    · have : inP n = false := (inP_no n).2 (by omega)
      rw [this]
      clear this
      have h3 : decide (n ≤ 9007199254740991) = false := by simpa using h2
      go_enter Tryd.func49, Tryd.ntmps49
      go_wp2
      go_ret
      exact ⟨rfl, rfl⟩
  · have : inP n = false := (inP_no n).2 (by omega)
    rw [this]
    clear this
    have h3 : decide (-9007199254740991 ≤ n) = false := by simpa using h1
    go_enter Tryd.func49, Tryd.ntmps49
    go_wp2
    go_ret
    exact ⟨rfl, rfl⟩
end Go.Proofs.YtcfmhkhfmcmkbaaDoor
namespace Go.Proofs.YtcfmhkhfmcmkbaaDoor
open Go.RowKit Go.Sort

theorem or_odd (a b : Int) : bits .and .i64 (bits .or .i64 a b) 1 = if a % 2 = 0 ∧ b % 2 = 0 then 0 else 1 := by
  have key : ∀ x : Int, bits .and .i64 x 1 = x % 2 := fun x => by
    show IntKind.i64.wrap ((BitVec.ofInt 64 x &&& BitVec.ofInt 64 1).toNat : Int) = _
    rw [BitVec.toNat_and, show (BitVec.ofInt 64 (1 : Int)).toNat = 1 by decide, Nat.and_one_is_mod, BitVec.toNat_ofInt]
    simp [IntKind.wrap, IntKind.signed, IntKind.bits]
    omega
  rw [key]
  show IntKind.i64.wrap ((BitVec.ofInt 64 a ||| BitVec.ofInt 64 b).toNat : Int) % 2 = _
  rw [BitVec.toNat_or, BitVec.toNat_ofInt, BitVec.toNat_ofInt]
  have e : ∀ n : Nat, IntKind.i64.wrap (n : Int) % 2 = ((n % 2 : Nat) : Int) := fun n => by
    simp [IntKind.wrap, IntKind.signed, IntKind.bits]; omega
  rw [e]
  have h2 := Nat.or_mod_two_pow (a := (a % (2 ^ 64 : Nat)).toNat) (b := (b % (2 ^ 64 : Nat)).toNat) (n := 1)
  rw [Nat.pow_one] at h2
  rw [h2]
  have ha : (a % ((2 ^ 64 : Nat) : Int)).toNat % 2 = (a % 2).toNat := by omega
  have hb : (b % ((2 ^ 64 : Nat) : Int)).toNat % 2 = (b % 2).toNat := by omega
  rw [ha, hb]
  rcases (show a % 2 = 0 ∨ a % 2 = 1 by omega) with h | h <;> rcases (show b % 2 = 0 ∨ b % 2 = 1 by omega) with g | g <;> simp [h, g]

set_option maxHeartbeats 400000 in
theorem check_yes (p q k : Int) (w : World) (h : isRoot p q k) : Calls Tryd.prog 44 #[.agg #[.int .i64 p, .int .i64 q, .int .i64 k]] w fun e w' => e = .returned (.int .i64 0) ∧ Below w.heap.size w w' := by
  obtain ⟨hp, hq, ⟨hk0, hk1⟩, ho⟩ := h
  have P1 := (inP_iff p).2 hp
  have Q1 := (inP_iff q).2 hq
  have HP := fun w => within_any p w
  have HQ := fun w => within_any q w
  rw [P1] at HP
  rw [Q1] at HQ
  clear P1 Q1
  have OR := or_odd p q
  by_cases h0 : k = 0
  · subst h0
    clear ho OR hk0 hk1
    go_enter Tryd.func44, Tryd.ntmps44
    go_wp2_with (first
      | (go_at_call 49; (with_reducible refine (HP _).mono ?_); rintro e w1 ⟨rfl, rfl⟩)
      | (go_at_call 49; (with_reducible refine (HQ _).mono ?_); rintro e w1 ⟨rfl, rfl⟩))
    go_ret
    exact ⟨rfl, bal (Below.refl _ _) _⟩
  · have hk : 0 < k := by omega
    rw [if_neg (by omega)] at OR
    have hk2 : ¬ k < 0 := by omega
    have hk3 : ¬ 60 < k := by omega
    clear ho
    go_enter Tryd.func44, Tryd.ntmps44
    go_wp2_with (first
      | (go_at_call 49; (with_reducible refine (HP _).mono ?_); rintro e w1 ⟨rfl, rfl⟩)
      | (go_at_call 49; (with_reducible refine (HQ _).mono ?_); rintro e w1 ⟨rfl, rfl⟩))
    go_ret
    exact ⟨rfl, bal (Below.refl _ _) _⟩
set_option maxHeartbeats 1000000 in
theorem check_no (p q k : Int) (w : World) (h : ¬ isRoot p q k) : Calls Tryd.prog 44 #[.agg #[.int .i64 p, .int .i64 q, .int .i64 k]] w fun e w' => e = .returned (.int .i64 2) ∧ Below w.heap.size w w' := by
  have HP := fun w => within_any p w
  have HQ := fun w => within_any q w
  unfold isRoot at h
  cases hP : inP p
  · rw [hP] at HP
    clear h hP HQ
    go_enter Tryd.func44, Tryd.ntmps44
    go_wp2_with (first
      | (go_at_call 49; (with_reducible refine (HP _).mono ?_); rintro e w1 ⟨rfl, rfl⟩))
    go_ret
    exact ⟨rfl, bal (Below.refl _ _) _⟩
  · rw [hP] at HP
    cases hQ : inP q
    · rw [hQ] at HQ
      clear h hP hQ
      go_enter Tryd.func44, Tryd.ntmps44
      go_wp2_with (first
        | (go_at_call 49; (with_reducible refine (HP _).mono ?_); rintro e w1 ⟨rfl, rfl⟩)
        | (go_at_call 49; (with_reducible refine (HQ _).mono ?_); rintro e w1 ⟨rfl, rfl⟩))
      go_ret
      exact ⟨rfl, bal (Below.refl _ _) _⟩
    · rw [hQ] at HQ
      rw [inP_iff] at hP hQ
      by_cases k0 : k < 0
      · clear h hP hQ
        go_enter Tryd.func44, Tryd.ntmps44
        go_wp2_with (first
          | (go_at_call 49; (with_reducible refine (HP _).mono ?_); rintro e w1 ⟨rfl, rfl⟩)
          | (go_at_call 49; (with_reducible refine (HQ _).mono ?_); rintro e w1 ⟨rfl, rfl⟩))
        go_ret
        exact ⟨rfl, bal (Below.refl _ _) _⟩
      · by_cases k1 : 60 < k
        · clear h hP hQ
          go_enter Tryd.func44, Tryd.ntmps44
          go_wp2_with (first
            | (go_at_call 49; (with_reducible refine (HP _).mono ?_); rintro e w1 ⟨rfl, rfl⟩)
            | (go_at_call 49; (with_reducible refine (HQ _).mono ?_); rintro e w1 ⟨rfl, rfl⟩))
          go_ret
          exact ⟨rfl, bal (Below.refl _ _) _⟩
        · have k2 : 0 < k := by omega
          have OR := or_odd p q
          rw [if_pos (by omega)] at OR
          clear h hP hQ
          go_enter Tryd.func44, Tryd.ntmps44
          go_wp2_with (first
            | (go_at_call 49; (with_reducible refine (HP _).mono ?_); rintro e w1 ⟨rfl, rfl⟩)
            | (go_at_call 49; (with_reducible refine (HQ _).mono ?_); rintro e w1 ⟨rfl, rfl⟩))
          go_ret
          exact ⟨rfl, bal (Below.refl _ _) _⟩
end Go.Proofs.YtcfmhkhfmcmkbaaDoor
