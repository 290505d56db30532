/-
  Plain mathematics of bits, continued: numbers made bit by bit; bits put in, taken out, exchanged.
-/
import Derived.Test.YtinkdonaedoojaaBMath
namespace Go.Proofs.Ytinkdonaedoojaa
open Go.RowKit

/-- The number whose bits below k are f's. -/
def mk (f : Nat → Nat) : Nat → Nat
  | 0 => 0
  | k + 1 => setB (mk f k) k (f k)
theorem bt_mk (f : Nat → Nat) (hf : ∀ i, f i ≤ 1) (k i : Nat) : bt (mk f k) i = if i < k then f i else 0 := by
  induction k with
  | zero => simp [mk, bt]
  | succ k ih =>
    simp only [mk]
    rw [bt_setB _ _ _ _ (hf k), ih]
    by_cases h : i = k
    · subst h; simp
    · rw [if_neg h]
      by_cases g : i < k
      · rw [if_pos g, if_pos (by omega)]
      · rw [if_neg g, if_neg (by omega)]
theorem mk_lt (f : Nat → Nat) (k : Nat) (hk : k ≤ 64) : mk f k < 18446744073709551616 := by
  induction k with
  | zero => simp [mk]
  | succ k ih => exact setB_lt (ih (by omega)) (by omega)
theorem mk_is {f : Nat → Nat} {y k : Nat} (hf : ∀ i, f i ≤ 1) (hk : k ≤ 64) (hy : y < 18446744073709551616) (h1 : ∀ i, i < k → bt y i = f i) (h2 : ∀ i, k ≤ i → i < 64 → bt y i = 0) : mk f k = y :=
  ext64 (mk_lt f k hk) hy fun i hi => by
    rw [bt_mk f hf]
    by_cases h : i < k
    · rw [if_pos h, h1 i h]
    · rw [if_neg h, h2 i (by omega) hi]

theorem bt_xor (a b i : Nat) : bt (a ^^^ b) i = (bt a i + bt b i) % 2 := by
  unfold bt; rw [Nat.testBit_xor]; cases a.testBit i <;> cases b.testBit i <;> rfl
theorem bt_or (a b i : Nat) : bt (a ||| b) i = max (bt a i) (bt b i) := by
  unfold bt; rw [Nat.testBit_or]; cases a.testBit i <;> cases b.testBit i <;> rfl
theorem bt_divp (x k i : Nat) : bt (x / 2 ^ k) i = bt x (k + i) := by unfold bt; rw [tb_div]
theorem bt_modp (x k i : Nat) : bt (x % 2 ^ k) i = if i < k then bt x i else 0 := by
  unfold bt; rw [Nat.testBit_mod_two_pow]; by_cases h : i < k <;> simp [h]
theorem bt_mulp (a k b i : Nat) (hb : b < 2 ^ k) : bt (2 ^ k * a + b) i = if i < k then bt b i else bt a (i - k) := by
  unfold bt; rw [Nat.testBit_two_pow_mul_add _ hb]; by_cases h : i < k <;> simp [h]
theorem bt_pow (k i : Nat) : bt (2 ^ k) i = if i = k then 1 else 0 := by
  unfold bt; rw [Nat.testBit_two_pow]; by_cases h : k = i
  · simp [h]
  · simp [h, Ne.symm h]
theorem bt_nought (i : Nat) : bt 0 i = 0 := by simp [bt]

theorem bt_gray (x i : Nat) : bt (grayN x) i = (bt x i + bt x (i + 1)) % 2 := by
  unfold grayN shx; rw [bt_xor, bt_divp, Nat.add_comm 1]
theorem mk_gray {x : Nat} (hx : x < 18446744073709551616) : mk (fun i => (bt x i + bt x (i + 1)) % 2) 64 = grayN x :=
  mk_is (fun i => by omega) (by omega) (gray_lt hx) (fun i _ => bt_gray x i) (fun i h h' => by omega)

/-- x's bits from k on, where they are. -/
def hi (x k : Nat) : Nat := 2 ^ k * (x / 2 ^ k) + 0
theorem bt_hi (x k i : Nat) : bt (hi x k) i = if i < k then 0 else bt x i := by
  unfold hi
  rw [bt_mulp _ _ _ _ (Nat.two_pow_pos k), bt_nought, bt_divp]
  by_cases h : i < k
  · simp [h]
  · rw [if_neg h, if_neg h, show k + (i - k) = i by omega]
theorem hi_le (x k : Nat) : hi x k ≤ x := by unfold hi; exact Nat.mul_div_le x (2 ^ k)
theorem hi_step (x k : Nat) : setB (hi x (k + 1)) k (bt x k) = hi x k :=
  ext_bt fun i => by
    rw [bt_setB _ _ _ _ (bt_le _ _), bt_hi, bt_hi]
    by_cases h : i = k
    · subst h; simp
    · rw [if_neg h]
      by_cases g : i < k
      · rw [if_pos g, if_pos (by omega)]
      · rw [if_neg g, if_neg (by omega)]
theorem hi_zero (x : Nat) : hi x 0 = x := by simp [hi]
theorem hi_all {x : Nat} (hx : x < 18446744073709551616) : hi x 64 = 0 := by
  unfold hi; rw [Nat.div_eq_of_lt (show x < 2 ^ 64 from hx)]
theorem ungray_step {x : Nat} (hx : x < 18446744073709551616) (k : Nat) : (bt (ungrayN x) (k + 1) + bt x k) % 2 = bt (ungrayN x) k := by
  have h := bt_gray (ungrayN x) k
  rw [gray_ungray hx] at h
  have := bt_le (ungrayN x) k
  have := bt_le (ungrayN x) (k + 1)
  omega

/-- x without its bit at. -/
def closeN (x a : Nat) : Nat := 2 ^ a * (x / 2 ^ a / 2) + x % 2 ^ a
/-- x with b put in at a place. -/
def openN (x a b : Nat) : Nat := 2 ^ a * (2 * (x / 2 ^ a) + b) + x % 2 ^ a
theorem mod_pow_lt (x a : Nat) : x % 2 ^ a < 2 ^ a := Nat.mod_lt _ (Nat.two_pow_pos a)
theorem bt_close (x a i : Nat) : bt (closeN x a) i = if i < a then bt x i else bt x (i + 1) := by
  unfold closeN
  rw [bt_mulp _ _ _ _ (mod_pow_lt x a), bt_modp]
  by_cases h : i < a
  · simp [h]
  · rw [if_neg h, if_neg h]
    have := bt_divp (x / 2 ^ a) 1 (i - a)
    rw [Nat.pow_one] at this
    rw [this, bt_divp]
    congr 1; omega
theorem bt_two (x b i : Nat) (hb : b ≤ 1) : bt (2 * x + b) i = if i = 0 then b else bt x (i - 1) := by
  have h := bt_mulp x 1 b i (by simp; omega)
  rw [Nat.pow_one] at h
  rw [h]
  by_cases g : i = 0
  · subst g
    rw [if_pos (by omega), if_pos rfl, bt_div]; simp; omega
  · rw [if_neg (by omega), if_neg g]
theorem bt_open (x a b i : Nat) (hb : b ≤ 1) : bt (openN x a b) i = if i < a then bt x i else if i = a then b else bt x (i - 1) := by
  unfold openN
  rw [bt_mulp _ _ _ _ (mod_pow_lt x a), bt_modp]
  by_cases h : i < a
  · simp [h]
  · rw [if_neg h, if_neg h, bt_two _ _ _ hb]
    by_cases g : i = a
    · rw [if_pos (by omega), if_pos g]
    · rw [if_neg (by omega), if_neg g, bt_divp]; congr 1; omega
theorem lt_pow_of_bt {x n : Nat} (h : ∀ i, n ≤ i → bt x i = 0) : x < 2 ^ n := lt_of_bits n fun i hi => bt_zero.1 (h i hi)
theorem close_lt {x : Nat} (a : Nat) (ha : a < 64) (hx : x < 18446744073709551616) : closeN x a < 9223372036854775808 :=
  lt_pow_of_bt (n := 63) fun i hi => by rw [bt_close, if_neg (by omega), bt_big hx (by omega)]
theorem open_lt {x : Nat} (a b : Nat) (ha : a < 64) (hb : b ≤ 1) (hx : x < 9223372036854775808) : openN x a b < 18446744073709551616 :=
  lt_pow_of_bt (n := 64) fun i hi => by
    rw [bt_open _ _ _ _ hb, if_neg (by omega), if_neg (by omega)]
    exact bt_zero.2 (Nat.testBit_lt_two_pow (Nat.lt_of_lt_of_le (show x < 2 ^ 63 from hx) (Nat.pow_le_pow_right (by decide) (by omega))))
theorem close_open (x a b : Nat) (hb : b ≤ 1) : closeN (openN x a b) a = x :=
  ext_bt fun i => by
    rw [bt_close, bt_open _ _ _ _ hb, bt_open _ _ _ _ hb]
    by_cases h : i < a
    · rw [if_pos h, if_pos h]
    · rw [if_neg h, if_neg (by omega), if_neg (by omega)]; rfl
theorem bt_open_at (x a b : Nat) (hb : b ≤ 1) : bt (openN x a b) a = b := by rw [bt_open _ _ _ _ hb]; simp
theorem open_close (x a : Nat) : openN (closeN x a) a (bt x a) = x :=
  ext_bt fun i => by
    rw [bt_open _ _ _ _ (bt_le _ _), bt_close, bt_close]
    by_cases h : i < a
    · rw [if_pos h, if_pos h]
    · rw [if_neg h]
      by_cases g : i = a
      · rw [if_pos g, g]
      · rw [if_neg g, if_neg (by omega)]; congr 1; omega
theorem mk_close {x : Nat} (a : Nat) (ha : a < 64) (hx : x < 18446744073709551616) : mk (fun i => if i < a then bt x i else bt x (i + 1)) 63 = closeN x a :=
  mk_is (fun i => by split <;> exact bt_le _ _) (by omega) (by have := close_lt a ha hx; omega) (fun i _ => bt_close x a i) (fun i h h' => by
    rw [bt_close]; split
    · omega
    · exact bt_big hx (by omega))
theorem mk_open {x : Nat} (a b : Nat) (ha : a < 64) (hb : b ≤ 1) (hx : x < 9223372036854775808) : mk (fun i => if i < a then bt x i else if i = a then b else bt x (i - 1)) 64 = openN x a b :=
  mk_is (fun i => by
    by_cases h : i < a
    · simp [h, bt_le]
    · by_cases g : i = a
      · simp [g, hb]
      · simp [h, g, bt_le]) (by omega) (open_lt a b ha hb hx) (fun i _ => bt_open x a b i hb) (fun i h h' => by omega)

/-- Two bits exchanged. -/
def swapN (x i j : Nat) : Nat := setB (setB x i (bt x j)) j (bt x i)
theorem swap_xor (x i j : Nat) : (x ^^^ (bt x i ^^^ bt x j) * 2 ^ i) ^^^ (bt x i ^^^ bt x j) * 2 ^ j = swapN x i j := by
  have hi := bt_le x i
  have hj := bt_le x j
  unfold swapN
  apply ext_bt
  intro k
  rw [bt_setB _ _ _ _ hi, bt_setB _ _ _ _ hj]
  by_cases h : bt x i = bt x j
  · rw [h, Nat.xor_self, Nat.zero_mul, Nat.zero_mul, Nat.xor_zero, Nat.xor_zero]
    by_cases e : k = j
    · simp [e]
    · by_cases e' : k = i
      · simp [e', h]
      · simp [e, e']
  · have e1 : bt x i ^^^ bt x j = 1 := by
      rcases (show bt x i = 0 ∨ bt x i = 1 by omega) with a | a <;> rcases (show bt x j = 0 ∨ bt x j = 1 by omega) with b | b <;> rw [a, b] <;> simp_all
    rw [e1, Nat.one_mul, Nat.one_mul, bt_xor_pow, bt_xor_pow, bt_xor_pow]
    by_cases e : k = j
    · subst e
      have hne : k ≠ i := fun g => h (by rw [g])
      simp only [if_true, if_neg hne]
      omega
    · rw [if_neg e, if_neg e]
      split
      · omega
      · rfl
theorem swap_lt {x : Nat} (i j : Nat) (hi : i < 64) (hj : j < 64) (hx : x < 18446744073709551616) : swapN x i j < 18446744073709551616 := setB_lt (setB_lt hx hi) hj

theorem ctz_is {x k : Nat} (hx : x < 18446744073709551616) (h0 : ∀ i, i < k → bt x i = 0) (h1 : bt x k = 1) : Lib.ctz 64 x = k := by
  have hne : x ≠ 0 := by rintro rfl; simp [bt] at h1
  obtain ⟨m, hm, hc⟩ := Lib.ctzFrom_spec 64 x (by omega) hx
  have e : Lib.ctz 64 x = Lib.ctzFrom 64 x := by simp [Lib.ctz, hne]
  rw [e]
  generalize Lib.ctzFrom 64 x = c at hm hc
  have b1 : bt x c = 1 := by
    rw [bt_div, hm, Nat.mul_div_cancel_left _ (Nat.two_pow_pos c)]; omega
  have b0 : ∀ i, i < c → bt x i = 0 := by
    intro i hi
    obtain ⟨d, rfl⟩ : ∃ d, c = i + (d + 1) := ⟨c - i - 1, by omega⟩
    rw [bt_div, hm, Nat.pow_add, Nat.mul_assoc, Nat.mul_div_cancel_left _ (Nat.two_pow_pos i), Nat.pow_succ, Nat.mul_comm (2 ^ d) 2, Nat.mul_assoc]
    omega
  rcases Nat.lt_trichotomy c k with h | h | h
  · have := h0 c h; omega
  · exact h
  · have := b0 k h; omega
theorem ctz_none {x : Nat} (hx : x < 18446744073709551616) (h0 : ∀ i, i < 64 → bt x i = 0) : Lib.ctz 64 x = 64 := by
  have : x = 0 := ext64 hx (by omega) fun i hi => by rw [h0 i hi, bt_nought]
  subst this; rfl

/-! ### What the walk's integers are -/
theorem or_mulp (a k b : Nat) (hb : b < 2 ^ k) : 2 ^ k * a ||| b = 2 ^ k * a + b := (Nat.two_pow_add_eq_or_of_lt hb a).symm
theorem i_close (x a : Nat) (hx : x < 18446744073709551616) (ha : a < 64) :
    bits .or .u64 (IntKind.u64.wrap (((x / 2 ^ a : Nat) : Int) / 2 * 2 ^ a)) ((x % 2 ^ a : Nat) : Int) = (closeN x a : Int) := by
  have hc := close_lt a ha hx
  have hl : 2 ^ a * (x / 2 ^ a / 2) < 18446744073709551616 := by unfold closeN at hc; omega
  have e : ((x / 2 ^ a : Nat) : Int) / 2 * 2 ^ a = ((2 ^ a * (x / 2 ^ a / 2) : Nat) : Int) := by push_cast; rw [Int.mul_comm]
  rw [e, i_wrap hl, i_or _ _ hl (Nat.lt_of_le_of_lt (Nat.mod_le _ _) hx), or_mulp _ _ _ (mod_pow_lt x a)]
  rfl
theorem i_open (x a b : Nat) (hx : x < 9223372036854775808) (ha : a < 64) (hb : b ≤ 1) :
    bits .or .u64 (bits .or .u64 (IntKind.u64.wrap (IntKind.u64.wrap (((x / 2 ^ a : Nat) : Int) * 2) * 2 ^ a)) (IntKind.u64.wrap ((b : Int) * 2 ^ a))) ((x % 2 ^ a : Nat) : Int) = (openN x a b : Int) := by
  have hc := open_lt a b ha hb hx
  have hp := pow_lt ha
  have hd : x / 2 ^ a ≤ x := Nat.div_le_self _ _
  have e1 : IntKind.u64.wrap (((x / 2 ^ a : Nat) : Int) * 2) = ((x / 2 ^ a * 2 : Nat) : Int) := by
    rw [IntKind.wrap_u64]; generalize x / 2 ^ a = d at hd; omega
  have hb2 : 2 ^ a * (2 * (x / 2 ^ a) + b) < 18446744073709551616 := by unfold openN at hc; omega
  have hl : x / 2 ^ a * 2 * 2 ^ a < 18446744073709551616 := by
    refine Nat.lt_of_le_of_lt ?_ hb2
    rw [Nat.mul_comm]
    exact Nat.mul_le_mul_left _ (by omega)
  have hlb : b * 2 ^ a < 18446744073709551616 := by
    refine Nat.lt_of_le_of_lt ?_ hp
    rcases (show b = 0 ∨ b = 1 by omega) with rfl | rfl <;> simp
  have e2 : ((x / 2 ^ a * 2 : Nat) : Int) * 2 ^ a = ((x / 2 ^ a * 2 * 2 ^ a : Nat) : Int) := by push_cast; rfl
  have e3 : (b : Int) * 2 ^ a = ((b * 2 ^ a : Nat) : Int) := by push_cast; rfl
  rw [e1, e2, e3, i_wrap hl, i_wrap hlb, i_or _ _ hl hlb, i_or _ _ (or_lt hl hlb) (Nat.lt_of_le_of_lt (Nat.mod_le _ _) (by omega))]
  have e4 : x / 2 ^ a * 2 * 2 ^ a ||| b * 2 ^ a = 2 ^ a * (2 * (x / 2 ^ a) + b) := by
    have h2 : x / 2 ^ a * 2 ||| b = 2 * (x / 2 ^ a) + b := by
      have := or_mulp (x / 2 ^ a) 1 b (by simp; omega)
      rw [Nat.pow_one] at this
      rw [Nat.mul_comm, this]
    rw [← h2, Nat.mul_comm (2 ^ a)]
    simp only [← Nat.shiftLeft_eq]
    rw [Nat.shiftLeft_or_distrib]
  rw [e4, or_mulp _ _ _ (mod_pow_lt x a)]
  rfl
theorem bt_xor_lt (x i y j : Nat) : bt x i ^^^ bt y j ≤ 1 := by
  have h1 := bt_le x i
  have h2 := bt_le y j
  rcases (show bt x i = 0 ∨ bt x i = 1 by omega) with a | a <;> rcases (show bt y j = 0 ∨ bt y j = 1 by omega) with b | b <;> rw [a, b] <;> decide
theorem bit_mul_lt {d : Nat} (hd : d ≤ 1) {i : Nat} (hi : i < 64) : d * 2 ^ i < 18446744073709551616 := by
  refine Nat.lt_of_le_of_lt ?_ (pow_lt hi)
  rcases (show d = 0 ∨ d = 1 by omega) with rfl | rfl <;> simp
theorem i_bitmul {d : Nat} (hd : d ≤ 1) {i : Nat} (hi : i < 64) : IntKind.u64.wrap ((d : Int) * 2 ^ i) = ((d * 2 ^ i : Nat) : Int) := by
  have e : (d : Int) * 2 ^ i = ((d * 2 ^ i : Nat) : Int) := by push_cast; rfl
  rw [e, i_wrap (bit_mul_lt hd hi)]
theorem i_bits (x i j : Nat) : bits .xor .u64 (bt x i : Int) (bt x j : Int) = ((bt x i ^^^ bt x j : Nat) : Int) :=
  i_xor _ _ (by have := bt_le x i; omega) (by have := bt_le x j; omega)
theorem i_swap (x i j : Nat) (hx : x < 18446744073709551616) (hi : i < 64) (hj : j < 64) :
    bits .xor .u64 (bits .xor .u64 (x : Int) (IntKind.u64.wrap (((bt x i ^^^ bt x j : Nat) : Int) * 2 ^ i))) (IntKind.u64.wrap (((bt x i ^^^ bt x j : Nat) : Int) * 2 ^ j)) = (swapN x i j : Int) := by
  have hd := bt_xor_lt x i x j
  rw [i_bitmul hd hi, i_bitmul hd hj, i_xor _ _ hx (bit_mul_lt hd hi), i_xor _ _ (xor_lt hx (bit_mul_lt hd hi)) (bit_mul_lt hd hj), swap_xor]
end Go.Proofs.Ytinkdonaedoojaa
