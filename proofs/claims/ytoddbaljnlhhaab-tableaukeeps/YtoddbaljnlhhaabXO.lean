/-
  Put together of: BMath BMath2 BMath3 D0.
-/
import Derived.Laws.BitsAllLaws
import Derived.Lib.TrailingZeros
import Derived.RowKit
import Derived.Test.YtoddbaljnlhhaabXN
namespace Go.Proofs.Ytoddbaljnlhhaab.BL
open Go.RowKit

/-- Bit j of x, as a number. -/
def bt (x j : Nat) : Nat := (x.testBit j).toNat
theorem bt_le (x j : Nat) : bt x j ≤ 1 := by unfold bt; cases x.testBit j <;> simp
theorem bt_div (x j : Nat) : bt x j = x / 2 ^ j % 2 := by unfold bt; exact Nat.toNat_testBit x j
theorem bt_inj {x y j : Nat} (h : bt x j = bt y j) : x.testBit j = y.testBit j := by
  unfold bt at h; cases hx : x.testBit j <;> cases hy : y.testBit j <;> simp [hx, hy] at h ⊢
theorem bt_one {x j : Nat} : bt x j = 1 ↔ x.testBit j = true := by unfold bt; cases x.testBit j <;> simp
theorem bt_zero {x j : Nat} : bt x j = 0 ↔ x.testBit j = false := by unfold bt; cases x.testBit j <;> simp
theorem ext_bt {x y : Nat} (h : ∀ i, bt x i = bt y i) : x = y := Nat.eq_of_testBit_eq fun i => bt_inj (h i)
theorem testBit_big {x i : Nat} (hx : x < 18446744073709551616) (hi : 64 ≤ i) : x.testBit i = false :=
  Nat.testBit_lt_two_pow (Nat.lt_of_lt_of_le (show x < 2 ^ 64 from hx) (Nat.pow_le_pow_right (by decide) hi))
theorem bt_big {x i : Nat} (hx : x < 18446744073709551616) (hi : 64 ≤ i) : bt x i = 0 := bt_zero.2 (testBit_big hx hi)
theorem ext64 {x y : Nat} (hx : x < 18446744073709551616) (hy : y < 18446744073709551616) (h : ∀ i, i < 64 → bt x i = bt y i) : x = y :=
  ext_bt fun i => if hi : i < 64 then h i hi else by rw [bt_big hx (by omega), bt_big hy (by omega)]
theorem pow_lt {j : Nat} (hj : j < 64) : 2 ^ j < 18446744073709551616 := Nat.pow_lt_pow_right (by decide) hj
theorem lt_of_bits {x : Nat} (n : Nat) (h : ∀ i, n ≤ i → x.testBit i = false) : x < 2 ^ n := Nat.lt_pow_two_of_testBit x h

/-- x with its bit j made b (as the reference's 'set'). -/
def setB (v j b : Nat) : Nat := if bt v j = b then v else v ^^^ 2 ^ j
theorem bt_xor_pow (v j i : Nat) : bt (v ^^^ 2 ^ j) i = if i = j then 1 - bt v j else bt v i := by
  unfold bt
  rw [Nat.testBit_xor, Nat.testBit_two_pow]
  by_cases h : i = j
  · subst h; simp; cases v.testBit i <;> simp
  · simp [h, Ne.symm h]
theorem bt_setB (v j b i : Nat) (hb : b ≤ 1) : bt (setB v j b) i = if i = j then b else bt v i := by
  unfold setB
  by_cases h : bt v j = b
  · rw [if_pos h]
    split
    · rename_i e; rw [e, h]
    · rfl
  · rw [if_neg h, bt_xor_pow]
    have := bt_le v j
    split <;> omega
theorem xor_lt {a b : Nat} (ha : a < 18446744073709551616) (hb : b < 18446744073709551616) : a ^^^ b < 18446744073709551616 := Nat.xor_lt_two_pow (n := 64) ha hb
theorem or_lt {a b : Nat} (ha : a < 18446744073709551616) (hb : b < 18446744073709551616) : a ||| b < 18446744073709551616 := Nat.or_lt_two_pow (n := 64) ha hb
theorem setB_lt {v j b : Nat} (hv : v < 18446744073709551616) (hj : j < 64) : setB v j b < 18446744073709551616 := by
  unfold setB; split
  · exact hv
  · exact xor_lt hv (pow_lt hj)

/-! ### What the walk's integers are -/
theorem div_pow (x j : Nat) : ((x : Int) / 2 ^ j) = ((x / 2 ^ j : Nat) : Int) := by simp
theorem lt_div {x : Nat} (j : Nat) (hx : x < 18446744073709551616) : x / 2 ^ j < 18446744073709551616 := Nat.lt_of_le_of_lt (Nat.div_le_self _ _) hx
theorem i_bit (x j : Nat) (hx : x < 18446744073709551616) : bits .and .u64 ((x : Int) / 2 ^ j) 1 = (bt x j : Int) := by
  rw [div_pow, show (1 : Int) = ((1 : Nat) : Int) from rfl, u64_and_nat _ _ (lt_div j hx) (by decide), Nat.and_one_is_mod, bt_div]
theorem i_bit0 (x : Nat) (hx : x < 18446744073709551616) : bits .and .u64 (x : Int) 1 = (bt x 0 : Int) := by
  have := i_bit x 0 hx; simpa using this
theorem wrap64_small {n : Int} (h0 : 0 ≤ n) (h1 : n < 9223372036854775808) : wrap64 n = n := by
  unfold wrap64; omega
theorem wrap64_bt (x j : Nat) : wrap64 (bt x j : Int) = (bt x j : Int) := wrap64_small (by omega) (by have := bt_le x j; omega)
theorem i_pow (j : Nat) (hj : j < 64) : IntKind.u64.wrap (2 ^ j) = ((2 ^ j : Nat) : Int) := by
  have h := pow_lt hj
  rw [IntKind.wrap_u64, show (2 : Int) ^ j = ((2 ^ j : Nat) : Int) by simp]
  generalize 2 ^ j = n at h
  omega
theorem i_low (x j : Nat) (hx : x < 18446744073709551616) (hj : j < 64) : bits .and .u64 (x : Int) (IntKind.u64.wrap (IntKind.u64.wrap (2 ^ j) - 1)) = ((x % 2 ^ j : Nat) : Int) := by
  have h := pow_lt hj
  have h1 : 1 ≤ 2 ^ j := Nat.one_le_two_pow
  have e : IntKind.u64.wrap (((2 ^ j : Nat) : Int) - 1) = ((2 ^ j - 1 : Nat) : Int) := by
    rw [IntKind.wrap_u64]
    generalize 2 ^ j = n at h h1
    omega
  rw [i_pow j hj, e, u64_and_nat _ _ hx (by omega), Nat.and_two_pow_sub_one_eq_mod]
theorem i_xor (a b : Nat) (ha : a < 18446744073709551616) (hb : b < 18446744073709551616) : bits .xor .u64 (a : Int) (b : Int) = ((a ^^^ b : Nat) : Int) := bits_xor_u64_nat a b ha hb
theorem i_or (a b : Nat) (ha : a < 18446744073709551616) (hb : b < 18446744073709551616) : bits .or .u64 (a : Int) (b : Int) = ((a ||| b : Nat) : Int) := u64_or_nat a b ha hb
theorem i_xor_pow (x j : Nat) (hx : x < 18446744073709551616) (hj : j < 64) : bits .xor .u64 (x : Int) (IntKind.u64.wrap (2 ^ j)) = ((x ^^^ 2 ^ j : Nat) : Int) := by
  rw [i_pow j hj, i_xor _ _ hx (pow_lt hj)]
theorem i_wrap {n : Nat} (h : n < 18446744073709551616) : IntKind.u64.wrap (n : Int) = (n : Int) := by rw [IntKind.wrap_u64]; omega

/-! ### Gray's order -/
def shx (k x : Nat) : Nat := x ^^^ x / 2 ^ k
def grayN (x : Nat) : Nat := shx 1 x
def ungrayN (x : Nat) : Nat := shx 32 (shx 16 (shx 8 (shx 4 (shx 2 (shx 1 x)))))
theorem tb_div (x k i : Nat) : (x / 2 ^ k).testBit i = x.testBit (k + i) := by rw [← Nat.shiftRight_eq_div_pow, Nat.testBit_shiftRight]
theorem tb_shx (k x i : Nat) : (shx k x).testBit i = (x.testBit i ^^ x.testBit (k + i)) := by
  unfold shx; rw [Nat.testBit_xor, tb_div]
theorem shx_twice (k x : Nat) : shx k (shx k x) = shx (2 * k) x := by
  apply Nat.eq_of_testBit_eq
  intro i
  simp only [tb_shx]
  rw [show 2 * k + i = k + (k + i) by omega]
  cases x.testBit i <;> cases x.testBit (k + i) <;> cases x.testBit (k + (k + i)) <;> rfl
theorem shx_comm (k l x : Nat) : shx k (shx l x) = shx l (shx k x) := by
  apply Nat.eq_of_testBit_eq
  intro i
  simp only [tb_shx]
  rw [show l + (k + i) = k + (l + i) by omega]
  cases x.testBit i <;> cases x.testBit (k + i) <;> cases x.testBit (l + i) <;> cases x.testBit (k + (l + i)) <;> rfl
theorem shx_lt {x : Nat} (k : Nat) (hx : x < 18446744073709551616) : shx k x < 18446744073709551616 := xor_lt hx (lt_div k hx)
theorem shx_64 {x : Nat} (hx : x < 18446744073709551616) : shx 64 x = x := by
  unfold shx; rw [Nat.div_eq_of_lt (show x < 2 ^ 64 from hx), Nat.xor_zero]
theorem ungray_gray {x : Nat} (hx : x < 18446744073709551616) : ungrayN (grayN x) = x := by
  unfold ungrayN grayN
  rw [shx_twice, shx_twice, shx_twice, shx_twice, shx_twice, shx_twice]
  exact shx_64 hx
theorem gray_ungray {x : Nat} (hx : x < 18446744073709551616) : grayN (ungrayN x) = x := by
  unfold ungrayN grayN
  rw [shx_comm 1 32, shx_comm 1 16, shx_comm 1 8, shx_comm 1 4, shx_comm 1 2]
  rw [shx_twice, shx_twice, shx_twice, shx_twice, shx_twice, shx_twice]
  exact shx_64 hx
theorem gray_lt {x : Nat} (hx : x < 18446744073709551616) : grayN x < 18446744073709551616 := shx_lt 1 hx
theorem ungray_lt {x : Nat} (hx : x < 18446744073709551616) : ungrayN x < 18446744073709551616 :=
  shx_lt _ (shx_lt _ (shx_lt _ (shx_lt _ (shx_lt _ (shx_lt _ hx)))))
theorem i_shx (k x : Nat) (hx : x < 18446744073709551616) : bits .xor .u64 (x : Int) ((x : Int) / 2 ^ k) = (shx k x : Int) := by
  rw [div_pow, i_xor _ _ hx (lt_div k hx)]; rfl

theorem xor_two (a b c d : Nat) (hb : b < 2) (hd : d < 2) : (2 * a + b) ^^^ (2 * c + d) = 2 * (a ^^^ c) + (b + d) % 2 := by
  apply Nat.eq_of_testBit_eq
  intro i
  cases i with
  | zero =>
    rw [Nat.testBit_xor, Nat.testBit_zero, Nat.testBit_zero, Nat.testBit_zero]
    have h1 : (2 * a + b) % 2 = b := by omega
    have h2 : (2 * c + d) % 2 = d := by omega
    have h3 : (2 * (a ^^^ c) + (b + d) % 2) % 2 = (b + d) % 2 := by omega
    rw [h1, h2, h3]
    rcases (show b = 0 ∨ b = 1 by omega) with rfl | rfl <;> rcases (show d = 0 ∨ d = 1 by omega) with rfl | rfl <;> rfl
  | succ i =>
    rw [Nat.testBit_xor, Nat.testBit_succ, Nat.testBit_succ, Nat.testBit_succ]
    have h1 : (2 * a + b) / 2 = a := by omega
    have h2 : (2 * c + d) / 2 = c := by omega
    have h3 : (2 * (a ^^^ c) + (b + d) % 2) / 2 = a ^^^ c := by omega
    rw [h1, h2, h3, Nat.testBit_xor]
theorem gray_two (z b : Nat) (hb : b < 2) : grayN (2 * z + b) = 2 * grayN z + (b + z % 2) % 2 := by
  unfold grayN shx
  rw [Nat.pow_one]
  have h1 : (2 * z + b) / 2 = 2 * (z / 2) + z % 2 := by omega
  rw [h1, xor_two _ _ _ _ hb (by omega)]
theorem gray_next : ∀ (n x : Nat), x < n → ∃ k, grayN x ^^^ grayN (x + 1) = 2 ^ k
  | 0, _, h => by omega
  | n + 1, x, h => by
    obtain ⟨y, hy⟩ : ∃ y, y = x / 2 := ⟨_, rfl⟩
    rcases (show x = 2 * y ∨ x = 2 * y + 1 by omega) with rfl | rfl
    · refine ⟨0, ?_⟩
      have e1 := gray_two y 0 (by omega)
      have e2 := gray_two y 1 (by omega)
      rw [Nat.add_zero] at e1
      rw [e1, e2, xor_two _ _ _ _ (by omega) (by omega), Nat.xor_self]
      omega
    · obtain ⟨k, hk⟩ := gray_next n y (by omega)
      refine ⟨k + 1, ?_⟩
      have e1 := gray_two y 1 (by omega)
      have e2 := gray_two (y + 1) 0 (by omega)
      rw [Nat.add_zero] at e2
      rw [e1, show 2 * y + 1 + 1 = 2 * (y + 1) by omega, e2, xor_two _ _ _ _ (by omega) (by omega), hk, Nat.pow_succ]
      omega

/-! ### How many ones -/
/-- The ones among the lowest n bits. -/
def pop : Nat → Nat → Nat
  | 0, _ => 0
  | n + 1, x => pop n x + bt x n
theorem pop_le (n x : Nat) : pop n x ≤ n := by
  induction n with
  | zero => simp [pop]
  | succ n ih => have := bt_le x n; simp only [pop]; omega
theorem pop_add (m n x : Nat) : pop (m + n) x = pop m x + pop n (x / 2 ^ m) := by
  induction n with
  | zero => simp [pop]
  | succ n ih =>
    rw [← Nat.add_assoc]
    simp only [pop]
    rw [ih]
    have : bt (x / 2 ^ m) n = bt x (m + n) := by unfold bt; rw [tb_div]
    omega
theorem pop_mod (n x : Nat) : ∀ m, n ≤ m → pop n (x % 2 ^ m) = pop n x := by
  induction n with
  | zero => intros; rfl
  | succ n ih =>
    intro m h
    simp only [pop]
    rw [ih m (by omega)]
    have : bt (x % 2 ^ m) n = bt x n := by unfold bt; rw [Nat.testBit_mod_two_pow]; simp [show n < m by omega]
    omega
theorem pop_zero (n : Nat) : pop n 0 = 0 := by
  induction n with
  | zero => rfl
  | succ n ih => simp only [pop]; rw [ih]; simp [bt]
theorem pop_pow (n k : Nat) : pop n (2 ^ k) = if k < n then 1 else 0 := by
  induction n with
  | zero => simp [pop]
  | succ n ih =>
    simp only [pop]
    rw [ih]
    have : bt (2 ^ k) n = if k = n then 1 else 0 := by
      unfold bt; rw [Nat.testBit_two_pow]; by_cases h : k = n <;> simp [h]
    rw [this]
    split <;> split <;> split <;> omega

/-- Bytes, the lowest first, as a number. -/
def hb : List Nat → Nat
  | [] => 0
  | a :: l => 256 * hb l + a
theorem and_byte (a b m n : Nat) (ha : a < 256) (hm : m < 256) : (256 * b + a) &&& (256 * n + m) = 256 * (b &&& n) + (a &&& m) := by
  have hand : a &&& m < 2 ^ 8 := Nat.and_lt_two_pow a hm
  apply Nat.eq_of_testBit_eq
  intro i
  rw [show (256 : Nat) = 2 ^ 8 from rfl, Nat.testBit_and, Nat.testBit_two_pow_mul_add _ ha, Nat.testBit_two_pow_mul_add _ hm, Nat.testBit_two_pow_mul_add _ hand]
  split
  · rw [Nat.testBit_and]
  · rw [Nat.testBit_and]
theorem hb_and (m : Nat) (hm : m < 256) : ∀ l : List Nat, (∀ a ∈ l, a < 256) → hb l &&& hb (l.map fun _ => m) = hb (l.map fun a => a &&& m)
  | [], _ => by simp [hb]
  | a :: l, h => by
    simp only [List.map_cons, hb]
    rw [and_byte _ _ _ _ (h a (by simp)) hm, hb_and m hm l fun x hx => h x (by simp [hx])]
theorem small1 : ∀ c : Fin 2, ∀ a : Fin 256, (128 * c.val + a.val / 2) &&& 85 = (a.val / 2 &&& 85) := by decide +kernel
theorem small2 : ∀ c : Fin 4, ∀ a : Fin 256, (64 * c.val + a.val / 4) &&& 51 = (a.val / 4 &&& 51) := by decide +kernel
theorem hb_half : ∀ l : List Nat, (∀ a ∈ l, a < 256) → hb l / 2 &&& hb (l.map fun _ => 85) = hb (l.map fun a => a / 2 &&& 85)
  | [], _ => rfl
  | a :: l, h => by
    have ha := h a (by simp)
    simp only [List.map_cons, hb]
    have e : (256 * hb l + a) / 2 = 256 * (hb l / 2) + (128 * (hb l % 2) + a / 2) := by omega
    rw [e, and_byte _ _ _ _ (by omega) (by decide), hb_half l fun x hx => h x (by simp [hx]), small1 ⟨hb l % 2, by omega⟩ ⟨a, ha⟩]
theorem hb_quarter : ∀ l : List Nat, (∀ a ∈ l, a < 256) → hb l / 4 &&& hb (l.map fun _ => 51) = hb (l.map fun a => a / 4 &&& 51)
  | [], _ => rfl
  | a :: l, h => by
    have ha := h a (by simp)
    simp only [List.map_cons, hb]
    have e : (256 * hb l + a) / 4 = 256 * (hb l / 4) + (64 * (hb l % 4) + a / 4) := by omega
    rw [e, and_byte _ _ _ _ (by omega) (by decide), hb_quarter l fun x hx => h x (by simp [hx]), small2 ⟨hb l % 4, by omega⟩ ⟨a, ha⟩]
theorem hb_add (f g : Nat → Nat) : ∀ l : List Nat, hb (l.map f) + hb (l.map g) = hb (l.map fun a => f a + g a)
  | [] => rfl
  | a :: l => by
    simp only [List.map_cons, hb]
    rw [← hb_add f g l]
    omega
theorem hb_nib : ∀ l : List Nat, (∀ a ∈ l, a / 16 ≤ 4 ∧ a % 16 ≤ 4) → hb l % 16 ≤ 4
  | [], _ => by decide
  | a :: l, h => by have := (h a (by simp)).2; simp only [hb]; omega
theorem hb_sixteenth : ∀ l : List Nat, (∀ a ∈ l, a / 16 ≤ 4 ∧ a % 16 ≤ 4) → (hb l / 16 + hb l) &&& hb (l.map fun _ => 15) = hb (l.map fun a => a / 16 + a % 16)
  | [], _ => rfl
  | a :: l, h => by
    have ha := h a (by simp)
    have hl : ∀ x ∈ l, x / 16 ≤ 4 ∧ x % 16 ≤ 4 := fun x hx => h x (by simp [hx])
    have hn := hb_nib l hl
    simp only [List.map_cons, hb]
    have e : (256 * hb l + a) / 16 + (256 * hb l + a) = 256 * (hb l / 16 + hb l) + (16 * (hb l % 16) + a / 16 + a) := by omega
    have e15 : (16 * (hb l % 16) + a / 16 + a) &&& 15 = a / 16 + a % 16 := by
      have := Nat.and_two_pow_sub_one_eq_mod (16 * (hb l % 16) + a / 16 + a) 4
      rw [show (15 : Nat) = 2 ^ 4 - 1 from rfl, this]
      omega
    rw [e, and_byte _ _ _ _ (by omega) (by decide), hb_sixteenth l hl, e15]

def sw1 (x : Nat) : Nat := (x / 2 &&& 6148914691236517205) + (x &&& 6148914691236517205)
def sw2 (x : Nat) : Nat := (x / 4 &&& 3689348814741910323) + (x &&& 3689348814741910323)
def sw3 (x : Nat) : Nat := (x / 16 + x) &&& 1085102592571150095
def b1 (a : Nat) : Nat := (a / 2 &&& 85) + (a &&& 85)
def b2 (a : Nat) : Nat := (a / 4 &&& 51) + (a &&& 51)
def b3 (a : Nat) : Nat := a / 16 + a % 16
theorem b1_lt : ∀ a : Fin 256, b1 a.val < 256 := by decide +kernel
theorem b2_nib : ∀ a : Fin 256, b2 (b1 a.val) / 16 ≤ 4 ∧ b2 (b1 a.val) % 16 ≤ 4 := by decide +kernel
theorem b3_pop : ∀ a : Fin 256, b3 (b2 (b1 a.val)) = pop 8 a.val := by decide +kernel
theorem b3_le : ∀ a : Fin 256, b3 (b2 (b1 a.val)) ≤ 8 := by decide +kernel

theorem bytes_of (x : Nat) (hx : x < 18446744073709551616) :
    ∃ a b c d e f g h, a < 256 ∧ b < 256 ∧ c < 256 ∧ d < 256 ∧ e < 256 ∧ f < 256 ∧ g < 256 ∧ h < 256 ∧ x = hb [a, b, c, d, e, f, g, h] :=
  ⟨x % 256, x / 256 % 256, x / 65536 % 256, x / 16777216 % 256, x / 4294967296 % 256, x / 1099511627776 % 256, x / 281474976710656 % 256, x / 72057594037927936, by omega, by omega, by omega, by omega, by omega, by omega, by omega, by omega, by simp only [hb]; omega⟩
theorem pop_hb (l : List Nat) (hl : ∀ a ∈ l, a < 256) : pop (8 * l.length) (hb l) = (l.map (pop 8)).sum := by
  induction l with
  | nil => rfl
  | cons a l ih =>
    rw [List.length_cons, show 8 * (l.length + 1) = 8 + 8 * l.length by omega, pop_add]
    have ha := hl a (by simp)
    have e : hb (a :: l) / 2 ^ 8 = hb l := by simp only [hb]; omega
    have e2 : pop 8 (hb (a :: l)) = pop 8 a := by
      rw [← pop_mod 8 (hb (a :: l)) 8 (Nat.le_refl _)]
      congr 1
      simp only [hb]; omega
    rw [e, e2, ih fun x hx => hl x (by simp [hx])]
    simp

def sw (x : Nat) : Nat := sw3 (sw2 (sw1 x))
def sum8 (y : Nat) : Nat := (y + y / 256) + (y + y / 256) / 65536 + ((y + y / 256) + (y + y / 256) / 65536) / 4294967296
theorem sw_hb (l : List Nat) (h8 : l.length = 8) (hl : ∀ a ∈ l, a < 256) : sw (hb l) = hb (l.map fun a => b3 (b2 (b1 a))) := by
  have m1 : hb (l.map fun _ => 85) = 6148914691236517205 := by
    match l, h8 with
    | [_, _, _, _, _, _, _, _], _ => simp [hb]
  have m2 : hb (l.map fun _ => 51) = 3689348814741910323 := by
    match l, h8 with
    | [_, _, _, _, _, _, _, _], _ => simp [hb]
  have m3 : hb (l.map fun _ => 15) = 1085102592571150095 := by
    match l, h8 with
    | [_, _, _, _, _, _, _, _], _ => simp [hb]
  have s1 : sw1 (hb l) = hb (l.map b1) := by
    unfold sw1
    rw [← m1, hb_half l hl, hb_and 85 (by decide) l hl, hb_add]
    rfl
  have l1 : ∀ a ∈ l.map b1, a < 256 := by
    intro a ha
    obtain ⟨x, hx, rfl⟩ := List.mem_map.1 ha
    exact b1_lt ⟨x, hl x hx⟩
  have k2 : hb ((l.map b1).map fun _ => 51) = 3689348814741910323 := by rw [List.map_map]; exact m2
  have s2 : sw2 (hb (l.map b1)) = hb ((l.map b1).map b2) := by
    unfold sw2
    rw [← k2, hb_quarter _ l1, hb_and 51 (by decide) _ l1, hb_add]
    rfl
  have l2 : ∀ a ∈ (l.map b1).map b2, a / 16 ≤ 4 ∧ a % 16 ≤ 4 := by
    intro a ha
    obtain ⟨y, hy, rfl⟩ := List.mem_map.1 ha
    obtain ⟨x, hx, rfl⟩ := List.mem_map.1 hy
    exact b2_nib ⟨x, hl x hx⟩
  have k3 : hb (((l.map b1).map b2).map fun _ => 15) = 1085102592571150095 := by rw [List.map_map, List.map_map]; exact m3
  unfold sw sw3
  rw [s1, s2, ← k3, hb_sixteenth _ l2, List.map_map, List.map_map]
  rfl
theorem sum_bytes (a b c d e f g h : Nat) (ha : a ≤ 8) (hb1 : b ≤ 8) (hc : c ≤ 8) (hd : d ≤ 8) (he : e ≤ 8) (hf : f ≤ 8) (hg : g ≤ 8) (hh : h ≤ 8) :
    sum8 (hb [a, b, c, d, e, f, g, h]) % 128 = a + b + c + d + e + f + g + h ∧ sum8 (hb [a, b, c, d, e, f, g, h]) < 9223372036854775808 := by
  unfold sum8
  have e1 : hb [a, b, c, d, e, f, g, h] + hb [a, b, c, d, e, f, g, h] / 256 = hb [a + b, b + c, c + d, d + e, e + f, f + g, g + h, h] := by
    simp only [hb]; omega
  rw [e1]
  have e2 : hb [a + b, b + c, c + d, d + e, e + f, f + g, g + h, h] + hb [a + b, b + c, c + d, d + e, e + f, f + g, g + h, h] / 65536 = hb [a + b + c + d, b + c + d + e, c + d + e + f, d + e + f + g, e + f + g + h, f + g + h, g + h, h] := by
    simp only [hb]; omega
  rw [e2]
  have e3 : hb [a + b + c + d, b + c + d + e, c + d + e + f, d + e + f + g, e + f + g + h, f + g + h, g + h, h] + hb [a + b + c + d, b + c + d + e, c + d + e + f, d + e + f + g, e + f + g + h, f + g + h, g + h, h] / 4294967296 = 256 * hb [b + c + d + e + f + g + h, c + d + e + f + g + h, d + e + f + g + h, e + f + g + h, f + g + h, g + h, h] + (a + b + c + d + e + f + g + h) := by
    simp only [hb]; omega
  rw [e3]
  constructor
  · omega
  · simp only [hb]; omega
theorem count_is (x : Nat) (hx : x < 18446744073709551616) : sum8 (sw x) % 128 = pop 64 x ∧ sum8 (sw x) < 9223372036854775808 ∧ sw x < 1152921504606846976 := by
  obtain ⟨a, b, c, d, e, f, g, h, h1, h2, h3, h4, h5, h6, h7, h8, rfl⟩ := bytes_of x hx
  have hl : ∀ y ∈ [a, b, c, d, e, f, g, h], y < 256 := by simp only [List.mem_cons, List.not_mem_nil, or_false]; intro y hy; omega
  rw [sw_hb _ rfl hl]
  have p := pop_hb [a, b, c, d, e, f, g, h] hl
  have q1 := b3_le ⟨a, h1⟩
  have q2 := b3_le ⟨b, h2⟩
  have q3 := b3_le ⟨c, h3⟩
  have q4 := b3_le ⟨d, h4⟩
  have q5 := b3_le ⟨e, h5⟩
  have q6 := b3_le ⟨f, h6⟩
  have q7 := b3_le ⟨g, h7⟩
  have q8 := b3_le ⟨h, h8⟩
  have r1 := b3_pop ⟨a, h1⟩
  have r2 := b3_pop ⟨b, h2⟩
  have r3 := b3_pop ⟨c, h3⟩
  have r4 := b3_pop ⟨d, h4⟩
  have r5 := b3_pop ⟨e, h5⟩
  have r6 := b3_pop ⟨f, h6⟩
  have r7 := b3_pop ⟨g, h7⟩
  have r8 := b3_pop ⟨h, h8⟩
  simp only at q1 q2 q3 q4 q5 q6 q7 q8 r1 r2 r3 r4 r5 r6 r7 r8
  simp only [List.map_cons, List.map_nil]
  obtain ⟨s1, s2⟩ := sum_bytes _ _ _ _ _ _ _ _ q1 q2 q3 q4 q5 q6 q7 q8
  refine ⟨?_, s2, ?_⟩
  · rw [s1, r1, r2, r3, r4, r5, r6, r7, r8]
    have p' : pop 64 (hb [a, b, c, d, e, f, g, h]) = _ := p
    rw [p']
    simp only [List.map_cons, List.map_nil, List.sum_cons, List.sum_nil]
    omega
  · simp only [hb]; omega
end Go.Proofs.Ytoddbaljnlhhaab.BL
namespace Go.Proofs.Ytoddbaljnlhhaab.BL
open Go.RowKit

/-- The number whose bits below k are f's. -/
def mk (f : Nat → Nat) : Nat → Nat
  | 0 => 0
  | k + 1 => setB (mk f k) k (f k)
theorem bt_mk (f : Nat → Nat) (hf : ∀ i, f i ≤ 1) (k i : Nat) : bt (mk f k) i = if i < k then f i else 0 := by
  induction k with
  | zero => simp [mk, bt]
  | succ k ih =>
    simp only [mk]
    rw [bt_setB _ _ _ _ (hf k), ih]
    by_cases h : i = k
    · subst h; simp
    · rw [if_neg h]
      by_cases g : i < k
      · rw [if_pos g, if_pos (by omega)]
      · rw [if_neg g, if_neg (by omega)]
theorem mk_lt (f : Nat → Nat) (k : Nat) (hk : k ≤ 64) : mk f k < 18446744073709551616 := by
  induction k with
  | zero => simp [mk]
  | succ k ih => exact setB_lt (ih (by omega)) (by omega)
theorem mk_is {f : Nat → Nat} {y k : Nat} (hf : ∀ i, f i ≤ 1) (hk : k ≤ 64) (hy : y < 18446744073709551616) (h1 : ∀ i, i < k → bt y i = f i) (h2 : ∀ i, k ≤ i → i < 64 → bt y i = 0) : mk f k = y :=
  ext64 (mk_lt f k hk) hy fun i hi => by
    rw [bt_mk f hf]
    by_cases h : i < k
    · rw [if_pos h, h1 i h]
    · rw [if_neg h, h2 i (by omega) hi]

theorem bt_xor (a b i : Nat) : bt (a ^^^ b) i = (bt a i + bt b i) % 2 := by
  unfold bt; rw [Nat.testBit_xor]; cases a.testBit i <;> cases b.testBit i <;> rfl
theorem bt_or (a b i : Nat) : bt (a ||| b) i = max (bt a i) (bt b i) := by
  unfold bt; rw [Nat.testBit_or]; cases a.testBit i <;> cases b.testBit i <;> rfl
theorem bt_divp (x k i : Nat) : bt (x / 2 ^ k) i = bt x (k + i) := by unfold bt; rw [tb_div]
theorem bt_modp (x k i : Nat) : bt (x % 2 ^ k) i = if i < k then bt x i else 0 := by
  unfold bt; rw [Nat.testBit_mod_two_pow]; by_cases h : i < k <;> simp [h]
theorem bt_mulp (a k b i : Nat) (hb : b < 2 ^ k) : bt (2 ^ k * a + b) i = if i < k then bt b i else bt a (i - k) := by
  unfold bt; rw [Nat.testBit_two_pow_mul_add _ hb]; by_cases h : i < k <;> simp [h]
theorem bt_pow (k i : Nat) : bt (2 ^ k) i = if i = k then 1 else 0 := by
  unfold bt; rw [Nat.testBit_two_pow]; by_cases h : k = i
  · simp [h]
  · simp [h, Ne.symm h]
theorem bt_nought (i : Nat) : bt 0 i = 0 := by simp [bt]

theorem bt_gray (x i : Nat) : bt (grayN x) i = (bt x i + bt x (i + 1)) % 2 := by
  unfold grayN shx; rw [bt_xor, bt_divp, Nat.add_comm 1]
theorem mk_gray {x : Nat} (hx : x < 18446744073709551616) : mk (fun i => (bt x i + bt x (i + 1)) % 2) 64 = grayN x :=
  mk_is (fun i => by omega) (by omega) (gray_lt hx) (fun i _ => bt_gray x i) (fun i h h' => by omega)

/-- x's bits from k on, where they are. -/
def hi (x k : Nat) : Nat := 2 ^ k * (x / 2 ^ k) + 0
theorem bt_hi (x k i : Nat) : bt (hi x k) i = if i < k then 0 else bt x i := by
  unfold hi
  rw [bt_mulp _ _ _ _ (Nat.two_pow_pos k), bt_nought, bt_divp]
  by_cases h : i < k
  · simp [h]
  · rw [if_neg h, if_neg h, show k + (i - k) = i by omega]
theorem hi_le (x k : Nat) : hi x k ≤ x := by unfold hi; exact Nat.mul_div_le x (2 ^ k)
theorem hi_step (x k : Nat) : setB (hi x (k + 1)) k (bt x k) = hi x k :=
  ext_bt fun i => by
    rw [bt_setB _ _ _ _ (bt_le _ _), bt_hi, bt_hi]
    by_cases h : i = k
    · subst h; simp
    · rw [if_neg h]
      by_cases g : i < k
      · rw [if_pos g, if_pos (by omega)]
      · rw [if_neg g, if_neg (by omega)]
theorem hi_zero (x : Nat) : hi x 0 = x := by simp [hi]
theorem hi_all {x : Nat} (hx : x < 18446744073709551616) : hi x 64 = 0 := by
  unfold hi; rw [Nat.div_eq_of_lt (show x < 2 ^ 64 from hx)]
theorem ungray_step {x : Nat} (hx : x < 18446744073709551616) (k : Nat) : (bt (ungrayN x) (k + 1) + bt x k) % 2 = bt (ungrayN x) k := by
  have h := bt_gray (ungrayN x) k
  rw [gray_ungray hx] at h
  have := bt_le (ungrayN x) k
  have := bt_le (ungrayN x) (k + 1)
  omega

/-- x without its bit at. -/
def closeN (x a : Nat) : Nat := 2 ^ a * (x / 2 ^ a / 2) + x % 2 ^ a
/-- x with b put in at a place. -/
def openN (x a b : Nat) : Nat := 2 ^ a * (2 * (x / 2 ^ a) + b) + x % 2 ^ a
theorem mod_pow_lt (x a : Nat) : x % 2 ^ a < 2 ^ a := Nat.mod_lt _ (Nat.two_pow_pos a)
theorem bt_close (x a i : Nat) : bt (closeN x a) i = if i < a then bt x i else bt x (i + 1) := by
  unfold closeN
  rw [bt_mulp _ _ _ _ (mod_pow_lt x a), bt_modp]
  by_cases h : i < a
  · simp [h]
  · rw [if_neg h, if_neg h]
    have := bt_divp (x / 2 ^ a) 1 (i - a)
    rw [Nat.pow_one] at this
    rw [this, bt_divp]
    congr 1; omega
theorem bt_two (x b i : Nat) (hb : b ≤ 1) : bt (2 * x + b) i = if i = 0 then b else bt x (i - 1) := by
  have h := bt_mulp x 1 b i (by simp; omega)
  rw [Nat.pow_one] at h
  rw [h]
  by_cases g : i = 0
  · subst g
    rw [if_pos (by omega), if_pos rfl, bt_div]; simp; omega
  · rw [if_neg (by omega), if_neg g]
theorem bt_open (x a b i : Nat) (hb : b ≤ 1) : bt (openN x a b) i = if i < a then bt x i else if i = a then b else bt x (i - 1) := by
  unfold openN
  rw [bt_mulp _ _ _ _ (mod_pow_lt x a), bt_modp]
  by_cases h : i < a
  · simp [h]
  · rw [if_neg h, if_neg h, bt_two _ _ _ hb]
    by_cases g : i = a
    · rw [if_pos (by omega), if_pos g]
    · rw [if_neg (by omega), if_neg g, bt_divp]; congr 1; omega
theorem lt_pow_of_bt {x n : Nat} (h : ∀ i, n ≤ i → bt x i = 0) : x < 2 ^ n := lt_of_bits n fun i hi => bt_zero.1 (h i hi)
theorem close_lt {x : Nat} (a : Nat) (ha : a < 64) (hx : x < 18446744073709551616) : closeN x a < 9223372036854775808 :=
  lt_pow_of_bt (n := 63) fun i hi => by rw [bt_close, if_neg (by omega), bt_big hx (by omega)]
theorem open_lt {x : Nat} (a b : Nat) (ha : a < 64) (hb : b ≤ 1) (hx : x < 9223372036854775808) : openN x a b < 18446744073709551616 :=
  lt_pow_of_bt (n := 64) fun i hi => by
    rw [bt_open _ _ _ _ hb, if_neg (by omega), if_neg (by omega)]
    exact bt_zero.2 (Nat.testBit_lt_two_pow (Nat.lt_of_lt_of_le (show x < 2 ^ 63 from hx) (Nat.pow_le_pow_right (by decide) (by omega))))
theorem close_open (x a b : Nat) (hb : b ≤ 1) : closeN (openN x a b) a = x :=
  ext_bt fun i => by
    rw [bt_close, bt_open _ _ _ _ hb, bt_open _ _ _ _ hb]
    by_cases h : i < a
    · rw [if_pos h, if_pos h]
    · rw [if_neg h, if_neg (by omega), if_neg (by omega)]; rfl
theorem bt_open_at (x a b : Nat) (hb : b ≤ 1) : bt (openN x a b) a = b := by rw [bt_open _ _ _ _ hb]; simp
theorem open_close (x a : Nat) : openN (closeN x a) a (bt x a) = x :=
  ext_bt fun i => by
    rw [bt_open _ _ _ _ (bt_le _ _), bt_close, bt_close]
    by_cases h : i < a
    · rw [if_pos h, if_pos h]
    · rw [if_neg h]
      by_cases g : i = a
      · rw [if_pos g, g]
      · rw [if_neg g, if_neg (by omega)]; congr 1; omega
theorem mk_close {x : Nat} (a : Nat) (ha : a < 64) (hx : x < 18446744073709551616) : mk (fun i => if i < a then bt x i else bt x (i + 1)) 63 = closeN x a :=
  mk_is (fun i => by split <;> exact bt_le _ _) (by omega) (by have := close_lt a ha hx; omega) (fun i _ => bt_close x a i) (fun i h h' => by
    rw [bt_close]; split
    · omega
    · exact bt_big hx (by omega))
theorem mk_open {x : Nat} (a b : Nat) (ha : a < 64) (hb : b ≤ 1) (hx : x < 9223372036854775808) : mk (fun i => if i < a then bt x i else if i = a then b else bt x (i - 1)) 64 = openN x a b :=
  mk_is (fun i => by
    by_cases h : i < a
    · simp [h, bt_le]
    · by_cases g : i = a
      · simp [g, hb]
      · simp [h, g, bt_le]) (by omega) (open_lt a b ha hb hx) (fun i _ => bt_open x a b i hb) (fun i h h' => by omega)

/-- Two bits exchanged. -/
def swapN (x i j : Nat) : Nat := setB (setB x i (bt x j)) j (bt x i)
theorem swap_xor (x i j : Nat) : (x ^^^ (bt x i ^^^ bt x j) * 2 ^ i) ^^^ (bt x i ^^^ bt x j) * 2 ^ j = swapN x i j := by
  have hi := bt_le x i
  have hj := bt_le x j
  unfold swapN
  apply ext_bt
  intro k
  rw [bt_setB _ _ _ _ hi, bt_setB _ _ _ _ hj]
  by_cases h : bt x i = bt x j
  · rw [h, Nat.xor_self, Nat.zero_mul, Nat.zero_mul, Nat.xor_zero, Nat.xor_zero]
    by_cases e : k = j
    · simp [e]
    · by_cases e' : k = i
      · simp [e', h]
      · simp [e, e']
  · have e1 : bt x i ^^^ bt x j = 1 := by
      rcases (show bt x i = 0 ∨ bt x i = 1 by omega) with a | a <;> rcases (show bt x j = 0 ∨ bt x j = 1 by omega) with b | b <;> rw [a, b] <;> simp_all
    rw [e1, Nat.one_mul, Nat.one_mul, bt_xor_pow, bt_xor_pow, bt_xor_pow]
    by_cases e : k = j
    · subst e
      have hne : k ≠ i := fun g => h (by rw [g])
      simp only [if_true, if_neg hne]
      omega
    · rw [if_neg e, if_neg e]
      split
      · omega
      · rfl
theorem swap_lt {x : Nat} (i j : Nat) (hi : i < 64) (hj : j < 64) (hx : x < 18446744073709551616) : swapN x i j < 18446744073709551616 := setB_lt (setB_lt hx hi) hj

theorem ctz_is {x k : Nat} (hx : x < 18446744073709551616) (h0 : ∀ i, i < k → bt x i = 0) (h1 : bt x k = 1) : Lib.ctz 64 x = k := by
  have hne : x ≠ 0 := by rintro rfl; simp [bt] at h1
  obtain ⟨m, hm, hc⟩ := Lib.ctzFrom_spec 64 x (by omega) hx
  have e : Lib.ctz 64 x = Lib.ctzFrom 64 x := by simp [Lib.ctz, hne]
  rw [e]
  generalize Lib.ctzFrom 64 x = c at hm hc
  have b1 : bt x c = 1 := by
    rw [bt_div, hm, Nat.mul_div_cancel_left _ (Nat.two_pow_pos c)]; omega
  have b0 : ∀ i, i < c → bt x i = 0 := by
    intro i hi
    obtain ⟨d, rfl⟩ : ∃ d, c = i + (d + 1) := ⟨c - i - 1, by omega⟩
    rw [bt_div, hm, Nat.pow_add, Nat.mul_assoc, Nat.mul_div_cancel_left _ (Nat.two_pow_pos i), Nat.pow_succ, Nat.mul_comm (2 ^ d) 2, Nat.mul_assoc]
    omega
  rcases Nat.lt_trichotomy c k with h | h | h
  · have := h0 c h; omega
  · exact h
  · have := b0 k h; omega
theorem ctz_none {x : Nat} (hx : x < 18446744073709551616) (h0 : ∀ i, i < 64 → bt x i = 0) : Lib.ctz 64 x = 64 := by
  have : x = 0 := ext64 hx (by omega) fun i hi => by rw [h0 i hi, bt_nought]
  subst this; rfl

/-! ### What the walk's integers are -/
theorem or_mulp (a k b : Nat) (hb : b < 2 ^ k) : 2 ^ k * a ||| b = 2 ^ k * a + b := (Nat.two_pow_add_eq_or_of_lt hb a).symm
theorem i_close (x a : Nat) (hx : x < 18446744073709551616) (ha : a < 64) :
    bits .or .u64 (IntKind.u64.wrap (((x / 2 ^ a : Nat) : Int) / 2 * 2 ^ a)) ((x % 2 ^ a : Nat) : Int) = (closeN x a : Int) := by
  have hc := close_lt a ha hx
  have hl : 2 ^ a * (x / 2 ^ a / 2) < 18446744073709551616 := by unfold closeN at hc; omega
  have e : ((x / 2 ^ a : Nat) : Int) / 2 * 2 ^ a = ((2 ^ a * (x / 2 ^ a / 2) : Nat) : Int) := by push_cast; rw [Int.mul_comm]
  rw [e, i_wrap hl, i_or _ _ hl (Nat.lt_of_le_of_lt (Nat.mod_le _ _) hx), or_mulp _ _ _ (mod_pow_lt x a)]
  rfl
theorem i_open (x a b : Nat) (hx : x < 9223372036854775808) (ha : a < 64) (hb : b ≤ 1) :
    bits .or .u64 (bits .or .u64 (IntKind.u64.wrap (IntKind.u64.wrap (((x / 2 ^ a : Nat) : Int) * 2) * 2 ^ a)) (IntKind.u64.wrap ((b : Int) * 2 ^ a))) ((x % 2 ^ a : Nat) : Int) = (openN x a b : Int) := by
  have hc := open_lt a b ha hb hx
  have hp := pow_lt ha
  have hd : x / 2 ^ a ≤ x := Nat.div_le_self _ _
  have e1 : IntKind.u64.wrap (((x / 2 ^ a : Nat) : Int) * 2) = ((x / 2 ^ a * 2 : Nat) : Int) := by
    rw [IntKind.wrap_u64]; generalize x / 2 ^ a = d at hd; omega
  have hb2 : 2 ^ a * (2 * (x / 2 ^ a) + b) < 18446744073709551616 := by unfold openN at hc; omega
  have hl : x / 2 ^ a * 2 * 2 ^ a < 18446744073709551616 := by
    refine Nat.lt_of_le_of_lt ?_ hb2
    rw [Nat.mul_comm]
    exact Nat.mul_le_mul_left _ (by omega)
  have hlb : b * 2 ^ a < 18446744073709551616 := by
    refine Nat.lt_of_le_of_lt ?_ hp
    rcases (show b = 0 ∨ b = 1 by omega) with rfl | rfl <;> simp
  have e2 : ((x / 2 ^ a * 2 : Nat) : Int) * 2 ^ a = ((x / 2 ^ a * 2 * 2 ^ a : Nat) : Int) := by push_cast; rfl
  have e3 : (b : Int) * 2 ^ a = ((b * 2 ^ a : Nat) : Int) := by push_cast; rfl
  rw [e1, e2, e3, i_wrap hl, i_wrap hlb, i_or _ _ hl hlb, i_or _ _ (or_lt hl hlb) (Nat.lt_of_le_of_lt (Nat.mod_le _ _) (by omega))]
  have e4 : x / 2 ^ a * 2 * 2 ^ a ||| b * 2 ^ a = 2 ^ a * (2 * (x / 2 ^ a) + b) := by
    have h2 : x / 2 ^ a * 2 ||| b = 2 * (x / 2 ^ a) + b := by
      have := or_mulp (x / 2 ^ a) 1 b (by simp; omega)
      rw [Nat.pow_one] at this
      rw [Nat.mul_comm, this]
    rw [← h2, Nat.mul_comm (2 ^ a)]
    simp only [← Nat.shiftLeft_eq]
    rw [Nat.shiftLeft_or_distrib]
  rw [e4, or_mulp _ _ _ (mod_pow_lt x a)]
  rfl
theorem bt_xor_lt (x i y j : Nat) : bt x i ^^^ bt y j ≤ 1 := by
  have h1 := bt_le x i
  have h2 := bt_le y j
  rcases (show bt x i = 0 ∨ bt x i = 1 by omega) with a | a <;> rcases (show bt y j = 0 ∨ bt y j = 1 by omega) with b | b <;> rw [a, b] <;> decide
theorem bit_mul_lt {d : Nat} (hd : d ≤ 1) {i : Nat} (hi : i < 64) : d * 2 ^ i < 18446744073709551616 := by
  refine Nat.lt_of_le_of_lt ?_ (pow_lt hi)
  rcases (show d = 0 ∨ d = 1 by omega) with rfl | rfl <;> simp
theorem i_bitmul {d : Nat} (hd : d ≤ 1) {i : Nat} (hi : i < 64) : IntKind.u64.wrap ((d : Int) * 2 ^ i) = ((d * 2 ^ i : Nat) : Int) := by
  have e : (d : Int) * 2 ^ i = ((d * 2 ^ i : Nat) : Int) := by push_cast; rfl
  rw [e, i_wrap (bit_mul_lt hd hi)]
theorem i_bits (x i j : Nat) : bits .xor .u64 (bt x i : Int) (bt x j : Int) = ((bt x i ^^^ bt x j : Nat) : Int) :=
  i_xor _ _ (by have := bt_le x i; omega) (by have := bt_le x j; omega)
theorem i_swap (x i j : Nat) (hx : x < 18446744073709551616) (hi : i < 64) (hj : j < 64) :
    bits .xor .u64 (bits .xor .u64 (x : Int) (IntKind.u64.wrap (((bt x i ^^^ bt x j : Nat) : Int) * 2 ^ i))) (IntKind.u64.wrap (((bt x i ^^^ bt x j : Nat) : Int) * 2 ^ j)) = (swapN x i j : Int) := by
  have hd := bt_xor_lt x i x j
  rw [i_bitmul hd hi, i_bitmul hd hj, i_xor _ _ hx (bit_mul_lt hd hi), i_xor _ _ (xor_lt hx (bit_mul_lt hd hi)) (bit_mul_lt hd hj), swap_xor]
end Go.Proofs.Ytoddbaljnlhhaab.BL
namespace Go.Proofs.Ytoddbaljnlhhaab.BL
open Go.RowKit

/-- The first n of p are places: inside, none twice. -/
def Plc (p : Nat → Int) (n : Nat) : Prop := ∀ i, i < n → 0 ≤ p i ∧ p i < 64 ∧ ∀ j, j < i → p j ≠ p i
theorem Plc.zero (p : Nat → Int) : Plc p 0 := fun i h => by omega
theorem Plc.mono {p : Nat → Int} {n m : Nat} (h : Plc p n) (hm : m ≤ n) : Plc p m := fun i hi => h i (by omega)
theorem Plc.succ {p : Nat → Int} {n : Nat} (h : Plc p n) (h0 : 0 ≤ p n) (h1 : p n < 64) (h2 : ∀ j, j < n → p j ≠ p n) : Plc p (n + 1) := fun i hi =>
  if e : i < n then h i e else by
    obtain rfl : i = n := by omega
    exact ⟨h0, h1, h2⟩

/-- The mask of the first k places. -/
def msk (p : Nat → Int) : Nat → Nat
  | 0 => 0
  | k + 1 => setB (msk p k) (p k).toNat 1
theorem bt_msk {p : Nat → Int} {k : Nat} (h : Plc p k) (i : Nat) : bt (msk p k) i = 1 ↔ ∃ j, j < k ∧ p j = i := by
  induction k with
  | zero => simp [msk, bt]
  | succ k ih =>
    have hk := h k (by omega)
    simp only [msk]
    rw [bt_setB _ _ _ _ (by omega)]
    by_cases e : i = (p k).toNat
    · rw [if_pos e]
      simp only [true_iff]
      exact ⟨k, by omega, by omega⟩
    · rw [if_neg e, ih (h.mono (by omega))]
      constructor
      · rintro ⟨j, hj, hp⟩; exact ⟨j, by omega, hp⟩
      · rintro ⟨j, hj, hp⟩
        refine ⟨j, ?_, hp⟩
        rcases (show j < k ∨ j = k by omega) with h' | rfl
        · exact h'
        · omega
theorem msk_lt {p : Nat → Int} {k : Nat} (h : Plc p k) : msk p k < 18446744073709551616 := by
  induction k with
  | zero => simp [msk]
  | succ k ih =>
    have hk := h k (by omega)
    exact setB_lt (ih (h.mono (by omega))) (by omega)
theorem msk_new {p : Nat → Int} {k : Nat} (h : Plc p k) (h0 : 0 ≤ p k) : bt (msk p k) (p k).toNat = 1 ↔ ∃ j, j < k ∧ p j = p k := by
  rw [bt_msk h, Int.toNat_of_nonneg h0]
theorem msk_or (p : Nat → Int) (k : Nat) : msk p k ||| 2 ^ (p k).toNat = msk p (k + 1) :=
  ext_bt fun i => by
    simp only [msk]
    rw [bt_or, bt_pow, bt_setB _ _ _ _ (by omega)]
    have := bt_le (msk p k) i
    split <;> omega
theorem pop_setB (v q : Nat) (hq : bt v q = 0) (n : Nat) : pop n (setB v q 1) = pop n v + if q < n then 1 else 0 := by
  induction n with
  | zero => simp [pop]
  | succ n ih =>
    simp only [pop]
    rw [ih, bt_setB _ _ _ _ (by omega)]
    by_cases e : n = q
    · subst e; simp; omega
    · rw [if_neg e]
      by_cases g : q < n
      · rw [if_pos g, if_pos (by omega)]; omega
      · rw [if_neg g, if_neg (by omega)]; omega
theorem Plc.pop {p : Nat → Int} {k : Nat} (h : Plc p k) : Ytoddbaljnlhhaab.BL.pop 64 (msk p k) = k := by
  induction k with
  | zero => simp [msk, pop_zero]
  | succ k ih =>
    have hk := h k (by omega)
    have hz : bt (msk p k) (p k).toNat = 0 := by
      have h1 := bt_le (msk p k) (p k).toNat
      have h2 : ¬ bt (msk p k) (p k).toNat = 1 := by
        rw [msk_new (h.mono (by omega)) hk.1]
        rintro ⟨j, hj, e⟩
        exact hk.2.2 j hj e
      omega
    simp only [msk]
    rw [pop_setB _ _ hz, ih (h.mono (by omega)), if_pos (by omega)]
theorem Plc.len {p : Nat → Int} {n : Nat} (h : Plc p n) : n ≤ 64 := by
  have := h.pop
  have := pop_le 64 (msk p n)
  omega

/-- x's bits at the first k places. -/
def pickN (x : Nat) (p : Nat → Int) (k : Nat) : Nat := mk (fun i => bt x (p i).toNat) k
theorem pickN_succ (x : Nat) (p : Nat → Int) (k : Nat) : pickN x p (k + 1) = setB (pickN x p k) k (bt x (p k).toNat) := rfl
theorem pickN_lt (x : Nat) (p : Nat → Int) {k : Nat} (hk : k ≤ 64) : pickN x p k < 18446744073709551616 := mk_lt _ k hk
theorem bt_pick (x : Nat) (p : Nat → Int) (k i : Nat) : bt (pickN x p k) i = if i < k then bt x (p i).toNat else 0 := bt_mk _ (fun _ => bt_le _ _) k i
theorem pickN_low (x : Nat) (p : Nat → Int) (k : Nat) : pickN x p k < 2 ^ k := lt_pow_of_bt fun i hi => by rw [bt_pick, if_neg (by omega)]
theorem bt_bitmul {d : Nat} (hd : d ≤ 1) (k i : Nat) : bt (d * 2 ^ k) i = if i = k then d else 0 := by
  rcases (show d = 0 ∨ d = 1 by omega) with rfl | rfl
  · rw [Nat.zero_mul, bt_nought]; split <;> rfl
  · rw [Nat.one_mul, bt_pow]
theorem pick_or (x : Nat) (p : Nat → Int) (k : Nat) : pickN x p k ||| bt x (p k).toNat * 2 ^ k = pickN x p (k + 1) :=
  ext_bt fun i => by
    rw [bt_or, bt_bitmul (bt_le _ _), bt_pick, bt_pick]
    by_cases e : i = k
    · subst e; simp
    · rw [if_neg e]
      by_cases g : i < k
      · rw [if_pos g, if_pos (by omega)]; omega
      · rw [if_neg g, if_neg (by omega)]; omega
theorem i_pick (x : Nat) (p : Nat → Int) (k : Nat) (hk : k < 64) : bits .or .u64 (pickN x p k : Int) (IntKind.u64.wrap ((bt x (p k).toNat : Int) * 2 ^ k)) = (pickN x p (k + 1) : Int) := by
  rw [i_bitmul (bt_le _ _) hk, i_or _ _ (pickN_lt x p (by omega)) (bit_mul_lt (bt_le _ _) hk), pick_or]

/-- x with v's bits put at the first k places. -/
def putN (v : Nat) (p : Nat → Int) (x : Nat) : Nat → Nat
  | 0 => x
  | k + 1 => setB (putN v p x k) (p k).toNat (bt v k)
theorem putN_lt {v x : Nat} {p : Nat → Int} {k : Nat} (hx : x < 18446744073709551616) (h : Plc p k) : putN v p x k < 18446744073709551616 := by
  induction k with
  | zero => exact hx
  | succ k ih =>
    have hk := h k (by omega)
    exact setB_lt (ih (h.mono (by omega))) (by omega)
theorem bt_put_not {v x : Nat} {p : Nat → Int} {k i : Nat} (h : ∀ j, j < k → (p j).toNat ≠ i) : bt (putN v p x k) i = bt x i := by
  induction k with
  | zero => rfl
  | succ k ih =>
    simp only [putN]
    rw [bt_setB _ _ _ _ (bt_le _ _), if_neg (Ne.symm (h k (by omega))), ih fun j hj => h j (by omega)]
theorem bt_put_at {v x : Nat} {p : Nat → Int} {k j : Nat} (h : Plc p k) (hj : j < k) : bt (putN v p x k) (p j).toNat = bt v j := by
  induction k with
  | zero => omega
  | succ k ih =>
    simp only [putN]
    rw [bt_setB _ _ _ _ (bt_le _ _)]
    by_cases e : j = k
    · subst e; simp
    · have hk := h k (by omega)
      have hjj := h j (by omega)
      have hne := hk.2.2 j (by omega)
      rw [if_neg (by omega), ih (h.mono (by omega)) (by omega)]
theorem pick_put {v x n : Nat} {p : Nat → Int} (h : Plc p n) (hv : v < 2 ^ n) : pickN (putN v p x n) p n = v :=
  ext_bt fun i => by
    rw [bt_pick]
    by_cases hi : i < n
    · rw [if_pos hi, bt_put_at h hi]
    · rw [if_neg hi]
      exact (bt_zero.2 (Nat.testBit_lt_two_pow (Nat.lt_of_lt_of_le hv (Nat.pow_le_pow_right (by decide) (by omega))))).symm
theorem put_pick_aux (x : Nat) (p : Nat → Int) (n : Nat) : ∀ k, k ≤ n → putN (pickN x p n) p x k = x := by
  intro k
  induction k with
  | zero => intro _; rfl
  | succ k ih =>
    intro hk
    simp only [putN]
    rw [ih (by omega), bt_pick, if_pos (by omega)]
    unfold setB
    rw [if_pos rfl]
theorem put_pick (x : Nat) (p : Nat → Int) (n : Nat) : putN (pickN x p n) p x n = x := put_pick_aux x p n n (Nat.le_refl n)
theorem setB_or (x q b : Nat) (hb : b ≤ 1) (hx : x < 18446744073709551616) (hq : q < 64) : x &&& (18446744073709551615 - 2 ^ q) ||| b * 2 ^ q = setB x q b := by
  have hnot : ∀ i, bt (18446744073709551615 - 2 ^ q) i = if i < 64 then 1 - bt (2 ^ q) i else 0 := by
    intro i
    unfold bt
    have := Nat.testBit_two_pow_sub_succ (x := 2 ^ q) (n := 64) (pow_lt hq) i
    rw [show 2 ^ 64 - (2 ^ q + 1) = 18446744073709551615 - 2 ^ q by omega] at this
    rw [this]
    by_cases h : i < 64
    · rw [if_pos h]; cases (2 ^ q).testBit i <;> simp [h]
    · rw [if_neg h]; simp [h]
  have hand : ∀ a c i, bt (a &&& c) i = bt a i * bt c i := by
    intro a c i; unfold bt; rw [Nat.testBit_and]; cases a.testBit i <;> cases c.testBit i <;> rfl
  refine ext_bt fun i => ?_
  rw [bt_or, hand, hnot, bt_bitmul hb, bt_pow, bt_setB _ _ _ _ hb]
  by_cases e : i = q
  · subst e; simp [hq]
  · rw [if_neg e, if_neg e, if_neg e]
    by_cases h : i < 64
    · simp [h]
    · rw [bt_big hx (by omega)]; simp
theorem i_put (x q b : Nat) (hb : b ≤ 1) (hx : x < 18446744073709551616) (hq : q < 64) : bits .or .u64 (bits .andNot .u64 (x : Int) (IntKind.u64.wrap (2 ^ q))) (IntKind.u64.wrap ((b : Int) * 2 ^ q)) = (setB x q b : Int) := by
  rw [i_pow q hq, u64_andNot_nat _ _ hx (pow_lt hq), i_bitmul hb hq, i_or _ _ (Nat.lt_of_le_of_lt Nat.and_le_left hx) (bit_mul_lt hb hq), setB_or x q b hb hx hq]
theorem i_seen (p : Nat → Int) (k : Nat) (h : Plc p k) (h1 : (p k).toNat < 64) : bits .or .u64 (msk p k : Int) (IntKind.u64.wrap (2 ^ (p k).toNat)) = (msk p (k + 1) : Int) := by
  rw [i_pow _ h1, i_or _ _ (msk_lt h) (pow_lt h1), msk_or]
theorem high_zero {v n : Nat} : v / 2 ^ n = 0 ↔ v < 2 ^ n := by
  constructor
  · intro h
    exact (Nat.div_eq_zero_iff_lt (Nat.two_pow_pos n)).1 h
  · exact Nat.div_eq_of_lt
end Go.Proofs.Ytoddbaljnlhhaab.BL
namespace Go.Proofs.Ytoddbaljnlhhaab.PL
open Go.RowKit
open BL (pickN putN Plc bt_pick bt_put_at bt_put_not)

theorem bb (x j : Nat) : BL.bt x j = bt x j := rfl
/-! ### Bits at places and elsewhere -/
theorem at_or_not (p : Nat → Int) (k i : Nat) : (∃ j, j < k ∧ (p j).toNat = i) ∨ ∀ j, j < k → (p j).toNat ≠ i := by
  by_cases h : ∃ j, j < k ∧ (p j).toNat = i
  · exact .inl h
  · exact .inr fun j hj e => h ⟨j, hj, e⟩
theorem pick_and (a b : Nat) (p : Nat → Int) (k : Nat) : pickN (a &&& b) p k = pickN a p k &&& pickN b p k :=
  ext_bt fun i => by
    have h1 := bt_pick (a &&& b) p k i
    have h2 := bt_pick a p k i
    have h3 := bt_pick b p k i
    simp only [bb] at h1 h2 h3
    rw [bt_and, h1, h2, h3]
    by_cases h : i < k
    · rw [if_pos h, if_pos h, if_pos h, bt_and]
    · rw [if_neg h, if_neg h, if_neg h]
theorem pick_xor (a b : Nat) (p : Nat → Int) (k : Nat) : pickN (a ^^^ b) p k = pickN a p k ^^^ pickN b p k :=
  ext_bt fun i => by
    have h1 := bt_pick (a ^^^ b) p k i
    have h2 := bt_pick a p k i
    have h3 := bt_pick b p k i
    simp only [bb] at h1 h2 h3
    rw [bt_xor, h1, h2, h3]
    by_cases h : i < k
    · rw [if_pos h, if_pos h, if_pos h, bt_xor]
    · rw [if_neg h, if_neg h, if_neg h]
theorem put_and (a b : Nat) {p : Nat → Int} (x y : Nat) {k : Nat} (h : Plc p k) : putN (a &&& b) p (x &&& y) k = putN a p x k &&& putN b p y k :=
  ext_bt fun i => by
    rw [bt_and]
    rcases at_or_not p k i with ⟨j, hj, rfl⟩ | hn
    · have h1 := bt_put_at (v := a &&& b) (x := x &&& y) h hj
      have h2 := bt_put_at (v := a) (x := x) h hj
      have h3 := bt_put_at (v := b) (x := y) h hj
      simp only [bb] at h1 h2 h3
      rw [h1, h2, h3, bt_and]
    · have h1 := bt_put_not (v := a &&& b) (x := x &&& y) hn
      have h2 := bt_put_not (v := a) (x := x) hn
      have h3 := bt_put_not (v := b) (x := y) hn
      simp only [bb] at h1 h2 h3
      rw [h1, h2, h3, bt_and]
theorem put_xor (a b : Nat) {p : Nat → Int} (x y : Nat) {k : Nat} (h : Plc p k) : putN (a ^^^ b) p (x ^^^ y) k = putN a p x k ^^^ putN b p y k :=
  ext_bt fun i => by
    rw [bt_xor]
    rcases at_or_not p k i with ⟨j, hj, rfl⟩ | hn
    · have h1 := bt_put_at (v := a ^^^ b) (x := x ^^^ y) h hj
      have h2 := bt_put_at (v := a) (x := x) h hj
      have h3 := bt_put_at (v := b) (x := y) h hj
      simp only [bb] at h1 h2 h3
      rw [h1, h2, h3, bt_xor]
    · have h1 := bt_put_not (v := a ^^^ b) (x := x ^^^ y) hn
      have h2 := bt_put_not (v := a) (x := x) hn
      have h3 := bt_put_not (v := b) (x := y) hn
      simp only [bb] at h1 h2 h3
      rw [h1, h2, h3, bt_xor]
theorem put_put (a b : Nat) {p : Nat → Int} (x : Nat) {k : Nat} (h : Plc p k) : putN a p (putN b p x k) k = putN a p x k :=
  ext_bt fun i => by
    rcases at_or_not p k i with ⟨j, hj, rfl⟩ | hn
    · have h1 := bt_put_at (v := a) (x := putN b p x k) h hj
      have h2 := bt_put_at (v := a) (x := x) h hj
      simp only [bb] at h1 h2
      rw [h1, h2]
    · have h1 := bt_put_not (v := a) (x := putN b p x k) hn
      have h2 := bt_put_not (v := a) (x := x) hn
      have h3 := bt_put_not (v := b) (x := x) hn
      simp only [bb] at h1 h2 h3
      rw [h1, h2, h3]
theorem pop_setB0 (v i : Nat) : ∀ n, pop n (BL.setB v i 0) + (if i < n then bt v i else 0) = pop n v
  | 0 => rfl
  | n + 1 => by
    have ih := pop_setB0 v i n
    have h1 := BL.bt_setB v i 0 n (by omega)
    simp only [bb] at h1
    simp only [pop]
    rw [h1]
    by_cases e : n = i
    · subst e
      rw [if_neg (by omega)] at ih
      rw [if_pos rfl, if_pos (by omega)]
      omega
    · rw [if_neg e]
      by_cases h : i < n
      · rw [if_pos h] at ih
        rw [if_pos (by omega)]
        omega
      · rw [if_neg h] at ih
        rw [if_neg (by omega)]
        omega
theorem pop_pick (w : Nat) (p : Nat → Int) (k : Nat) (hk : k < 64) : pop 64 (pickN w p (k + 1)) = pop 64 (pickN w p k) + bt w (p k).toNat := by
  have h1 := pop_up (BL.pickN_low w p (k + 1)) 64 (by omega)
  have h2 := pop_up (BL.pickN_low w p k) 64 (by omega)
  have h3 : pop k (pickN w p (k + 1)) = pop k (pickN w p k) := by
    have e : ∀ n, n ≤ k → pop n (pickN w p (k + 1)) = pop n (pickN w p k) := fun n => by
      induction n with
      | zero => intro _; rfl
      | succ n ih =>
        intro hn
        have g1 := bt_pick w p (k + 1) n
        have g2 := bt_pick w p k n
        simp only [bb] at g1 g2
        simp only [pop]
        rw [ih (by omega), g1, g2, if_pos (by omega), if_pos (by omega)]
    exact e k (Nat.le_refl _)
  have h4 := bt_pick w p (k + 1) k
  simp only [bb] at h4
  rw [if_pos (by omega)] at h4
  rw [h1, h2]
  simp only [pop]
  rw [h3, h4]
/-- The ones of a number: those elsewhere, and those at the places. -/
theorem pop_split (w : Nat) {p : Nat → Int} {k : Nat} (h : Plc p k) : pop 64 (putN 0 p w k) + pop 64 (pickN w p k) = pop 64 w := by
  have hk := h.len
  have e : ∀ n, n ≤ k → pop 64 (putN 0 p w n) + pop 64 (pickN w p n) = pop 64 w := fun n => by
    induction n with
    | zero => intro _; show pop 64 w + pop 64 0 = _; rw [pop_zero]; rfl
    | succ n ih =>
      intro hn
      have i1 := ih (by omega)
      have hp := h n (by omega)
      have h1 := pop_setB0 (putN 0 p w n) (p n).toNat 64
      rw [if_pos (by omega)] at h1
      have h2 := bt_put_not (v := 0) (x := w) (p := p) (k := n) (i := (p n).toNat) (fun j hj e => hp.2.2 j hj (by have := (h j (by omega)).1; omega))
      simp only [bb] at h2
      have h3 := pop_pick w p n (by omega)
      have h4 : putN 0 p w (n + 1) = BL.setB (putN 0 p w n) (p n).toNat 0 := by
        simp only [putN]
        rw [show BL.bt 0 n = 0 by rw [bb]; exact bt_nought n]
      rw [h4]
      omega
  exact e k (Nat.le_refl _)

/-! ### Phases -/
/-- What a product adds to the phases. -/
def phi (x z x' z' : Nat) : Nat := pop 64 (x &&& z) + pop 64 (x' &&& z') + 2 * pop 64 (z &&& x') + 3 * pop 64 ((x ^^^ x') &&& (z ^^^ z'))
theorem mulF_phi (x z f x' z' f' : Nat) : mulF x z f x' z' f' = (f + f' + phi x z x' z') % 4 := by unfold mulF phi; congr 1; omega
/-- The part of the phases that comes of the places is the part's. -/
theorem phi_put {p : Nat → Int} {k : Nat} (h : Plc p k) (x z x' z' : Nat) {a b a' b' : Nat} (ha : a < 2 ^ k) (hb : b < 2 ^ k) (ha' : a' < 2 ^ k) (hb' : b' < 2 ^ k) :
    phi (putN a p x k) (putN b p z k) (putN a' p x' k) (putN b' p z' k) + phi (pickN x p k) (pickN z p k) (pickN x' p k) (pickN z' p k) = phi x z x' z' + phi a b a' b' := by
  have E : ∀ u v s t : Nat, u < 2 ^ k → v < 2 ^ k → pop 64 (putN u p s k &&& putN v p t k) + pop 64 (pickN s p k &&& pickN t p k) = pop 64 (s &&& t) + pop 64 (u &&& v) := fun u v s t hu hv => by
    have h1 := pop_split (s &&& t) h
    have h2 := pop_split (putN (u &&& v) p (s &&& t) k) h
    rw [put_put 0 (u &&& v) (s &&& t) h, BL.pick_put h (Nat.lt_of_le_of_lt Nat.and_le_left hu), put_and u v s t h] at h2
    rw [pick_and] at h1
    omega
  unfold phi
  have e1 := E a b x z ha hb
  have e2 := E a' b' x' z' ha' hb'
  have e3 := E b a' z x' hb ha'
  have e4 := E (a ^^^ a') (b ^^^ b') (x ^^^ x') (z ^^^ z') (xor_ltn ha ha') (xor_ltn hb hb')
  rw [put_xor a a' x x' h, put_xor b b' z z' h, pick_xor x x', pick_xor z z'] at e4
  omega

/-! ### Turning the part -/
abbrev T3 := Nat × Nat × Nat
def lm (a t : T3) : T3 := (a.1 ^^^ t.1, a.2.1 ^^^ t.2.1, mulF a.1 a.2.1 a.2.2 t.1 t.2.1 t.2.2)
def lstep (T : Nat → T3) (k x z j : Nat) (a : T3) : T3 :=
  if bt z j = 1 then lm (if bt x j = 1 then lm a (T j) else a) (T (k + j)) else if bt x j = 1 then lm a (T j) else a
def lrun (T : Nat → T3) (k x z : Nat) (a : T3) : Nat → T3
  | 0 => a
  | j + 1 => lstep T k x z j (lrun T k x z a j)
/-- The part x z under the gate whose turns are T. -/
def lt (T : Nat → T3) (k x z f : Nat) : T3 := lrun T k x z (0, 0, (f + pop 64 (x &&& z)) % 4) k
theorem lm_f (X Z f : Nat) (t : T3) : lm (X, Z, f % 4) t = ((lm (X, Z, 0) t).1, (lm (X, Z, 0) t).2.1, (f + (lm (X, Z, 0) t).2.2) % 4) := by
  unfold lm
  simp only [mulF_phi]
  refine Prod.ext rfl (Prod.ext rfl ?_)
  show (f % 4 + t.2.2 + _) % 4 = (f + (0 + t.2.2 + _) % 4) % 4
  omega
theorem lm_add (a : T3) (f : Nat) (t : T3) : lm (a.1, a.2.1, (f + a.2.2) % 4) t = ((lm a t).1, (lm a t).2.1, (f + (lm a t).2.2) % 4) := by
  unfold lm
  simp only [mulF_phi]
  refine Prod.ext rfl (Prod.ext rfl ?_)
  show ((f + a.2.2) % 4 + t.2.2 + _) % 4 = (f + (a.2.2 + t.2.2 + _) % 4) % 4
  omega
theorem lstep_add (T : Nat → T3) (k x z j : Nat) (a : T3) (f : Nat) : lstep T k x z j (a.1, a.2.1, (f + a.2.2) % 4) = ((lstep T k x z j a).1, (lstep T k x z j a).2.1, (f + (lstep T k x z j a).2.2) % 4) := by
  unfold lstep
  split
  · split
    · rw [lm_add, lm_add]
    · rw [lm_add]
  · split
    · rw [lm_add]
    · rfl
theorem lrun_add (T : Nat → T3) (k x z : Nat) (a : T3) (f : Nat) : ∀ j, lrun T k x z (a.1, a.2.1, (f + a.2.2) % 4) j = ((lrun T k x z a j).1, (lrun T k x z a j).2.1, (f + (lrun T k x z a j).2.2) % 4)
  | 0 => rfl
  | j + 1 => by
    show lstep T k x z j (lrun T k x z _ j) = _
    rw [lrun_add T k x z a f j, lstep_add]
    rfl
theorem lt_f (T : Nat → T3) (k x z f : Nat) : lt T k x z f = ((lt T k x z 0).1, (lt T k x z 0).2.1, (f + (lt T k x z 0).2.2) % 4) := by
  unfold lt
  have h := lrun_add T k x z (0, 0, (0 + pop 64 (x &&& z)) % 4) f k
  rw [← h]
  congr 3
  show (f + pop 64 (x &&& z)) % 4 = (f + (0 + pop 64 (x &&& z)) % 4) % 4
  omega
/-- Products of parts turn to products, parts are parts, and a sign stays a sign. -/
structure Hom (T : Nat → T3) (k : Nat) : Prop where
  mul : ∀ x z x' z', x < 2 ^ k → z < 2 ^ k → x' < 2 ^ k → z' < 2 ^ k → (lt T k (x ^^^ x') (z ^^^ z') 0).1 = (lt T k x z 0).1 ^^^ (lt T k x' z' 0).1 ∧ (lt T k (x ^^^ x') (z ^^^ z') 0).2.1 = (lt T k x z 0).2.1 ^^^ (lt T k x' z' 0).2.1 ∧
    ((lt T k (x ^^^ x') (z ^^^ z') 0).2.2 + phi x z x' z') % 4 = ((lt T k x z 0).2.2 + (lt T k x' z' 0).2.2 + phi (lt T k x z 0).1 (lt T k x z 0).2.1 (lt T k x' z' 0).1 (lt T k x' z' 0).2.1) % 4
  lo : ∀ x z, x < 2 ^ k → z < 2 ^ k → (lt T k x z 0).1 < 2 ^ k ∧ (lt T k x z 0).2.1 < 2 ^ k ∧ (lt T k x z 0).2.2 % 2 = 0
/-- U takes T back. -/
def Back (T U : Nat → T3) (k : Nat) : Prop := ∀ x z, x < 2 ^ k → z < 2 ^ k → lt U k (lt T k x z 0).1 (lt T k x z 0).2.1 (lt T k x z 0).2.2 = (x, z, 0)
/-- A string turned: its X, its Z, its phase. -/
def trn (T : Nat → T3) (p : Nat → Int) (k : Nat) (r : T3) : T3 :=
  (putN (lt T k (pickN r.1 p k) (pickN r.2.1 p k) r.2.2).1 p r.1 k, putN (lt T k (pickN r.1 p k) (pickN r.2.1 p k) r.2.2).2.1 p r.2.1 k, (lt T k (pickN r.1 p k) (pickN r.2.1 p k) r.2.2).2.2)
theorem trn_mul {T : Nat → T3} {p : Nat → Int} {k : Nat} (hT : Hom T k) (h : Plc p k) (a b : T3) : trn T p k (lm a b) = lm (trn T p k a) (trn T p k b) := by
  obtain ⟨x, z, f⟩ := a
  obtain ⟨x', z', f'⟩ := b
  have l1 := BL.pickN_low x p k
  have l2 := BL.pickN_low z p k
  have l3 := BL.pickN_low x' p k
  have l4 := BL.pickN_low z' p k
  have hm := hT.mul (pickN x p k) (pickN z p k) (pickN x' p k) (pickN z' p k) l1 l2 l3 l4
  have g1 := hT.lo (pickN x p k) (pickN z p k) l1 l2
  have g2 := hT.lo (pickN x' p k) (pickN z' p k) l3 l4
  have hp := phi_put h x z x' z' g1.1 g1.2.1 g2.1 g2.2.1
  unfold trn lm
  simp only
  rw [lt_f T k (pickN (x ^^^ x') p k), lt_f T k (pickN x p k), lt_f T k (pickN x' p k)]
  rw [pick_xor, pick_xor]
  rw [hm.1, hm.2.1]
  refine Prod.ext (put_xor _ _ _ _ h) (Prod.ext (put_xor _ _ _ _ h) ?_)
  simp only [mulF_phi]
  have h3 := hm.2.2
  omega
theorem trn_back {T U : Nat → T3} {p : Nat → Int} {k : Nat} (hT : Hom T k) (hU : Back T U k) (h : Plc p k) (a : T3) (hf : a.2.2 < 4) : trn U p k (trn T p k a) = a := by
  obtain ⟨x, z, f⟩ := a
  have l1 := BL.pickN_low x p k
  have l2 := BL.pickN_low z p k
  have g1 := hT.lo (pickN x p k) (pickN z p k) l1 l2
  have hb := hU (pickN x p k) (pickN z p k) l1 l2
  unfold trn
  simp only
  rw [lt_f T k (pickN x p k)]
  simp only
  rw [BL.pick_put h g1.1, BL.pick_put h g1.2.1, put_put _ _ _ h, put_put _ _ _ h]
  rw [lt_f] at hb
  rw [lt_f]
  have e1 := congrArg (fun t : T3 => t.1) hb
  have e2 := congrArg (fun t : T3 => t.2.1) hb
  have e3 := congrArg (fun t : T3 => t.2.2) hb
  simp only at e1 e2 e3
  rw [e1, e2, BL.put_pick, BL.put_pick]
  refine Prod.ext rfl (Prod.ext rfl ?_)
  simp only at hf ⊢
  omega
theorem put_ltn {p : Nat → Int} {k n v x : Nat} (hp : ∀ j, j < k → (p j).toNat < n) (hx : x < 2 ^ n) : putN v p x k < 2 ^ n :=
  lt_pow_of_bt fun i hi => by
    have h1 := bt_put_not (v := v) (x := x) (p := p) (k := k) (i := i) (fun j hj e => by have := hp j hj; omega)
    simp only [bb] at h1
    rw [h1]
    exact bt_zero.2 (Nat.testBit_lt_two_pow (Nat.lt_of_lt_of_le hx (Nat.pow_le_pow_right (by decide) hi)))
end Go.Proofs.Ytoddbaljnlhhaab.PL
