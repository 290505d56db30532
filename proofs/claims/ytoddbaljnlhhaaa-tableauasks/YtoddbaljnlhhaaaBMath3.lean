/-
  Plain mathematics of places: lists of places as functions; bits picked and put.
-/
import Derived.Test.YtoddbaljnlhhaaaBMath2
namespace Go.Proofs.Ytoddbaljnlhhaaa.BL
open Go.RowKit

/-- The first n of p are places: inside, none twice. -/
def Plc (p : Nat → Int) (n : Nat) : Prop := ∀ i, i < n → 0 ≤ p i ∧ p i < 64 ∧ ∀ j, j < i → p j ≠ p i
theorem Plc.zero (p : Nat → Int) : Plc p 0 := fun i h => by omega
theorem Plc.mono {p : Nat → Int} {n m : Nat} (h : Plc p n) (hm : m ≤ n) : Plc p m := fun i hi => h i (by omega)
theorem Plc.succ {p : Nat → Int} {n : Nat} (h : Plc p n) (h0 : 0 ≤ p n) (h1 : p n < 64) (h2 : ∀ j, j < n → p j ≠ p n) : Plc p (n + 1) := fun i hi =>
  if e : i < n then h i e else by
    obtain rfl : i = n := by omega
    exact ⟨h0, h1, h2⟩

/-- The mask of the first k places. -/
def msk (p : Nat → Int) : Nat → Nat
  | 0 => 0
  | k + 1 => setB (msk p k) (p k).toNat 1
theorem bt_msk {p : Nat → Int} {k : Nat} (h : Plc p k) (i : Nat) : bt (msk p k) i = 1 ↔ ∃ j, j < k ∧ p j = i := by
  induction k with
  | zero => simp [msk, bt]
  | succ k ih =>
    have hk := h k (by omega)
    simp only [msk]
    rw [bt_setB _ _ _ _ (by omega)]
    by_cases e : i = (p k).toNat
    · rw [if_pos e]
      simp only [true_iff]
      exact ⟨k, by omega, by omega⟩
    · rw [if_neg e, ih (h.mono (by omega))]
      constructor
      · rintro ⟨j, hj, hp⟩; exact ⟨j, by omega, hp⟩
      · rintro ⟨j, hj, hp⟩
        refine ⟨j, ?_, hp⟩
        rcases (show j < k ∨ j = k by omega) with h' | rfl
        · exact h'
        · omega
theorem msk_lt {p : Nat → Int} {k : Nat} (h : Plc p k) : msk p k < 18446744073709551616 := by
  induction k with
  | zero => simp [msk]
  | succ k ih =>
    have hk := h k (by omega)
    exact setB_lt (ih (h.mono (by omega))) (by omega)
theorem msk_new {p : Nat → Int} {k : Nat} (h : Plc p k) (h0 : 0 ≤ p k) : bt (msk p k) (p k).toNat = 1 ↔ ∃ j, j < k ∧ p j = p k := by
  rw [bt_msk h, Int.toNat_of_nonneg h0]
theorem msk_or (p : Nat → Int) (k : Nat) : msk p k ||| 2 ^ (p k).toNat = msk p (k + 1) :=
  ext_bt fun i => by
    simp only [msk]
    rw [bt_or, bt_pow, bt_setB _ _ _ _ (by omega)]
    have := bt_le (msk p k) i
    split <;> omega
theorem pop_setB (v q : Nat) (hq : bt v q = 0) (n : Nat) : pop n (setB v q 1) = pop n v + if q < n then 1 else 0 := by
  induction n with
  | zero => simp [pop]
  | succ n ih =>
    simp only [pop]
    rw [ih, bt_setB _ _ _ _ (by omega)]
    by_cases e : n = q
    · subst e; simp; omega
    · rw [if_neg e]
      by_cases g : q < n
      · rw [if_pos g, if_pos (by omega)]; omega
      · rw [if_neg g, if_neg (by omega)]; omega
theorem Plc.pop {p : Nat → Int} {k : Nat} (h : Plc p k) : Ytoddbaljnlhhaaa.BL.pop 64 (msk p k) = k := by
  induction k with
  | zero => simp [msk, pop_zero]
  | succ k ih =>
    have hk := h k (by omega)
    have hz : bt (msk p k) (p k).toNat = 0 := by
      have h1 := bt_le (msk p k) (p k).toNat
      have h2 : ¬ bt (msk p k) (p k).toNat = 1 := by
        rw [msk_new (h.mono (by omega)) hk.1]
        rintro ⟨j, hj, e⟩
        exact hk.2.2 j hj e
      omega
    simp only [msk]
    rw [pop_setB _ _ hz, ih (h.mono (by omega)), if_pos (by omega)]
theorem Plc.len {p : Nat → Int} {n : Nat} (h : Plc p n) : n ≤ 64 := by
  have := h.pop
  have := pop_le 64 (msk p n)
  omega

/-- x's bits at the first k places. -/
def pickN (x : Nat) (p : Nat → Int) (k : Nat) : Nat := mk (fun i => bt x (p i).toNat) k
theorem pickN_succ (x : Nat) (p : Nat → Int) (k : Nat) : pickN x p (k + 1) = setB (pickN x p k) k (bt x (p k).toNat) := rfl
theorem pickN_lt (x : Nat) (p : Nat → Int) {k : Nat} (hk : k ≤ 64) : pickN x p k < 18446744073709551616 := mk_lt _ k hk
theorem bt_pick (x : Nat) (p : Nat → Int) (k i : Nat) : bt (pickN x p k) i = if i < k then bt x (p i).toNat else 0 := bt_mk _ (fun _ => bt_le _ _) k i
theorem pickN_low (x : Nat) (p : Nat → Int) (k : Nat) : pickN x p k < 2 ^ k := lt_pow_of_bt fun i hi => by rw [bt_pick, if_neg (by omega)]
theorem bt_bitmul {d : Nat} (hd : d ≤ 1) (k i : Nat) : bt (d * 2 ^ k) i = if i = k then d else 0 := by
  rcases (show d = 0 ∨ d = 1 by omega) with rfl | rfl
  · rw [Nat.zero_mul, bt_nought]; split <;> rfl
  · rw [Nat.one_mul, bt_pow]
theorem pick_or (x : Nat) (p : Nat → Int) (k : Nat) : pickN x p k ||| bt x (p k).toNat * 2 ^ k = pickN x p (k + 1) :=
  ext_bt fun i => by
    rw [bt_or, bt_bitmul (bt_le _ _), bt_pick, bt_pick]
    by_cases e : i = k
    · subst e; simp
    · rw [if_neg e]
      by_cases g : i < k
      · rw [if_pos g, if_pos (by omega)]; omega
      · rw [if_neg g, if_neg (by omega)]; omega
theorem i_pick (x : Nat) (p : Nat → Int) (k : Nat) (hk : k < 64) : bits .or .u64 (pickN x p k : Int) (IntKind.u64.wrap ((bt x (p k).toNat : Int) * 2 ^ k)) = (pickN x p (k + 1) : Int) := by
  rw [i_bitmul (bt_le _ _) hk, i_or _ _ (pickN_lt x p (by omega)) (bit_mul_lt (bt_le _ _) hk), pick_or]

/-- x with v's bits put at the first k places. -/
def putN (v : Nat) (p : Nat → Int) (x : Nat) : Nat → Nat
  | 0 => x
  | k + 1 => setB (putN v p x k) (p k).toNat (bt v k)
theorem putN_lt {v x : Nat} {p : Nat → Int} {k : Nat} (hx : x < 18446744073709551616) (h : Plc p k) : putN v p x k < 18446744073709551616 := by
  induction k with
  | zero => exact hx
  | succ k ih =>
    have hk := h k (by omega)
    exact setB_lt (ih (h.mono (by omega))) (by omega)
theorem bt_put_not {v x : Nat} {p : Nat → Int} {k i : Nat} (h : ∀ j, j < k → (p j).toNat ≠ i) : bt (putN v p x k) i = bt x i := by
  induction k with
  | zero => rfl
  | succ k ih =>
    simp only [putN]
    rw [bt_setB _ _ _ _ (bt_le _ _), if_neg (Ne.symm (h k (by omega))), ih fun j hj => h j (by omega)]
theorem bt_put_at {v x : Nat} {p : Nat → Int} {k j : Nat} (h : Plc p k) (hj : j < k) : bt (putN v p x k) (p j).toNat = bt v j := by
  induction k with
  | zero => omega
  | succ k ih =>
    simp only [putN]
    rw [bt_setB _ _ _ _ (bt_le _ _)]
    by_cases e : j = k
    · subst e; simp
    · have hk := h k (by omega)
      have hjj := h j (by omega)
      have hne := hk.2.2 j (by omega)
      rw [if_neg (by omega), ih (h.mono (by omega)) (by omega)]
theorem pick_put {v x n : Nat} {p : Nat → Int} (h : Plc p n) (hv : v < 2 ^ n) : pickN (putN v p x n) p n = v :=
  ext_bt fun i => by
    rw [bt_pick]
    by_cases hi : i < n
    · rw [if_pos hi, bt_put_at h hi]
    · rw [if_neg hi]
      exact (bt_zero.2 (Nat.testBit_lt_two_pow (Nat.lt_of_lt_of_le hv (Nat.pow_le_pow_right (by decide) (by omega))))).symm
theorem put_pick_aux (x : Nat) (p : Nat → Int) (n : Nat) : ∀ k, k ≤ n → putN (pickN x p n) p x k = x := by
  intro k
  induction k with
  | zero => intro _; rfl
  | succ k ih =>
    intro hk
    simp only [putN]
    rw [ih (by omega), bt_pick, if_pos (by omega)]
    unfold setB
    rw [if_pos rfl]
theorem put_pick (x : Nat) (p : Nat → Int) (n : Nat) : putN (pickN x p n) p x n = x := put_pick_aux x p n n (Nat.le_refl n)
theorem setB_or (x q b : Nat) (hb : b ≤ 1) (hx : x < 18446744073709551616) (hq : q < 64) : x &&& (18446744073709551615 - 2 ^ q) ||| b * 2 ^ q = setB x q b := by
  have hnot : ∀ i, bt (18446744073709551615 - 2 ^ q) i = if i < 64 then 1 - bt (2 ^ q) i else 0 := by
    intro i
    unfold bt
    have := Nat.testBit_two_pow_sub_succ (x := 2 ^ q) (n := 64) (pow_lt hq) i
    rw [show 2 ^ 64 - (2 ^ q + 1) = 18446744073709551615 - 2 ^ q by omega] at this
    rw [this]
    by_cases h : i < 64
    · rw [if_pos h]; cases (2 ^ q).testBit i <;> simp [h]
    · rw [if_neg h]; simp [h]
  have hand : ∀ a c i, bt (a &&& c) i = bt a i * bt c i := by
    intro a c i; unfold bt; rw [Nat.testBit_and]; cases a.testBit i <;> cases c.testBit i <;> rfl
  refine ext_bt fun i => ?_
  rw [bt_or, hand, hnot, bt_bitmul hb, bt_pow, bt_setB _ _ _ _ hb]
  by_cases e : i = q
  · subst e; simp [hq]
  · rw [if_neg e, if_neg e, if_neg e]
    by_cases h : i < 64
    · simp [h]
    · rw [bt_big hx (by omega)]; simp
theorem i_put (x q b : Nat) (hb : b ≤ 1) (hx : x < 18446744073709551616) (hq : q < 64) : bits .or .u64 (bits .andNot .u64 (x : Int) (IntKind.u64.wrap (2 ^ q))) (IntKind.u64.wrap ((b : Int) * 2 ^ q)) = (setB x q b : Int) := by
  rw [i_pow q hq, u64_andNot_nat _ _ hx (pow_lt hq), i_bitmul hb hq, i_or _ _ (Nat.lt_of_le_of_lt Nat.and_le_left hx) (bit_mul_lt hb hq), setB_or x q b hb hx hq]
theorem i_seen (p : Nat → Int) (k : Nat) (h : Plc p k) (h1 : (p k).toNat < 64) : bits .or .u64 (msk p k : Int) (IntKind.u64.wrap (2 ^ (p k).toNat)) = (msk p (k + 1) : Int) := by
  rw [i_pow _ h1, i_or _ _ (msk_lt h) (pow_lt h1), msk_or]
theorem high_zero {v n : Nat} : v / 2 ^ n = 0 ↔ v < 2 ^ n := by
  constructor
  · intro h
    exact (Nat.div_eq_zero_iff_lt (Nat.two_pow_pos n)).1 h
  · exact Nat.div_eq_of_lt
end Go.Proofs.Ytoddbaljnlhhaaa.BL
