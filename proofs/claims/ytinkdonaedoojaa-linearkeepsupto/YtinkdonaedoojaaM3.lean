/-
  Plain mathematics of matrices of bits, continued: ranks of products and of columns; what matrices make of numbers.
-/
import Derived.Test.YtinkdonaedoojaaM2
import Derived.Test.YtinkdonaedoojaaM0
namespace Go.Proofs.Ytinkdonaedoojaa

theorem par_su (x : Nat) : par x = su (fun i => bt x i) 64 % 2 := by unfold par parN; rw [pop_su]
theorem par_xor (a b x : Nat) : par ((a ^^^ b) &&& x) = (par (a &&& x) + par (b &&& x)) % 2 := by
  rw [par_su, par_su, par_su]
  have key : ∀ k, su (fun i => bt ((a ^^^ b) &&& x) i) k % 2 = (su (fun i => bt (a &&& x) i) k % 2 + su (fun i => bt (b &&& x) i) k % 2) % 2 := by
    intro k
    induction k with
    | zero => rfl
    | succ k ih =>
      simp only [su]
      have e : bt ((a ^^^ b) &&& x) k % 2 = (bt (a &&& x) k + bt (b &&& x) k) % 2 := by
        rw [bt_and, bt_and, bt_and, bt_xor]
        have h1 := bt_le a k
        have h2 := bt_le b k
        have h3 := bt_le x k
        rcases (show bt a k = 0 ∨ bt a k = 1 by omega) with e1 | e1 <;> rcases (show bt b k = 0 ∨ bt b k = 1 by omega) with e2 | e2 <;> rcases (show bt x k = 0 ∨ bt x k = 1 by omega) with e3 | e3 <;> rw [e1, e2, e3]
      omega
  exact key 64
theorem par_nought : par 0 = 0 := by decide +kernel
theorem par_sm (f : Nat → Nat) (y x : Nat) : ∀ k, par (sm f y k &&& x) = su (fun i => bt y i * par (f i &&& x)) k % 2
  | 0 => by unfold sm su; rw [Nat.zero_and]; exact par_nought
  | k + 1 => by
    have ih := par_sm f y x k
    unfold sm su
    by_cases h : y.testBit k = true
    · rw [if_pos h, par_xor, ih, bt_one.2 h, Nat.one_mul]; omega
    · have h' : y.testBit k = false := by simpa using h
      rw [h', if_neg (by simp), ih, bt_zero.2 h', Nat.zero_mul, Nat.add_zero]
theorem par_mk (p : Nat → Nat) (hp : ∀ i, p i ≤ 1) (y n : Nat) (hn : n ≤ 64) : par (y &&& mk p n) = su (fun i => bt y i * p i) n % 2 := by
  rw [par_su]
  congr 1
  rw [su_ext _ n 64 hn (fun i a b => by rw [bt_and, bt_mk p hp, if_neg (by omega), Nat.mul_zero])]
  exact su_congr n (fun i hi => by rw [bt_and, bt_mk p hp, if_pos hi])
theorem par_low (y x n : Nat) (hn : n ≤ 64) (hy : y < 2 ^ n) : par (y &&& x) = su (fun i => bt x i * bt y i) n % 2 := by
  rw [par_su]
  congr 1
  rw [su_ext _ n 64 hn (fun i a b => by rw [bt_and, bt_zero.2 (tb_high hy a), Nat.zero_mul])]
  exact su_congr n (fun i _ => by rw [bt_and, Nat.mul_comm])
theorem bt_ap (f : Nat → Nat) (x n i : Nat) : bt (apN f x n) i = if i < n then par (f i &&& x) else 0 := bt_mk _ (fun _ => par_le _) n i
theorem ap_lt2 (f : Nat → Nat) (x n : Nat) : apN f x n < 2 ^ n := lt_pow_of_bt (fun i hi => by rw [bt_ap, if_neg (by omega)])
/-- A product put onto a number. -/
theorem ap_mul (a b : Nat → Nat) (x n : Nat) (hn : n ≤ 64) : apN (fun i => sm b (a i) n) x n = apN a (apN b x n) n := ext_bt fun i => by
  rw [bt_ap, bt_ap]
  by_cases hi : i < n
  · rw [if_pos hi, if_pos hi]
    rw [par_sm]
    exact (par_mk (fun k => par (b k &&& x)) (fun _ => par_le _) (a i) n hn).symm
  · rw [if_neg hi, if_neg hi]
theorem ap_xor (f : Nat → Nat) (x y n : Nat) : apN f (x ^^^ y) n = apN f x n ^^^ apN f y n := ext_bt fun i => by
  rw [bt_xor, bt_ap, bt_ap, bt_ap]
  by_cases hi : i < n
  · rw [if_pos hi, if_pos hi, if_pos hi, Nat.and_comm, par_xor, Nat.and_comm x, Nat.and_comm y]
  · rw [if_neg hi, if_neg hi, if_neg hi]
theorem ap_congr {f g : Nat → Nat} (x n : Nat) (h : ∀ i, i < n → f i = g i) : apN f x n = apN g x n := ext_bt fun i => by
  rw [bt_ap, bt_ap]
  by_cases hi : i < n
  · rw [if_pos hi, if_pos hi, h i hi]
  · rw [if_neg hi, if_neg hi]
section
variable {n : Nat} {a b : Nat → Nat}
theorem rank_prod_left (ha : ∀ i, i < n → a i < 2 ^ n) (hb : ∀ i, i < n → b i < 2 ^ n) : rk n (fun i => sm b (a i) n) ≤ rk n a :=
  rank_le (fun i _ => sm_lt2 b (a i) n n hb) (G := fun y => sm b (sm (rd n a (fun i => 2 ^ i) n).f y (rk n a)) n) (fun x => by
    obtain ⟨y, hy, e⟩ := span_of ha x
    refine ⟨y, hy, ?_⟩
    show sm b (sm (rd n a (fun i => 2 ^ i) n).f y (rk n a)) n = _
    rw [e, sm_sm])
theorem rank_prod_right (hb : ∀ i, i < n → b i < 2 ^ n) : rk n (fun i => sm b (a i) n) ≤ rk n b :=
  rank_le (fun i _ => sm_lt2 b (a i) n n hb) (G := fun y => sm (rd n b (fun i => 2 ^ i) n).f y (rk n b)) (fun x => by
    obtain ⟨y, hy, e⟩ := span_of hb (sm a x n)
    refine ⟨y, hy, ?_⟩
    show sm (rd n b (fun i => 2 ^ i) n).f y (rk n b) = _
    rw [e, sm_sm])
/-- Rows exchanged with columns: the rank is no greater. -/
theorem rank_turn (hn : n ≤ 64) (ha : ∀ i, i < n → a i < 2 ^ n) (hb : ∀ i, i < n → b i < 2 ^ n) (hT : ∀ i j, i < n → j < n → bt (b j) i = bt (a i) j) : rk n b ≤ rk n a := by
  have hE : ∀ i, ∃ y, y < 2 ^ rk n a ∧ (i < n → sm (rd n a (fun i => 2 ^ i) n).f y (rk n a) = a i) := fun i => by
    obtain ⟨y, hy, e⟩ := span_of ha (2 ^ i)
    exact ⟨y, hy, fun hi => by rw [e, sm_at a hi]⟩
  obtain ⟨E, hE⟩ : ∃ E : Nat → Nat, ∀ i, E i < 2 ^ rk n a ∧ (i < n → sm (rd n a (fun i => 2 ^ i) n).f (E i) (rk n a) = a i) := ⟨fun i => Classical.choose (hE i), fun i => Classical.choose_spec (hE i)⟩
  have hr := rk_le n a
  refine rank_le hb (G := fun u => mk (fun i => par (E i &&& u)) n) (fun x => ⟨mk (fun k => par ((rd n a (fun i => 2 ^ i) n).f k &&& x)) (rk n a), lt_pow_of_bt (fun i hi => by rw [bt_mk _ (fun _ => par_le _), if_neg (by omega)]), ext_bt fun i => ?_⟩)
  show bt (mk (fun i => par (E i &&& mk (fun k => par ((rd n a (fun i => 2 ^ i) n).f k &&& x)) (rk n a))) n) i = _
  rw [bt_mk _ (fun _ => par_le _), bt_sm]
  by_cases hi : i < n
  · rw [if_pos hi, par_mk _ (fun _ => par_le _) _ _ (by omega), ← par_sm, (hE i).2 hi, par_low (a i) x n hn (ha i hi)]
    congr 1
    exact su_congr n (fun j hj => by rw [hT i j hi hj])
  · rw [if_neg hi, su_congr (g' := fun _ => 0) n (fun j hj => by rw [bt_zero.2 (tb_high (hb j hj) (by omega)), Nat.mul_zero]), su_zero]
theorem trN_lt2 (i : Nat) : trN a i n < 2 ^ n := lt_pow_of_bt (fun j hj => by rw [trN_bt, if_neg (by omega)])
theorem rank_columns (hn : n ≤ 64) (ha : ∀ i, i < n → a i < 2 ^ n) : rk n (fun i => trN a i n) = rk n a :=
  Nat.le_antisymm (rank_turn hn ha (fun i _ => trN_lt2 i) (fun i j hi hj => by rw [trN_bt, if_pos hi]))
    (rank_turn hn (fun i _ => trN_lt2 i) ha (fun i j hi hj => by rw [trN_bt, if_pos hj]))
end
end Go.Proofs.Ytinkdonaedoojaa
