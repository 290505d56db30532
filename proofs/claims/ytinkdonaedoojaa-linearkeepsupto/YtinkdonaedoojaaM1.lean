/-
  Plain mathematics of matrices of bits, continued: sums of rows are linear; what rows span; counting.
-/
import Derived.Test.YtinkdonaedoojaaMa
namespace Go.Proofs.Ytinkdonaedoojaa

theorem xor_cancel (a b c : Nat) : (a ^^^ c) ^^^ (b ^^^ c) = a ^^^ b := by
  rw [Nat.xor_assoc, Nat.xor_comm b c, ← Nat.xor_assoc c c b, Nat.xor_self, Nat.zero_xor]
theorem xor_swap (a b c : Nat) : (a ^^^ b) ^^^ c = (a ^^^ c) ^^^ b := by
  rw [Nat.xor_assoc, Nat.xor_comm b c, Nat.xor_assoc]
theorem xor_nil {a b : Nat} (h : a ^^^ b = 0) : a = b := by
  have h1 : (a ^^^ b) ^^^ b = a := by rw [Nat.xor_assoc, Nat.xor_self, Nat.xor_zero]
  rw [h, Nat.zero_xor] at h1
  exact h1.symm
theorem xor_back (a b : Nat) : (a ^^^ b) ^^^ b = a := by rw [Nat.xor_assoc, Nat.xor_self, Nat.xor_zero]
theorem sm_xor (f : Nat → Nat) (x y : Nat) : ∀ k, sm f (x ^^^ y) k = sm f x k ^^^ sm f y k
  | 0 => by simp [sm]
  | k + 1 => by
    unfold sm
    rw [Nat.testBit_xor, sm_xor f x y k]
    cases x.testBit k <;> cases y.testBit k <;> simp
    · rw [Nat.xor_assoc]
    · rw [xor_swap]
    · rw [xor_cancel]
theorem sm_zero (f : Nat → Nat) : ∀ k, sm f 0 k = 0
  | 0 => rfl
  | k + 1 => by unfold sm; rw [Nat.zero_testBit, sm_zero f k]; rfl
theorem sm_congr {f g : Nat → Nat} (x : Nat) : ∀ k, (∀ i, i < k → f i = g i) → sm f x k = sm g x k
  | 0, _ => rfl
  | k + 1, h => by unfold sm; rw [sm_congr x k (fun i hi => h i (by omega)), h k (by omega)]
theorem sm_bits (f : Nat → Nat) (x y : Nat) : ∀ k, (∀ i, i < k → x.testBit i = y.testBit i) → sm f x k = sm f y k
  | 0, _ => rfl
  | k + 1, h => by unfold sm; rw [sm_bits f x y k (fun i hi => h i (by omega)), h k (by omega)]
theorem sm_mod (f : Nat → Nat) (x n : Nat) : sm f (x % 2 ^ n) n = sm f x n := sm_bits f _ _ n (fun i hi => by rw [Nat.testBit_mod_two_pow]; simp [hi])
theorem sm_pow (f : Nat → Nat) (i : Nat) : ∀ k, sm f (2 ^ i) k = if i < k then f i else 0
  | 0 => by simp [sm]
  | k + 1 => by
    unfold sm
    rw [Nat.testBit_two_pow, sm_pow f i k]
    by_cases e : i = k
    · subst e; simp
    · rw [decide_eq_false e]
      show (if i < k then f i else 0) = _
      by_cases h : i < k
      · rw [if_pos h, if_pos (by omega)]
      · rw [if_neg h, if_neg (by omega)]
theorem sm_at (f : Nat → Nat) {i n : Nat} (h : i < n) : sm f (2 ^ i) n = f i := by rw [sm_pow, if_pos h]
theorem sm_sm (g f : Nat → Nat) (x m : Nat) : ∀ k, sm g (sm f x k) m = sm (fun i => sm g (f i) m) x k
  | 0 => sm_zero g m
  | k + 1 => by
    show sm g (if x.testBit k = true then sm f x k ^^^ f k else sm f x k) m = if x.testBit k = true then sm (fun i => sm g (f i) m) x k ^^^ sm g (f k) m else sm (fun i => sm g (f i) m) x k
    rw [← sm_sm g f x m k]
    split
    · rw [sm_xor]
    · rfl
theorem su_one (g : Nat → Nat) (j : Nat) : ∀ k, su (fun i => g i * (if j = i then 1 else 0)) k = if j < k then g j else 0
  | 0 => by simp [su]
  | k + 1 => by
    unfold su
    rw [su_one g j k]
    by_cases e : j = k
    · subst e; simp
    · by_cases h : j < k
      · rw [if_pos h, if_neg e, if_pos (by omega)]; simp
      · rw [if_neg h, if_neg e, if_neg (by omega)]; simp
theorem sm_eye (x k : Nat) : sm (fun i => 2 ^ i) x k = x % 2 ^ k := ext_bt fun j => by
  rw [bt_sm, bt_modp, su_congr (g' := fun i => bt x i * (if j = i then 1 else 0)) k (fun i _ => by rw [bt_pow]), su_one]
  have := bt_le x j
  split <;> omega
theorem sm_eye' {x n : Nat} (h : x < 2 ^ n) : sm (fun i => 2 ^ i) x n = x := by rw [sm_eye, Nat.mod_eq_of_lt h]
theorem sm_lt2 (f : Nat → Nat) (x m : Nat) : ∀ k, (∀ i, i < k → f i < 2 ^ m) → sm f x k < 2 ^ m
  | 0, _ => Nat.two_pow_pos m
  | k + 1, h => by
    unfold sm
    split
    · exact Nat.xor_lt_two_pow (sm_lt2 f x m k (fun i hi => h i (by omega))) (h k (by omega))
    · exact sm_lt2 f x m k (fun i hi => h i (by omega))
theorem sm_noughts (x : Nat) (f : Nat → Nat) : ∀ k, (∀ i, i < k → f i = 0) → sm f x k = 0
  | 0, _ => rfl
  | k + 1, h => by
    unfold sm
    rw [sm_noughts x f k (fun i hi => h i (by omega)), h k (by omega)]
    split <;> rfl
/-- Rows from r on are nought: the first r rows make the sum. -/
theorem sm_short (f : Nat → Nat) (x r : Nat) : ∀ n, r ≤ n → (∀ i, r ≤ i → i < n → f i = 0) → sm f x n = sm f x r
  | 0, h, _ => by have : r = 0 := by omega
                  rw [this]
  | n + 1, h, hz => by
    by_cases e : r = n + 1
    · rw [e]
    · rw [sm, sm_short f x r n (by omega) (fun i a b => hz i a (by omega)), hz n (by omega) (by omega), Nat.xor_zero]
      split <;> rfl
/-- v is a sum of rows. -/
def Sps (f : Nat → Nat) (n v : Nat) : Prop := ∃ x, sm f x n = v
theorem sp_at {f : Nat → Nat} {n i : Nat} (h : i < n) : Sps f n (f i) := ⟨2 ^ i, sm_at f h⟩
theorem sp_xor {f : Nat → Nat} {n v w : Nat} (h : Sps f n v) (g : Sps f n w) : Sps f n (v ^^^ w) := by
  obtain ⟨x, rfl⟩ := h
  obtain ⟨y, rfl⟩ := g
  exact ⟨x ^^^ y, sm_xor f x y n⟩
theorem sp_sub {f g : Nat → Nat} {n m : Nat} (h : ∀ i, i < n → Sps g m (f i)) {v : Nat} (hv : Sps f n v) : Sps g m v := by
  obtain ⟨x, rfl⟩ := hv
  have key : ∀ k, k ≤ n → Sps g m (sm f x k) := by
    intro k
    induction k with
    | zero => intro _; exact ⟨0, sm_zero g m⟩
    | succ k ih =>
      intro hk
      unfold sm
      split
      · exact sp_xor (ih (by omega)) (h k (by omega))
      · exact ih (by omega)
  exact key n (Nat.le_refl _)
/-- A map of the numbers below m into themselves that is one to one hits each. -/
theorem hits : ∀ (m : Nat) (f : Nat → Nat), (∀ i, i < m → f i < m) → (∀ i j, i < m → j < m → f i = f j → i = j) → ∀ y, y < m → ∃ i, i < m ∧ f i = y
  | 0, _, _, _, y, hy => absurd hy (Nat.not_lt_zero _)
  | m + 1, f, hl, hi, y, hy => by
    have hg : ∀ i, i < m → (if f i = m then f m else f i) < m := fun i h => by
      by_cases e : f i = m
      · rw [if_pos e]
        have h1 := hl m (Nat.lt_succ_self m)
        have h2 : f m ≠ m := fun e2 => by have := hi i m (by omega) (by omega) (e.trans e2.symm); omega
        omega
      · rw [if_neg e]
        have h1 := hl i (by omega)
        omega
    have hj : ∀ i j, i < m → j < m → (if f i = m then f m else f i) = (if f j = m then f m else f j) → i = j := fun i j h1 h2 h => by
      by_cases e : f i = m
      · by_cases g : f j = m
        · exact hi i j (by omega) (by omega) (e.trans g.symm)
        · rw [if_pos e, if_neg g] at h
          have := hi m j (by omega) (by omega) h
          omega
      · by_cases g : f j = m
        · rw [if_neg e, if_pos g] at h
          have := hi i m (by omega) (by omega) h
          omega
        · rw [if_neg e, if_neg g] at h
          exact hi i j (by omega) (by omega) h
    have ih := hits m (fun i => if f i = m then f m else f i) hg hj
    by_cases hym : y = m
    · by_cases e : f m = m
      · exact ⟨m, by omega, e.trans hym.symm⟩
      · have h1 := hl m (Nat.lt_succ_self m)
        obtain ⟨i, h2, h3⟩ := ih (f m) (by omega)
        by_cases g : f i = m
        · exact ⟨i, by omega, g.trans hym.symm⟩
        · simp only [if_neg g] at h3
          have := hi i m (by omega) (by omega) h3
          omega
    · obtain ⟨i, h2, h3⟩ := ih y (by omega)
      by_cases g : f i = m
      · simp only [if_pos g] at h3
        exact ⟨m, by omega, h3⟩
      · simp only [if_neg g] at h3
        exact ⟨i, by omega, h3⟩
theorem inj_le {a b : Nat} (f : Nat → Nat) (h1 : ∀ i, i < a → f i < b) (h2 : ∀ i j, i < a → j < a → f i = f j → i = j) : a ≤ b := by
  rcases Nat.lt_or_ge b a with h | h
  · obtain ⟨i, hi, e⟩ := hits a f (fun i hi => Nat.lt_trans (h1 i hi) h) h2 b h
    have := h1 i hi
    omega
  · exact h
/-- Rows that span all: a sum that is nought is that of none. -/
theorem full_inj {h : Nat → Nat} {n : Nat} (hf : ∀ v, v < 2 ^ n → Sps h n v) : ∀ x, x < 2 ^ n → sm h x n = 0 → x = 0 := by
  have hx : ∀ v, v < 2 ^ n → ∃ x, x < 2 ^ n ∧ sm h x n = v := fun v hv => by
    obtain ⟨x, e⟩ := hf v hv
    exact ⟨x % 2 ^ n, Nat.mod_lt _ (Nat.two_pow_pos n), by rw [sm_mod]; exact e⟩
  obtain ⟨X, hX⟩ : ∃ X : Nat → Nat, ∀ v, v < 2 ^ n → X v < 2 ^ n ∧ sm h (X v) n = v := by
    refine ⟨fun v => if g : v < 2 ^ n then Classical.choose (hx v g) else 0, fun v hv => ?_⟩
    simp only [dif_pos hv]
    exact Classical.choose_spec (hx v hv)
  have onto := hits (2 ^ n) X (fun v hv => (hX v hv).1) (fun u v hu hv e => by rw [← (hX u hu).2, ← (hX v hv).2, e])
  intro x hlt h0
  obtain ⟨v, hv, rfl⟩ := onto x hlt
  have e1 : v = 0 := by rw [← (hX v hv).2]; exact h0
  obtain ⟨u, hu, e2⟩ := onto 0 (Nat.two_pow_pos n)
  have e3 : u = 0 := by rw [← (hX u hu).2, e2]; exact sm_zero h n
  rw [e1]
  rw [e3] at e2
  exact e2
/-- What takes rows back on one side does so on the other. -/
theorem both_sides {a b : Nat → Nat} {n : Nat} (hb : ∀ i, i < n → b i < 2 ^ n) (h : ∀ i, i < n → sm a (b i) n = 2 ^ i) : ∀ i, i < n → sm b (a i) n = 2 ^ i := by
  have h1 : ∀ v, v < 2 ^ n → sm a (sm b v n) n = v := fun v hv => by
    rw [sm_sm, sm_congr v n h, sm_eye' hv]
  have onto := hits (2 ^ n) (fun v => sm b v n) (fun v _ => sm_lt2 b v n n hb) (fun u v hu hv e => by
    have e : sm b u n = sm b v n := e
    rw [← h1 u hu, ← h1 v hv, e])
  have h2 : ∀ y, y < 2 ^ n → sm b (sm a y n) n = y := fun y hy => by
    obtain ⟨v, hv, e⟩ := onto y hy
    have e : sm b v n = y := e
    rw [← e, h1 v hv]
  intro i hi
  have := h2 (2 ^ i) (Nat.pow_lt_pow_right (by decide) hi)
  rwa [sm_at a hi] at this
end Go.Proofs.Ytinkdonaedoojaa
