/-
  Put together of: C0.
-/
import Derived.Test.YtoddbaljnlhhaabXB
namespace Go.Proofs.Ytoddbaljnlhhaab.PL
open Go.RowKit

/-- A map of the numbers below m into themselves that is one to one hits each. -/
theorem hits : ∀ (m : Nat) (f : Nat → Nat), (∀ i, i < m → f i < m) → (∀ i j, i < m → j < m → f i = f j → i = j) → ∀ y, y < m → ∃ i, i < m ∧ f i = y
  | 0, _, _, _, y, hy => absurd hy (Nat.not_lt_zero _)
  | m + 1, f, hl, hi, y, hy => by
    have hg : ∀ i, i < m → (if f i = m then f m else f i) < m := fun i h => by
      by_cases e : f i = m
      · rw [if_pos e]
        have h1 := hl m (Nat.lt_succ_self m)
        have h2 : f m ≠ m := fun e2 => by have := hi i m (by omega) (by omega) (e.trans e2.symm); omega
        omega
      · rw [if_neg e]
        have h1 := hl i (by omega)
        omega
    have hj : ∀ i j, i < m → j < m → (if f i = m then f m else f i) = (if f j = m then f m else f j) → i = j := fun i j h1 h2 h => by
      by_cases e : f i = m
      · by_cases g : f j = m
        · exact hi i j (by omega) (by omega) (e.trans g.symm)
        · rw [if_pos e, if_neg g] at h
          have := hi m j (by omega) (by omega) h
          omega
      · by_cases g : f j = m
        · rw [if_neg e, if_pos g] at h
          have := hi i m (by omega) (by omega) h
          omega
        · rw [if_neg e, if_neg g] at h
          exact hi i j (by omega) (by omega) h
    have ih := hits m (fun i => if f i = m then f m else f i) hg hj
    by_cases hym : y = m
    · by_cases e : f m = m
      · exact ⟨m, by omega, e.trans hym.symm⟩
      · have h1 := hl m (Nat.lt_succ_self m)
        obtain ⟨i, h2, h3⟩ := ih (f m) (by omega)
        by_cases g : f i = m
        · exact ⟨i, by omega, g.trans hym.symm⟩
        · simp only [if_neg g] at h3
          have := hi i m (by omega) (by omega) h3
          omega
    · obtain ⟨i, h2, h3⟩ := ih y (by omega)
      by_cases g : f i = m
      · simp only [if_pos g] at h3
        exact ⟨m, by omega, h3⟩
      · simp only [if_neg g] at h3
        exact ⟨i, by omega, h3⟩

theorem xor_nil {a b : Nat} (h : a ^^^ b = 0) : a = b := by
  have h1 : (a ^^^ b) ^^^ b = a := by rw [Nat.xor_assoc, Nat.xor_self, Nat.xor_zero]
  rw [h, Nat.zero_xor] at h1
  exact h1.symm
theorem comB_lt (x z x' z' : Nat) : comB x z x' z' < 2 := Nat.mod_lt _ (by decide)
theorem pop_xor_and (a b c : Nat) : pop 64 ((a ^^^ b) &&& c) % 2 = (pop 64 (a &&& c) + pop 64 (b &&& c)) % 2 :=
  pop_parity 64 _ _ _ (fun i => by
    rw [bt_and, bt_and, bt_and, bt_xor]
    rcases bt01 a i with e1 | e1 <;> rcases bt01 b i with e2 | e2 <;> rcases bt01 c i with e3 | e3 <;> rw [e1, e2, e3])
theorem comB_sym (x z x' z' : Nat) : comB x z x' z' = comB x' z' x z := by
  rw [comB_is, comB_is, Nat.and_comm x z', Nat.and_comm z x']
  congr 1
  omega
theorem comB_xor (x z x1 z1 x' z' : Nat) : comB (x ^^^ x1) (z ^^^ z1) x' z' = (comB x z x' z' + comB x1 z1 x' z') % 2 := by
  have h1 := pop_xor_and x x1 z'
  have h2 := pop_xor_and z z1 x'
  rw [comB_is, comB_is, comB_is]
  omega
theorem comB_xor' (x z x1 z1 x' z' : Nat) : comB x' z' (x ^^^ x1) (z ^^^ z1) = (comB x' z' x z + comB x' z' x1 z1) % 2 := by
  rw [comB_sym x' z', comB_xor, comB_sym x z, comB_sym x1 z1]
theorem comB_nil (x z : Nat) : comB x z 0 0 = 0 := by
  rw [comB_is, Nat.and_zero, Nat.and_zero, pop_zero]
theorem comB_self (x z : Nat) : comB x z x z = 0 := by
  rw [comB_is, Nat.and_comm z x]; omega

/-- The product of the rows that the bits of c name, of the first m. -/
def cmb (s : Nat → Nat × Nat) (c : Nat) : Nat → Nat × Nat
  | 0 => (0, 0)
  | m + 1 => if bt c m = 1 then ((cmb s c m).1 ^^^ (s m).1, (cmb s c m).2 ^^^ (s m).2) else cmb s c m
theorem cmb_lt {s : Nat → Nat × Nat} {N M : Nat} (hs : ∀ j, j < M → (s j).1 < 2 ^ N ∧ (s j).2 < 2 ^ N) (c : Nat) : ∀ m, m ≤ M → (cmb s c m).1 < 2 ^ N ∧ (cmb s c m).2 < 2 ^ N
  | 0, _ => ⟨Nat.two_pow_pos _, Nat.two_pow_pos _⟩
  | m + 1, h => by
    have h1 := cmb_lt hs c m (by omega)
    have h2 := hs m (by omega)
    unfold cmb
    split
    · exact ⟨xor_ltn h1.1 h2.1, xor_ltn h1.2 h2.2⟩
    · exact h1
theorem cmb_zero (s : Nat → Nat × Nat) : ∀ m, cmb s 0 m = (0, 0)
  | 0 => rfl
  | m + 1 => by
    unfold cmb
    rw [if_neg (by rw [bt_nought]; omega)]
    exact cmb_zero s m
/-- The partner of a row. -/
def prt (N j : Nat) : Nat := if j < N then j + N else j - N
/-- Rows that commute as a right tableau's do. -/
def Basis (N : Nat) (s : Nat → Nat × Nat) : Prop := (∀ j, j < 2 * N → (s j).1 < 2 ^ N ∧ (s j).2 < 2 ^ N) ∧ ∀ j k, j < 2 * N → k < 2 * N → comB (s j).1 (s j).2 (s k).1 (s k).2 = if k = prt N j then 1 else 0
theorem prt_lt {N j : Nat} (h : j < 2 * N) : prt N j < 2 * N := by unfold prt; split <;> omega
theorem prt_prt {N j : Nat} (h : j < 2 * N) : prt N (prt N j) = j := by unfold prt; repeat (first | omega | split)
theorem cmb_bit {N : Nat} {s : Nat → Nat × Nat} (h : Basis N s) (c j : Nat) (hj : j < 2 * N) : ∀ m, m ≤ 2 * N → comB (s j).1 (s j).2 (cmb s c m).1 (cmb s c m).2 = if prt N j < m then bt c (prt N j) else 0
  | 0, _ => by rw [if_neg (Nat.not_lt_zero _)]; exact comB_nil _ _
  | m + 1, hm => by
    have ih := cmb_bit h c j hj m (by omega)
    have h1 := h.2 j m hj (by omega)
    unfold cmb
    rcases bt01 c m with e | e
    · rw [if_neg (by omega), ih]
      by_cases g : prt N j = m
      · rw [g, if_neg (by omega), if_pos (by omega), e]
      · by_cases g2 : prt N j < m
        · rw [if_pos g2, if_pos (by omega)]
        · rw [if_neg g2, if_neg (by omega)]
    · rw [if_pos e, comB_xor', ih, h1]
      by_cases g : prt N j = m
      · rw [g, if_neg (by omega), if_pos rfl, if_pos (by omega), e]
      · rw [if_neg (show ¬ m = prt N j from fun k => g k.symm)]
        have := bt_le c (prt N j)
        by_cases g2 : prt N j < m
        · rw [if_pos g2, if_pos (by omega)]; omega
        · rw [if_neg g2, if_neg (by omega)]
theorem pair_inj {N a b a' b' : Nat} (ha : a < 2 ^ N) (ha' : a' < 2 ^ N) (h : a + 2 ^ N * b = a' + 2 ^ N * b') : a = a' ∧ b = b' := by
  have h1 : (a + 2 ^ N * b) % 2 ^ N = a := by rw [Nat.add_mul_mod_self_left, Nat.mod_eq_of_lt ha]
  have h2 : (a' + 2 ^ N * b') % 2 ^ N = a' := by rw [Nat.add_mul_mod_self_left, Nat.mod_eq_of_lt ha']
  have h3 : (a + 2 ^ N * b) / 2 ^ N = b := by rw [Nat.add_mul_div_left _ _ (Nat.two_pow_pos _), Nat.div_eq_of_lt ha, Nat.zero_add]
  have h4 : (a' + 2 ^ N * b') / 2 ^ N = b' := by rw [Nat.add_mul_div_left _ _ (Nat.two_pow_pos _), Nat.div_eq_of_lt ha', Nat.zero_add]
  exact ⟨by rw [← h1, ← h2, h], by rw [← h3, ← h4, h]⟩
theorem pair_lt {N a b : Nat} (ha : a < 2 ^ N) (hb : b < 2 ^ N) : a + 2 ^ N * b < 2 ^ (2 * N) := by
  have h1 : 2 ^ N * b + 2 ^ N ≤ 2 ^ N * 2 ^ N := by
    have := Nat.mul_le_mul_left (2 ^ N) (show b + 1 ≤ 2 ^ N from hb)
    rwa [Nat.mul_add, Nat.mul_one] at this
  have h2 : 2 ^ (2 * N) = 2 ^ N * 2 ^ N := by rw [show 2 * N = N + N by omega, Nat.pow_add]
  omega
/-- Each pair is a product of rows. -/
theorem basis_onto {N : Nat} {s : Nat → Nat × Nat} (h : Basis N s) {x z : Nat} (hx : x < 2 ^ N) (hz : z < 2 ^ N) : ∃ c, c < 2 ^ (2 * N) ∧ cmb s c (2 * N) = (x, z) := by
  obtain ⟨c, hc, he⟩ := hits (2 ^ (2 * N)) (fun c => (cmb s c (2 * N)).1 + 2 ^ N * (cmb s c (2 * N)).2)
    (fun i _ => pair_lt (cmb_lt h.1 i (2 * N) (Nat.le_refl _)).1 (cmb_lt h.1 i (2 * N) (Nat.le_refl _)).2)
    (fun i j hi hj e => by
      obtain ⟨e1, e2⟩ := pair_inj (cmb_lt h.1 i (2 * N) (Nat.le_refl _)).1 (cmb_lt h.1 j (2 * N) (Nat.le_refl _)).1 e
      refine ext_bt fun k => ?_
      by_cases hk : k < 2 * N
      · have h1 := cmb_bit h i (prt N k) (prt_lt hk) (2 * N) (Nat.le_refl _)
        have h2 := cmb_bit h j (prt N k) (prt_lt hk) (2 * N) (Nat.le_refl _)
        rw [prt_prt hk, if_pos hk] at h1 h2
        rw [← h1, ← h2, e1, e2]
      · have lo : ∀ y, y < 2 ^ (2 * N) → bt y k = 0 := fun y hy => bt_zero.2 (Nat.testBit_lt_two_pow (Nat.lt_of_lt_of_le hy (Nat.pow_le_pow_right (by decide) (by omega))))
        rw [lo i hi, lo j hj])
    (x + 2 ^ N * z) (pair_lt hx hz)
  obtain ⟨e1, e2⟩ := pair_inj (cmb_lt h.1 c (2 * N) (Nat.le_refl _)).1 hx he
  exact ⟨c, hc, Prod.ext e1 e2⟩
/-- What commutes with all rows is nothing. -/
theorem basis_nil {N : Nat} {s : Nat → Nat × Nat} (h : Basis N s) {x z : Nat} (hx : x < 2 ^ N) (hz : z < 2 ^ N) (hc : ∀ j, j < 2 * N → comB (s j).1 (s j).2 x z = 0) : x = 0 ∧ z = 0 := by
  obtain ⟨c, h1, h2⟩ := basis_onto h hx hz
  have h3 : c = 0 := ext_bt fun k => by
    rw [bt_nought]
    by_cases hk : k < 2 * N
    · have h4 := cmb_bit h c (prt N k) (prt_lt hk) (2 * N) (Nat.le_refl _)
      rw [prt_prt hk, if_pos hk, h2] at h4
      rw [← h4]
      exact hc _ (prt_lt hk)
    · exact bt_zero.2 (Nat.testBit_lt_two_pow (Nat.lt_of_lt_of_le h1 (Nat.pow_le_pow_right (by decide) (by omega))))
  rw [h3, cmb_zero] at h2
  cases h2
  exact ⟨rfl, rfl⟩
/-- The product of the first m stabilizers whose partners don't commute with a string. -/
def sel (N : Nat) (s : Nat → Nat × Nat) (x z : Nat) : Nat → Nat × Nat
  | 0 => (0, 0)
  | m + 1 => if comB (s m).1 (s m).2 x z = 0 then sel N s x z m else ((sel N s x z m).1 ^^^ (s (N + m)).1, (sel N s x z m).2 ^^^ (s (N + m)).2)
theorem sel_lt {N : Nat} {s : Nat → Nat × Nat} (h : Basis N s) (x z : Nat) : ∀ m, m ≤ N → (sel N s x z m).1 < 2 ^ N ∧ (sel N s x z m).2 < 2 ^ N
  | 0, _ => ⟨Nat.two_pow_pos _, Nat.two_pow_pos _⟩
  | m + 1, hm => by
    have h1 := sel_lt h x z m (by omega)
    have h2 := h.1 (N + m) (by omega)
    unfold sel
    split
    · exact h1
    · exact ⟨xor_ltn h1.1 h2.1, xor_ltn h1.2 h2.2⟩
theorem sel_com {N : Nat} {s : Nat → Nat × Nat} (h : Basis N s) (x z j : Nat) (hj : j < 2 * N) : ∀ m, m ≤ N → comB (s j).1 (s j).2 (sel N s x z m).1 (sel N s x z m).2 = if j < m then comB (s j).1 (s j).2 x z else 0
  | 0, _ => by rw [if_neg (Nat.not_lt_zero _)]; exact comB_nil _ _
  | m + 1, hm => by
    have ih := sel_com h x z j hj m (by omega)
    have h1 := h.2 j (N + m) hj (by omega)
    have hp : N + m = prt N j ↔ j = m := by unfold prt; split <;> omega
    have hc := comB_lt (s j).1 (s j).2 x z
    unfold sel
    by_cases e : comB (s m).1 (s m).2 x z = 0
    · rw [if_pos e, ih]
      by_cases g : j = m
      · subst g; rw [if_neg (by omega), if_pos (by omega), e]
      · by_cases g2 : j < m
        · rw [if_pos g2, if_pos (by omega)]
        · rw [if_neg g2, if_neg (by omega)]
    · rw [if_neg e, comB_xor', ih, h1]
      by_cases g : j = m
      · subst g
        rw [if_neg (by omega), if_pos (hp.2 rfl), if_pos (by omega)]
        omega
      · rw [if_neg (fun k => g (hp.1 k))]
        by_cases g2 : j < m
        · rw [if_pos g2, if_pos (by omega)]; omega
        · rw [if_neg g2, if_neg (by omega)]
/-- A string that commutes with all stabilizers is that product, but for its phase. -/
theorem sel_is {N : Nat} {s : Nat → Nat × Nat} (h : Basis N s) {x z : Nat} (hx : x < 2 ^ N) (hz : z < 2 ^ N) (hc : ∀ k, k < N → comB (s (N + k)).1 (s (N + k)).2 x z = 0) : sel N s x z N = (x, z) := by
  have h1 := sel_lt h x z N (Nat.le_refl _)
  have h2 := basis_nil h (xor_ltn h1.1 hx) (xor_ltn h1.2 hz) (fun j hj => by
    rw [comB_xor', sel_com h x z j hj N (Nat.le_refl _)]
    by_cases g : j < N
    · rw [if_pos g]
      have := comB_lt (s j).1 (s j).2 x z
      omega
    · rw [if_neg g]
      have := hc (j - N) (by omega)
      rw [show N + (j - N) = j by omega] at this
      rw [this])
  have e1 : (sel N s x z N).1 = x := xor_nil h2.1
  have e2 : (sel N s x z N).2 = z := xor_nil h2.2
  exact Prod.ext e1 e2
end Go.Proofs.Ytoddbaljnlhhaab.PL
