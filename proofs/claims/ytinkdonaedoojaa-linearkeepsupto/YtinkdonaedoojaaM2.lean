/-
  Plain mathematics of matrices of bits, continued: what reducing rows leads to.
-/
import Derived.Test.YtinkdonaedoojaaM1
import Derived.Test.YtinkdonaedoojaaAB
namespace Go.Proofs.Ytinkdonaedoojaa

theorem tb_eq {x y : Nat} (h : ∀ j, x.testBit j = y.testBit j) : x = y := Nat.eq_of_testBit_eq h
theorem tb_high {x n j : Nat} (h : x < 2 ^ n) (hj : n ≤ j) : x.testBit j = false := Nat.testBit_lt_two_pow (Nat.lt_of_lt_of_le h (Nat.pow_le_pow_right (by decide) hj))
theorem swp_i (f : Nat → Nat) {i p : Nat} : swp f i p p = f i := if_pos rfl
theorem swp_p (f : Nat → Nat) {i p : Nat} (h : i ≠ p) : swp f i p i = f p := by
  unfold swp up
  rw [if_neg h, if_pos rfl]
theorem swp_o (f : Nat → Nat) {i p k : Nat} (h1 : k ≠ i) (h2 : k ≠ p) : swp f i p k = f k := by
  unfold swp up
  rw [if_neg h2, if_neg h1]
/-- Each row behind an exchange is a row. -/
theorem swp_some (f : Nat → Nat) (i p k : Nat) : ∃ l, swp f i p k = f l ∧ (k = p ∧ l = i ∨ k = i ∧ l = p ∨ l = k ∧ k ≠ i ∧ k ≠ p) := by
  by_cases h2 : k = p
  · subst h2; exact ⟨i, swp_i f, .inl ⟨rfl, rfl⟩⟩
  · by_cases h1 : k = i
    · subst h1; exact ⟨p, swp_p f h2, .inr (.inl ⟨rfl, rfl⟩)⟩
    · exact ⟨k, swp_o f h1 h2, .inr (.inr ⟨rfl, h1, h2⟩)⟩
/-- Each row is a row behind an exchange. -/
theorem swp_back (f : Nat → Nat) (i p k n : Nat) (hi : i < n) (hp : p < n) (hk : k < n) : ∃ l, l < n ∧ f k = swp f i p l := by
  by_cases h2 : k = p
  · subst h2
    by_cases h1 : i = k
    · subst h1; exact ⟨i, hi, (swp_i f).symm⟩
    · exact ⟨i, hi, (swp_p f h1).symm⟩
  · by_cases h1 : k = i
    · subst h1; exact ⟨p, hp, (swp_i f).symm⟩
    · exact ⟨k, hk, (swp_o f h1 h2).symm⟩
theorem clr_of (p j : Nat) (t u : Nat → Nat) (n : Nat) {i : Nat} (hi : i < n) : clr p j t u n i = if i ≠ p ∧ (t i).testBit j = true then u i ^^^ u p else u i := by
  unfold clr
  by_cases h : i ≠ p ∧ (t i).testBit j = true
  · rw [if_pos ⟨hi, h⟩, if_pos h]
  · rw [if_neg (fun x => h x.2), if_neg h]
theorem bt_inj2 {x y i j : Nat} (h : bt x i = bt y j) : x.testBit i = y.testBit j := by
  unfold bt at h
  cases e : x.testBit i <;> cases g : y.testBit j <;> rw [e, g] at h <;> simp at h <;> rfl
/-- What stays true of rows a, while they are reduced to f, and what is done to them to h. -/
structure Iv (n : Nat) (a f h : Nat → Nat) : Prop where
  fb : ∀ i, i < n → f i < 2 ^ n
  hb : ∀ i, i < n → h i < 2 ^ n
  rows : ∀ i, i < n → f i = sm a (h i) n
  back : ∀ i, i < n → Sps f n (a i)
  full : ∀ i, i < n → Sps h n (2 ^ i)
theorem Iv.start (n : Nat) (a : Nat → Nat) (ha : ∀ i, i < n → a i < 2 ^ n) : Iv n a a (fun i => 2 ^ i) :=
  ⟨ha, fun i hi => Nat.pow_lt_pow_right (by decide) hi, fun i hi => (sm_at a hi).symm, fun i hi => sp_at hi, fun i hi => sp_at (f := fun i => 2 ^ i) hi⟩
theorem Iv.swp {n : Nat} {a f h : Nat → Nat} (H : Iv n a f h) {i p : Nat} (hi : i < n) (hp : p < n) : Iv n a (swp f i p) (swp h i p) := by
  have lt : ∀ {u : Nat → Nat}, (∀ i, i < n → u i < 2 ^ n) → ∀ k, k < n → Go.Proofs.Ytinkdonaedoojaa.swp u i p k < 2 ^ n := fun {u} hu k hk => by
    obtain ⟨l, e, g⟩ := swp_some u i p k
    rw [e]
    exact hu l (by omega)
  refine ⟨lt H.fb, lt H.hb, fun k hk => ?_, fun k hk => ?_, fun k hk => ?_⟩
  · obtain ⟨l, e, g⟩ := swp_some f i p k
    obtain ⟨l', e', g'⟩ := swp_some h i p k
    obtain rfl : l = l' := by omega
    rw [e, e']
    exact H.rows l (by omega)
  · exact sp_sub (fun q hq => by obtain ⟨l, hl, e⟩ := swp_back f i p q n hi hp hq; rw [e]; exact sp_at hl) (H.back k hk)
  · exact sp_sub (fun q hq => by obtain ⟨l, hl, e⟩ := swp_back h i p q n hi hp hq; rw [e]; exact sp_at hl) (H.full k hk)
theorem clr_sp (n p j : Nat) (t u : Nat → Nat) (hp : p < n) (q : Nat) (hq : q < n) : Sps (clr p j t u n) n (u q) := by
  have e := clr_of p j t u n hq
  have ep : clr p j t u n p = u p := clr_p p j t u n
  by_cases h : q ≠ p ∧ (t q).testBit j = true
  · rw [if_pos h] at e
    have : u q = clr p j t u n q ^^^ clr p j t u n p := by rw [e, ep, xor_back]
    rw [this]
    exact sp_xor (sp_at hq) (sp_at hp)
  · rw [if_neg h] at e
    rw [← e]
    exact sp_at hq
theorem Iv.clr {n : Nat} {a f h : Nat → Nat} (H : Iv n a f h) {p j : Nat} (hp : p < n) : Iv n a (clr p j f f n) (clr p j f h n) := by
  have lt : ∀ {u : Nat → Nat}, (∀ i, i < n → u i < 2 ^ n) → ∀ k, k < n → Go.Proofs.Ytinkdonaedoojaa.clr p j f u n k < 2 ^ n := fun {u} hu k hk => by
    rw [clr_of p j f u n hk]
    split
    · exact Nat.xor_lt_two_pow (hu k hk) (hu p hp)
    · exact hu k hk
  refine ⟨lt H.fb, lt H.hb, fun k hk => ?_, fun k hk => ?_, fun k hk => ?_⟩
  · rw [clr_of p j f f n hk, clr_of p j f h n hk]
    split
    · rw [sm_xor, ← H.rows k hk, ← H.rows p hp]
    · exact H.rows k hk
  · exact sp_sub (fun q hq => clr_sp n p j f f hp q hq) (H.back k hk)
  · exact sp_sub (fun q hq => clr_sp n p j f h hp q hq) (H.full k hk)
/-- How far rows are reduced when the first j columns have been looked at. -/
structure Pv (n j : Nat) (f : Nat → Nat) (r : Nat) : Prop where
  rj : r ≤ j
  piv : ∃ pv : Nat → Nat, (∀ p, p < r → pv p < j ∧ ∀ i, i < n → (f i).testBit (pv p) = decide (i = p)) ∧ (r = j → ∀ p, p < r → pv p = p)
  low : ∀ i, r ≤ i → i < n → ∀ c, c < j → (f i).testBit c = false
theorem Pv.start (n : Nat) (f : Nat → Nat) : Pv n 0 f 0 := ⟨Nat.le_refl _, ⟨fun p => p, fun _ hp => absurd hp (Nat.not_lt_zero _), fun _ _ _ => rfl⟩, fun _ _ _ _ hc => absurd hc (Nat.not_lt_zero _)⟩
theorem Pv.none {n j r : Nat} {f : Nat → Nat} (H : Pv n j f r) (h : fnd f j r n = none) : Pv n (j + 1) f r := by
  obtain ⟨pv, h1, h2⟩ := H.piv
  have hrj := H.rj
  refine ⟨by omega, ⟨pv, fun p hp => ⟨by have := (h1 p hp).1; omega, (h1 p hp).2⟩, fun e => by omega⟩, fun i hr hi c hc => ?_⟩
  by_cases e : c = j
  · subst e; exact fnd_no f c r n h i hi hr
  · exact H.low i hr hi c (by omega)
theorem Pv.some {n j r i0 : Nat} {f : Nat → Nat} (H : Pv n j f r) (hrn : r < n) (h : fnd f j r n = some i0) : Pv n (j + 1) (clr r j (swp f i0 r) (swp f i0 r) n) (r + 1) := by
  obtain ⟨hi0, hri, hbit⟩ := fnd_lt f j r n i0 h
  obtain ⟨pv, h1, h2⟩ := H.piv
  have hrj := H.rj
  have hf1 : ∀ i, i < n → r ≤ i → ∃ l, l < n ∧ r ≤ l ∧ swp f i0 r i = f l := fun i hi hr => by
    obtain ⟨l, e, g⟩ := swp_some f i0 r i
    exact ⟨l, by omega, by omega, e⟩
  have hlo : ∀ i, i < n → i < r → swp f i0 r i = f i := fun i hi hr => swp_o f (by omega) (by omega)
  have hpv1 : ∀ p, p < r → ∀ i, i < n → (swp f i0 r i).testBit (pv p) = decide (i = p) := fun p hp i hi => by
    by_cases hir : i < r
    · rw [hlo i hi hir]; exact (h1 p hp).2 i hi
    · obtain ⟨l, hl, hrl, e⟩ := hf1 i hi (by omega)
      rw [e, (h1 p hp).2 l hl, decide_eq_false (by omega), decide_eq_false (by omega)]
  have hr1 : swp f i0 r r = f i0 := swp_i f
  have hc : ∀ i, i < n → clr r j (swp f i0 r) (swp f i0 r) n i = if i ≠ r ∧ (swp f i0 r i).testBit j = true then swp f i0 r i ^^^ swp f i0 r r else swp f i0 r i := fun i hi => clr_of r j _ _ n hi
  have hj2 : ∀ i, i < n → (clr r j (swp f i0 r) (swp f i0 r) n i).testBit j = decide (i = r) := fun i hi => by
    rw [hc i hi]
    by_cases e : i = r
    · subst e
      rw [if_neg (fun x => x.1 rfl), hr1, hbit, decide_eq_true rfl]
    · rw [decide_eq_false e]
      by_cases t : (swp f i0 r i).testBit j = true
      · rw [if_pos ⟨e, t⟩, Nat.testBit_xor, t, hr1, hbit]; rfl
      · rw [if_neg (fun x => t x.2)]; simpa using t
  refine ⟨by omega, ⟨fun p => if p = r then j else pv p, fun p hp => ?_, fun e p hp => ?_⟩, fun i hr hi c hcj => ?_⟩
  · by_cases e : p = r
    · subst e
      simp only [if_true]
      exact ⟨by omega, hj2⟩
    · simp only [if_neg e]
      refine ⟨by have := (h1 p (by omega)).1; omega, fun i hi => ?_⟩
      rw [hc i hi]
      have h3 := hpv1 p (by omega) i hi
      have h4 := hpv1 p (by omega) r hrn
      rw [decide_eq_false (show ¬ r = p by omega)] at h4
      split
      · rw [Nat.testBit_xor, h3, h4, Bool.xor_false]
      · exact h3
  · by_cases e2 : p = r
    · subst e2; simp only [if_true]; omega
    · simp only [if_neg e2]
      exact h2 (by omega) p (by omega)
  · by_cases e : c = j
    · subst e
      rw [hj2 i hi, decide_eq_false (by omega)]
    · rw [hc i hi]
      obtain ⟨l, hl, hrl, e1⟩ := hf1 i hi (by omega)
      have h3 : (swp f i0 r i).testBit c = false := by rw [e1]; exact H.low l hrl hl c (by omega)
      have h4 : (swp f i0 r r).testBit c = false := by rw [hr1]; exact H.low i0 hri hi0 c (by omega)
      split
      · rw [Nat.testBit_xor, h3, h4]; rfl
      · exact h3
/-- All that reducing keeps and reaches. -/
theorem rd_all (n : Nat) (a : Nat → Nat) (ha : ∀ i, i < n → a i < 2 ^ n) : ∀ j, j ≤ n → Iv n a (rd n a (fun i => 2 ^ i) j).f (rd n a (fun i => 2 ^ i) j).h ∧ Pv n j (rd n a (fun i => 2 ^ i) j).f (rd n a (fun i => 2 ^ i) j).r
  | 0, _ => ⟨Iv.start n a ha, Pv.start n a⟩
  | j + 1, hj => by
    obtain ⟨h1, h2⟩ := rd_all n a ha j (by omega)
    unfold rd
    generalize rd n a (fun i => 2 ^ i) j = s at *
    obtain ⟨f, h, r⟩ := s
    simp only at *
    unfold stp
    simp only
    cases e : fnd f j r n with
    | none => exact ⟨h1, h2.none e⟩
    | some i0 =>
      have hrn : r < n := by have := h2.rj; omega
      exact ⟨(h1.swp (fnd_lt f j r n i0 e).1 hrn).clr hrn, h2.some hrn e⟩
section
variable {n : Nat} {a : Nat → Nat}
theorem inv_left (ha : ∀ i, i < n → a i < 2 ^ n) (hr : rk n a = n) : ∀ i, i < n → sm a (iv n a i) n = 2 ^ i := fun i hi => by
  obtain ⟨h1, h2⟩ := rd_all n a ha n (Nat.le_refl _)
  obtain ⟨pv, p1, p2⟩ := h2.piv
  have hr : (rd n a (fun i => 2 ^ i) n).r = n := hr
  rw [hr] at p1 p2
  show sm a ((rd n a (fun i => 2 ^ i) n).h i) n = _
  rw [← h1.rows i hi]
  refine tb_eq fun c => ?_
  rw [Nat.testBit_two_pow]
  by_cases hc : c < n
  · have := (p1 c hc).2 i hi
    rwa [p2 rfl c hc] at this
  · rw [tb_high (h1.fb i hi) (by omega), decide_eq_false (by omega)]
theorem iv_lt (ha : ∀ i, i < n → a i < 2 ^ n) : ∀ i, i < n → iv n a i < 2 ^ n := (rd_all n a ha n (Nat.le_refl _)).1.hb
theorem inv_right (ha : ∀ i, i < n → a i < 2 ^ n) (hr : rk n a = n) : ∀ i, i < n → sm (iv n a) (a i) n = 2 ^ i := both_sides (iv_lt ha) (inv_left ha hr)
theorem rd_nought (ha : ∀ i, i < n → a i < 2 ^ n) : ∀ i, rk n a ≤ i → i < n → (rd n a (fun i => 2 ^ i) n).f i = 0 := fun i hr hi => by
  obtain ⟨h1, h2⟩ := rd_all n a ha n (Nat.le_refl _)
  refine tb_eq fun c => ?_
  rw [Nat.zero_testBit]
  by_cases hc : c < n
  · exact h2.low i hr hi c hc
  · exact tb_high (h1.fb i hi) (by omega)
/-- Where the rank is less, some sum of rows is nought. -/
theorem singular (ha : ∀ i, i < n → a i < 2 ^ n) (hr : rk n a < n) : ∃ x, x < 2 ^ n ∧ x ≠ 0 ∧ sm a x n = 0 := by
  obtain ⟨h1, h2⟩ := rd_all n a ha n (Nat.le_refl _)
  refine ⟨_, h1.hb (rk n a) hr, fun e => ?_, ?_⟩
  · have hf := full_inj (h := (rd n a (fun i => 2 ^ i) n).h) (n := n) (fun v hv => by
      rw [← sm_eye' hv]
      exact sp_sub (f := fun i => 2 ^ i) (n := n) h1.full ⟨v, rfl⟩) (2 ^ rk n a) (Nat.pow_lt_pow_right (by decide) hr) (by rw [sm_at _ hr]; exact e)
    have := Nat.two_pow_pos (rk n a)
    omega
  · rw [← h1.rows _ hr]
    exact rd_nought ha _ (Nat.le_refl _) hr
/-- The rows that are left span what the rows span. -/
theorem span_of (ha : ∀ i, i < n → a i < 2 ^ n) (x : Nat) : ∃ y, y < 2 ^ rk n a ∧ sm (rd n a (fun i => 2 ^ i) n).f y (rk n a) = sm a x n := by
  obtain ⟨h1, h2⟩ := rd_all n a ha n (Nat.le_refl _)
  obtain ⟨y, e⟩ := sp_sub (f := a) (n := n) h1.back ⟨x, rfl⟩
  refine ⟨y % 2 ^ rk n a, Nat.mod_lt _ (Nat.two_pow_pos _), ?_⟩
  rw [sm_mod, ← e, sm_short _ y (rk n a) n (rk_le n a) (fun i h1 h2 => rd_nought ha i h1 h2)]
/-- Rows whose sums are told by a function of the numbers below 2 to the m have a rank of at most m. -/
theorem rank_le (ha : ∀ i, i < n → a i < 2 ^ n) {m : Nat} {G : Nat → Nat} (hG : ∀ x, ∃ y, y < 2 ^ m ∧ G y = sm a x n) : rk n a ≤ m := by
  obtain ⟨h1, h2⟩ := rd_all n a ha n (Nat.le_refl _)
  obtain ⟨pv, p1, _⟩ := h2.piv
  have hrk : (rd n a (fun i => 2 ^ i) n).r = rk n a := rfl
  rw [hrk] at p1
  have hin : ∀ x, x < 2 ^ rk n a → ∃ z, sm a z n = sm (rd n a (fun i => 2 ^ i) n).f x n := fun x _ => by
    refine ⟨sm (rd n a (fun i => 2 ^ i) n).h x n, ?_⟩
    rw [sm_sm]
    exact (sm_congr x n (fun i hi => h1.rows i hi)).symm
  have hy : ∀ x, x < 2 ^ rk n a → ∃ y, y < 2 ^ m ∧ G y = sm (rd n a (fun i => 2 ^ i) n).f x n := fun x hx => by
    obtain ⟨z, e⟩ := hin x hx
    obtain ⟨y, h, g⟩ := hG z
    exact ⟨y, h, g.trans e⟩
  have hbit : ∀ x, x < 2 ^ rk n a → ∀ p, p < rk n a → (sm (rd n a (fun i => 2 ^ i) n).f x n).testBit (pv p) = x.testBit p := fun x hx p hp => by
    refine bt_inj2 ?_
    rw [bt_sm, su_congr (g' := fun i => bt x i * (if p = i then 1 else 0)) n (fun i hi => by
      have := (p1 p hp).2 i hi
      congr 1
      by_cases e : p = i
      · rw [if_pos e]; exact bt_one.2 (by rw [this]; exact decide_eq_true e.symm)
      · rw [if_neg e]; exact bt_zero.2 (by rw [this]; exact decide_eq_false (fun h => e h.symm))), su_one, if_pos (Nat.lt_of_lt_of_le hp (rk_le n a))]
    have := bt_le x p
    omega
  obtain ⟨Y, hY⟩ : ∃ Y : Nat → Nat, ∀ x, x < 2 ^ rk n a → Y x < 2 ^ m ∧ G (Y x) = sm (rd n a (fun i => 2 ^ i) n).f x n := by
    refine ⟨fun x => if g : x < 2 ^ rk n a then Classical.choose (hy x g) else 0, fun x hx => ?_⟩
    simp only [dif_pos hx]
    exact Classical.choose_spec (hy x hx)
  have hle := inj_le Y (fun x hx => (hY x hx).1) (fun u v hu hv e => by
    have e2 : sm (rd n a (fun i => 2 ^ i) n).f u n = sm (rd n a (fun i => 2 ^ i) n).f v n := by rw [← (hY u hu).2, ← (hY v hv).2, e]
    refine tb_eq fun p => ?_
    by_cases hp : p < rk n a
    · rw [← hbit u hu p hp, ← hbit v hv p hp, e2]
    · rw [tb_high hu (by omega), tb_high hv (by omega)])
  rcases Nat.lt_or_ge m (rk n a) with h | h
  · have := Nat.pow_lt_pow_right (a := 2) (by decide) h
    omega
  · exact h
end
end Go.Proofs.Ytinkdonaedoojaa
