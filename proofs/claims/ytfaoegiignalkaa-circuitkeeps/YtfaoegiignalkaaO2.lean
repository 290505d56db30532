/-
  Marks and bound operations: what least tells is one more than the greatest value of those that are bound.
-/
import Derived.Test.YtfaoegiignalkaaO1
import Derived.Laws.BitsAllLaws
namespace Go.Proofs.Ytfaoegiignalkaa
open Go.RowKit Go.Shelf

theorem pow_lt64 {j : Nat} (hj : j < 64) : 2 ^ j < 18446744073709551616 := Nat.pow_lt_pow_right (by decide) hj
theorem rd_bit {m : Nat} (hm : m < 18446744073709551616) (j : Nat) : rdB (m : Int) j = m.testBit j := by
  unfold rdB
  have e : ((m : Int) / 2 ^ j) = ((m / 2 ^ j : Nat) : Int) := by simp
  rw [e, show (1 : Int) = ((1 : Nat) : Int) from rfl, u64_and_nat _ _ (Nat.lt_of_le_of_lt (Nat.div_le_self _ _) hm) (by decide), Nat.and_one_is_mod]
  have h2 := Nat.toNat_testBit m j
  rw [← h2]
  cases m.testBit j <;> rfl
theorem lt_mx (x a b : Nat) : x < max a b ↔ x < a ∨ x < b := by omega
theorem pow_and {q m : Nat} (hq : q < 64) (hm : m < 18446744073709551616) : (bits .and .u64 ((2 ^ q : Nat) : Int) (m : Int) != 0) = m.testBit q := by
  rw [u64_and_nat _ _ (pow_lt64 hq) hm]
  cases e : m.testBit q with
  | false =>
    have : 2 ^ q &&& m = 0 := Nat.eq_of_testBit_eq fun i => by
      rw [Nat.testBit_and, Nat.testBit_two_pow, Nat.zero_testBit]
      by_cases h : q = i
      · subst h; rw [e, Bool.and_false]
      · rw [decide_eq_false h, Bool.false_and]
    rw [this]
    rfl
  | true =>
    have : (2 ^ q &&& m) ≠ 0 := fun h => by
      have h2 : (2 ^ q &&& m).testBit q = true := by rw [Nat.testBit_and, Nat.testBit_two_pow, e, decide_eq_true rfl]; rfl
      rw [h, Nat.zero_testBit] at h2
      cases h2
    exact bne_iff_ne.2 (by omega)
theorem nought_and (x : Nat) (hx : x < 18446744073709551616) : (bits .and .u64 0 (x : Int) != 0) = false := by
  rw [show (0 : Int) = ((0 : Nat) : Int) from rfl, u64_and_nat _ _ (by decide) hx, Nat.zero_and]
  rfl
/-- The marks at which an operation looks; those that it leaves. -/
def RDm (o : Oq) (i : Nat) : Prop := (∃ q ∈ o.qs, i = q.toNat) ∨ (∃ j, j < 64 ∧ rdB o.m j = true ∧ i = 64 + j) ∨ (o.k = 2 ∧ (i = 64 + o.b.toNat ∨ i = 128 + o.b.toNat)) ∨ (o.k ≠ 1 ∧ i = 192)
def WRm (o : Oq) (i : Nat) : Prop := (∃ q ∈ o.qs, i = q.toNat) ∨ (∃ j, j < 64 ∧ rdB o.m j = true ∧ i = 128 + j) ∨ (o.k = 2 ∧ i = 64 + o.b.toNat) ∨ (o.k ≠ 1 ∧ i = 192)
theorem lstQ_lt {f : Nat → Nat} {x : Nat} : ∀ (l : List Int) (a : Nat), x < lstQ f l a ↔ x < a ∨ ∃ q ∈ l, x < f q.toNat
  | [], a => by simp [lstQ]
  | q :: l, a => by
    unfold lstQ
    rw [lstQ_lt l]
    simp only [List.mem_cons, exists_eq_or_imp]
    constructor
    · rintro (h | h)
      · by_cases h1 : x < a
        · exact .inl h1
        · exact .inr (.inl (by omega))
      · exact .inr (.inr h)
    · rintro (h | h | h)
      · exact .inl (by omega)
      · exact .inl (by omega)
      · exact .inr h
theorem lstR_lt {f : Nat → Nat} {m : Int} {x : Nat} : ∀ (k a : Nat), x < lstR f m k a ↔ x < a ∨ ∃ j, j < k ∧ rdB m j = true ∧ x < f (64 + j)
  | 0, a => by simp [lstR]
  | k + 1, a => by
    have key : (∃ j, j < k + 1 ∧ rdB m j = true ∧ x < f (64 + j)) ↔ (∃ j, j < k ∧ rdB m j = true ∧ x < f (64 + j)) ∨ (rdB m k = true ∧ x < f (64 + k)) := by
      constructor
      · rintro ⟨j, hj, h⟩
        by_cases e : j = k
        · subst e; exact .inr h
        · exact .inl ⟨j, by omega, h⟩
      · rintro (⟨j, hj, h⟩ | h)
        · exact ⟨j, by omega, h⟩
        · exact ⟨k, by omega, h⟩
    unfold lstR
    rw [key]
    by_cases hr : rdB m k = true
    · rw [if_pos hr, lt_mx, lstR_lt k a]
      constructor
      · rintro ((h | h) | h)
        · exact .inl h
        · exact .inr (.inl h)
        · exact .inr (.inr ⟨hr, h⟩)
      · rintro (h | h | ⟨_, h⟩)
        · exact .inl (.inl h)
        · exact .inl (.inr h)
        · exact .inr h
    · rw [if_neg hr, lstR_lt k a]
      constructor
      · rintro (h | h)
        · exact .inl h
        · exact .inr (.inl h)
      · rintro (h | h | ⟨h, _⟩)
        · exact .inl h
        · exact .inr h
        · exact absurd h hr
theorem lst_lt {f : Nat → Nat} {o : Oq} {x : Nat} : x < lst f o ↔ ∃ i, RDm o i ∧ x < f i := by
  have hB : ∀ a, x < lstB f o a ↔ x < a ∨ (o.k = 2 ∧ (x < f (64 + o.b.toNat) ∨ x < f (128 + o.b.toNat))) := fun a => by
    unfold lstB
    by_cases h : o.k = 2
    · rw [if_pos h, lt_mx, lt_mx]
      constructor
      · rintro ((h1 | h1) | h1)
        · exact .inl h1
        · exact .inr ⟨h, .inl h1⟩
        · exact .inr ⟨h, .inr h1⟩
      · rintro (h1 | ⟨_, h1 | h1⟩)
        · exact .inl (.inl h1)
        · exact .inl (.inr h1)
        · exact .inr h1
    · rw [if_neg h]
      exact ⟨.inl, fun h1 => h1.elim id (fun h2 => absurd h2.1 h)⟩
  have hC : ∀ a, x < lstC f o a ↔ x < a ∨ (o.k ≠ 1 ∧ x < f 192) := fun a => by
    unfold lstC
    by_cases h : o.k = 1
    · rw [if_pos h]
      exact ⟨.inl, fun h1 => h1.elim id (fun h2 => absurd h h2.1)⟩
    · rw [if_neg h, lt_mx]
      exact ⟨fun h1 => h1.elim .inl (fun h2 => .inr ⟨h, h2⟩), fun h1 => h1.elim .inl (fun h2 => .inr h2.2)⟩
  unfold lst
  rw [hC, hB, lstR_lt, lstQ_lt]
  unfold RDm
  constructor
  · rintro ((((h | ⟨q, hq, h⟩) | ⟨j, hj, hr, h⟩) | ⟨hk, h | h⟩) | ⟨hk, h⟩)
    · omega
    · exact ⟨_, .inl ⟨q, hq, rfl⟩, h⟩
    · exact ⟨_, .inr (.inl ⟨j, hj, hr, rfl⟩), h⟩
    · exact ⟨_, .inr (.inr (.inl ⟨hk, .inl rfl⟩)), h⟩
    · exact ⟨_, .inr (.inr (.inl ⟨hk, .inr rfl⟩)), h⟩
    · exact ⟨_, .inr (.inr (.inr ⟨hk, rfl⟩)), h⟩
  · rintro ⟨i, ⟨q, hq, rfl⟩ | ⟨j, hj, hr, rfl⟩ | ⟨hk, rfl | rfl⟩ | ⟨hk, rfl⟩, h⟩
    · exact .inl (.inl (.inl (.inr ⟨q, hq, h⟩)))
    · exact .inl (.inl (.inr ⟨j, hj, hr, h⟩))
    · exact .inl (.inr ⟨hk, .inl h⟩)
    · exact .inl (.inr ⟨hk, .inr h⟩)
    · exact .inr ⟨hk, h⟩
theorem putQ_at {v : Nat} : ∀ (l : List Int) (f : Nat → Nat) (i : Nat), ((∃ q ∈ l, i = q.toNat) → putQ v f l i = v + 1) ∧ ((¬ ∃ q ∈ l, i = q.toNat) → putQ v f l i = f i)
  | [], f, i => ⟨fun ⟨q, h, _⟩ => absurd h (by simp), fun _ => rfl⟩
  | q :: l, f, i => by
    obtain ⟨h1, h2⟩ := putQ_at l (setN f q.toNat (v + 1)) i
    unfold putQ
    by_cases h : ∃ q ∈ l, i = q.toNat
    · refine ⟨fun _ => h1 h, fun hn => absurd ?_ hn⟩
      obtain ⟨q', hq, e⟩ := h
      exact ⟨q', List.mem_cons_of_mem _ hq, e⟩
    · rw [h2 h]
      unfold setN
      by_cases e : i = q.toNat
      · rw [if_pos e]
        exact ⟨fun _ => rfl, fun hn => absurd ⟨q, List.mem_cons_self .., e⟩ hn⟩
      · rw [if_neg e]
        refine ⟨fun ⟨q', hq, e'⟩ => ?_, fun _ => rfl⟩
        rcases List.mem_cons.1 hq with rfl | hq
        · exact absurd e' e
        · exact absurd ⟨q', hq, e'⟩ h
theorem putR_lt {f : Nat → Nat} {m : Int} {v x i : Nat} : ∀ k, x < putR f m v k i ↔ x < f i ∨ ((∃ j, j < k ∧ rdB m j = true ∧ i = 128 + j) ∧ x < v + 1)
  | 0 => by simp [putR]
  | k + 1 => by
    have key : (∃ j, j < k + 1 ∧ rdB m j = true ∧ i = 128 + j) ↔ (∃ j, j < k ∧ rdB m j = true ∧ i = 128 + j) ∨ (rdB m k = true ∧ i = 128 + k) := by
      constructor
      · rintro ⟨j, hj, h⟩
        by_cases e : j = k
        · subst e; exact .inr h
        · exact .inl ⟨j, by omega, h⟩
      · rintro (⟨j, hj, h⟩ | h)
        · exact ⟨j, by omega, h⟩
        · exact ⟨k, by omega, h⟩
    unfold putR
    rw [key]
    by_cases hr : rdB m k = true
    · rw [if_pos hr]
      unfold setN
      by_cases e : i = 128 + k
      · subst e
        rw [if_pos rfl, lt_mx, putR_lt k]
        constructor
        · rintro ((h | ⟨h, h2⟩) | h)
          · exact .inl h
          · exact .inr ⟨.inl h, h2⟩
          · exact .inr ⟨.inr ⟨hr, rfl⟩, h⟩
        · rintro (h | ⟨_, h⟩)
          · exact .inl (.inl h)
          · exact .inr h
      · rw [if_neg e, putR_lt k]
        constructor
        · rintro (h | ⟨h, h2⟩)
          · exact .inl h
          · exact .inr ⟨.inl h, h2⟩
        · rintro (h | ⟨h | ⟨_, h⟩, h2⟩)
          · exact .inl h
          · exact .inr ⟨h, h2⟩
          · exact absurd h e
    · rw [if_neg hr, putR_lt k]
      constructor
      · rintro (h | ⟨h, h2⟩)
        · exact .inl h
        · exact .inr ⟨.inl h, h2⟩
      · rintro (h | ⟨h | ⟨h, _⟩, h2⟩)
        · exact .inl h
        · exact .inr ⟨h, h2⟩
        · exact absurd h hr
/-- What put leaves, where the value is at least least. -/
theorem putM_lt {f : Nat → Nat} {o : Oq} {v x i : Nat} (hv : lst f o ≤ v) : x < putM f o v i ↔ x < f i ∨ (WRm o i ∧ x < v + 1) := by
  have low : ∀ j, RDm o j → f j ≤ v := fun j hj => by
    apply Nat.le_of_not_lt
    intro h
    have := (lst_lt (f := f) (o := o) (x := v)).2 ⟨j, hj, h⟩
    omega
  have h1 : ∀ i, x < putQ v f o.qs i ↔ x < f i ∨ ((∃ q ∈ o.qs, i = q.toNat) ∧ x < v + 1) := fun i => by
    obtain ⟨g1, g2⟩ := putQ_at (v := v) o.qs f i
    by_cases h : ∃ q ∈ o.qs, i = q.toNat
    · rw [g1 h]
      have := low i (.inl h)
      constructor
      · intro h'; exact .inr ⟨h, h'⟩
      · rintro (h' | ⟨_, h'⟩) <;> omega
    · rw [g2 h]
      exact ⟨.inl, fun h' => h'.elim id (fun h'' => absurd h''.1 h)⟩
  have h2 : x < putR (putQ v f o.qs) o.m v 64 i ↔ (x < f i ∨ ((∃ q ∈ o.qs, i = q.toNat) ∧ x < v + 1)) ∨ ((∃ j, j < 64 ∧ rdB o.m j = true ∧ i = 128 + j) ∧ x < v + 1) := by rw [putR_lt, h1]
  have h3 : x < putB (putR (putQ v f o.qs) o.m v 64) o v i ↔ ((x < f i ∨ ((∃ q ∈ o.qs, i = q.toNat) ∧ x < v + 1)) ∨ ((∃ j, j < 64 ∧ rdB o.m j = true ∧ i = 128 + j) ∧ x < v + 1)) ∨ ((o.k = 2 ∧ i = 64 + o.b.toNat) ∧ x < v + 1) := by
    unfold putB
    by_cases h : o.k = 2
    · rw [if_pos h]
      unfold setN
      by_cases e : i = 64 + o.b.toNat
      · rw [if_pos e]
        have := low i (.inr (.inr (.inl ⟨h, .inl e⟩)))
        constructor
        · intro h'; exact .inr ⟨⟨h, e⟩, h'⟩
        · rintro (((h' | ⟨_, h'⟩) | ⟨_, h'⟩) | ⟨_, h'⟩) <;> omega
      · rw [if_neg e, h2]
        exact ⟨.inl, fun h' => h'.elim id (fun h'' => absurd h''.1.2 e)⟩
    · rw [if_neg h, h2]
      exact ⟨.inl, fun h' => h'.elim id (fun h'' => absurd h''.1.1 h)⟩
  have h4 : x < putM f o v i ↔ (((x < f i ∨ ((∃ q ∈ o.qs, i = q.toNat) ∧ x < v + 1)) ∨ ((∃ j, j < 64 ∧ rdB o.m j = true ∧ i = 128 + j) ∧ x < v + 1)) ∨ ((o.k = 2 ∧ i = 64 + o.b.toNat) ∧ x < v + 1)) ∨ ((o.k ≠ 1 ∧ i = 192) ∧ x < v + 1) := by
    unfold putM putC
    by_cases h : o.k = 1
    · rw [if_pos h, h3]
      exact ⟨.inl, fun h' => h'.elim id (fun h'' => absurd h h''.1.1)⟩
    · rw [if_neg h]
      show x < setN _ 192 (v + 1) i ↔ _
      unfold setN
      by_cases e : i = 192
      · rw [if_pos e]
        have := low i (.inr (.inr (.inr ⟨h, e⟩)))
        constructor
        · intro h'; exact .inr ⟨⟨h, e⟩, h'⟩
        · rintro ((((h' | ⟨_, h'⟩) | ⟨_, h'⟩) | ⟨_, h'⟩) | ⟨_, h'⟩) <;> omega
      · rw [if_neg e, h3]
        exact ⟨.inl, fun h' => h'.elim id (fun h'' => absurd h''.1.2 e)⟩
  rw [h4]
  unfold WRm
  constructor
  · rintro ((((h | ⟨h, g⟩) | ⟨h, g⟩) | ⟨h, g⟩) | ⟨h, g⟩)
    · exact .inl h
    · exact .inr ⟨.inl h, g⟩
    · exact .inr ⟨.inr (.inl h), g⟩
    · exact .inr ⟨.inr (.inr (.inl h)), g⟩
    · exact .inr ⟨.inr (.inr (.inr h)), g⟩
  · rintro (h | ⟨h | h | h | h, g⟩)
    · exact .inl (.inl (.inl (.inl h)))
    · exact .inl (.inl (.inl (.inr ⟨h, g⟩)))
    · exact .inl (.inl (.inr ⟨h, g⟩))
    · exact .inl (.inr ⟨h, g⟩)
    · exact .inr ⟨h, g⟩
/-- Two operations meet at a mark where they are bound. -/
theorem bound_marks {p o : Oq} (hp : Okay p) (ho : Okay o) : (∃ i, WRm p i ∧ RDm o i) ↔ bdB p o = true := by
  obtain ⟨mp, ep⟩ : ∃ m : Nat, p.m = (m : Int) := ⟨p.m.toNat, by have := hp.fit.m0; omega⟩
  obtain ⟨mo, eo⟩ : ∃ m : Nat, o.m = (m : Int) := ⟨o.m.toNat, by have := ho.fit.m0; omega⟩
  have hmp : mp < 18446744073709551616 := by have := hp.fit.m1; omega
  have hmo : mo < 18446744073709551616 := by have := ho.fit.m1; omega
  have q1 : ∀ q ∈ p.qs, 0 ≤ q ∧ q < 64 := fun q hq => by obtain ⟨j, hj, e⟩ := List.getElem_of_mem hq; rw [← e]; exact hp.q0 j hj
  have q2 : ∀ q ∈ o.qs, 0 ≤ q ∧ q < 64 := fun q hq => by obtain ⟨j, hj, e⟩ := List.getElem_of_mem hq; rw [← e]; exact ho.q0 j hj
  have hb1 : (bits .and .u64 (wrI p) (bits .or .u64 o.m (wrI o)) != 0) = true ↔ p.k = 2 ∧ (mo.testBit p.b.toNat = true ∨ (o.k = 2 ∧ o.b.toNat = p.b.toNat)) := by
    have hor : ∃ y : Nat, y < 18446744073709551616 ∧ bits .or .u64 o.m (wrI o) = (y : Int) ∧ ∀ q, y.testBit q = true ↔ (mo.testBit q = true ∨ (o.k = 2 ∧ o.b.toNat = q)) := by
      rw [eo]
      unfold wrI
      by_cases h : o.k = 2
      · rw [if_pos h]
        have hbl : o.b.toNat < 64 := by have := ho.b0 h; omega
        refine ⟨mo ||| 2 ^ o.b.toNat, Nat.or_lt_two_pow (n := 64) hmo (pow_lt64 hbl), u64_or_nat _ _ hmo (pow_lt64 hbl), fun q => ?_⟩
        rw [Nat.testBit_or, Nat.testBit_two_pow, Bool.or_eq_true, decide_eq_true_eq]
        simp [h]
      · rw [if_neg h]
        refine ⟨mo, hmo, ?_, fun q => ?_⟩
        · rw [show (0 : Int) = ((0 : Nat) : Int) from rfl, u64_or_nat _ _ hmo (by decide), Nat.or_zero]
        · simp [h]
    obtain ⟨y, hy, e, ht⟩ := hor
    rw [e]
    unfold wrI
    by_cases h : p.k = 2
    · rw [if_pos h, pow_and (by have := hp.b0 h; omega) hy, ht]
      simp [h]
    · rw [if_neg h, nought_and _ hy]
      simp [h]
  have hb2 : (bits .and .u64 (wrI o) p.m != 0) = true ↔ o.k = 2 ∧ mp.testBit o.b.toNat = true := by
    rw [ep]
    unfold wrI
    by_cases h : o.k = 2
    · rw [if_pos h, pow_and (by have := ho.b0 h; omega) hmp]
      simp [h]
    · rw [if_neg h, nought_and _ hmp]
      simp [h]
  have hb : bdB p o = true ↔ (p.k ≠ 1 ∧ o.k ≠ 1) ∨ (p.k = 2 ∧ (mo.testBit p.b.toNat = true ∨ (o.k = 2 ∧ o.b.toNat = p.b.toNat))) ∨ (o.k = 2 ∧ mp.testBit o.b.toNat = true) ∨ ∃ x ∈ p.qs, x ∈ o.qs := by
    unfold bdB
    rw [Bool.or_eq_true, Bool.or_eq_true, Bool.or_eq_true, hb1, hb2, Bool.and_eq_true, bne_iff_ne, bne_iff_ne, List.any_eq_true]
    simp only [decide_eq_true_eq]
  rw [hb]
  unfold WRm RDm
  rw [ep, eo]
  simp only [rd_bit hmp, rd_bit hmo]
  constructor
  · rintro ⟨i, h, g⟩
    rcases h with ⟨q, hq, rfl⟩ | ⟨j, hj, hr, rfl⟩ | ⟨hk, rfl⟩ | ⟨hk, rfl⟩
    · have := q1 q hq
      rcases g with ⟨q', hq', e⟩ | ⟨j', hj', hr', e⟩ | ⟨hk', e | e⟩ | ⟨hk', e⟩
      · have := q2 q' hq'
        have e2 : q = q' := by omega
        subst e2
        exact .inr (.inr (.inr ⟨q, hq, hq'⟩))
      all_goals omega
    · rcases g with ⟨q', hq', e⟩ | ⟨j', hj', hr', e⟩ | ⟨hk', e | e⟩ | ⟨hk', e⟩
      · have := q2 q' hq'; omega
      · omega
      · have := ho.b0 hk'; omega
      · have e2 : j = o.b.toNat := by omega
        subst e2
        exact .inr (.inr (.inl ⟨hk', hr⟩))
      · omega
    · have := hp.b0 hk
      rcases g with ⟨q', hq', e⟩ | ⟨j', hj', hr', e⟩ | ⟨hk', e | e⟩ | ⟨hk', e⟩
      · have := q2 q' hq'; omega
      · have e2 : p.b.toNat = j' := by omega
        subst e2
        exact .inr (.inl ⟨hk, .inl hr'⟩)
      · exact .inr (.inl ⟨hk, .inr ⟨hk', by omega⟩⟩)
      · omega
      · omega
    · rcases g with ⟨q', hq', e⟩ | ⟨j', hj', hr', e⟩ | ⟨hk', e | e⟩ | ⟨hk', e⟩
      · have := q2 q' hq'; omega
      · omega
      · have := ho.b0 hk'; omega
      · have := ho.b0 hk'; omega
      · exact .inl ⟨hk, hk'⟩
  · rintro (⟨h, g⟩ | ⟨h, g | ⟨g, e⟩⟩ | ⟨h, g⟩ | ⟨x, h, g⟩)
    · exact ⟨192, .inr (.inr (.inr ⟨h, rfl⟩)), .inr (.inr (.inr ⟨g, rfl⟩))⟩
    · exact ⟨64 + p.b.toNat, .inr (.inr (.inl ⟨h, rfl⟩)), .inr (.inl ⟨p.b.toNat, by have := hp.b0 h; omega, g, rfl⟩)⟩
    · exact ⟨64 + p.b.toNat, .inr (.inr (.inl ⟨h, rfl⟩)), .inr (.inr (.inl ⟨g, .inl (by rw [e])⟩))⟩
    · exact ⟨128 + o.b.toNat, .inr (.inl ⟨o.b.toNat, by have := ho.b0 h; omega, g, rfl⟩), .inr (.inr (.inl ⟨h, .inr rfl⟩))⟩
    · exact ⟨x.toNat, .inl ⟨x, h, rfl⟩, .inl ⟨x, g, rfl⟩⟩
/-- Marks of operations that were put, each with its value. -/
def MI (f : Nat → Nat) (ps : List (Oq × Nat)) : Prop := ∀ i x, x < f i ↔ ∃ p ∈ ps, WRm p.1 i ∧ x < p.2 + 1
theorem MI.nil : MI (fun _ => 0) [] := fun i x => by simp
theorem MI.put {f : Nat → Nat} {ps : List (Oq × Nat)} (h : MI f ps) {o : Oq} {v : Nat} (hv : lst f o ≤ v) : MI (putM f o v) (ps ++ [(o, v)]) := fun i x => by
  rw [putM_lt hv, h i x]
  constructor
  · rintro (⟨p, hp, g⟩ | ⟨g, g2⟩)
    · exact ⟨p, List.mem_append_left _ hp, g⟩
    · exact ⟨(o, v), by simp, g, g2⟩
  · rintro ⟨p, hp, g⟩
    rcases List.mem_append.1 hp with hp | hp
    · exact .inl ⟨p, hp, g⟩
    · rw [List.mem_singleton.1 hp] at g; exact .inr g
/-- least, by what is bound. -/
theorem MI.least {f : Nat → Nat} {ps : List (Oq × Nat)} (h : MI f ps) {o : Oq} (ho : Okay o) (hps : ∀ p ∈ ps, Okay p.1) (x : Nat) : x < lst f o ↔ ∃ p ∈ ps, bdB p.1 o = true ∧ x < p.2 + 1 := by
  rw [lst_lt]
  constructor
  · rintro ⟨i, hi, hx⟩
    obtain ⟨p, hp, g, g2⟩ := (h i x).1 hx
    exact ⟨p, hp, (bound_marks (hps p hp) ho).1 ⟨i, g, hi⟩, g2⟩
  · rintro ⟨p, hp, g, g2⟩
    obtain ⟨i, h1, h2⟩ := (bound_marks (hps p hp) ho).2 g
    exact ⟨i, h2, (h i x).2 ⟨p, hp, h1, g2⟩⟩
end Go.Proofs.Ytfaoegiignalkaa
