/-
  What a float64 that holds a whole number reads as, and that sums, differences, products, signs and comparisons of such floats are exact as long as no result is beyond 2^53. Plain mathematics over the model's floats; nothing of the program.
-/
import Derived.Laws.ComplexArith
namespace Go.Proofs.Ytbjikmbebodliab
open Ieee

/-- A datum that stands for the whole number n (a nought may bear either sign). -/
def Rd (d : Datum) (n : Int) : Prop :=
  ∃ s m, ∃ k : Nat, d = .number s m (-(k : Int)) ∧ m = n.natAbs * 2 ^ k ∧ (n ≠ 0 → s = decide (n < 0))

theorem signed_eq (s : Bool) (x : Int) (k u : Nat) (h : x ≠ 0 → s = decide (x < 0)) :
    signed s (x.natAbs * 2 ^ k) u = x * 2 ^ (k + u) := by
  have e : ((x.natAbs * 2 ^ k) <<< u : Nat) = x.natAbs * 2 ^ (k + u) := by
    rw [Nat.shiftLeft_eq, Nat.mul_assoc, ← Nat.pow_add]
  have c : (((x.natAbs * 2 ^ k) <<< u : Nat) : Int) = (x.natAbs : Int) * 2 ^ (k + u) := by
    rw [e, Int.natCast_mul, Int.natCast_pow]; rfl
  unfold signed
  rw [c]
  by_cases hx : x = 0
  · subst hx; simp
  · rw [h hx]
    by_cases hn : x < 0
    · have : (x.natAbs : Int) = -x := by omega
      simp [hn, this, Int.neg_mul]
    · have : (x.natAbs : Int) = x := by omega
      simp [hn, this]

theorem pow_pos_int (k : Nat) : (0 : Int) < 2 ^ k := Int.pow_pos (by decide)

theorem mul_pow_lt (x y : Int) (k : Nat) : x * 2 ^ k < y * 2 ^ k ↔ x < y :=
  ⟨fun h => Int.lt_of_mul_lt_mul_right h (Int.le_of_lt (pow_pos_int k)), fun h => Int.mul_lt_mul_of_pos_right h (pow_pos_int k)⟩

theorem mul_pow_eq_zero (x : Int) (k : Nat) : x * 2 ^ k = 0 ↔ x = 0 := by
  constructor
  · intro h
    rcases Int.mul_eq_zero.1 h with h | h
    · exact h
    · have := pow_pos_int k; omega
  · intro h; subst h; simp

theorem natAbs_mul_pow (x : Int) (k : Nat) : (x * 2 ^ k).natAbs = x.natAbs * 2 ^ k := by
  rw [Int.natAbs_mul, Int.natAbs_pow]; rfl

theorem Rd.sum {d₁ d₂ : Datum} {x y : Int} (h₁ : Rd d₁ x) (h₂ : Rd d₂ y) : ∃ d, d₁.sum d₂ = some d ∧ Rd d (x + y) := by
  obtain ⟨s, m, k, rfl, rfl, hs⟩ := h₁
  obtain ⟨t, n, l, rfl, rfl, ht⟩ := h₂
  have hb : min (-(k : Int)) (-(l : Int)) = -((max k l : Nat) : Int) := by omega
  have u1 : (-(k : Int) - -((max k l : Nat) : Int)).toNat = max k l - k := by omega
  have u2 : (-(l : Int) - -((max k l : Nat) : Int)).toNat = max k l - l := by omega
  have e1 : k + (max k l - k) = max k l := by omega
  have e2 : l + (max k l - l) = max k l := by omega
  refine ⟨_, rfl, ?_⟩
  simp only [hb, u1, u2, signed_eq s x k _ hs, signed_eq t y l _ ht, e1, e2]
  generalize max k l = K
  rw [← Int.add_mul]
  refine ⟨_, _, K, rfl, natAbs_mul_pow _ _, ?_⟩
  intro hne
  rw [if_neg (fun h => hne ((mul_pow_eq_zero _ _).1 h))]
  have : ((x + y) * 2 ^ K < 0) ↔ (x + y < 0) := by
    have := mul_pow_lt (x + y) 0 K
    rwa [Int.zero_mul] at this
  simp [this]

theorem Rd.opposite {d : Datum} {x : Int} (h : Rd d x) : Rd d.opposite (-x) := by
  obtain ⟨s, m, k, rfl, rfl, hs⟩ := h
  refine ⟨!s, _, k, rfl, by rw [Int.natAbs_neg], ?_⟩
  intro hne
  have hx : x ≠ 0 := by omega
  rw [hs hx]
  by_cases h : x < 0
  · have g : ¬ (-x < 0) := by omega
    rw [decide_eq_true h, decide_eq_false g]; rfl
  · have g : -x < 0 := by omega
    rw [decide_eq_false h, decide_eq_true g]; rfl

theorem Rd.product {d₁ d₂ : Datum} {x y : Int} (h₁ : Rd d₁ x) (h₂ : Rd d₂ y) : ∃ d, d₁.product d₂ = some d ∧ Rd d (x * y) := by
  obtain ⟨s, m, k, rfl, rfl, hs⟩ := h₁
  obtain ⟨t, n, l, rfl, rfl, ht⟩ := h₂
  refine ⟨_, rfl, s ^^ t, _, k + l, ?_, rfl, ?_⟩
  · congr 1
    · rw [Int.natAbs_mul, Nat.pow_add]; ac_rfl
    · omega
  · intro hne
    have hx : x ≠ 0 := fun h => hne (by rw [h, Int.zero_mul])
    have hy : y ≠ 0 := fun h => hne (by rw [h, Int.mul_zero])
    rw [hs hx, ht hy]
    by_cases a : x < 0 <;> by_cases b : y < 0
    · have := Int.mul_pos_of_neg_of_neg a b
      have : ¬ x * y < 0 := by omega
      simp [a, b, this]
    · have := Int.mul_neg_of_neg_of_pos a (b := y) (by omega)
      simp [a, b, this]
    · have := Int.mul_neg_of_pos_of_neg (a := x) (by omega) b
      simp [a, b, this]
    · have := Int.mul_pos (a := x) (b := y) (by omega) (by omega)
      have : ¬ x * y < 0 := by omega
      simp [a, b, this]

theorem compare_int (a b a' b' : Int) (h : a < b ↔ a' < b') (g : b < a ↔ b' < a') : compare a b = compare a' b' := by
  simp only [compare, compareOfLessAndEq]
  by_cases h1 : a' < b'
  · rw [if_pos (h.2 h1), if_pos h1]
  · rw [if_neg (fun c => h1 (h.1 c)), if_neg h1]
    by_cases h2 : a' = b'
    · have : a = b := by
        by_cases c1 : a < b
        · have := h.1 c1; omega
        · by_cases c2 : b < a
          · have := g.1 c2; omega
          · omega
      rw [if_pos this, if_pos h2]
    · have : ¬ a = b := by
        intro c
        have : b' < a' := by omega
        have := g.2 this
        omega
      rw [if_neg this, if_neg h2]

theorem Rd.order {d₁ d₂ : Datum} {x y : Int} (h₁ : Rd d₁ x) (h₂ : Rd d₂ y) : d₁.order d₂ = some (compare x y) := by
  obtain ⟨s, m, k, rfl, rfl, hs⟩ := h₁
  obtain ⟨t, n, l, rfl, rfl, ht⟩ := h₂
  have hb : min (-(k : Int)) (-(l : Int)) = -((max k l : Nat) : Int) := by omega
  have u1 : (-(k : Int) - -((max k l : Nat) : Int)).toNat = max k l - k := by omega
  have u2 : (-(l : Int) - -((max k l : Nat) : Int)).toNat = max k l - l := by omega
  have e1 : k + (max k l - k) = max k l := by omega
  have e2 : l + (max k l - l) = max k l := by omega
  show some (compare _ _) = _
  simp only [hb, u1, u2, signed_eq s x k _ hs, signed_eq t y l _ ht, e1, e2]
  rw [compare_int _ _ x y (mul_pow_lt x y _) (mul_pow_lt y x _)]

theorem log2_of {a L : Nat} (h : 2 ^ L ≤ a) (g : a < 2 ^ (L + 1)) : a.log2 = L := by
  have : 0 < 2 ^ L := Nat.two_pow_pos L
  exact (Nat.log2_eq_iff (by omega)).2 ⟨h, g⟩

theorem log2_spec {a : Nat} (h : 0 < a) : 2 ^ a.log2 ≤ a ∧ a < 2 ^ (a.log2 + 1) :=
  (Nat.log2_eq_iff (by omega)).1 rfl

theorem log2_mul_pow {a : Nat} (h : 0 < a) (k : Nat) : (a * 2 ^ k).log2 = a.log2 + k := by
  obtain ⟨l, u⟩ := log2_spec h
  refine log2_of ?_ ?_
  · rw [Nat.pow_add]; exact Nat.mul_le_mul_right _ l
  · have : 2 ^ (a.log2 + k + 1) = 2 ^ (a.log2 + 1) * 2 ^ k := by rw [← Nat.pow_add]; congr 1; omega
    rw [this]
    exact Nat.mul_lt_mul_of_pos_right u (Nat.two_pow_pos k)

theorem cut_exact (neg : Bool) {q : Nat} (drop : Nat) (h : 0 < q) : Toward.even.cut neg (q * 2 ^ drop) drop = q := by
  have hm : min drop ((q * 2 ^ drop).log2 + 2) = drop := by rw [log2_mul_pow h]; omega
  have hp : 0 < 2 ^ drop := Nat.two_pow_pos drop
  simp only [Toward.cut, hm, Nat.shiftLeft_eq, Nat.one_mul, Nat.mul_div_cancel _ hp, Nat.mul_mod_left, Nat.mul_zero, Nat.not_lt_zero, decide_false, Bool.false_or]
  simp

theorem word_read (s : Bool) (rung : Nat) (h : rung < 2 ^ 63) :
    (double.word s rung / double.signWeight % 2 == 1) = s ∧ double.word s rung % double.signWeight = rung := by
  have e : double.signWeight = 9223372036854775808 := rfl
  have e' : (2 : Nat) ^ 63 = 9223372036854775808 := rfl
  rw [e'] at h
  unfold Format.word
  rw [e]
  cases s
  · have h1 : rung / 9223372036854775808 = 0 := by omega
    have h2 : rung % 9223372036854775808 = rung := by omega
    simp [h1, h2]
  · have h1 : (9223372036854775808 + rung) / 9223372036854775808 = 1 := by omega
    have h2 : (9223372036854775808 + rung) % 9223372036854775808 = rung := by omega
    simp [h1, h2]

theorem rung_min (L m : Nat) (hL : L ≤ 52) (hu : m < 9007199254740992) :
    min ((L + 1022) * 4503599627370496 + m) 9218868437227405312 = (L + 1022) * 4503599627370496 + m :=
  Nat.min_eq_left (by omega)

theorem rung_read (s : Bool) (L m : Nat) (hL : L ≤ 52) (hl : 4503599627370496 ≤ m) (hu : m < 9007199254740992) :
    double.read (double.word s ((L + 1022) * 4503599627370496 + m)) = .number s m (-((52 - L : Nat) : Int)) := by
  have hlp : double.leastPlace = -1074 := rfl
  have hbin : double.binade = 4503599627370496 := rfl
  have hinf : double.infRung = 9218868437227405312 := rfl
  have hr : (L + 1022) * 4503599627370496 + m < 9223372036854775808 := by omega
  obtain ⟨w1, w2⟩ := word_read s _ hr
  unfold Format.read
  simp only [w1, w2, hbin, hinf, hlp]
  have d1 : ((L + 1022) * 4503599627370496 + m) / 4503599627370496 = L + 1023 := by omega
  have d2 : ((L + 1022) * 4503599627370496 + m) % 4503599627370496 = m - 4503599627370496 := by omega
  have d3 : ¬ ((L + 1022) * 4503599627370496 + m < 4503599627370496) := by omega
  have d4 : (L + 1022) * 4503599627370496 + m < 9218868437227405312 := by omega
  have d5 : 4503599627370496 + (m - 4503599627370496) = m := by omega
  have d6 : (-1074 : Int) + ((L + 1023 - 1 : Nat) : Int) = -((52 - L : Nat) : Int) := by omega
  rw [if_neg d3, if_pos d4, d1, d2, d5, d6]

theorem kept_lo {a : Nat} (h0 : 0 < a) (hL : a.log2 ≤ 52) : 4503599627370496 ≤ a * 2 ^ (52 - a.log2) := by
  have h : 2 ^ a.log2 * 2 ^ (52 - a.log2) = 2 ^ 52 := by rw [← Nat.pow_add, Nat.add_sub_cancel' hL]
  have e : (2 : Nat) ^ 52 = 4503599627370496 := rfl
  rw [← e, ← h]
  exact Nat.mul_le_mul_right _ (log2_spec h0).1

theorem kept_hi {a : Nat} (h0 : 0 < a) (hL : a.log2 ≤ 52) : a * 2 ^ (52 - a.log2) < 9007199254740992 := by
  have t : a.log2 + 1 + (52 - a.log2) = 53 := by omega
  have h : 2 ^ (a.log2 + 1) * 2 ^ (52 - a.log2) = 2 ^ 53 := by rw [← Nat.pow_add, t]
  have e : (2 : Nat) ^ 53 = 9007199254740992 := rfl
  rw [← e, ← h]
  exact Nat.mul_lt_mul_of_pos_right (log2_spec h0).2 (Nat.two_pow_pos _)

theorem log2_le52 {a : Nat} (h0 : 0 < a) (h : a < 2 ^ 53) : a.log2 ≤ 52 := by
  by_cases c : a.log2 ≤ 52
  · exact c
  · have h1 : 2 ^ 53 ≤ 2 ^ a.log2 := Nat.pow_le_pow_right (by decide) (by omega)
    exact absurd (Nat.lt_of_lt_of_le h h1) (Nat.not_lt.2 (log2_spec h0).1)

theorem cut_whole (s : Bool) (a k L : Nat) (h0 : 0 < a) :
    Toward.even.cut s ((a * 2 ^ k) <<< (-(k : Int) - ((L : Int) - 52)).toNat) ((L : Int) - 52 - -(k : Int)).toNat = a * 2 ^ (52 - L) ∨ 52 < L := by
  by_cases hL : 52 < L
  · exact Or.inr hL
  refine Or.inl ?_
  have hp : 0 < a * 2 ^ (52 - L) := Nat.mul_pos h0 (Nat.two_pow_pos _)
  by_cases hk : L + k ≤ 52
  · have u1 : (-(k : Int) - ((L : Int) - 52)).toNat = 52 - L - k := by omega
    have u2 : ((L : Int) - 52 - -(k : Int)).toNat = 0 := by omega
    have u3 : k + (52 - L - k) = 52 - L := by omega
    have e : (a * 2 ^ k) <<< (52 - L - k) = a * 2 ^ (52 - L) * 2 ^ 0 := by
      rw [Nat.shiftLeft_eq, Nat.mul_assoc, ← Nat.pow_add, Nat.pow_zero, Nat.mul_one, u3]
    rw [u1, u2, e]
    exact cut_exact s 0 hp
  · have u1 : (-(k : Int) - ((L : Int) - 52)).toNat = 0 := by omega
    have u2 : ((L : Int) - 52 - -(k : Int)).toNat = L + k - 52 := by omega
    have u3 : 52 - L + (L + k - 52) = k := by omega
    have e : (a * 2 ^ k) <<< 0 = a * 2 ^ (52 - L) * 2 ^ (L + k - 52) := by
      rw [Nat.shiftLeft_eq, Nat.pow_zero, Nat.mul_one, Nat.mul_assoc, ← Nat.pow_add, u3]
    rw [u1, u2, e]
    exact cut_exact s _ hp

theorem nearest_whole (s : Bool) {a : Nat} (k : Nat) (h0 : 0 < a) (h : a < 2 ^ 53) :
    double.read (double.nearest s (a * 2 ^ k) (-(k : Int))) = .number s (a * 2 ^ (52 - a.log2)) (-((52 - a.log2 : Nat) : Int)) := by
  have hL := log2_le52 h0 h
  have hlog := log2_mul_pow h0 k
  have hpos : ¬ (a * 2 ^ k = 0) := Nat.ne_of_gt (Nat.mul_pos h0 (Nat.two_pow_pos k))
  have hkl := kept_lo h0 hL
  have hku := kept_hi h0 hL
  have hcut := (cut_whole s a k a.log2 h0).resolve_right (Nat.not_lt.2 hL)
  have hlp : double.leastPlace = -1074 := rfl
  have hfb : double.fractionBits = 52 := rfl
  have hbin : double.binade = 4503599627370496 := rfl
  have hinf : double.infRung = 9218868437227405312 := rfl
  have hlast : max (-(k : Int) + ((a.log2 + k : Nat) : Int) - ((52 : Nat) : Int)) (-1074) = (a.log2 : Int) - 52 := by
    clear hkl hku hcut h
    omega
  have t : ((a.log2 : Int) - 52 - -1074).toNat = a.log2 + 1022 := by
    clear hkl hku hcut h
    omega
  have hn : double.nearest s (a * 2 ^ k) (-(k : Int)) = double.word s ((a.log2 + 1022) * 4503599627370496 + a * 2 ^ (52 - a.log2)) := by
    unfold Format.nearest
    rw [if_neg hpos, hlog, hfb, hlp, hlast]
    simp only [hcut, hbin, hinf, t, rung_min _ _ hL hku]
  rw [hn]
  exact rung_read s _ _ hL hkl hku

theorem Rd.write {d : Datum} {n : Int} (h : Rd d n) (hb : n.natAbs < 2 ^ 53) : Rd (double.read (double.write d)) n := by
  obtain ⟨s, m, k, rfl, rfl, hs⟩ := h
  show Rd (double.read (double.nearest s (n.natAbs * 2 ^ k) (-(k : Int)))) n
  by_cases hn : n = 0
  · subst hn
    have e : double.nearest s ((0 : Int).natAbs * 2 ^ k) (-(k : Int)) = double.word s 0 := by
      unfold Format.nearest
      rw [if_pos (by simp)]
    obtain ⟨w1, w2⟩ := word_read s 0 (by decide)
    rw [e]
    obtain ⟨K, hK⟩ : ∃ K : Nat, double.leastPlace = -(K : Int) := ⟨1074, rfl⟩
    refine ⟨s, 0, K, ?_, ?_, fun h => absurd rfl h⟩
    · unfold Format.read
      simp only [w1, w2, hK]
      rw [if_pos (by decide)]
    · rw [Int.natAbs_zero, Nat.zero_mul]
  · rw [nearest_whole s k (Int.natAbs_pos.2 hn) hb]
    exact ⟨s, _, _, rfl, rfl, hs⟩

/-- The word b of a float64 stands for the whole number n. -/
structure Fl (b : Nat) (n : Int) : Prop where
  rd : Rd (double.read b) n

theorem Fl.ofInt (n : Int) (h : n.natAbs < 2 ^ 53) : Fl (floatOfInt .f64 n) n := by
  refine ⟨?_⟩
  show Rd (double.read (double.write (.number (n < 0) n.natAbs 0))) n
  refine Rd.write ⟨_, _, 0, rfl, ?_, fun _ => rfl⟩ h
  rw [Nat.pow_zero, Nat.mul_one]

theorem Fl.add {a b : Nat} {x y : Int} (h : Fl a x) (g : Fl b y) (hb : (x + y).natAbs < 2 ^ 53) : ∃ r, floatBits .add .f64 a b = some r ∧ Fl r (x + y) := by
  obtain ⟨d, hd, rd⟩ := Rd.sum h.rd g.rd
  refine ⟨double.write d, ?_, ⟨rd.write hb⟩⟩
  show ((double.read a).sum (double.read b)).map double.write = _
  rw [hd]; rfl

theorem Fl.sub {a b : Nat} {x y : Int} (h : Fl a x) (g : Fl b y) (hb : (x - y).natAbs < 2 ^ 53) : ∃ r, floatBits .sub .f64 a b = some r ∧ Fl r (x - y) := by
  obtain ⟨d, hd, rd⟩ := Rd.sum h.rd g.rd.opposite
  rw [← Int.sub_eq_add_neg] at rd
  refine ⟨double.write d, ?_, ⟨rd.write hb⟩⟩
  show ((double.read a).sum (double.read b).opposite).map double.write = _
  rw [hd]; rfl

theorem Fl.mul {a b : Nat} {x y : Int} (h : Fl a x) (g : Fl b y) (hb : (x * y).natAbs < 2 ^ 53) : ∃ r, floatBits .mul .f64 a b = some r ∧ Fl r (x * y) := by
  obtain ⟨d, hd, rd⟩ := Rd.product h.rd g.rd
  refine ⟨double.write d, ?_, ⟨rd.write hb⟩⟩
  show ((double.read a).product (double.read b)).map double.write = _
  rw [hd]; rfl

theorem Fl.eq {a b : Nat} {x : Int} (h : Fl a x) (g : Fl b x) : (FloatKind.f64.format.order a b == some .eq) = true := by
  have : double.order a b = some (compare x x) := Rd.order h.rd g.rd
  show (double.order a b == some .eq) = true
  rw [this]
  have : compare x x = .eq := by simp [compare, compareOfLessAndEq]
  rw [this]; rfl

theorem Fl.neg {b : Nat} {n : Int} (h : Fl b n) : Fl (Op.negFloat .f64 b) (-n) := by
  have hr : double.read (Op.negFloat .f64 b) = (double.read b).opposite := by
    have e : Op.negFloat .f64 b = b ^^^ 2 ^ 63 := rfl
    have es : double.signWeight = 2 ^ 63 := rfl
    have h1 : (b ^^^ 2 ^ 63) % 2 ^ 63 = b % 2 ^ 63 := by
      rw [Nat.xor_mod_two_pow, Nat.mod_self, Nat.xor_zero]
    have h2 : ((b ^^^ 2 ^ 63) / 2 ^ 63 % 2 == 1) = !(b / 2 ^ 63 % 2 == 1) := by
      rw [Nat.xor_div_two_pow, Nat.div_self (Nat.two_pow_pos 63)]
      generalize b / 2 ^ 63 = q
      have := Nat.xor_mod_two_pow (a := q) (b := 1) (n := 1)
      rw [Nat.pow_one] at this
      rw [this]
      rcases Nat.mod_two_eq_zero_or_one q with h | h <;> rw [h] <;> rfl
    rw [e]
    unfold Format.read
    rw [es, h1, h2]
    generalize b % 2 ^ 63 = r
    dsimp only
    split
    · rfl
    · split
      · rfl
      · split <;> rfl
  exact ⟨by rw [hr]; exact h.rd.opposite⟩

end Go.Proofs.Ytbjikmbebodliab
