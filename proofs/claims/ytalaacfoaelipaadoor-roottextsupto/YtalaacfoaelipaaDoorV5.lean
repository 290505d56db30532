/-
  The floats of both Floats: a product, a sum, a quotient, none of which is the nought with a sign. Plain mathematics over the model's floats; nothing of the program.
-/
import Derived.Laws.ComplexArith
namespace Go.Proofs.YtalaacfoaelipaaDoor
open Ieee

/-- The word b is a normal one: its sign, its place counted from the least, its digits. -/
def Nf (s : Bool) (E m b : Nat) : Prop :=
  b = double.word s (E * 4503599627370496 + m) ∧ 4503599627370496 ≤ m ∧ m < 9007199254740992 ∧ E ≤ 2045

theorem f_log2_of {a L : Nat} (h : 2 ^ L ≤ a) (g : a < 2 ^ (L + 1)) : a.log2 = L := by
  have : 0 < 2 ^ L := Nat.two_pow_pos L
  exact (Nat.log2_eq_iff (by omega)).2 ⟨h, g⟩

theorem f_log2_spec {a : Nat} (h : 0 < a) : 2 ^ a.log2 ≤ a ∧ a < 2 ^ (a.log2 + 1) :=
  (Nat.log2_eq_iff (by omega)).1 rfl

theorem f_log2_le {a L : Nat} (h : 0 < a) (g : a < 2 ^ (L + 1)) : a.log2 ≤ L := by
  by_cases c : a.log2 ≤ L
  · exact c
  · have h1 : 2 ^ (L + 1) ≤ 2 ^ a.log2 := Nat.pow_le_pow_right (by decide) (by omega)
    exact absurd (Nat.lt_of_lt_of_le g h1) (Nat.not_lt.2 (f_log2_spec h).1)

theorem f_log2_ge {a L : Nat} (h : 2 ^ L ≤ a) : L ≤ a.log2 := by
  have h0 : 0 < a := Nat.lt_of_lt_of_le (Nat.two_pow_pos L) h
  by_cases c : L ≤ a.log2
  · exact c
  · have h1 : 2 ^ (a.log2 + 1) ≤ 2 ^ L := Nat.pow_le_pow_right (by decide) (by omega)
    exact absurd (Nat.lt_of_lt_of_le (f_log2_spec h0).2 (Nat.le_trans h1 h)) (Nat.lt_irrefl _)

theorem e52 : (2 : Nat) ^ 52 = 4503599627370496 := rfl
theorem e53 : (2 : Nat) ^ 53 = 9007199254740992 := rfl

theorem Nf.log2 {s E m b} (h : Nf s E m b) : m.log2 = 52 :=
  f_log2_of (L := 52) (by rw [e52]; exact h.2.1) (by rw [e53]; exact h.2.2.1)

theorem f_word_read (s : Bool) (rung : Nat) (h : rung < 9223372036854775808) :
    (double.word s rung / double.signWeight % 2 == 1) = s ∧ double.word s rung % double.signWeight = rung := by
  have e : double.signWeight = 9223372036854775808 := rfl
  unfold Format.word
  rw [e]
  cases s
  · have h1 : rung / 9223372036854775808 = 0 := by omega
    have h2 : rung % 9223372036854775808 = rung := by omega
    simp [h1, h2]
  · have h1 : (9223372036854775808 + rung) / 9223372036854775808 = 1 := by omega
    have h2 : (9223372036854775808 + rung) % 9223372036854775808 = rung := by omega
    simp [h1, h2]

theorem Nf.read {s E m b} (h : Nf s E m b) : double.read b = .number s m ((E : Int) - 1074) := by
  obtain ⟨rfl, hl, hu, hE⟩ := h
  have hlp : double.leastPlace = -1074 := rfl
  have hbin : double.binade = 4503599627370496 := rfl
  have hinf : double.infRung = 9218868437227405312 := rfl
  have hr : E * 4503599627370496 + m < 9223372036854775808 := by omega
  obtain ⟨w1, w2⟩ := f_word_read s _ hr
  unfold Format.read
  simp only [w1, w2, hbin, hinf, hlp]
  have d1 : (E * 4503599627370496 + m) / 4503599627370496 = E + 1 := by omega
  have d2 : (E * 4503599627370496 + m) % 4503599627370496 = m - 4503599627370496 := by omega
  have d3 : ¬ (E * 4503599627370496 + m < 4503599627370496) := by omega
  have d4 : E * 4503599627370496 + m < 9218868437227405312 := by omega
  have d5 : 4503599627370496 + (m - 4503599627370496) = m := by omega
  have d6 : (-1074 : Int) + ((E + 1 - 1 : Nat) : Int) = (E : Int) - 1074 := by omega
  rw [if_neg d3, if_pos d4, d1, d2, d5, d6]

theorem cut_bd (s : Bool) (n d : Nat) (h : 2 ^ (52 + d) ≤ n) (g : n < 2 ^ (52 + d + 1)) :
    4503599627370496 ≤ Toward.even.cut s n d ∧ Toward.even.cut s n d ≤ 9007199254740992 := by
  have hl : n.log2 = 52 + d := f_log2_of h g
  have hm : min d (n.log2 + 2) = d := by rw [hl]; omega
  have hp : 0 < 2 ^ d := Nat.two_pow_pos d
  have h1 : 4503599627370496 ≤ n / 2 ^ d := by
    rw [← e52, Nat.le_div_iff_mul_le hp, ← Nat.pow_add]; exact h
  have h2 : n / 2 ^ d < 9007199254740992 := by
    rw [← e53, Nat.div_lt_iff_lt_mul hp, ← Nat.pow_add]
    have : 52 + d + 1 = 53 + d := by omega
    rw [← this]; exact g
  simp only [Toward.cut, hm, Nat.shiftLeft_eq, Nat.one_mul]
  generalize (decide (2 ^ d < 2 * (n % 2 ^ d)) || (2 ^ d == 2 * (n % 2 ^ d) && n / 2 ^ d % 2 == 1)) = b
  have : b.toNat ≤ 1 := by cases b <;> decide
  omega

theorem cut_ex (s : Bool) (q d : Nat) (h : 0 < q) : Toward.even.cut s (q * 2 ^ d) d = q := by
  have hge : 2 ^ d ≤ q * 2 ^ d := Nat.le_mul_of_pos_left _ h
  have hm : min d ((q * 2 ^ d).log2 + 2) = d := by
    have := f_log2_ge hge
    omega
  have hp : 0 < 2 ^ d := Nat.two_pow_pos d
  simp only [Toward.cut, hm, Nat.shiftLeft_eq, Nat.one_mul, Nat.mul_div_cancel _ hp, Nat.mul_mod_left, Nat.mul_zero, Nat.not_lt_zero, decide_false, Bool.false_or]
  simp

theorem carry (E0 kept : Nat) (h : kept = 9007199254740992) : E0 * 4503599627370496 + kept = (E0 + 1) * 4503599627370496 + 4503599627370496 := by
  rw [h, Nat.add_mul, Nat.one_mul, Nat.add_assoc]

/-- Whatever lies neither too low nor too high is written as a normal word. -/
theorem near_normal (s : Bool) (mag : Nat) (place : Int) (h0 : 0 < mag) (lo : -1022 ≤ place + mag.log2) (hi : place + mag.log2 ≤ 1000) :
    ∃ E m, Nf s E m (double.nearest s mag place) ∧ place + mag.log2 + 1022 ≤ (E : Int) ∧ (E : Int) ≤ place + mag.log2 + 1023 := by
  obtain ⟨g1, g2⟩ := f_log2_spec h0
  generalize mag.log2 = L at *
  have hL : mag.log2 = L := f_log2_of g1 g2
  have hlp : double.leastPlace = -1074 := rfl
  have hfb : double.fractionBits = 52 := rfl
  have hbin : double.binade = 4503599627370496 := rfl
  have hinf : double.infRung = 9218868437227405312 := rfl
  have hne : ¬ mag = 0 := by omega
  have hlast : max (place + (L : Int) - ((52 : Nat) : Int)) (-1074) = place + L - 52 := by omega
  have u1 : (place - (place + (L : Int) - 52)).toNat = 52 - L := by omega
  have u2 : (place + (L : Int) - 52 - place).toNat = L - 52 := by omega
  obtain ⟨E0, hE0⟩ : ∃ E0 : Nat, (place + (L : Int) - 52 - -1074).toNat = E0 := ⟨_, rfl⟩
  have b1 : 2 ^ (52 + (L - 52)) ≤ mag <<< (52 - L) := by
    have t : 52 + (L - 52) = L + (52 - L) := by omega
    rw [Nat.shiftLeft_eq, t, Nat.pow_add]
    exact Nat.mul_le_mul_right _ g1
  have b2 : mag <<< (52 - L) < 2 ^ (52 + (L - 52) + 1) := by
    have t : 52 + (L - 52) + 1 = L + 1 + (52 - L) := by omega
    rw [Nat.shiftLeft_eq, t, Nat.pow_add]
    exact Nat.mul_lt_mul_of_pos_right g2 (Nat.two_pow_pos _)
  obtain ⟨k1, k2⟩ := cut_bd s (mag <<< (52 - L)) (L - 52) b1 b2
  have hn : double.nearest s mag place = double.word s (min (E0 * 4503599627370496 + Toward.even.cut s (mag <<< (52 - L)) (L - 52)) 9218868437227405312) := by
    unfold Format.nearest
    rw [if_neg hne, hL, hfb, hlp, hlast]
    simp only [u1, u2, hbin, hinf, hE0]
  clear b1 b2 g1 g2
  rw [hn]
  generalize Toward.even.cut s (mag <<< (52 - L)) (L - 52) = kept at *
  have hE : E0 ≤ 2022 := by omega
  have hEi : (E0 : Int) = place + L + 1022 := by omega
  have hmin : min (E0 * 4503599627370496 + kept) 9218868437227405312 = E0 * 4503599627370496 + kept := Nat.min_eq_left (by omega)
  rw [hmin]
  by_cases hk : kept < 9007199254740992
  · exact ⟨E0, kept, ⟨rfl, k1, hk, by omega⟩, by omega, by omega⟩
  · refine ⟨E0 + 1, 4503599627370496, ⟨?_, by omega, by omega, by omega⟩, by omega, by omega⟩
    rw [carry E0 kept (Nat.le_antisymm k2 (Nat.not_lt.1 hk))]

/-- A normal word is nearest to what it stands for, however it is spelt. -/
theorem Nf.near {s E m b} (h : Nf s E m b) : double.nearest s (m * 2 ^ E) (-1074) = b := by
  obtain ⟨rfl, hl, hu, hE⟩ := h
  have hp : 0 < m * 2 ^ E := Nat.mul_pos (by omega) (Nat.two_pow_pos _)
  have hL : (m * 2 ^ E).log2 = 52 + E := by
    refine f_log2_of ?_ ?_
    · rw [Nat.pow_add, e52]; exact Nat.mul_le_mul_right _ hl
    · have t : 52 + E + 1 = 53 + E := by omega
      rw [t, Nat.pow_add, e53]; exact Nat.mul_lt_mul_of_pos_right hu (Nat.two_pow_pos _)
  have hlp : double.leastPlace = -1074 := rfl
  have hfb : double.fractionBits = 52 := rfl
  have hbin : double.binade = 4503599627370496 := rfl
  have hinf : double.infRung = 9218868437227405312 := rfl
  have hlast : max (-1074 + ((52 + E : Nat) : Int) - ((52 : Nat) : Int)) (-1074) = (E : Int) - 1074 := by omega
  have u1 : (-1074 - ((E : Int) - 1074)).toNat = 0 := by omega
  have u2 : ((E : Int) - 1074 - -1074).toNat = E := by omega
  have hc : Toward.even.cut s ((m * 2 ^ E) <<< 0) E = m := by rw [Nat.shiftLeft_zero]; exact cut_ex s m E (by omega)
  have hmin : min (E * 4503599627370496 + m) 9218868437227405312 = E * 4503599627370496 + m := Nat.min_eq_left (by omega)
  unfold Format.nearest
  rw [if_neg (by omega), hL, hfb, hlp, hlast]
  simp only [u1, u2, hbin, hinf, hc, hmin]

theorem read0 : double.read 0 = .number false 0 (-1074) := by decide

theorem signed_natAbs (s : Bool) (m u : Nat) : (signed s m u).natAbs = m <<< u := by
  unfold signed
  generalize m <<< u = x
  cases s
  · rw [if_neg (by decide)]; omega
  · rw [if_pos rfl]; omega

theorem signed_sgn (s : Bool) (m u : Nat) (h : 0 < m) : signed s m u ≠ 0 ∧ decide (signed s m u < 0) = s := by
  have hp : 0 < m <<< u := by rw [Nat.shiftLeft_eq]; exact Nat.mul_pos h (Nat.two_pow_pos _)
  unfold signed
  generalize m <<< u = x at *
  cases s
  · simp; omega
  · simp; omega

theorem Nf.add_zero {s E m b} (h : Nf s E m b) : double.add b 0 = some b := by
  unfold Format.add
  rw [h.read, read0]
  have hm : 0 < m := by have := h.2.1; omega
  have hb : min ((E : Int) - 1074) (-1074) = -1074 := by omega
  have u1 : ((E : Int) - 1074 - -1074).toNat = E := by omega
  have u2 : ((-1074 : Int) - -1074).toNat = 0 := rfl
  have z : signed false 0 0 = 0 := rfl
  obtain ⟨n1, n2⟩ := signed_sgn s m E hm
  simp only [Datum.sum, hb, u1, u2, z, Int.add_zero, if_neg n1, n2, signed_natAbs, Option.map_some, Format.write, Nat.shiftLeft_eq]
  rw [h.near]

theorem Nf.zero_add {s E m b} (h : Nf s E m b) : double.add 0 b = some b := by
  unfold Format.add
  rw [h.read, read0]
  have hm : 0 < m := by have := h.2.1; omega
  have hb : min (-1074) ((E : Int) - 1074) = -1074 := by omega
  have u1 : ((E : Int) - 1074 - -1074).toNat = E := by omega
  have u2 : ((-1074 : Int) - -1074).toNat = 0 := rfl
  have z : signed false 0 0 = 0 := rfl
  obtain ⟨n1, n2⟩ := signed_sgn s m E hm
  simp only [Datum.sum, hb, u1, u2, z, Int.zero_add, if_neg n1, n2, signed_natAbs, Option.map_some, Format.write, Nat.shiftLeft_eq]
  rw [h.near]

theorem zero_zero : double.add 0 0 = some 0 := by decide

/-- Nought without a sign, or a normal word at a place between the two. -/
def Zn (lo hi b : Nat) : Prop := b = 0 ∨ ∃ s E m, Nf s E m b ∧ lo ≤ E ∧ E ≤ hi

theorem Nf.addN {s E m b t F n c} (h : Nf s E m b) (g : Nf t F n c) (hE : 900 ≤ E ∧ E ≤ 1100) (hF : 900 ≤ F ∧ F ≤ 1100) :
    ∃ r, double.add b c = some r ∧ Zn 800 1400 r := by
  unfold Format.add
  rw [h.read, g.read]
  obtain ⟨-, h1, h2, -⟩ := h
  obtain ⟨-, g1, g2, -⟩ := g
  obtain ⟨B, hB⟩ : ∃ B : Nat, B = min E F := ⟨_, rfl⟩
  have hb : min ((E : Int) - 1074) ((F : Int) - 1074) = (B : Int) - 1074 := by omega
  have u1 : ((E : Int) - 1074 - ((B : Int) - 1074)).toNat = E - B := by omega
  have u2 : ((F : Int) - 1074 - ((B : Int) - 1074)).toNat = F - B := by omega
  simp only [Datum.sum, hb, u1, u2, Option.map_some, Format.write]
  obtain ⟨a1, a2⟩ := signed_sgn s m (E - B) (by omega)
  obtain ⟨c1, c2⟩ := signed_sgn t n (F - B) (by omega)
  have n1 := signed_natAbs s m (E - B)
  have n2 := signed_natAbs t n (F - B)
  have l1 : m <<< (E - B) < 2 ^ 253 := by
    rw [Nat.shiftLeft_eq]
    have : 2 ^ (E - B) ≤ 2 ^ 200 := Nat.pow_le_pow_right (by decide) (by omega)
    calc m * 2 ^ (E - B) ≤ m * 2 ^ 200 := Nat.mul_le_mul_left _ this
      _ < 2 ^ 53 * 2 ^ 200 := Nat.mul_lt_mul_of_pos_right (by rw [e53]; exact h2) (Nat.two_pow_pos _)
      _ = 2 ^ 253 := by rw [← Nat.pow_add]
  have l2 : n <<< (F - B) < 2 ^ 253 := by
    rw [Nat.shiftLeft_eq]
    have : 2 ^ (F - B) ≤ 2 ^ 200 := Nat.pow_le_pow_right (by decide) (by omega)
    calc n * 2 ^ (F - B) ≤ n * 2 ^ 200 := Nat.mul_le_mul_left _ this
      _ < 2 ^ 53 * 2 ^ 200 := Nat.mul_lt_mul_of_pos_right (by rw [e53]; exact g2) (Nat.two_pow_pos _)
      _ = 2 ^ 253 := by rw [← Nat.pow_add]
  rw [← n1] at l1
  rw [← n2] at l2
  clear n1 n2
  generalize signed s m (E - B) = x at *
  generalize signed t n (F - B) = y at *
  have e254 : (2 : Nat) ^ 254 = 2 ^ 253 + 2 ^ 253 := by rw [← Nat.two_mul, ← Nat.pow_succ']
  have l3 : (x + y).natAbs < 2 ^ 254 := by
    rw [e254]
    exact Nat.lt_of_le_of_lt (Int.natAbs_add_le x y) (Nat.add_lt_add l1 l2)
  clear l1 l2 e254
  by_cases hz : x + y = 0
  · refine ⟨_, rfl, Or.inl ?_⟩
    have hs : (s && t) = false := by
      rw [← a2, ← c2]
      by_cases hx : x < 0
      · have : ¬ y < 0 := by omega
        simp [this]
      · simp [hx]
    rw [if_pos hz, hz, hs]
    rfl
  · rw [if_neg hz]
    have hp : 0 < (x + y).natAbs := by omega
    have hl := f_log2_le (L := 253) hp l3
    obtain ⟨E', m', hN, q1, q2⟩ := near_normal (decide (x + y < 0)) (x + y).natAbs ((B : Int) - 1074) hp (by omega) (by omega)
    exact ⟨_, rfl, Or.inr ⟨_, E', m', hN, by omega, by omega⟩⟩

theorem Zn.add {b c : Nat} (h : Zn 900 1100 b) (g : Zn 900 1100 c) : ∃ r, double.add b c = some r ∧ Zn 800 1400 r := by
  rcases h with rfl | ⟨s, E, m, h, hE⟩
  · rcases g with rfl | ⟨t, F, n, g, hF⟩
    · exact ⟨0, zero_zero, Or.inl rfl⟩
    · exact ⟨c, g.zero_add, Or.inr ⟨t, F, n, g, by omega, by omega⟩⟩
  · rcases g with rfl | ⟨t, F, n, g, hF⟩
    · exact ⟨b, h.add_zero, Or.inr ⟨s, E, m, h, by omega, by omega⟩⟩
    · exact h.addN g hE hF

theorem Zn.add_zero {lo hi b : Nat} (h : Zn lo hi b) : double.add b 0 = some b := by
  rcases h with rfl | ⟨s, E, m, h, hE⟩
  · exact zero_zero
  · exact h.add_zero

theorem ofInt_near (n : Int) (h : n ≠ 0) (hb : n.natAbs < 2 ^ 61) : ∃ s E m, Nf s E m (floatOfInt .f64 n) ∧ 1022 ≤ E ∧ E ≤ 1083 ∧ s = decide (n < 0) := by
  have hp : 0 < n.natAbs := by omega
  have hl := f_log2_le (L := 60) hp hb
  obtain ⟨E, m, hN, q1, q2⟩ := near_normal (decide (n < 0)) n.natAbs 0 hp (by omega) (by omega)
  exact ⟨_, E, m, hN, by omega, by omega, rfl⟩

theorem ofInt_zn (n : Int) (hb : n.natAbs < 2 ^ 61) : Zn 1022 1083 (floatOfInt .f64 n) := by
  by_cases h : n = 0
  · subst h; exact Or.inl (by decide)
  · obtain ⟨s, E, m, hN, q1, q2, -⟩ := ofInt_near n h hb
    exact Or.inr ⟨s, E, m, hN, q1, q2⟩

theorem root2 : Nf false 1022 6369051672525773 4609047870845172685 := ⟨by decide, by decide, by decide, by decide⟩

theorem Zn.mulN {b n c : Nat} (h : Zn 1022 1083 b) (g : Nf false 1022 n c) : ∃ r, double.mul b c = some r ∧ Zn 900 1100 r := by
  unfold Format.mul
  rw [g.read]
  rcases h with rfl | ⟨s, E, m, h, hE⟩
  · rw [read0]
    refine ⟨_, rfl, Or.inl ?_⟩
    simp [Format.write, Format.nearest]
    rfl
  · rw [h.read]
    refine ⟨_, rfl, Or.inr ?_⟩
    have h1 := h.2.1
    have h2 := h.2.2.1
    have g1 := g.2.1
    have g2 := g.2.2.1
    have p1 : 2 ^ 104 ≤ m * n := by
      have : (2 : Nat) ^ 104 = 2 ^ 52 * 2 ^ 52 := by rw [← Nat.pow_add]
      rw [this, e52]; exact Nat.mul_le_mul h1 g1
    have p2 : m * n < 2 ^ 106 := by
      have : (2 : Nat) ^ 106 = 2 ^ 53 * 2 ^ 53 := by rw [← Nat.pow_add]
      rw [this, e53]; exact Nat.mul_lt_mul'' h2 g2
    have q0 : 0 < m * n := Nat.lt_of_lt_of_le (Nat.two_pow_pos 104) p1
    have q1 := f_log2_ge p1
    have q2 := f_log2_le (L := 105) q0 p2
    obtain ⟨E', m', hN, r1, r2⟩ := near_normal (s ^^ false) (m * n) ((E : Int) - 1074 + (((1022 : Nat) : Int) - 1074)) q0 (by omega) (by omega)
    exact ⟨_, E', m', hN, by omega, by omega⟩

theorem Zn.div {b F n c : Nat} (h : Zn 800 1400 b) (g : Nf false F n c) (hF : 1022 ≤ F ∧ F ≤ 1083) : ∃ r, double.div b c = some r ∧ Zn 0 2045 r := by
  unfold Format.div
  rw [g.read]
  have g0 := g.log2
  have g1 := g.2.1
  have g2 := g.2.2.1
  have gn : ¬ n = 0 := by omega
  rcases h with rfl | ⟨s, E, m, h, hE⟩
  · rw [read0]
    refine ⟨0, ?_, Or.inl rfl⟩
    simp only [Datum.quotient, if_neg gn, Nat.zero_shiftLeft, Nat.zero_div, Nat.zero_mod, Option.map_some, Format.write, Format.nearest]
    rfl
  · rw [h.read]
    have h0 := h.log2
    have h1 := h.2.1
    have h2 := h.2.2.1
    have hf : double.fractionBits + 2 + 52 - 52 = 54 := rfl
    simp only [Datum.quotient, if_neg gn, h0, g0, hf, Option.map_some, Format.write]
    refine ⟨_, rfl, Or.inr ?_⟩
    have hb : ∀ z : Bool, z.toNat ≤ 1 := by decide
    have k1 : 0 < m <<< 54 / n := by
      refine Nat.div_pos ?_ (by omega)
      rw [Nat.shiftLeft_eq]
      omega
    have k2 : m <<< 54 / n ≤ m * 18014398509481984 := by
      have := Nat.div_le_self (m <<< 54) n
      rw [Nat.shiftLeft_eq] at this ⊢
      exact this
    have k3 := hb (m <<< 54 % n != 0)
    generalize m <<< 54 / n = d at *
    generalize (m <<< 54 % n != 0).toNat = z at *
    have q0 : 0 < 2 * d + z := by omega
    have p2 : 2 * d + z < 2 ^ 109 := by
      have : (2 : Nat) ^ 109 = 649037107316853453566312041152512 := rfl
      rw [this]; omega
    have q2 := f_log2_le (L := 108) q0 p2
    obtain ⟨E', m', hN, r1, r2⟩ := near_normal (s ^^ false) (2 * d + z) ((E : Int) - 1074 - ((F : Int) - 1074) - ((54 : Nat) : Int) - 1) q0 (by omega) (by omega)
    exact ⟨_, E', m', hN, by omega, hN.2.2.2⟩

/-- All that both Floats reckon. -/
theorem float_all (p q d : Int) (hp : p.natAbs < 2 ^ 53) (hq : q.natAbs < 2 ^ 53) (h0 : 0 < d) (hd : d.natAbs < 2 ^ 61) :
    ∃ x y z, floatBits .mul .f64 (floatOfInt .f64 q) 4609047870845172685 = some x ∧ floatBits .add .f64 (floatOfInt .f64 p) x = some y
      ∧ floatBits .quo .f64 y (floatOfInt .f64 d) = some z ∧ floatBits .add .f64 z 0 = some z := by
  have w : (2 : Nat) ^ 53 ≤ 2 ^ 61 := Nat.pow_le_pow_right (by decide) (by decide)
  obtain ⟨x, hx, zx⟩ := Zn.mulN (ofInt_zn q (Nat.lt_of_lt_of_le hq w)) root2
  have zp : Zn 900 1100 (floatOfInt .f64 p) := by
    rcases ofInt_zn p (Nat.lt_of_lt_of_le hp w) with h | ⟨s, E, m, h, q1, q2⟩
    · exact Or.inl h
    · exact Or.inr ⟨s, E, m, h, by omega, by omega⟩
  obtain ⟨y, hy, zy⟩ := Zn.add zp zx
  obtain ⟨s, F, n, hN, r1, r2, hs⟩ := ofInt_near d (by omega) hd
  have hs' : s = false := by rw [hs]; exact decide_eq_false (by omega)
  subst hs'
  obtain ⟨z, hz, zz⟩ := Zn.div zy hN ⟨r1, r2⟩
  exact ⟨x, y, z, hx, hy, hz, zz.add_zero⟩

end Go.Proofs.YtalaacfoaelipaaDoor
