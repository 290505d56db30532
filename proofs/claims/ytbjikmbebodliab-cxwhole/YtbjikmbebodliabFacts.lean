/-
  What every call in the law answers, in bits: the products, sums and norms of whole complex numbers, and that the compared ones are equal.
-/
import Derived.Test.YtbjikmbebodliabDot
namespace Go.Proofs.Ytbjikmbebodliab
open Go.RowKit

theorem fl_one : Fl 4607182418800017408 1 := by
  have h := Fl.ofInt 1 (by decide)
  rwa [show floatOfInt .f64 1 = 4607182418800017408 from by kernel_rfl] at h
theorem cb_zero : CB 0 0 0 0 0 := ⟨Fl.ofInt 0 (by decide), Fl.ofInt 0 (by decide), by decide, by decide⟩
theorem cb_i : CB 0 4607182418800017408 0 1 1 := ⟨Fl.ofInt 0 (by decide), fl_one, by decide, by decide⟩

theorem mul_ret {a b c d : Nat} {A B C D : Int} {p q : Nat} (h : CB a b A B p) (g : CB c d C D q) (hpq : p * q + p * q < 2 ^ 53) :
    ∃ e f, Ret 6 #[.complex .f64 a b, .complex .f64 c d] (.complex .f64 e f) ∧ (∀ t w, (binOp .mul t (.complex .f64 a b) (.complex .f64 c d)).run Try.prog w = .ok (.complex .f64 e f) w) ∧ CB e f (A * C - B * D) (A * D + B * C) (p * q + p * q) := by
  obtain ⟨ac, bd, ad, bc, e, f, h1, h2, h3, h4, h5, h6, hc⟩ := mul_steps h g hpq
  refine ⟨e, f, ⟨fun w => mul_bits a b c d ac bd ad bc e f w h1 h2 h3 h4 h5 h6⟩, fun t w => run_complex_mul w t a b c d e f ?_, hc⟩
  unfold cMulBits
  rw [h1, Option.bind_some, h2, Option.bind_some, h5, Option.bind_some, h3, Option.bind_some, h4, Option.bind_some, h6, Option.bind_some]

theorem add_ret {a b c d : Nat} {A B C D : Int} {p q : Nat} (h : CB a b A B p) (g : CB c d C D q) (hpq : p + q < 2 ^ 53) :
    ∃ e f, Ret 7 #[.complex .f64 a b, .complex .f64 c d] (.complex .f64 e f) ∧ (∀ t w, (binOp .add t (.complex .f64 a b) (.complex .f64 c d)).run Try.prog w = .ok (.complex .f64 e f) w) ∧ CB e f (A + C) (B + D) (p + q) := by
  have l1 : (A + C).natAbs ≤ p + q := by have := h.bre; have := g.bre; omega
  have l2 : (B + D).natAbs ≤ p + q := by have := h.bim; have := g.bim; omega
  obtain ⟨e, he, fe⟩ := Fl.add h.re g.re (Nat.lt_of_le_of_lt l1 hpq)
  obtain ⟨f, hf, ff⟩ := Fl.add h.im g.im (Nat.lt_of_le_of_lt l2 hpq)
  refine ⟨e, f, ⟨fun w => add_bits a b c d e f w he hf⟩, fun t w => run_complex_sum w .add (Or.inl rfl) t .f64 a b c d e f ?_, ⟨fe, ff, l1, l2⟩⟩
  unfold cSumBits
  rw [he, Option.bind_some, hf, Option.bind_some]

theorem sub_ret {a b c d : Nat} {A B C D : Int} {p q : Nat} (h : CB a b A B p) (g : CB c d C D q) (hpq : p + q < 2 ^ 53) :
    ∃ e f, Ret 8 #[.complex .f64 a b, .complex .f64 c d] (.complex .f64 e f) ∧ (∀ t w, (binOp .sub t (.complex .f64 a b) (.complex .f64 c d)).run Try.prog w = .ok (.complex .f64 e f) w) ∧ CB e f (A - C) (B - D) (p + q) := by
  have l1 : (A - C).natAbs ≤ p + q := by have := h.bre; have := g.bre; omega
  have l2 : (B - D).natAbs ≤ p + q := by have := h.bim; have := g.bim; omega
  obtain ⟨e, he, fe⟩ := Fl.sub h.re g.re (Nat.lt_of_le_of_lt l1 hpq)
  obtain ⟨f, hf, ff⟩ := Fl.sub h.im g.im (Nat.lt_of_le_of_lt l2 hpq)
  refine ⟨e, f, ⟨fun w => sub_bits a b c d e f w he hf⟩, fun t w => run_complex_sum w .sub (Or.inr rfl) t .f64 a b c d e f ?_, ⟨fe, ff, l1, l2⟩⟩
  unfold cSumBits
  rw [he, Option.bind_some, hf, Option.bind_some]

theorem conj_cb {a b : Nat} {A B : Int} {p : Nat} (h : CB a b A B p) : CB a (Op.negFloat .f64 b) A (-B) p :=
  ⟨h.re, h.im.neg, h.bre, by have := h.bim; omega⟩
theorem conj_ret (a b : Nat) : Ret 9 #[.complex .f64 a b] (.complex .f64 a (Op.negFloat .f64 b)) := ⟨fun w => conj_bits a b w⟩

theorem turn_cb {a b : Nat} {A B : Int} {p : Nat} (h : CB a b A B p) : CB (Op.negFloat .f64 b) a (-B) A p :=
  ⟨h.im.neg, h.re, by have := h.bim; omega, h.bre⟩
theorem turn_ret (a b : Nat) : Ret 11 #[.complex .f64 a b, .int .i64 1] (.complex .f64 (Op.negFloat .f64 b) a) := ⟨fun w => turn_bits a b w⟩

theorem norm_ret {a b : Nat} {A B : Int} {p : Nat} (h : CB a b A B p) (hp : p * p + p * p < 2 ^ 53) :
    ∃ e, Ret 10 #[.complex .f64 a b] (.float .f64 e) ∧ CB e 0 (A * A + B * B) 0 (p * p + p * p) := by
  have l1 := natAbs_mul_le h.bre h.bre
  have l2 := natAbs_mul_le h.bim h.bim
  have l5 : (A * A + B * B).natAbs ≤ p * p + p * p := by omega
  have lt : p * p < 2 ^ 53 := by omega
  obtain ⟨aa, h1, f1⟩ := Fl.mul h.re h.re (Nat.lt_of_le_of_lt l1 lt)
  obtain ⟨bb, h2, f2⟩ := Fl.mul h.im h.im (Nat.lt_of_le_of_lt l2 lt)
  obtain ⟨e, h3, f3⟩ := Fl.add f1 f2 (Nat.lt_of_le_of_lt l5 hp)
  exact ⟨e, ⟨fun w => norm_bits a b aa bb e w h1 h2 h3⟩, ⟨f3, Fl.ofInt 0 (by decide), l5, by simp⟩⟩

theorem eq_ret {a b c d : Nat} {A B C D : Int} {p q : Nat} (h : CB a b A B p) (g : CB c d C D q) (h1 : A = C) (h2 : B = D) :
    Ret 5 #[.complex .f64 a b, .complex .f64 c d] (.bool true) := by
  subst h1; subst h2
  exact ⟨fun w => equal_bits a b c d w (h.re.eq g.re) (h.im.eq g.im)⟩

theorem fadd_ret {a c : Nat} {A C : Int} {p q : Nat} (h : CB a 0 A 0 p) (g : CB c 0 C 0 q) (hpq : p + q < 2 ^ 53) :
    ∃ e, (∀ t w, (binOp .add t (.float .f64 a) (.float .f64 c)).run Try.prog w = .ok (.float .f64 e) w) ∧ CB e 0 (A + C) 0 (p + q) := by
  have l1 : (A + C).natAbs ≤ p + q := by have := h.bre; have := g.bre; omega
  obtain ⟨e, he, fe⟩ := Fl.add h.re g.re (Nat.lt_of_le_of_lt l1 hpq)
  exact ⟨e, fun t w => run_fadd he t w, ⟨fe, h.im, l1, by simp⟩⟩

theorem tmod_le (n : Int) (m : Nat) (h : 0 < m) : (n.tmod m).natAbs ≤ m - 1 := by
  have := Int.natAbs_tmod n m
  rw [this]
  have := Nat.mod_lt n.natAbs h
  have e : (m : Int).natAbs = m := by simp
  rw [e]; omega

theorem cb_of (n m : Int) : CB (floatOfInt .f64 (n.tmod 33554432)) (floatOfInt .f64 (m.tmod 33554432)) (n.tmod 33554432) (m.tmod 33554432) 33554431 := by
  have h1 := tmod_le n 33554432 (by decide)
  have h2 := tmod_le m 33554432 (by decide)
  exact ⟨Fl.ofInt _ (Nat.lt_of_le_of_lt h1 (by decide)), Fl.ofInt _ (Nat.lt_of_le_of_lt h2 (by decide)), h1, h2⟩
theorem cb_small (n m : Int) : CB (floatOfInt .f64 (n.tmod 65536)) (floatOfInt .f64 (m.tmod 65536)) (n.tmod 65536) (m.tmod 65536) 65535 := by
  have h1 := tmod_le n 65536 (by decide)
  have h2 := tmod_le m 65536 (by decide)
  exact ⟨Fl.ofInt _ (Nat.lt_of_le_of_lt h1 (by decide)), Fl.ofInt _ (Nat.lt_of_le_of_lt h2 (by decide)), h1, h2⟩

/-- All that the tests ask of two numbers of parts up to 2^25, in bits. -/
structure Big (a b c d : Nat) : Prop where
  all : ∃ e f g h k l, Ret 6 #[.complex .f64 a b, .complex .f64 c d] (.complex .f64 e f) ∧ (∀ t w, (binOp .mul t (.complex .f64 a b) (.complex .f64 c d)).run Try.prog w = .ok (.complex .f64 e f) w) ∧ Ret 5 #[.complex .f64 e f, .complex .f64 e f] (.bool true)
    ∧ Ret 7 #[.complex .f64 a b, .complex .f64 c d] (.complex .f64 g h) ∧ (∀ t w, (binOp .add t (.complex .f64 a b) (.complex .f64 c d)).run Try.prog w = .ok (.complex .f64 g h) w) ∧ Ret 5 #[.complex .f64 g h, .complex .f64 g h] (.bool true)
    ∧ Ret 8 #[.complex .f64 a b, .complex .f64 c d] (.complex .f64 k l) ∧ (∀ t w, (binOp .sub t (.complex .f64 a b) (.complex .f64 c d)).run Try.prog w = .ok (.complex .f64 k l) w) ∧ Ret 5 #[.complex .f64 k l, .complex .f64 k l] (.bool true)

theorem big_of {a b c d : Nat} {A B C D : Int} (hx : CB a b A B 33554431) (hy : CB c d C D 33554431) : Big a b c d := by
  obtain ⟨e, f, m1, m2, m3⟩ := mul_ret hx hy (by decide)
  obtain ⟨g, h, s1, s2, s3⟩ := add_ret hx hy (by decide)
  obtain ⟨k, l, d1, d2, d3⟩ := sub_ret hx hy (by decide)
  exact ⟨e, f, g, h, k, l, m1, m2, eq_ret m3 m3 rfl rfl, s1, s2, eq_ret s3 s3 rfl rfl, d1, d2, eq_ret d3 d3 rfl rfl⟩

theorem id_assoc (A B C D E F : Int) : (A * C - B * D) * E - (A * D + B * C) * F = A * (C * E - D * F) - B * (C * F + D * E) ∧ (A * C - B * D) * F + (A * D + B * C) * E = A * (C * F + D * E) + B * (C * E - D * F) := by
  constructor <;> grind
theorem id_dist (A B C D E F : Int) : A * (C + E) - B * (D + F) = A * C - B * D + (A * E - B * F) ∧ A * (D + F) + B * (C + E) = A * D + B * C + (A * F + B * E) := by
  constructor <;> grind
theorem id_norm (A B : Int) : A * A - B * -B = A * A + B * B ∧ A * -B + B * A = 0 := by
  constructor <;> grind
theorem id_turn (A B : Int) : A * 0 - B * 1 = -B ∧ A * 1 + B * 0 = A := by
  constructor <;> grind
theorem id_dot (A B C D : Int) : 0 + (A * A - B * -B) + (C * C - D * -D) = A * A + B * B + (C * C + D * D) ∧ 0 + (A * -B + B * A) + (C * -D + D * C) = 0 := by
  constructor <;> grind

/-- All that the tests ask of three numbers of parts up to 2^16, in bits: a product of three, bracketed both ways; a product with a sum. -/
structure Small (a b c d e f : Nat) : Prop where
  all : ∃ p q r s t u v x, Ret 6 #[.complex .f64 a b, .complex .f64 c d] (.complex .f64 p q) ∧ Ret 6 #[.complex .f64 p q, .complex .f64 e f] (.complex .f64 r s) ∧ Ret 6 #[.complex .f64 c d, .complex .f64 e f] (.complex .f64 t u) ∧ Ret 6 #[.complex .f64 a b, .complex .f64 t u] (.complex .f64 v x) ∧ Ret 5 #[.complex .f64 r s, .complex .f64 v x] (.bool true)
    ∧ ∃ i j k l m n y z, Ret 7 #[.complex .f64 c d, .complex .f64 e f] (.complex .f64 i j) ∧ Ret 6 #[.complex .f64 a b, .complex .f64 i j] (.complex .f64 k l) ∧ Ret 6 #[.complex .f64 a b, .complex .f64 e f] (.complex .f64 m n) ∧ Ret 7 #[.complex .f64 p q, .complex .f64 m n] (.complex .f64 y z) ∧ Ret 5 #[.complex .f64 k l, .complex .f64 y z] (.bool true)
/-- .. the norm, the turn, the sum of two norms. -/
structure Norms (a b c d : Nat) : Prop where
  all : ∃ e f n t u m g h p q y z s, Ret 6 #[.complex .f64 a b, .complex .f64 a (Op.negFloat .f64 b)] (.complex .f64 e f) ∧ Ret 10 #[.complex .f64 a b] (.float .f64 n) ∧ Ret 5 #[.complex .f64 e f, .complex .f64 n 0] (.bool true)
    ∧ Ret 6 #[.complex .f64 a b, .complex .f64 0 4607182418800017408] (.complex .f64 t u) ∧ Ret 5 #[.complex .f64 t u, .complex .f64 (Op.negFloat .f64 b) a] (.bool true)
    ∧ Ret 10 #[.complex .f64 c d] (.float .f64 m) ∧ Ret 7 #[.complex .f64 0 0, .complex .f64 e f] (.complex .f64 g h) ∧ Ret 6 #[.complex .f64 c d, .complex .f64 c (Op.negFloat .f64 d)] (.complex .f64 p q) ∧ Ret 7 #[.complex .f64 g h, .complex .f64 p q] (.complex .f64 y z)
    ∧ (∀ t w, (binOp .add t (.float .f64 n) (.float .f64 m)).run Try.prog w = .ok (.float .f64 s) w) ∧ Ret 5 #[.complex .f64 y z, .complex .f64 s 0] (.bool true)

theorem small_of {a b c d e f : Nat} {A B C D E F : Int} (hx : CB a b A B 65535) (hy : CB c d C D 65535) (hz : CB e f E F 65535) : Small a b c d e f := by
  obtain ⟨p, q, m1, _, c1⟩ := mul_ret hx hy (by decide)
  obtain ⟨r, s, m2, _, c2⟩ := mul_ret c1 hz (by decide)
  obtain ⟨t, u, m3, _, c3⟩ := mul_ret hy hz (by decide)
  obtain ⟨v, x, m4, _, c4⟩ := mul_ret hx c3 (by decide)
  obtain ⟨i, j, m5, _, c5⟩ := add_ret hy hz (by decide)
  obtain ⟨k, l, m6, _, c6⟩ := mul_ret hx c5 (by decide)
  obtain ⟨m, n, m7, _, c7⟩ := mul_ret hx hz (by decide)
  obtain ⟨y, z, m8, _, c8⟩ := add_ret c1 c7 (by decide)
  have h := id_assoc A B C D E F
  have g := id_dist A B C D E F
  exact ⟨p, q, r, s, t, u, v, x, m1, m2, m3, m4, eq_ret c2 c4 h.1 h.2, i, j, k, l, m, n, y, z, m5, m6, m7, m8, eq_ret c6 c8 g.1 g.2⟩
theorem norms_of {a b c d : Nat} {A B C D : Int} (hx : CB a b A B 65535) (hy : CB c d C D 65535) : Norms a b c d := by
  obtain ⟨e, f, m1, _, c1⟩ := mul_ret hx (conj_cb hx) (by decide)
  obtain ⟨n, m2, c2⟩ := norm_ret hx (by decide)
  obtain ⟨t, u, m3, _, c3⟩ := mul_ret hx cb_i (by decide)
  obtain ⟨m, m4, c4⟩ := norm_ret hy (by decide)
  obtain ⟨g, h, m5, _, c5⟩ := add_ret cb_zero c1 (by decide)
  obtain ⟨p, q, m6, _, c6⟩ := mul_ret hy (conj_cb hy) (by decide)
  obtain ⟨y, z, m7, _, c7⟩ := add_ret c5 c6 (by decide)
  obtain ⟨s, m8, c8⟩ := fadd_ret c2 c4 (by decide)
  have i1 := id_norm A B
  have i2 := id_turn A B
  have i3 := id_dot A B C D
  exact ⟨e, f, n, t, u, m, g, h, p, q, y, z, s, m1, m2, eq_ret c1 c2 i1.1 i1.2, m3, eq_ret c3 (turn_cb hx) i2.1 i2.2, m4, m5, m6, m7, m8, eq_ret c7 c8 i3.1 i3.2⟩

end Go.Proofs.Ytbjikmbebodliab
