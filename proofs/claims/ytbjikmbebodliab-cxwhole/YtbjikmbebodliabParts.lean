/-
  What cx's Add, Sub, Mul, Conj, Norm, Turn by 1 and Equal answer on complex numbers whose parts are whole numbers: exactly, as long as nothing is beyond 2^53.
-/
import Derived.Test.YtbjikmbebodliabRows
import Derived.Test.YtbjikmbebodliabFloat
import Derived.WalkKit
import Derived.WalkSpells
import Derived.WalkLawsBesides
namespace Go.Proofs.Ytbjikmbebodliab
open Go.RowKit

/-- The parts a, b of a complex number stand for the whole numbers x, y, neither beyond p. -/
structure CB (a b : Nat) (x y : Int) (p : Nat) : Prop where
  re : Fl a x
  im : Fl b y
  bre : x.natAbs ≤ p
  bim : y.natAbs ≤ p

theorem natAbs_mul_le {x y : Int} {p q : Nat} (h : x.natAbs ≤ p) (g : y.natAbs ≤ q) : (x * y).natAbs ≤ p * q := by
  rw [Int.natAbs_mul]; exact Nat.mul_le_mul h g

theorem run_fmul {a b r : Nat} (h : floatBits .mul .f64 a b = some r) (t : TypeId) (w : World) : (binOp .mul t (.float .f64 a) (.float .f64 b)).run Try.prog w = .ok (.float .f64 r) w := run_float_arith w .mul t .f64 a b r h
theorem run_fadd {a b r : Nat} (h : floatBits .add .f64 a b = some r) (t : TypeId) (w : World) : (binOp .add t (.float .f64 a) (.float .f64 b)).run Try.prog w = .ok (.float .f64 r) w := run_float_arith w .add t .f64 a b r h
theorem run_fsub {a b r : Nat} (h : floatBits .sub .f64 a b = some r) (t : TypeId) (w : World) : (binOp .sub t (.float .f64 a) (.float .f64 b)).run Try.prog w = .ok (.float .f64 r) w := run_float_arith w .sub t .f64 a b r h
theorem run_fneg (b : Nat) (w : World) : (Op.unary .neg (.float .f64 b)).run Try.prog w = .ok (.float .f64 (Op.negFloat .f64 b)) w := rfl

set_option maxHeartbeats 400000 in
theorem times_any (a b r : Nat) (w : World) (h : floatBits .mul .f64 a b = some r) :
    Calls Try.prog 17 #[.float .f64 a, .float .f64 b] w fun e w' => e = .returned (.float .f64 r) ∧ w' = w := by
  have hop := run_fmul h
  go_enter Try.func17, Try.ntmps17
  go_wp2_with (simp only [hop])
  all_goals (go_ret; exact ⟨rfl, rfl⟩)

set_option maxHeartbeats 400000 in
theorem add_bits (a b c d e f : Nat) (w : World) (h : floatBits .add .f64 a c = some e) (g : floatBits .add .f64 b d = some f) :
    Calls Try.prog 7 #[.complex .f64 a b, .complex .f64 c d] w fun x w' => x = .returned (.complex .f64 e f) ∧ w' = w := by
  have hop := run_fadd h
  have gop := run_fadd g
  go_enter Try.func7, Try.ntmps7
  go_wp2_with (simp only [hop, gop])
  all_goals (go_ret; exact ⟨rfl, rfl⟩)

set_option maxHeartbeats 400000 in
theorem sub_bits (a b c d e f : Nat) (w : World) (h : floatBits .sub .f64 a c = some e) (g : floatBits .sub .f64 b d = some f) :
    Calls Try.prog 8 #[.complex .f64 a b, .complex .f64 c d] w fun x w' => x = .returned (.complex .f64 e f) ∧ w' = w := by
  have hop := run_fsub h
  have gop := run_fsub g
  go_enter Try.func8, Try.ntmps8
  go_wp2_with (simp only [hop, gop])
  all_goals (go_ret; exact ⟨rfl, rfl⟩)

set_option maxHeartbeats 400000 in
theorem conj_bits (a b : Nat) (w : World) :
    Calls Try.prog 9 #[.complex .f64 a b] w fun x w' => x = .returned (.complex .f64 a (Op.negFloat .f64 b)) ∧ w' = w := by
  go_enter Try.func9, Try.ntmps9
  go_wp2_with (simp only [run_fneg])
  all_goals (go_ret; exact ⟨rfl, rfl⟩)

set_option maxHeartbeats 400000 in
theorem turn_bits (a b : Nat) (w : World) :
    Calls Try.prog 11 #[.complex .f64 a b, .int .i64 1] w fun x w' => x = .returned (.complex .f64 (Op.negFloat .f64 b) a) ∧ w' = w := by
  go_enter Try.func11, Try.ntmps11
  go_wp2_with (simp only [run_fneg])
  all_goals (go_ret; exact ⟨rfl, rfl⟩)

set_option maxHeartbeats 400000 in
theorem equal_bits (a b c d : Nat) (w : World) (h : (FloatKind.f64.format.order a c == some .eq) = true) (g : (FloatKind.f64.format.order b d == some .eq) = true) :
    Calls Try.prog 5 #[.complex .f64 a b, .complex .f64 c d] w fun x w' => x = .returned (.bool true) ∧ w' = w := by
  go_enter Try.func5, Try.ntmps5
  go_wp2
  all_goals (go_ret; exact ⟨rfl, rfl⟩)

set_option maxHeartbeats 400000 in
theorem mul_bits (a b c d ac bd ad bc e f : Nat) (w : World) (h1 : floatBits .mul .f64 a c = some ac) (h2 : floatBits .mul .f64 b d = some bd) (h3 : floatBits .mul .f64 a d = some ad) (h4 : floatBits .mul .f64 b c = some bc)
    (h5 : floatBits .sub .f64 ac bd = some e) (h6 : floatBits .add .f64 ad bc = some f) :
    Calls Try.prog 6 #[.complex .f64 a b, .complex .f64 c d] w fun x w' => x = .returned (.complex .f64 e f) ∧ w' = w := by
  have o5 := run_fsub h5
  have o6 := run_fadd h6
  go_enter Try.func6, Try.ntmps6
  go_wp2_with (first
    | (go_at_call 17; refine (times_any a c ac _ h1).mono ?_; rintro e w' ⟨rfl, rfl⟩)
    | (go_at_call 17; refine (times_any b d bd _ h2).mono ?_; rintro e w' ⟨rfl, rfl⟩)
    | (go_at_call 17; refine (times_any a d ad _ h3).mono ?_; rintro e w' ⟨rfl, rfl⟩)
    | (go_at_call 17; refine (times_any b c bc _ h4).mono ?_; rintro e w' ⟨rfl, rfl⟩))
  all_goals (go_ret; exact ⟨rfl, rfl⟩)

set_option maxHeartbeats 400000 in
theorem norm_bits (a b aa bb e : Nat) (w : World) (h1 : floatBits .mul .f64 a a = some aa) (h2 : floatBits .mul .f64 b b = some bb) (h3 : floatBits .add .f64 aa bb = some e) :
    Calls Try.prog 10 #[.complex .f64 a b] w fun x w' => x = .returned (.float .f64 e) ∧ w' = w := by
  have o3 := run_fadd h3
  go_enter Try.func10, Try.ntmps10
  go_wp2_with (first
    | (go_at_call 17; refine (times_any a a aa _ h1).mono ?_; rintro e w' ⟨rfl, rfl⟩)
    | (go_at_call 17; refine (times_any b b bb _ h2).mono ?_; rintro e w' ⟨rfl, rfl⟩))
  all_goals (go_ret; exact ⟨rfl, rfl⟩)

theorem add_any {a b c d : Nat} {A B C D : Int} {p q : Nat} (w : World) (h : CB a b A B p) (g : CB c d C D q) (hpq : p + q < 2 ^ 53) :
    Calls Try.prog 7 #[.complex .f64 a b, .complex .f64 c d] w fun x w' => ∃ e f, x = .returned (.complex .f64 e f) ∧ w' = w ∧ CB e f (A + C) (B + D) (p + q) := by
  have l1 : (A + C).natAbs ≤ p + q := by have := h.bre; have := g.bre; omega
  have l2 : (B + D).natAbs ≤ p + q := by have := h.bim; have := g.bim; omega
  obtain ⟨e, he, fe⟩ := Fl.add h.re g.re (Nat.lt_of_le_of_lt l1 hpq)
  obtain ⟨f, hf, ff⟩ := Fl.add h.im g.im (Nat.lt_of_le_of_lt l2 hpq)
  refine (add_bits a b c d e f w he hf).mono ?_
  rintro x w' ⟨rfl, rfl⟩
  exact ⟨e, f, rfl, rfl, ⟨fe, ff, l1, l2⟩⟩

theorem sub_any {a b c d : Nat} {A B C D : Int} {p q : Nat} (w : World) (h : CB a b A B p) (g : CB c d C D q) (hpq : p + q < 2 ^ 53) :
    Calls Try.prog 8 #[.complex .f64 a b, .complex .f64 c d] w fun x w' => ∃ e f, x = .returned (.complex .f64 e f) ∧ w' = w ∧ CB e f (A - C) (B - D) (p + q) := by
  have l1 : (A - C).natAbs ≤ p + q := by have := h.bre; have := g.bre; omega
  have l2 : (B - D).natAbs ≤ p + q := by have := h.bim; have := g.bim; omega
  obtain ⟨e, he, fe⟩ := Fl.sub h.re g.re (Nat.lt_of_le_of_lt l1 hpq)
  obtain ⟨f, hf, ff⟩ := Fl.sub h.im g.im (Nat.lt_of_le_of_lt l2 hpq)
  refine (sub_bits a b c d e f w he hf).mono ?_
  rintro x w' ⟨rfl, rfl⟩
  exact ⟨e, f, rfl, rfl, ⟨fe, ff, l1, l2⟩⟩

theorem mul_steps {a b c d : Nat} {A B C D : Int} {p q : Nat} (h : CB a b A B p) (g : CB c d C D q) (hpq : p * q + p * q < 2 ^ 53) :
    ∃ ac bd ad bc e f, floatBits .mul .f64 a c = some ac ∧ floatBits .mul .f64 b d = some bd ∧ floatBits .mul .f64 a d = some ad ∧ floatBits .mul .f64 b c = some bc ∧ floatBits .sub .f64 ac bd = some e ∧ floatBits .add .f64 ad bc = some f ∧ CB e f (A * C - B * D) (A * D + B * C) (p * q + p * q) := by
  have l1 := natAbs_mul_le h.bre g.bre
  have l2 := natAbs_mul_le h.bim g.bim
  have l3 := natAbs_mul_le h.bre g.bim
  have l4 := natAbs_mul_le h.bim g.bre
  have l5 : (A * C - B * D).natAbs ≤ p * q + p * q := by omega
  have l6 : (A * D + B * C).natAbs ≤ p * q + p * q := by omega
  have lt : p * q < 2 ^ 53 := by omega
  obtain ⟨ac, h1, f1⟩ := Fl.mul h.re g.re (Nat.lt_of_le_of_lt l1 lt)
  obtain ⟨bd, h2, f2⟩ := Fl.mul h.im g.im (Nat.lt_of_le_of_lt l2 lt)
  obtain ⟨ad, h3, f3⟩ := Fl.mul h.re g.im (Nat.lt_of_le_of_lt l3 lt)
  obtain ⟨bc, h4, f4⟩ := Fl.mul h.im g.re (Nat.lt_of_le_of_lt l4 lt)
  obtain ⟨e, h5, f5⟩ := Fl.sub f1 f2 (Nat.lt_of_le_of_lt l5 hpq)
  obtain ⟨f, h6, f6⟩ := Fl.add f3 f4 (Nat.lt_of_le_of_lt l6 hpq)
  exact ⟨ac, bd, ad, bc, e, f, h1, h2, h3, h4, h5, h6, ⟨f5, f6, l5, l6⟩⟩

theorem mul_any {a b c d : Nat} {A B C D : Int} {p q : Nat} (w : World) (h : CB a b A B p) (g : CB c d C D q) (hpq : p * q + p * q < 2 ^ 53) :
    Calls Try.prog 6 #[.complex .f64 a b, .complex .f64 c d] w fun x w' => ∃ e f, x = .returned (.complex .f64 e f) ∧ w' = w ∧ CB e f (A * C - B * D) (A * D + B * C) (p * q + p * q) := by
  obtain ⟨ac, bd, ad, bc, e, f, h1, h2, h3, h4, h5, h6, hc⟩ := mul_steps h g hpq
  refine (mul_bits a b c d ac bd ad bc e f w h1 h2 h3 h4 h5 h6).mono ?_
  rintro x w' ⟨rfl, rfl⟩
  exact ⟨e, f, rfl, rfl, hc⟩

theorem conj_any {a b : Nat} {A B : Int} {p : Nat} (w : World) (h : CB a b A B p) :
    Calls Try.prog 9 #[.complex .f64 a b] w fun x w' => ∃ e f, x = .returned (.complex .f64 e f) ∧ w' = w ∧ CB e f A (-B) p := by
  refine (conj_bits a b w).mono ?_
  rintro x w' ⟨rfl, rfl⟩
  exact ⟨_, _, rfl, rfl, ⟨h.re, h.im.neg, h.bre, by have := h.bim; omega⟩⟩

theorem turn_any {a b : Nat} {A B : Int} {p : Nat} (w : World) (h : CB a b A B p) :
    Calls Try.prog 11 #[.complex .f64 a b, .int .i64 1] w fun x w' => ∃ e f, x = .returned (.complex .f64 e f) ∧ w' = w ∧ CB e f (-B) A p := by
  refine (turn_bits a b w).mono ?_
  rintro x w' ⟨rfl, rfl⟩
  exact ⟨_, _, rfl, rfl, ⟨h.im.neg, h.re, by have := h.bim; omega, h.bre⟩⟩

theorem norm_any {a b : Nat} {A B : Int} {p : Nat} (w : World) (h : CB a b A B p) (hp : p * p + p * p < 2 ^ 53) :
    Calls Try.prog 10 #[.complex .f64 a b] w fun x w' => ∃ e, x = .returned (.float .f64 e) ∧ w' = w ∧ CB e 0 (A * A + B * B) 0 (p * p + p * p) := by
  have l1 := natAbs_mul_le h.bre h.bre
  have l2 := natAbs_mul_le h.bim h.bim
  have l5 : (A * A + B * B).natAbs ≤ p * p + p * p := by omega
  have lt : p * p < 2 ^ 53 := by omega
  obtain ⟨aa, h1, f1⟩ := Fl.mul h.re h.re (Nat.lt_of_le_of_lt l1 lt)
  obtain ⟨bb, h2, f2⟩ := Fl.mul h.im h.im (Nat.lt_of_le_of_lt l2 lt)
  obtain ⟨e, h3, f3⟩ := Fl.add f1 f2 (Nat.lt_of_le_of_lt l5 hp)
  refine (norm_bits a b aa bb e w h1 h2 h3).mono ?_
  rintro x w' ⟨rfl, rfl⟩
  exact ⟨e, rfl, rfl, ⟨f3, Fl.ofInt 0 (by decide), l5, by simp⟩⟩

theorem equal_any {a b c d : Nat} {A B C D : Int} {p q : Nat} (w : World) (h : CB a b A B p) (g : CB c d C D q) (h1 : A = C) (h2 : B = D) :
    Calls Try.prog 5 #[.complex .f64 a b, .complex .f64 c d] w fun x w' => x = .returned (.bool true) ∧ w' = w := by
  subst h1; subst h2
  exact equal_bits a b c d w (h.re.eq g.re) (h.im.eq g.im)

end Go.Proofs.Ytbjikmbebodliab
