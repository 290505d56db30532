/-
  Products and conjugates of small Gaussian integers; sums, products and conjugates in the ring.
-/
import Derived.Test.YtjmgcgjmaemgdaaB1
namespace Go.Proofs.Ytjmgcgjmaemgdaa
open Go.RowKit Go.Sort

def s1 (n : Int) : Prop := -1 ≤ n ∧ n ≤ 1
theorem s1.sm {n : Int} (h : s1 n) : sm n := by unfold s1 at h; unfold Go.Proofs.Ytjmgcgjmaemgdaa.sm; omega
def zbB (b : Nat) (n : Int) : Bool := (decide (-4 ≤ n) && decide (n ≤ 4) && b == fb n) || (decide (n = 0) && b == 9223372036854775808)
theorem zb_of {b : Nat} {n : Int} (h : zbB b n = true) : zb b n := by
  unfold zbB at h
  simp only [Bool.or_eq_true, Bool.and_eq_true, decide_eq_true_eq, beq_iff_eq] at h
  rcases h with ⟨⟨h1, h2⟩, h3⟩ | h
  · exact .inl ⟨⟨h1, h2⟩, h3⟩
  · exact .inr h
def okO (o : Option Nat) (n : Int) : Bool := match o with | some r => zbB r n | none => false
theorem of_okO {o : Option Nat} {n : Int} (h : okO o n = true) : ∃ r, o = some r ∧ zb r n := by
  cases o with
  | none => cases h
  | some r => exact ⟨r, rfl, zb_of h⟩
/-- The small floats and what they stand for. -/
def tb : List (Nat × Int) := [(fb (-1), -1), (fb 0, 0), (fb 1, 1), (9223372036854775808, 0)]
theorem zb_mem {b : Nat} {n : Int} (h : zb b n) (hn : s1 n) : (b, n) ∈ tb := by
  unfold s1 at hn
  rcases h with ⟨_, rfl⟩ | ⟨rfl, rfl⟩
  · have : n = -1 ∨ n = 0 ∨ n = 1 := by omega
    rcases this with rfl | rfl | rfl <;> simp [tb]
  · simp [tb]
theorem tb_ops : ∀ p ∈ tb, ∀ q ∈ tb, okO (floatBits .mul .f64 p.1 q.1) (p.2 * q.2) = true ∧ okO (floatBits .sub .f64 p.1 q.1) (p.2 - q.2) = true ∧ okO (floatBits .add .f64 p.1 q.1) (p.2 + q.2) = true := by decide +kernel
theorem zb_ops {b c : Nat} {n m : Int} (h : zb b n) (g : zb c m) (hn : s1 n) (hm : s1 m) : (∃ r, floatBits .mul .f64 b c = some r ∧ zb r (n * m)) ∧ (∃ r, floatBits .sub .f64 b c = some r ∧ zb r (n - m)) ∧ ∃ r, floatBits .add .f64 b c = some r ∧ zb r (n + m) := by
  have := tb_ops _ (zb_mem h hn) _ (zb_mem g hm)
  exact ⟨of_okO this.1, of_okO this.2.1, of_okO this.2.2⟩
theorem zb_plain {b : Nat} {n : Int} (h : zb b n) : floatBits .add .f64 b 0 = some (fb n) := by
  rcases h with ⟨h, rfl⟩ | ⟨rfl, rfl⟩
  · exact fb_keep h
  · decide +kernel
theorem s1_mul {a b : Int} (ha : s1 a) (hb : s1 b) : s1 (a * b) := by
  unfold s1 at *
  have h1 : a = -1 ∨ a = 0 ∨ a = 1 := by omega
  rcases h1 with rfl | rfl | rfl <;> omega
theorem run_fmul {a b r : Nat} (h : floatBits .mul .f64 a b = some r) (t : TypeId) (w : World) : (binOp .mul t (.float .f64 a) (.float .f64 b)).run Try.prog w = .ok (.float .f64 r) w := run_float_arith w .mul t .f64 a b r h
theorem run_fsub {a b r : Nat} (h : floatBits .sub .f64 a b = some r) (t : TypeId) (w : World) : (binOp .sub t (.float .f64 a) (.float .f64 b)).run Try.prog w = .ok (.float .f64 r) w := run_float_arith w .sub t .f64 a b r h
set_option maxHeartbeats 1000000 in
theorem gmul (a b c d : Int) (w : World) (ha : s1 a) (hb : s1 b) (hc : s1 c) (hd : s1 d) : Calls Try.prog 77 #[cx a b, cx c d] w fun e w' => e = .returned (.tuple #[cx (a * c - b * d) (a * d + b * c), .int .i64 0]) ∧ Below w.heap.size w w' := by
  have C := fun w => gboth a b c d w ha.sm hb.sm hc.sm hd.sm
  have za : zb (fb a) a := .inl ⟨ha.sm, rfl⟩
  have zb' : zb (fb b) b := .inl ⟨hb.sm, rfl⟩
  have zc' : zb (fb c) c := .inl ⟨hc.sm, rfl⟩
  have zd : zb (fb d) d := .inl ⟨hd.sm, rfl⟩
  obtain ⟨⟨p1, e1, z1⟩, _⟩ := zb_ops za zc' ha hc
  obtain ⟨⟨p2, e2, z2⟩, _⟩ := zb_ops zb' zd hb hd
  obtain ⟨⟨p3, e3, z3⟩, _⟩ := zb_ops za zd ha hd
  obtain ⟨⟨p4, e4, z4⟩, _⟩ := zb_ops zb' zc' hb hc
  obtain ⟨_, ⟨p5, e5, z5⟩, _⟩ := zb_ops z1 z2 (s1_mul ha hc) (s1_mul hb hd)
  obtain ⟨_, _, ⟨p6, e6, z6⟩⟩ := zb_ops z3 z4 (s1_mul ha hd) (s1_mul hb hc)
  have PL := fun w => plain_any p5 p6 _ _ w (zb_plain z5) (zb_plain z6)
  have WI := fun w0 : World => within_zb w0.heap.size 6 6 (fun j => [p1, p2, p3, p4, p5, p6].getD j 0) (fun j => [a * c, b * d, a * d, b * c, a * c - b * d, a * d + b * c].getD j 0) (w0.alloc (.cells #[.float .f64 p1, .float .f64 p2, .float .f64 p3, .float .f64 p4, .float .f64 p5, .float .f64 p6] 114)) (by omega) (fun j hj => by
    have hB := Bx.new w0 [.float .f64 p1, .float .f64 p2, .float .f64 p3, .float .f64 p4, .float .f64 p5, .float .f64 p6] 114
    have : j = 0 ∨ j = 1 ∨ j = 2 ∨ j = 3 ∨ j = 4 ∨ j = 5 := by omega
    rcases this with rfl | rfl | rfl | rfl | rfl | rfl
    · exact ⟨hB.c 0 _ rfl, z1⟩
    · exact ⟨hB.c 1 _ rfl, z2⟩
    · exact ⟨hB.c 2 _ rfl, z3⟩
    · exact ⟨hB.c 3 _ rfl, z4⟩
    · exact ⟨hB.c 4 _ rfl, z5⟩
    · exact ⟨hB.c 5 _ rfl, z6⟩)
  generalize a * c - b * d = p at *
  generalize a * d + b * c = q at *
  have f1 := run_fmul e1
  have f2 := run_fmul e2
  have f3 := run_fmul e3
  have f4 := run_fmul e4
  have f5 := run_fsub e5
  have f6 := run_fadd e6
  clear za zb' zc' zd z1 z2 z3 z4 z5 z6 e1 e2 e3 e4 e5 e6 ha hb hc hd
  go_enter Try.func77, Try.ntmps77
  go_wp2_with (first
    | (go_at_call 88; (with_reducible refine (C _).mono ?_); rintro e w1 ⟨rfl, hN1⟩)
    | (go_at_call 89; (with_reducible refine (WI _).mono ?_); rintro e w2 ⟨rfl, rfl⟩)
    | (go_at_call 83; (with_reducible refine (PL _).mono ?_); rintro e w3 ⟨rfl, rfl⟩))
  go_ret2
  exact ⟨rfl, bal hN1 _⟩
set_option maxHeartbeats 400000 in
theorem gconj (a b : Int) (w : World) (ha : sm a) (hb : sm b) : Calls Try.prog 69 #[cx a b] w fun e w' => e = .returned (.tuple #[cx a (-b), .int .i64 0]) ∧ Below w.heap.size w w' := by
  have C := fun w => gcheck a b w ha hb
  have hn := run_fneg
  have P := fun w => plain_any _ _ _ _ w (fb_keep ha) (fb_neg hb)
  go_enter Try.func69, Try.ntmps69
  go_wp2_with (first
    | (go_at_call 80; (with_reducible refine (C _).mono ?_); rintro e w1 ⟨rfl, hN1⟩)
    | (go_at_call 83; (with_reducible refine (P _).mono ?_); rintro e w2 ⟨rfl, rfl⟩))
  go_ret2
  exact ⟨rfl, hN1⟩
end Go.Proofs.Ytjmgcgjmaemgdaa
