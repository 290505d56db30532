/-
  What the small functions of package pauli answer.
-/
import Derived.Test.YtoddbaljnlhhaaaRows
import Derived.Test.YtoddbaljnlhhaaaPShelf
import Derived.Test.YtoddbaljnlhhaaaPM3
import Derived.WalkKit
import Derived.BigQuiet
import Derived.Deep.QuietTactic
import Derived.Deep.RegionHeld3
import Derived.Lib.QuietBelow
namespace Go.Proofs.Ytoddbaljnlhhaaa.PL
open Go.RowKit Go.Sort

theorem ret_int {k : IntKind} {a b : Int} (h : a = b) : Ending.returned (.int k a) = .returned (.int k b) := by rw [h]
theorem bcell {W w1 : World} (hb : Below W.heap.size W w1) : (∀ b o, b < W.heap.size → w1.cell? ⟨b, o, none⟩ = W.cell? ⟨b, o, none⟩) ∧ (∀ b o, b < W.heap.size → w1.frozen? ⟨b, o, none⟩ = W.frozen? ⟨b, o, none⟩) :=
  ⟨fun b o h => hb.cell (p := ⟨b, o, none⟩) h, fun b o h => hb.frozen (p := ⟨b, o, none⟩) h⟩
theorem below_drewN {B : Nat} {a w : World} (h : Below B a w) (n : Nat) : Below B a (w.drewN n) := ⟨h.os, h.tape, h.output, h.size, h.block⟩
theorem below_drew {B : Nat} {a w : World} (h : Below B a w) : Below B a w.drew := ⟨h.os, h.tape, h.output, h.size, h.block⟩
theorem bal {a w : World} (h : Below a.heap.size a w) (o : Obj) : Below a.heap.size a (w.alloc o) := h.alloc h.size o
theorem btr {a w w1 : World} (h : Below a.heap.size a w) (g : Below w.heap.size w w1) : Below a.heap.size a w1 := h.trans (g.mono h.size)

/-! ### How many ones -/
theorem s1_cast (x : Nat) (hx : x < 18446744073709551616) : IntKind.u64.wrap (bits .and .u64 ((x : Int) / 2) 6148914691236517205 + bits .and .u64 (x : Int) 6148914691236517205) = (sw1 x : Int) ∧ sw1 x < 18446744073709551616 := by
  have e1 : ((x : Int) / 2) = ((x / 2 : Nat) : Int) := by simp
  have h1 : x / 2 &&& 6148914691236517205 ≤ 6148914691236517205 := Nat.and_le_right
  have h2 : x &&& 6148914691236517205 ≤ 6148914691236517205 := Nat.and_le_right
  rw [e1, show (6148914691236517205 : Int) = ((6148914691236517205 : Nat) : Int) from rfl, u64_and_nat _ _ (by omega) (by omega), u64_and_nat _ _ (by omega) (by omega), IntKind.wrap_u64]
  unfold sw1
  omega
theorem s2_cast (x : Nat) (hx : x < 18446744073709551616) : IntKind.u64.wrap (bits .and .u64 ((x : Int) / 4) 3689348814741910323 + bits .and .u64 (x : Int) 3689348814741910323) = (sw2 x : Int) ∧ sw2 x < 18446744073709551616 := by
  have e1 : ((x : Int) / 4) = ((x / 4 : Nat) : Int) := by simp
  have h1 : x / 4 &&& 3689348814741910323 ≤ 3689348814741910323 := Nat.and_le_right
  have h2 : x &&& 3689348814741910323 ≤ 3689348814741910323 := Nat.and_le_right
  rw [e1, show (3689348814741910323 : Int) = ((3689348814741910323 : Nat) : Int) from rfl, u64_and_nat _ _ (by omega) (by omega), u64_and_nat _ _ (by omega) (by omega), IntKind.wrap_u64]
  unfold sw2
  omega
theorem s3_cast (x : Nat) (hx : x ≤ 7378697629483820646) : bits .and .u64 (IntKind.u64.wrap ((x : Int) / 16 + (x : Int))) 1085102592571150095 = (sw3 x : Int) := by
  have e1 : IntKind.u64.wrap ((x : Int) / 16 + (x : Int)) = ((x / 16 + x : Nat) : Int) := by rw [IntKind.wrap_u64]; omega
  rw [e1, show (1085102592571150095 : Int) = ((1085102592571150095 : Nat) : Int) from rfl, u64_and_nat _ _ (by omega) (by omega)]
  rfl
theorem sw2_le (x : Nat) : sw2 x ≤ 7378697629483820646 := by
  have h1 : x / 4 &&& 3689348814741910323 ≤ 3689348814741910323 := Nat.and_le_right
  have h2 : x &&& 3689348814741910323 ≤ 3689348814741910323 := Nat.and_le_right
  unfold sw2; omega
theorem and127 (n : Nat) (h : n < 9223372036854775808) : bits .and .i64 (n : Int) 127 = ((n % 128 : Nat) : Int) := by
  have h1 : (BitVec.ofInt 64 (n : Int)).toNat = n := ofInt_u64 n (by omega)
  have h2 : (BitVec.ofInt 64 (127 : Int)).toNat = 127 := by decide
  have h3 : n &&& 127 = n % 128 := Nat.and_two_pow_sub_one_eq_mod n 7
  show IntKind.i64.wrap ((BitVec.ofInt 64 (n : Int) &&& BitVec.ofInt 64 127).toNat : Int) = _
  rw [BitVec.toNat_and, h1, h2, h3]
  simp [IntKind.wrap, IntKind.signed, IntKind.bits]
  omega

theorem ones_any (x : Nat) (w : World) (hx : x < 18446744073709551616) :
    Calls Try.prog 83 #[.int .u64 x] w fun e w' => e = .returned (.int .i64 (pop 64 x)) ∧ w' = w := by
  go_enter Try.func83, Try.ntmps83
  go_wp2
  go_ret
  refine ⟨ret_int ?_, rfl⟩
  obtain ⟨c1, c2, c3⟩ := count_is x hx
  obtain ⟨e1, l1⟩ := s1_cast x hx
  obtain ⟨e2, l2⟩ := s2_cast (sw1 x) l1
  have e3 := s3_cast (sw2 (sw1 x)) (sw2_le _)
  rw [e1, e2, e3]
  have e4 : IntKind.u64.wrap ((sw3 (sw2 (sw1 x)) : Int) + (sw3 (sw2 (sw1 x)) : Int) / 256) = ((sw x + sw x / 256 : Nat) : Int) := by
    rw [IntKind.wrap_u64]; unfold sw at *; omega
  rw [e4]
  have e5 : IntKind.u64.wrap (((sw x + sw x / 256 : Nat) : Int) + ((sw x + sw x / 256 : Nat) : Int) / 65536) = ((sw x + sw x / 256 + (sw x + sw x / 256) / 65536 : Nat) : Int) := by
    rw [IntKind.wrap_u64]; omega
  rw [e5]
  have e6 : IntKind.u64.wrap (((sw x + sw x / 256 + (sw x + sw x / 256) / 65536 : Nat) : Int) + ((sw x + sw x / 256 + (sw x + sw x / 256) / 65536 : Nat) : Int) / 4294967296) = (sum8 (sw x) : Int) := by
    rw [IntKind.wrap_u64]; unfold sum8 at *; omega
  rw [e6, wrap64_small (by omega) (by omega), and127 _ c2, c1]

theorem count_any (x : Nat) (w : World) (hx : x < 18446744073709551616) :
    Calls Try.prog 59 #[.int .u64 x] w fun e w' => e = .returned (.int .i64 (pop 64 x)) ∧ w' = w := by
  go_enter Try.func59, Try.ntmps59
  go_wp2_with (go_at_call 83; refine (ones_any _ _ hx).mono ?_; rintro e w' ⟨rfl, rfl⟩)
  go_ret
  exact ⟨rfl, rfl⟩

theorem and1 (n : Nat) (h : n < 9223372036854775808) : bits .and .i64 (n : Int) 1 = ((n % 2 : Nat) : Int) := by
  have h1 : (BitVec.ofInt 64 (n : Int)).toNat = n := ofInt_u64 n (by omega)
  have h2 : (BitVec.ofInt 64 (1 : Int)).toNat = 1 := by decide
  have h3 : n &&& 1 = n % 2 := Nat.and_one_is_mod n
  show IntKind.i64.wrap ((BitVec.ofInt 64 (n : Int) &&& BitVec.ofInt 64 1).toNat : Int) = _
  rw [BitVec.toNat_and, h1, h2, h3]
  simp [IntKind.wrap, IntKind.signed, IntKind.bits]
  omega

theorem parity_any (x : Nat) (w : World) (hx : x < 18446744073709551616) :
    Calls Try.prog 92 #[.int .u64 x] w fun e w' => e = .returned (.int .i64 ((pop 64 x % 2 : Nat) : Int)) ∧ w' = w := by
  have hp := pop_le 64 x
  go_enter Try.func92, Try.ntmps92
  go_wp2_with (go_at_call 59; refine (count_any _ _ hx).mono ?_; rintro e w' ⟨rfl, rfl⟩)
  go_ret
  exact ⟨ret_int (and1 _ (by omega)), rfl⟩

/-! ### Pauli strings as values -/
abbrev pv (n : Int) (x z : Nat) (f : Int) : Value := .agg #[.int .i64 n, .int .u64 (x : Int), .int .u64 (z : Int), .int .i64 f]

theorem ys_any (n : Int) (x z : Nat) (f : Int) (w : World) (hx : x < 18446744073709551616) (hz : z < 18446744073709551616) :
    Calls Try.prog 58 #[pv n x z f] w fun e w' => e = .returned (.int .i64 (pop 64 (x &&& z))) ∧ Below w.heap.size w w' := by
  have h := i_and x z hx hz
  go_enter Try.func58, Try.ntmps58
  go_wp2_with (first | (rw [h]) | (go_at_call 59; refine (count_any (x &&& z) _ (and_lt hx)).mono ?_; rintro e w' ⟨rfl, rfl⟩))
  go_ret
  exact ⟨rfl, bal (Below.refl _ _) _⟩

theorem rows_yes (n : Int) (w : World) (h0 : 0 ≤ n) (h1 : n ≤ 64) : Calls Try.prog 63 #[.int .i64 n] w fun e w' => e = .returned (.bool true) ∧ w' = w := by
  go_enter Try.func63, Try.ntmps63
  go_wp2
  go_ret
  exact ⟨rfl, rfl⟩
theorem rows_no (n : Int) (w : World) (h : n < 0 ∨ 64 < n) : Calls Try.prog 63 #[.int .i64 n] w fun e w' => e = .returned (.bool false) ∧ w' = w := by
  rcases h with h | h
  · go_enter Try.func63, Try.ntmps63
    go_wp2
    go_ret
    exact ⟨rfl, rfl⟩
  · have : ¬ n < 0 := by omega
    have : ¬ n ≤ 64 := by omega
    go_enter Try.func63, Try.ntmps63
    go_wp2
    go_ret
    exact ⟨rfl, rfl⟩

/-- Is it a Pauli string? -/
structure Good (n : Int) (x z : Nat) (f : Int) : Prop where
  n0 : 0 ≤ n
  n1 : n ≤ 64
  x1 : x < 2 ^ n.toNat
  z1 : z < 2 ^ n.toNat
  f0 : 0 ≤ f
  f1 : f ≤ 3

theorem div_in {y n : Nat} (h : y < 2 ^ n) : ((y : Nat) : Int) / 2 ^ n = 0 := by
  have : y / 2 ^ n = 0 := Nat.div_eq_of_lt h
  have e : ((y / 2 ^ n : Nat) : Int) = 0 := by rw [this]; rfl
  rwa [Int.natCast_ediv, Int.natCast_pow] at e
theorem div_out {y n : Nat} (h : ¬ y < 2 ^ n) : ¬ ((y : Nat) : Int) / 2 ^ n = 0 := by
  intro e
  have e2 : ((y / 2 ^ n : Nat) : Int) = 0 := by rw [Int.natCast_ediv, Int.natCast_pow]; exact e
  have e3 : y / 2 ^ n = 0 := by omega
  exact h ((Nat.div_eq_zero_iff_lt (Nat.two_pow_pos n)).1 e3)
theorem or_in {x z n : Nat} (h : x ||| z < 2 ^ n) : x < 2 ^ n ∧ z < 2 ^ n := ⟨Nat.lt_of_le_of_lt Nat.left_le_or h, Nat.lt_of_le_of_lt Nat.right_le_or h⟩
theorem check_yes (n x z f : Nat) (w : World) (hn : n ≤ 64) (hx : x < 2 ^ n) (hz : z < 2 ^ n) (hf : f < 4) :
    Calls Try.prog 43 #[pv n x z f] w fun e w' => e = .returned (.int .i64 0) ∧ Below w.heap.size w w' := by
  have h := i_or x z (lt64 hx hn) (lt64 hz hn)
  have hd := div_in (or_ltn hx hz)
  go_enter Try.func43, Try.ntmps43
  go_wp2_with (go_at_call 63; refine (rows_yes _ _ (by omega) (by omega)).mono ?_; rintro e w' ⟨rfl, rfl⟩)
  go_ret
  exact ⟨rfl, bal (Below.refl _ _) _⟩
theorem check_out (n : Int) (x z : Nat) (f : Int) (w : World) (hn : n < 0 ∨ 64 < n) :
    Calls Try.prog 43 #[pv n x z f] w fun e w' => e = .returned (.int .i64 70) ∧ Below w.heap.size w w' := by
  go_enter Try.func43, Try.ntmps43
  go_wp2_with (go_at_call 63; refine (rows_no _ _ hn).mono ?_; rintro e w' ⟨rfl, rfl⟩)
  go_ret
  exact ⟨rfl, bal (Below.refl _ _) _⟩
theorem check_bits (n x z : Nat) (f : Int) (w : World) (hn : n ≤ 64) (hx : x < 18446744073709551616) (hz : z < 18446744073709551616) (hb : ¬ x ||| z < 2 ^ n) :
    Calls Try.prog 43 #[pv n x z f] w fun e w' => e = .returned (.int .i64 70) ∧ Below w.heap.size w w' := by
  have h := i_or x z hx hz
  have hd := div_out hb
  go_enter Try.func43, Try.ntmps43
  go_wp2_with (go_at_call 63; refine (rows_yes _ _ (by omega) (by omega)).mono ?_; rintro e w' ⟨rfl, rfl⟩)
  go_ret
  exact ⟨rfl, bal (Below.refl _ _) _⟩
theorem check_phase (n x z : Nat) (f : Int) (w : World) (hn : n ≤ 64) (hx : x < 18446744073709551616) (hz : z < 18446744073709551616) (hb : x ||| z < 2 ^ n) (hf : f < 0 ∨ 3 < f) :
    Calls Try.prog 43 #[pv n x z f] w fun e w' => e = .returned (.int .i64 70) ∧ Below w.heap.size w w' := by
  have h := i_or x z hx hz
  have hd := div_in hb
  rcases hf with hf | hf
  · go_enter Try.func43, Try.ntmps43
    go_wp2_with (go_at_call 63; refine (rows_yes _ _ (by omega) (by omega)).mono ?_; rintro e w' ⟨rfl, rfl⟩)
    go_ret
    exact ⟨rfl, bal (Below.refl _ _) _⟩
  · have : ¬ f < 0 := by omega
    go_enter Try.func43, Try.ntmps43
    go_wp2_with (go_at_call 63; refine (rows_yes _ _ (by omega) (by omega)).mono ?_; rintro e w' ⟨rfl, rfl⟩)
    go_ret
    exact ⟨rfl, bal (Below.refl _ _) _⟩

/-- The ways of not being one. -/
theorem Good.not {n : Int} {x z : Nat} {f : Int} (h : ¬ Good n x z f) :
    (n < 0 ∨ 64 < n) ∨ ∃ m : Nat, n = m ∧ m ≤ 64 ∧ (¬ x ||| z < 2 ^ m ∨ x ||| z < 2 ^ m ∧ (f < 0 ∨ 3 < f)) := by
  by_cases h0 : n < 0 ∨ 64 < n
  · exact .inl h0
  · refine .inr ⟨n.toNat, by omega, by omega, ?_⟩
    by_cases h1 : x ||| z < 2 ^ n.toNat
    · refine .inr ⟨h1, ?_⟩
      by_cases h2 : f < 0 ∨ 3 < f
      · exact h2
      · exact absurd ⟨by omega, by omega, (or_in h1).1, (or_in h1).2, by omega, by omega⟩ h
    · exact .inl h1
theorem check_no (n : Int) (x z : Nat) (f : Int) (w : World) (hx : x < 18446744073709551616) (hz : z < 18446744073709551616) (h : ¬ Good n x z f) :
    Calls Try.prog 43 #[pv n x z f] w fun e w' => e = .returned (.int .i64 70) ∧ Below w.heap.size w w' := by
  rcases Good.not h with h | ⟨m, rfl, hm, h | ⟨h, h'⟩⟩
  · exact check_out n x z f w h
  · exact check_bits m x z f w hm hx hz h
  · exact check_phase m x z f w hm hx hz h h'
/-- A Pauli string that is one. -/
structure PS where
  n : Nat
  x : Nat
  z : Nat
  f : Nat
structure PS.ok (p : PS) : Prop where
  n1 : p.n ≤ 64
  x1 : p.x < 2 ^ p.n
  z1 : p.z < 2 ^ p.n
  f1 : p.f < 4
abbrev PS.v (p : PS) : Value := pv p.n p.x p.z p.f
theorem Good.ps {n : Int} {x z : Nat} {f : Int} (h : Good n x z f) : ∃ p : PS, p.ok ∧ pv n x z f = p.v ∧ n = p.n ∧ x = p.x ∧ z = p.z ∧ f = p.f := by
  obtain ⟨N, rfl⟩ := Int.eq_ofNat_of_zero_le h.n0
  obtain ⟨F, rfl⟩ := Int.eq_ofNat_of_zero_le h.f0
  have := h.n1; have := h.f1; have := h.x1; have := h.z1
  exact ⟨⟨N, x, z, F⟩, ⟨by simp at *; omega, by simpa using h.x1, by simpa using h.z1, by simp at *; omega⟩, rfl, rfl, rfl, rfl, rfl⟩
theorem PS.ok.xl {p : PS} (h : p.ok) : p.x < 18446744073709551616 := lt64 h.x1 h.n1
theorem PS.ok.zl {p : PS} (h : p.ok) : p.z < 18446744073709551616 := lt64 h.z1 h.n1
theorem PS.ok.check {p : PS} (h : p.ok) (w : World) : Calls Try.prog 43 #[p.v] w fun e w' => e = .returned (.int .i64 0) ∧ Below w.heap.size w w' :=
  check_yes p.n p.x p.z p.f w h.n1 h.x1 h.z1 h.f1

/-- Block B holds that string. -/
structure PB (W : World) (B : Nat) (n : Int) (x z : Nat) (f : Int) : Prop where
  c0 : W.cell? ⟨B, 0, none⟩ = some (.int .i64 n)
  c1 : W.cell? ⟨B, 1, none⟩ = some (.int .u64 (x : Int))
  c2 : W.cell? ⟨B, 2, none⟩ = some (.int .u64 (z : Int))
  c3 : W.cell? ⟨B, 3, none⟩ = some (.int .i64 f)
  f0 : W.frozen? ⟨B, 0, none⟩ = false
  f1 : W.frozen? ⟨B, 1, none⟩ = false
  f2 : W.frozen? ⟨B, 2, none⟩ = false
  f3 : W.frozen? ⟨B, 3, none⟩ = false
abbrev pc (n : Int) (x z : Nat) (f : Int) : Obj := .cells #[.int .i64 n, .int .u64 (x : Int), .int .u64 (z : Int), .int .i64 f] 27
section
variable {W W' : World} {B : Nat} {n : Int} {x z : Nat} {f : Int}
theorem PB.lt (h : PB W B n x z f) : B < W.heap.size := block_lt_of_cell h.c0
theorem PB.below (h : PB W B n x z f) (hb : Below W.heap.size W W') : PB W' B n x z f := by
  obtain ⟨hc, hf⟩ := bcell hb
  have hl := h.lt
  exact ⟨(hc _ _ hl).trans h.c0, (hc _ _ hl).trans h.c1, (hc _ _ hl).trans h.c2, (hc _ _ hl).trans h.c3, (hf _ _ hl).trans h.f0, (hf _ _ hl).trans h.f1, (hf _ _ hl).trans h.f2, (hf _ _ hl).trans h.f3⟩
theorem PB.alloc (h : PB W B n x z f) (o : Obj) : PB (W.alloc o) B n x z f := h.below (bal (Below.refl _ _) _)
theorem PB.drewN (h : PB W B n x z f) (k : Nat) : PB (W.drewN k) B n x z f := ⟨h.c0, h.c1, h.c2, h.c3, h.f0, h.f1, h.f2, h.f3⟩
theorem PB.drew (h : PB W B n x z f) : PB W.drew B n x z f := ⟨h.c0, h.c1, h.c2, h.c3, h.f0, h.f1, h.f2, h.f3⟩
end
theorem PB.new (W : World) (n : Int) (x z : Nat) (f : Int) : PB (W.alloc (pc n x z f)) W.heap.size n x z f where
  c0 := by rw [World.cell?_alloc_at _ _ _ _ rfl]; rfl
  c1 := by rw [World.cell?_alloc_at _ _ _ _ rfl]; rfl
  c2 := by rw [World.cell?_alloc_at _ _ _ _ rfl]; rfl
  c3 := by rw [World.cell?_alloc_at _ _ _ _ rfl]; rfl
  f0 := World.frozen?_alloc_at _ _ _ _ rfl
  f1 := World.frozen?_alloc_at _ _ _ _ rfl
  f2 := World.frozen?_alloc_at _ _ _ _ rfl
  f3 := World.frozen?_alloc_at _ _ _ _ rfl
theorem alz (w : World) (o : Obj) : (w.alloc o).heap.size = w.heap.size + 1 := by simp
/-- The function's first blocks. -/
theorem two_boxes (w : World) (n : Int) (x z : Nat) (f : Int) (n' : Int) (x' z' : Nat) (f' : Int) :
    let W0 := (w.alloc (pc n x z f)).alloc (pc n' x' z' f')
    Below w.heap.size w W0 ∧ PB W0 w.heap.size n x z f ∧ PB W0 (w.heap.size + 1) n' x' z' f' := by
  intro W0
  refine ⟨bal (bal (Below.refl _ _) _) _, (PB.new w n x z f).alloc _, ?_⟩
  have := PB.new (w.alloc (pc n x z f)) n' x' z' f'
  rwa [alz] at this
theorem three_boxes (w : World) (n : Int) (x z : Nat) (f : Int) (n' : Int) (x' z' : Nat) (f' : Int) (n2 : Int) (x2 z2 : Nat) (f2 : Int) :
    let W0 := ((w.alloc (pc n x z f)).alloc (pc n' x' z' f')).alloc (pc n2 x2 z2 f2)
    Below w.heap.size w W0 ∧ PB W0 w.heap.size n x z f ∧ PB W0 (w.heap.size + 1) n' x' z' f' ∧ PB W0 (w.heap.size + 1 + 1) n2 x2 z2 f2 := by
  intro W0
  obtain ⟨h1, h2, h3⟩ := two_boxes w n x z f n' x' z' f'
  refine ⟨bal h1 _, h2.alloc _, h3.alloc _, ?_⟩
  have := PB.new ((w.alloc (pc n x z f)).alloc (pc n' x' z' f')) n2 x2 z2 f2
  rwa [alz, alz] at this

end Go.Proofs.Ytoddbaljnlhhaaa.PL
