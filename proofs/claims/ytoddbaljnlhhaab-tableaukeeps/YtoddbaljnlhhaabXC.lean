/-
  Put together of: PP1 PP2 PP3.
-/
import Derived.Test.YtoddbaljnlhhaabRows
import Derived.Test.YtoddbaljnlhhaabXA
import Derived.Test.YtoddbaljnlhhaabXB
import Derived.WalkKit
import Derived.BigQuiet
import Derived.Deep.QuietTactic
import Derived.Deep.RegionHeld3
import Derived.Lib.QuietBelow
import Derived.Deep.CutRange
namespace Go.Proofs.Ytoddbaljnlhhaab.PL
open Go.RowKit Go.Sort

theorem ret_int {k : IntKind} {a b : Int} (h : a = b) : Ending.returned (.int k a) = .returned (.int k b) := by rw [h]
theorem bcell {W w1 : World} (hb : Below W.heap.size W w1) : (∀ b o, b < W.heap.size → w1.cell? ⟨b, o, none⟩ = W.cell? ⟨b, o, none⟩) ∧ (∀ b o, b < W.heap.size → w1.frozen? ⟨b, o, none⟩ = W.frozen? ⟨b, o, none⟩) :=
  ⟨fun b o h => hb.cell (p := ⟨b, o, none⟩) h, fun b o h => hb.frozen (p := ⟨b, o, none⟩) h⟩
theorem below_drewN {B : Nat} {a w : World} (h : Below B a w) (n : Nat) : Below B a (w.drewN n) := ⟨h.os, h.tape, h.output, h.size, h.block⟩
theorem below_drew {B : Nat} {a w : World} (h : Below B a w) : Below B a w.drew := ⟨h.os, h.tape, h.output, h.size, h.block⟩
theorem bal {a w : World} (h : Below a.heap.size a w) (o : Obj) : Below a.heap.size a (w.alloc o) := h.alloc h.size o
theorem btr {a w w1 : World} (h : Below a.heap.size a w) (g : Below w.heap.size w w1) : Below a.heap.size a w1 := h.trans (g.mono h.size)

/-! ### How many ones -/
theorem s1_cast (x : Nat) (hx : x < 18446744073709551616) : IntKind.u64.wrap (bits .and .u64 ((x : Int) / 2) 6148914691236517205 + bits .and .u64 (x : Int) 6148914691236517205) = (sw1 x : Int) ∧ sw1 x < 18446744073709551616 := by
  have e1 : ((x : Int) / 2) = ((x / 2 : Nat) : Int) := by simp
  have h1 : x / 2 &&& 6148914691236517205 ≤ 6148914691236517205 := Nat.and_le_right
  have h2 : x &&& 6148914691236517205 ≤ 6148914691236517205 := Nat.and_le_right
  rw [e1, show (6148914691236517205 : Int) = ((6148914691236517205 : Nat) : Int) from rfl, u64_and_nat _ _ (by omega) (by omega), u64_and_nat _ _ (by omega) (by omega), IntKind.wrap_u64]
  unfold sw1
  omega
theorem s2_cast (x : Nat) (hx : x < 18446744073709551616) : IntKind.u64.wrap (bits .and .u64 ((x : Int) / 4) 3689348814741910323 + bits .and .u64 (x : Int) 3689348814741910323) = (sw2 x : Int) ∧ sw2 x < 18446744073709551616 := by
  have e1 : ((x : Int) / 4) = ((x / 4 : Nat) : Int) := by simp
  have h1 : x / 4 &&& 3689348814741910323 ≤ 3689348814741910323 := Nat.and_le_right
  have h2 : x &&& 3689348814741910323 ≤ 3689348814741910323 := Nat.and_le_right
  rw [e1, show (3689348814741910323 : Int) = ((3689348814741910323 : Nat) : Int) from rfl, u64_and_nat _ _ (by omega) (by omega), u64_and_nat _ _ (by omega) (by omega), IntKind.wrap_u64]
  unfold sw2
  omega
theorem s3_cast (x : Nat) (hx : x ≤ 7378697629483820646) : bits .and .u64 (IntKind.u64.wrap ((x : Int) / 16 + (x : Int))) 1085102592571150095 = (sw3 x : Int) := by
  have e1 : IntKind.u64.wrap ((x : Int) / 16 + (x : Int)) = ((x / 16 + x : Nat) : Int) := by rw [IntKind.wrap_u64]; omega
  rw [e1, show (1085102592571150095 : Int) = ((1085102592571150095 : Nat) : Int) from rfl, u64_and_nat _ _ (by omega) (by omega)]
  rfl
theorem sw2_le (x : Nat) : sw2 x ≤ 7378697629483820646 := by
  have h1 : x / 4 &&& 3689348814741910323 ≤ 3689348814741910323 := Nat.and_le_right
  have h2 : x &&& 3689348814741910323 ≤ 3689348814741910323 := Nat.and_le_right
  unfold sw2; omega
theorem and127 (n : Nat) (h : n < 9223372036854775808) : bits .and .i64 (n : Int) 127 = ((n % 128 : Nat) : Int) := by
  have h1 : (BitVec.ofInt 64 (n : Int)).toNat = n := ofInt_u64 n (by omega)
  have h2 : (BitVec.ofInt 64 (127 : Int)).toNat = 127 := by decide
  have h3 : n &&& 127 = n % 128 := Nat.and_two_pow_sub_one_eq_mod n 7
  show IntKind.i64.wrap ((BitVec.ofInt 64 (n : Int) &&& BitVec.ofInt 64 127).toNat : Int) = _
  rw [BitVec.toNat_and, h1, h2, h3]
  simp [IntKind.wrap, IntKind.signed, IntKind.bits]
  omega

theorem ones_any (x : Nat) (w : World) (hx : x < 18446744073709551616) :
    Calls Try.prog 79 #[.int .u64 x] w fun e w' => e = .returned (.int .i64 (pop 64 x)) ∧ w' = w := by
  go_enter Try.func79, Try.ntmps79
  go_wp2
  go_ret
  refine ⟨ret_int ?_, rfl⟩
  obtain ⟨c1, c2, c3⟩ := count_is x hx
  obtain ⟨e1, l1⟩ := s1_cast x hx
  obtain ⟨e2, l2⟩ := s2_cast (sw1 x) l1
  have e3 := s3_cast (sw2 (sw1 x)) (sw2_le _)
  rw [e1, e2, e3]
  have e4 : IntKind.u64.wrap ((sw3 (sw2 (sw1 x)) : Int) + (sw3 (sw2 (sw1 x)) : Int) / 256) = ((sw x + sw x / 256 : Nat) : Int) := by
    rw [IntKind.wrap_u64]; unfold sw at *; omega
  rw [e4]
  have e5 : IntKind.u64.wrap (((sw x + sw x / 256 : Nat) : Int) + ((sw x + sw x / 256 : Nat) : Int) / 65536) = ((sw x + sw x / 256 + (sw x + sw x / 256) / 65536 : Nat) : Int) := by
    rw [IntKind.wrap_u64]; omega
  rw [e5]
  have e6 : IntKind.u64.wrap (((sw x + sw x / 256 + (sw x + sw x / 256) / 65536 : Nat) : Int) + ((sw x + sw x / 256 + (sw x + sw x / 256) / 65536 : Nat) : Int) / 4294967296) = (sum8 (sw x) : Int) := by
    rw [IntKind.wrap_u64]; unfold sum8 at *; omega
  rw [e6, wrap64_small (by omega) (by omega), and127 _ c2, c1]

theorem count_any (x : Nat) (w : World) (hx : x < 18446744073709551616) :
    Calls Try.prog 59 #[.int .u64 x] w fun e w' => e = .returned (.int .i64 (pop 64 x)) ∧ w' = w := by
  go_enter Try.func59, Try.ntmps59
  go_wp2_with (go_at_call 79; refine (ones_any _ _ hx).mono ?_; rintro e w' ⟨rfl, rfl⟩)
  go_ret
  exact ⟨rfl, rfl⟩

theorem and1 (n : Nat) (h : n < 9223372036854775808) : bits .and .i64 (n : Int) 1 = ((n % 2 : Nat) : Int) := by
  have h1 : (BitVec.ofInt 64 (n : Int)).toNat = n := ofInt_u64 n (by omega)
  have h2 : (BitVec.ofInt 64 (1 : Int)).toNat = 1 := by decide
  have h3 : n &&& 1 = n % 2 := Nat.and_one_is_mod n
  show IntKind.i64.wrap ((BitVec.ofInt 64 (n : Int) &&& BitVec.ofInt 64 1).toNat : Int) = _
  rw [BitVec.toNat_and, h1, h2, h3]
  simp [IntKind.wrap, IntKind.signed, IntKind.bits]
  omega

theorem parity_any (x : Nat) (w : World) (hx : x < 18446744073709551616) :
    Calls Try.prog 73 #[.int .u64 x] w fun e w' => e = .returned (.int .i64 ((pop 64 x % 2 : Nat) : Int)) ∧ w' = w := by
  have hp := pop_le 64 x
  go_enter Try.func73, Try.ntmps73
  go_wp2_with (go_at_call 59; refine (count_any _ _ hx).mono ?_; rintro e w' ⟨rfl, rfl⟩)
  go_ret
  exact ⟨ret_int (and1 _ (by omega)), rfl⟩

/-! ### Pauli strings as values -/
abbrev pv (n : Int) (x z : Nat) (f : Int) : Value := .agg #[.int .i64 n, .int .u64 (x : Int), .int .u64 (z : Int), .int .i64 f]

theorem ys_any (n : Int) (x z : Nat) (f : Int) (w : World) (hx : x < 18446744073709551616) (hz : z < 18446744073709551616) :
    Calls Try.prog 70 #[pv n x z f] w fun e w' => e = .returned (.int .i64 (pop 64 (x &&& z))) ∧ Below w.heap.size w w' := by
  have h := i_and x z hx hz
  go_enter Try.func70, Try.ntmps70
  go_wp2_with (first | (rw [h]) | (go_at_call 59; refine (count_any (x &&& z) _ (and_lt hx)).mono ?_; rintro e w' ⟨rfl, rfl⟩))
  go_ret
  exact ⟨rfl, bal (Below.refl _ _) _⟩

theorem rows_yes (n : Int) (w : World) (h0 : 0 ≤ n) (h1 : n ≤ 64) : Calls Try.prog 45 #[.int .i64 n] w fun e w' => e = .returned (.bool true) ∧ w' = w := by
  go_enter Try.func45, Try.ntmps45
  go_wp2
  go_ret
  exact ⟨rfl, rfl⟩
theorem rows_no (n : Int) (w : World) (h : n < 0 ∨ 64 < n) : Calls Try.prog 45 #[.int .i64 n] w fun e w' => e = .returned (.bool false) ∧ w' = w := by
  rcases h with h | h
  · go_enter Try.func45, Try.ntmps45
    go_wp2
    go_ret
    exact ⟨rfl, rfl⟩
  · have : ¬ n < 0 := by omega
    have : ¬ n ≤ 64 := by omega
    go_enter Try.func45, Try.ntmps45
    go_wp2
    go_ret
    exact ⟨rfl, rfl⟩

/-- Is it a Pauli string? -/
structure Good (n : Int) (x z : Nat) (f : Int) : Prop where
  n0 : 0 ≤ n
  n1 : n ≤ 64
  x1 : x < 2 ^ n.toNat
  z1 : z < 2 ^ n.toNat
  f0 : 0 ≤ f
  f1 : f ≤ 3

theorem div_in {y n : Nat} (h : y < 2 ^ n) : ((y : Nat) : Int) / 2 ^ n = 0 := by
  have : y / 2 ^ n = 0 := Nat.div_eq_of_lt h
  have e : ((y / 2 ^ n : Nat) : Int) = 0 := by rw [this]; rfl
  rwa [Int.natCast_ediv, Int.natCast_pow] at e
theorem div_out {y n : Nat} (h : ¬ y < 2 ^ n) : ¬ ((y : Nat) : Int) / 2 ^ n = 0 := by
  intro e
  have e2 : ((y / 2 ^ n : Nat) : Int) = 0 := by rw [Int.natCast_ediv, Int.natCast_pow]; exact e
  have e3 : y / 2 ^ n = 0 := by omega
  exact h ((Nat.div_eq_zero_iff_lt (Nat.two_pow_pos n)).1 e3)
theorem or_in {x z n : Nat} (h : x ||| z < 2 ^ n) : x < 2 ^ n ∧ z < 2 ^ n := ⟨Nat.lt_of_le_of_lt Nat.left_le_or h, Nat.lt_of_le_of_lt Nat.right_le_or h⟩
theorem check_yes (n x z f : Nat) (w : World) (hn : n ≤ 64) (hx : x < 2 ^ n) (hz : z < 2 ^ n) (hf : f < 4) :
    Calls Try.prog 25 #[pv n x z f] w fun e w' => e = .returned (.int .i64 0) ∧ Below w.heap.size w w' := by
  have h := i_or x z (lt64 hx hn) (lt64 hz hn)
  have hd := div_in (or_ltn hx hz)
  go_enter Try.func25, Try.ntmps25
  go_wp2_with (go_at_call 45; refine (rows_yes _ _ (by omega) (by omega)).mono ?_; rintro e w' ⟨rfl, rfl⟩)
  go_ret
  exact ⟨rfl, bal (Below.refl _ _) _⟩
theorem check_out (n : Int) (x z : Nat) (f : Int) (w : World) (hn : n < 0 ∨ 64 < n) :
    Calls Try.prog 25 #[pv n x z f] w fun e w' => e = .returned (.int .i64 70) ∧ Below w.heap.size w w' := by
  go_enter Try.func25, Try.ntmps25
  go_wp2_with (go_at_call 45; refine (rows_no _ _ hn).mono ?_; rintro e w' ⟨rfl, rfl⟩)
  go_ret
  exact ⟨rfl, bal (Below.refl _ _) _⟩
theorem check_bits (n x z : Nat) (f : Int) (w : World) (hn : n ≤ 64) (hx : x < 18446744073709551616) (hz : z < 18446744073709551616) (hb : ¬ x ||| z < 2 ^ n) :
    Calls Try.prog 25 #[pv n x z f] w fun e w' => e = .returned (.int .i64 70) ∧ Below w.heap.size w w' := by
  have h := i_or x z hx hz
  have hd := div_out hb
  go_enter Try.func25, Try.ntmps25
  go_wp2_with (go_at_call 45; refine (rows_yes _ _ (by omega) (by omega)).mono ?_; rintro e w' ⟨rfl, rfl⟩)
  go_ret
  exact ⟨rfl, bal (Below.refl _ _) _⟩
theorem check_phase (n x z : Nat) (f : Int) (w : World) (hn : n ≤ 64) (hx : x < 18446744073709551616) (hz : z < 18446744073709551616) (hb : x ||| z < 2 ^ n) (hf : f < 0 ∨ 3 < f) :
    Calls Try.prog 25 #[pv n x z f] w fun e w' => e = .returned (.int .i64 70) ∧ Below w.heap.size w w' := by
  have h := i_or x z hx hz
  have hd := div_in hb
  rcases hf with hf | hf
  · go_enter Try.func25, Try.ntmps25
    go_wp2_with (go_at_call 45; refine (rows_yes _ _ (by omega) (by omega)).mono ?_; rintro e w' ⟨rfl, rfl⟩)
    go_ret
    exact ⟨rfl, bal (Below.refl _ _) _⟩
  · have : ¬ f < 0 := by omega
    go_enter Try.func25, Try.ntmps25
    go_wp2_with (go_at_call 45; refine (rows_yes _ _ (by omega) (by omega)).mono ?_; rintro e w' ⟨rfl, rfl⟩)
    go_ret
    exact ⟨rfl, bal (Below.refl _ _) _⟩

/-- The ways of not being one. -/
theorem Good.not {n : Int} {x z : Nat} {f : Int} (h : ¬ Good n x z f) :
    (n < 0 ∨ 64 < n) ∨ ∃ m : Nat, n = m ∧ m ≤ 64 ∧ (¬ x ||| z < 2 ^ m ∨ x ||| z < 2 ^ m ∧ (f < 0 ∨ 3 < f)) := by
  by_cases h0 : n < 0 ∨ 64 < n
  · exact .inl h0
  · refine .inr ⟨n.toNat, by omega, by omega, ?_⟩
    by_cases h1 : x ||| z < 2 ^ n.toNat
    · refine .inr ⟨h1, ?_⟩
      by_cases h2 : f < 0 ∨ 3 < f
      · exact h2
      · exact absurd ⟨by omega, by omega, (or_in h1).1, (or_in h1).2, by omega, by omega⟩ h
    · exact .inl h1
theorem check_no (n : Int) (x z : Nat) (f : Int) (w : World) (hx : x < 18446744073709551616) (hz : z < 18446744073709551616) (h : ¬ Good n x z f) :
    Calls Try.prog 25 #[pv n x z f] w fun e w' => e = .returned (.int .i64 70) ∧ Below w.heap.size w w' := by
  rcases Good.not h with h | ⟨m, rfl, hm, h | ⟨h, h'⟩⟩
  · exact check_out n x z f w h
  · exact check_bits m x z f w hm hx hz h
  · exact check_phase m x z f w hm hx hz h h'
/-- A Pauli string that is one. -/
structure PS where
  n : Nat
  x : Nat
  z : Nat
  f : Nat
structure PS.ok (p : PS) : Prop where
  n1 : p.n ≤ 64
  x1 : p.x < 2 ^ p.n
  z1 : p.z < 2 ^ p.n
  f1 : p.f < 4
abbrev PS.v (p : PS) : Value := pv p.n p.x p.z p.f
theorem Good.ps {n : Int} {x z : Nat} {f : Int} (h : Good n x z f) : ∃ p : PS, p.ok ∧ pv n x z f = p.v ∧ n = p.n ∧ x = p.x ∧ z = p.z ∧ f = p.f := by
  obtain ⟨N, rfl⟩ := Int.eq_ofNat_of_zero_le h.n0
  obtain ⟨F, rfl⟩ := Int.eq_ofNat_of_zero_le h.f0
  have := h.n1; have := h.f1; have := h.x1; have := h.z1
  exact ⟨⟨N, x, z, F⟩, ⟨by simp at *; omega, by simpa using h.x1, by simpa using h.z1, by simp at *; omega⟩, rfl, rfl, rfl, rfl, rfl⟩
theorem PS.ok.xl {p : PS} (h : p.ok) : p.x < 18446744073709551616 := lt64 h.x1 h.n1
theorem PS.ok.zl {p : PS} (h : p.ok) : p.z < 18446744073709551616 := lt64 h.z1 h.n1
theorem PS.ok.check {p : PS} (h : p.ok) (w : World) : Calls Try.prog 25 #[p.v] w fun e w' => e = .returned (.int .i64 0) ∧ Below w.heap.size w w' :=
  check_yes p.n p.x p.z p.f w h.n1 h.x1 h.z1 h.f1

/-- Block B holds that string. -/
structure PB (W : World) (B : Nat) (n : Int) (x z : Nat) (f : Int) : Prop where
  c0 : W.cell? ⟨B, 0, none⟩ = some (.int .i64 n)
  c1 : W.cell? ⟨B, 1, none⟩ = some (.int .u64 (x : Int))
  c2 : W.cell? ⟨B, 2, none⟩ = some (.int .u64 (z : Int))
  c3 : W.cell? ⟨B, 3, none⟩ = some (.int .i64 f)
  f0 : W.frozen? ⟨B, 0, none⟩ = false
  f1 : W.frozen? ⟨B, 1, none⟩ = false
  f2 : W.frozen? ⟨B, 2, none⟩ = false
  f3 : W.frozen? ⟨B, 3, none⟩ = false
abbrev pc (n : Int) (x z : Nat) (f : Int) : Obj := .cells #[.int .i64 n, .int .u64 (x : Int), .int .u64 (z : Int), .int .i64 f] 29
section
variable {W W' : World} {B : Nat} {n : Int} {x z : Nat} {f : Int}
theorem PB.lt (h : PB W B n x z f) : B < W.heap.size := block_lt_of_cell h.c0
theorem PB.below (h : PB W B n x z f) (hb : Below W.heap.size W W') : PB W' B n x z f := by
  obtain ⟨hc, hf⟩ := bcell hb
  have hl := h.lt
  exact ⟨(hc _ _ hl).trans h.c0, (hc _ _ hl).trans h.c1, (hc _ _ hl).trans h.c2, (hc _ _ hl).trans h.c3, (hf _ _ hl).trans h.f0, (hf _ _ hl).trans h.f1, (hf _ _ hl).trans h.f2, (hf _ _ hl).trans h.f3⟩
theorem PB.alloc (h : PB W B n x z f) (o : Obj) : PB (W.alloc o) B n x z f := h.below (bal (Below.refl _ _) _)
theorem PB.drewN (h : PB W B n x z f) (k : Nat) : PB (W.drewN k) B n x z f := ⟨h.c0, h.c1, h.c2, h.c3, h.f0, h.f1, h.f2, h.f3⟩
theorem PB.drew (h : PB W B n x z f) : PB W.drew B n x z f := ⟨h.c0, h.c1, h.c2, h.c3, h.f0, h.f1, h.f2, h.f3⟩
end
theorem PB.new (W : World) (n : Int) (x z : Nat) (f : Int) : PB (W.alloc (pc n x z f)) W.heap.size n x z f where
  c0 := by rw [World.cell?_alloc_at _ _ _ _ rfl]; rfl
  c1 := by rw [World.cell?_alloc_at _ _ _ _ rfl]; rfl
  c2 := by rw [World.cell?_alloc_at _ _ _ _ rfl]; rfl
  c3 := by rw [World.cell?_alloc_at _ _ _ _ rfl]; rfl
  f0 := World.frozen?_alloc_at _ _ _ _ rfl
  f1 := World.frozen?_alloc_at _ _ _ _ rfl
  f2 := World.frozen?_alloc_at _ _ _ _ rfl
  f3 := World.frozen?_alloc_at _ _ _ _ rfl
theorem alz (w : World) (o : Obj) : (w.alloc o).heap.size = w.heap.size + 1 := by simp
/-- The function's first blocks. -/
theorem two_boxes (w : World) (n : Int) (x z : Nat) (f : Int) (n' : Int) (x' z' : Nat) (f' : Int) :
    let W0 := (w.alloc (pc n x z f)).alloc (pc n' x' z' f')
    Below w.heap.size w W0 ∧ PB W0 w.heap.size n x z f ∧ PB W0 (w.heap.size + 1) n' x' z' f' := by
  intro W0
  refine ⟨bal (bal (Below.refl _ _) _) _, (PB.new w n x z f).alloc _, ?_⟩
  have := PB.new (w.alloc (pc n x z f)) n' x' z' f'
  rwa [alz] at this
theorem three_boxes (w : World) (n : Int) (x z : Nat) (f : Int) (n' : Int) (x' z' : Nat) (f' : Int) (n2 : Int) (x2 z2 : Nat) (f2 : Int) :
    let W0 := ((w.alloc (pc n x z f)).alloc (pc n' x' z' f')).alloc (pc n2 x2 z2 f2)
    Below w.heap.size w W0 ∧ PB W0 w.heap.size n x z f ∧ PB W0 (w.heap.size + 1) n' x' z' f' ∧ PB W0 (w.heap.size + 1 + 1) n2 x2 z2 f2 := by
  intro W0
  obtain ⟨h1, h2, h3⟩ := two_boxes w n x z f n' x' z' f'
  refine ⟨bal h1 _, h2.alloc _, h3.alloc _, ?_⟩
  have := PB.new ((w.alloc (pc n x z f)).alloc (pc n' x' z' f')) n2 x2 z2 f2
  rwa [alz, alz] at this

end Go.Proofs.Ytoddbaljnlhhaab.PL
namespace Go.Proofs.Ytoddbaljnlhhaab.PL
open Go.RowKit Go.Sort

/-- The kind of a letter. -/
def kd (c : Nat) : Int := if c = 73 then 0 else if c = 88 then 1 else if c = 90 then 2 else if c = 89 then 3 else -1
theorem kd_is : ∀ c : Fin 256, Lib.indexByte [73, 88, 90, 89] ((c.val : Nat) : Int).toNat.toUInt8 = kd c.val := by decide +kernel
theorem kind_any (c : Nat) (w : World) (hc : c < 256) : Calls Try.prog 44 #[.int .u8 (c : Int)] w fun e w' => e = .returned (.int .i64 (kd c)) ∧ w' = w := by
  have h := kd_is ⟨c, hc⟩
  go_enter Try.func44, Try.ntmps44
  go_wp2_with (go_at_call 68; refine (Try.strings_IndexByte _ _ _).mono ?_; rintro e w' ⟨rfl, rfl⟩)
  go_ret
  exact ⟨ret_int h, rfl⟩

theorem eye_yes (n : Nat) (w : World) (hn : n ≤ 64) : Calls Try.prog 46 #[.int .i64 n] w fun e w' => e = .returned (.tuple #[pv n 0 0 0, .int .i64 0]) ∧ Below w.heap.size w w' := by
  go_enter Try.func46, Try.ntmps46
  go_wp2_with (go_at_call 45; refine (rows_yes _ _ (by omega) (by omega)).mono ?_; rintro e w' ⟨rfl, rfl⟩)
  exact bodyPost_ret (v := .tuple #[pv n 0 0 0, .int .i64 0]) (by simp [results, Try.results46, go_sem]) rfl ⟨rfl, (bal (Below.refl _ _) _)⟩
theorem eye_no (n : Int) (w : World) (hn : n < 0 ∨ 64 < n) : Calls Try.prog 46 #[.int .i64 n] w fun e w' => e = .returned (.tuple #[pv 0 0 0 0, .int .i64 2]) ∧ Below w.heap.size w w' := by
  go_enter Try.func46, Try.ntmps46
  go_wp2_with (go_at_call 45; refine (rows_no _ _ hn).mono ?_; rintro e w' ⟨rfl, rfl⟩)
  exact bodyPost_ret (v := .tuple #[pv 0 0 0 0, .int .i64 2]) (by simp [results, Try.results46, go_sem]) rfl ⟨rfl, (bal (Below.refl _ _) _)⟩

theorem kd_x : kd 88 = 1 := rfl
theorem kd_y : kd 89 = 3 := rfl
theorem kd_z : kd 90 = 2 := rfl
theorem ba1 : bits .and .i64 1 1 = 1 := rfl
theorem ba2 : bits .and .i64 2 1 = 0 := rfl
theorem ba3 : bits .and .i64 3 1 = 1 := rfl
theorem w1 : IntKind.u64.wrap 1 = 1 := rfl
theorem w0 : IntKind.u64.wrap 0 = 0 := rfl
theorem w_pow (q : Nat) (hq : q < 64) : IntKind.u64.wrap (2 ^ q) = 2 ^ q := by rw [i_pow q hq]; simp
theorem one_x (n q : Nat) (w : World) (hn : n ≤ 64) (hq : q < n) : Calls Try.prog 24 #[.int .i64 n, .int .i64 q, .int .u8 88] w fun e w' => e = .returned (.tuple #[pv n (2 ^ q) 0 0, .int .i64 0]) ∧ Below w.heap.size w w' := by
  have hp := w_pow q (by omega)
  go_enter Try.func24, Try.ntmps24
  go_wp2_with (first
    | (go_at_call 44; refine (kind_any 88 _ (by omega)).mono ?_; rintro e w' ⟨rfl, rfl⟩; rw [kd_x])
    | (go_at_call 45; refine (rows_yes _ _ (by omega) (by omega)).mono ?_; rintro e w' ⟨rfl, rfl⟩))
  go_region
  go_wp2
  exact bodyPost_ret (v := .tuple #[pv n (2 ^ q) 0 0, .int .i64 0]) (by simp [results, Try.results24, go_sem, ba1, w1, hp]) rfl ⟨rfl, below_drew (bal (Below.refl _ _) _)⟩
theorem one_y (n q : Nat) (w : World) (hn : n ≤ 64) (hq : q < n) : Calls Try.prog 24 #[.int .i64 n, .int .i64 q, .int .u8 89] w fun e w' => e = .returned (.tuple #[pv n (2 ^ q) (2 ^ q) 0, .int .i64 0]) ∧ Below w.heap.size w w' := by
  have hp := w_pow q (by omega)
  go_enter Try.func24, Try.ntmps24
  go_wp2_with (first
    | (go_at_call 44; refine (kind_any 89 _ (by omega)).mono ?_; rintro e w' ⟨rfl, rfl⟩; rw [kd_y])
    | (go_at_call 45; refine (rows_yes _ _ (by omega) (by omega)).mono ?_; rintro e w' ⟨rfl, rfl⟩))
  go_region
  go_wp2
  exact bodyPost_ret (v := .tuple #[pv n (2 ^ q) (2 ^ q) 0, .int .i64 0]) (by simp [results, Try.results24, go_sem, ba3, w1, hp]) rfl ⟨rfl, below_drew (bal (Below.refl _ _) _)⟩
theorem one_z (n q : Nat) (w : World) (hn : n ≤ 64) (hq : q < n) : Calls Try.prog 24 #[.int .i64 n, .int .i64 q, .int .u8 90] w fun e w' => e = .returned (.tuple #[pv n 0 (2 ^ q) 0, .int .i64 0]) ∧ Below w.heap.size w w' := by
  have hp := w_pow q (by omega)
  go_enter Try.func24, Try.ntmps24
  go_wp2_with (first
    | (go_at_call 44; refine (kind_any 90 _ (by omega)).mono ?_; rintro e w' ⟨rfl, rfl⟩; rw [kd_z])
    | (go_at_call 45; refine (rows_yes _ _ (by omega) (by omega)).mono ?_; rintro e w' ⟨rfl, rfl⟩))
  go_region
  go_wp2
  exact bodyPost_ret (v := .tuple #[pv n 0 (2 ^ q) 0, .int .i64 0]) (by simp [results, Try.results24, go_sem, ba2, w0]) rfl ⟨rfl, below_drew (bal (Below.refl _ _) _)⟩

theorem kd_le {c : Nat} (h : c ≠ 88 ∧ c ≠ 89 ∧ c ≠ 90) : kd c ≤ 0 := by unfold kd; simp only [h, if_false]; split <;> omega
theorem kd_pos {c : Nat} (h : c = 88 ∨ c = 89 ∨ c = 90) : ¬ kd c ≤ 0 := by rcases h with rfl | rfl | rfl <;> decide
theorem one_no (n q : Int) (c : Nat) (w : World) (hc : c < 256) (h : (n < 0 ∨ 64 < n) ∨ (0 ≤ n ∧ n ≤ 64) ∧ (q < 0 ∨ 0 ≤ q ∧ (n ≤ q ∨ q < n ∧ c ≠ 88 ∧ c ≠ 89 ∧ c ≠ 90))) :
    Calls Try.prog 24 #[.int .i64 n, .int .i64 q, .int .u8 (c : Int)] w fun e w' => e = .returned (.tuple #[pv 0 0 0 0, .int .i64 2]) ∧ Below w.heap.size w w' := by
  generalize hk : kd c = k
  rcases h with h | ⟨⟨h0, h1⟩, h | ⟨g, h | ⟨g', h⟩⟩⟩
  · go_enter Try.func24, Try.ntmps24
    go_wp2_with (first
      | (go_at_call 44; refine (kind_any c _ hc).mono ?_; rintro e w' ⟨rfl, rfl⟩; rw [hk])
      | (go_at_call 45; refine (rows_no _ _ h).mono ?_; rintro e w' ⟨rfl, rfl⟩))
    exact bodyPost_ret (v := .tuple #[pv 0 0 0 0, .int .i64 2]) (by simp [results, Try.results24, go_sem]) rfl ⟨rfl, bal (Below.refl _ _) _⟩
  · go_enter Try.func24, Try.ntmps24
    go_wp2_with (first
      | (go_at_call 44; refine (kind_any c _ hc).mono ?_; rintro e w' ⟨rfl, rfl⟩; rw [hk])
      | (go_at_call 45; refine (rows_yes _ _ h0 h1).mono ?_; rintro e w' ⟨rfl, rfl⟩))
    exact bodyPost_ret (v := .tuple #[pv 0 0 0 0, .int .i64 2]) (by simp [results, Try.results24, go_sem]) rfl ⟨rfl, bal (Below.refl _ _) _⟩
  · have g2 : ¬ q < 0 := by omega
    go_enter Try.func24, Try.ntmps24
    go_wp2_with (first
      | (go_at_call 44; refine (kind_any c _ hc).mono ?_; rintro e w' ⟨rfl, rfl⟩; rw [hk])
      | (go_at_call 45; refine (rows_yes _ _ h0 h1).mono ?_; rintro e w' ⟨rfl, rfl⟩))
    exact bodyPost_ret (v := .tuple #[pv 0 0 0 0, .int .i64 2]) (by simp [results, Try.results24, go_sem]) rfl ⟨rfl, bal (Below.refl _ _) _⟩
  · have g2 : ¬ q < 0 := by omega
    have g3 : ¬ n ≤ q := by omega
    have g4 : k ≤ 0 := hk ▸ kd_le h
    go_enter Try.func24, Try.ntmps24
    go_wp2_with (first
      | (go_at_call 44; refine (kind_any c _ hc).mono ?_; rintro e w' ⟨rfl, rfl⟩; rw [hk])
      | (go_at_call 45; refine (rows_yes _ _ h0 h1).mono ?_; rintro e w' ⟨rfl, rfl⟩))
    exact bodyPost_ret (v := .tuple #[pv 0 0 0 0, .int .i64 2]) (by simp [results, Try.results24, go_sem]) rfl ⟨rfl, bal (Below.refl _ _) _⟩

/-- What takes a string back. -/
def PS.adj (p : PS) : PS := ⟨p.n, p.x, p.z, (4 - p.f) % 4⟩
theorem PS.ok.adj {p : PS} (h : p.ok) : p.adj.ok := ⟨h.n1, h.x1, h.z1, Nat.mod_lt _ (by decide)⟩
end Go.Proofs.Ytoddbaljnlhhaab.PL
namespace Go.Proofs.Ytoddbaljnlhhaab.PL
open Go.RowKit Go.Sort

theorem one_box (w : World) (n : Int) (x z : Nat) (f : Int) : Below w.heap.size w (w.alloc (pc n x z f)) ∧ PB (w.alloc (pc n x z f)) w.heap.size n x z f :=
  ⟨bal (Below.refl _ _) _, PB.new w n x z f⟩
/-- Two strings of any make: what checkBoth answers. -/
def Both (n : Int) (x z : Nat) (f : Int) (n' : Int) (x' z' : Nat) (f' : Int) (e : Int) : Prop :=
  ∀ w, Calls Try.prog 69 #[pv n x z f, pv n' x' z' f'] w fun r w' => r = .returned (.int .i64 e) ∧ Below w.heap.size w w'
theorem both_a (n : Int) (x z : Nat) (f : Int) (n' : Int) (x' z' : Nat) (f' : Int) (hx : x < 18446744073709551616) (hz : z < 18446744073709551616) (h : ¬ Good n x z f) : Both n x z f n' x' z' f' 70 := by
  intro w
  have K := fun w => check_no n x z f w hx hz h
  obtain ⟨hW, b1, b2⟩ := two_boxes w n x z f n' x' z' f'
  go_enter Try.func69, Try.ntmps69
  go_wp2_with (go_at_call 25; (with_reducible refine (K _).mono ?_); rintro e w1 ⟨rfl, hN⟩)
  go_ret
  exact ⟨rfl, btr hW hN⟩
theorem both_b (p : PS) (hp : p.ok) (n' : Int) (x' z' : Nat) (f' : Int) (hx : x' < 18446744073709551616) (hz : z' < 18446744073709551616) (h : ¬ Good n' x' z' f') : Both p.n p.x p.z p.f n' x' z' f' 70 := by
  intro w
  have K0 := hp.check
  have K := fun w => check_no n' x' z' f' w hx hz h
  obtain ⟨n, x, z, f⟩ := p
  obtain ⟨hW, b1, b2⟩ := two_boxes w n x z f n' x' z' f'
  go_enter Try.func69, Try.ntmps69
  go_wp2_with (first
    | (go_at_call 25; (with_reducible refine (K0 _).mono ?_); rintro e w1 ⟨rfl, hN⟩; obtain ⟨c0, c1, c2, c3, f0, f1, f2, f3⟩ := b2.below hN)
    | (go_at_call 25; (with_reducible refine (K _).mono ?_); rintro e w1 ⟨rfl, hN2⟩))
  go_ret
  exact ⟨rfl, btr (btr hW hN) hN2⟩
theorem both_ok (p q : PS) (hp : p.ok) (hq : q.ok) : Both p.n p.x p.z p.f q.n q.x q.z q.f (if p.n = q.n then 0 else 2) := by
  intro w
  have K0 := hp.check
  have K := hq.check
  obtain ⟨n, x, z, f⟩ := p
  obtain ⟨n', x', z', f'⟩ := q
  obtain ⟨hW, b1, b2⟩ := two_boxes w n x z f n' x' z' f'
  by_cases hn : n = n'
  · subst hn
    simp only [if_true]
    go_enter Try.func69, Try.ntmps69
    go_wp2_with (first
      | (go_at_call 25; (with_reducible refine (K0 _).mono ?_); rintro e w1 ⟨rfl, hN⟩; obtain ⟨c0, c1, c2, c3, f0, f1, f2, f3⟩ := b2.below hN; have b3 := b1.below hN; have b4 := b2.below hN)
      | (go_at_call 25; (with_reducible refine (K _).mono ?_); rintro e w1 ⟨rfl, hN2⟩; obtain ⟨d0, d1, d2, d3, g0, g1, g2, g3⟩ := b3.below hN2; obtain ⟨u0, u1, u2, u3, v0, v1, v2, v3⟩ := b4.below hN2))
    go_ret
    exact ⟨rfl, btr (btr hW hN) hN2⟩
  · simp only [if_neg hn]
    have hm : ((n : Int) == (n' : Int)) = false := by simp; omega
    go_enter Try.func69, Try.ntmps69
    go_wp2_with (first
      | (go_at_call 25; (with_reducible refine (K0 _).mono ?_); rintro e w1 ⟨rfl, hN⟩; obtain ⟨c0, c1, c2, c3, f0, f1, f2, f3⟩ := b2.below hN; have b3 := b1.below hN; have b4 := b2.below hN)
      | (go_at_call 25; (with_reducible refine (K _).mono ?_); rintro e w1 ⟨rfl, hN2⟩; obtain ⟨d0, d1, d2, d3, g0, g1, g2, g3⟩ := b3.below hN2; obtain ⟨u0, u1, u2, u3, v0, v1, v2, v3⟩ := b4.below hN2))
    go_ret
    exact ⟨rfl, btr (btr hW hN) hN2⟩


/-- The product. -/
def PS.mul (p q : PS) : PS := ⟨p.n, p.x ^^^ q.x, p.z ^^^ q.z, mulF p.x p.z p.f q.x q.z q.f⟩
theorem PS.ok.mul {p q : PS} (h : p.ok) (g : q.ok) (hn : p.n = q.n) : (p.mul q).ok := ⟨h.n1, xor_ltn h.x1 (hn ▸ g.x1), xor_ltn h.z1 (hn ▸ g.z1), mulF_lt _ _ _ _ _ _⟩

theorem mul_no (n : Int) (x z : Nat) (f : Int) (n' : Int) (x' z' : Nat) (f' e : Int) (w : World) (h : Both n x z f n' x' z' f' e) (he : ¬ e = 0) :
    Calls Try.prog 48 #[pv n x z f, pv n' x' z' f'] w fun r w' => r = .returned (.tuple #[pv 0 0 0 0, .int .i64 e]) ∧ Below w.heap.size w w' := by
  unfold Both at h
  have he' : (e == 0) = false := by simp [he]
  obtain ⟨hW, b1, b2, b3⟩ := three_boxes w n x z f n' x' z' f' 0 0 0 0
  go_enter Try.func48, Try.ntmps48
  go_wp2_with (go_at_call 69; (with_reducible refine (h _).mono ?_); rintro r w1 ⟨rfl, hN⟩; obtain ⟨c0, c1, c2, c3, f0, f1, f2, f3⟩ := b3.below hN)
  refine bodyPost_ret (v := .tuple #[pv 0 0 0 0, .int .i64 e]) (by simp [results, Try.results48, go_sem, c0, c1, c2, c3]) rfl ⟨rfl, ?_⟩
  repeat (first | exact btr hW hN | refine Below.setCell ?_ (by simp; omega) _)
theorem commute_no (n : Int) (x z : Nat) (f : Int) (n' : Int) (x' z' : Nat) (f' e : Int) (w : World) (h : Both n x z f n' x' z' f' e) (he : ¬ e = 0) :
    Calls Try.prog 51 #[pv n x z f, pv n' x' z' f'] w fun r w' => r = .returned (.tuple #[.bool false, .int .i64 e]) ∧ Below w.heap.size w w' := by
  unfold Both at h
  have he' : (e == 0) = false := by simp [he]
  obtain ⟨hW, b1, b2⟩ := two_boxes w n x z f n' x' z' f'
  go_enter Try.func51, Try.ntmps51
  go_wp2_with (go_at_call 69; (with_reducible refine (h _).mono ?_); rintro r w1 ⟨rfl, hN⟩)
  go_ret2
  exact ⟨rfl, btr hW hN⟩
theorem beq_cast (R : Nat) : ((R : Int) == 0) = decide (R = 0) := by
  by_cases h : R = 0
  · subst h; rfl
  · have : ¬ (R : Int) = 0 := by omega
    simp [h]
theorem commute_yes (p q : PS) (w : World) (hp : p.ok) (hq : q.ok) (hn : p.n = q.n) :
    Calls Try.prog 51 #[p.v, q.v] w fun r w' => r = .returned (.tuple #[.bool (decide (comB p.x p.z q.x q.z = 0)), .int .i64 0]) ∧ Below w.heap.size w w' := by
  have h := both_ok p q hp hq
  unfold Both at h
  rw [if_pos hn] at h
  have e1 := i_and p.x q.z hp.xl hq.zl
  have e2 := i_and p.z q.x hp.zl hq.xl
  have e3 := i_xor (p.x &&& q.z) (p.z &&& q.x) (and_lt hp.xl) (and_lt hp.zl)
  have P := fun w => parity_any ((p.x &&& q.z) ^^^ (p.z &&& q.x)) w (xor_lt (and_lt hp.xl) (and_lt hp.zl))
  have hR : comB p.x p.z q.x q.z = pop 64 ((p.x &&& q.z) ^^^ (p.z &&& q.x)) % 2 := rfl
  rw [hR]
  generalize pop 64 ((p.x &&& q.z) ^^^ (p.z &&& q.x)) % 2 = R at P
  clear hR hp hq hn
  obtain ⟨n, x, z, f⟩ := p
  obtain ⟨n', x', z', f'⟩ := q
  obtain ⟨hW, b1, b2⟩ := two_boxes w n x z f n' x' z' f'
  go_enter Try.func51, Try.ntmps51
  go_wp2_with (first
    | (go_at_call 69; (with_reducible refine (h _).mono ?_); rintro r w1 ⟨rfl, hN⟩; obtain ⟨c0, c1, c2, c3, f0, f1, f2, f3⟩ := b1.below hN; obtain ⟨d0, d1, d2, d3, g0, g1, g2, g3⟩ := b2.below hN)
    | (go_at_call 73; (with_reducible refine (P _).mono ?_); rintro r w1 ⟨rfl, rfl⟩))
  go_ret2
  exact ⟨congrArg (fun b => Ending.returned (Value.tuple #[.bool b, .int .i64 0])) (beq_cast R), btr hW hN⟩


theorem keep8 {V W W' : World} {A B : Nat} {n : Int} {x z : Nat} {f : Int} {n' : Int} {x' z' : Nat} {f' : Int}
    (h : Below V.heap.size V W ∧ W.cell? ⟨A, 0, none⟩ = some (.int .i64 n) ∧ W.cell? ⟨A, 1, none⟩ = some (.int .u64 (x : Int)) ∧ W.cell? ⟨A, 2, none⟩ = some (.int .u64 (z : Int)) ∧ W.cell? ⟨A, 3, none⟩ = some (.int .i64 f) ∧ W.cell? ⟨B, 0, none⟩ = some (.int .i64 n') ∧ W.cell? ⟨B, 1, none⟩ = some (.int .u64 (x' : Int)) ∧ W.cell? ⟨B, 2, none⟩ = some (.int .u64 (z' : Int)) ∧ W.cell? ⟨B, 3, none⟩ = some (.int .i64 f')) (hN : Below W.heap.size W W') :
    Below V.heap.size V W' ∧ W'.cell? ⟨A, 0, none⟩ = some (.int .i64 n) ∧ W'.cell? ⟨A, 1, none⟩ = some (.int .u64 (x : Int)) ∧ W'.cell? ⟨A, 2, none⟩ = some (.int .u64 (z : Int)) ∧ W'.cell? ⟨A, 3, none⟩ = some (.int .i64 f) ∧ W'.cell? ⟨B, 0, none⟩ = some (.int .i64 n') ∧ W'.cell? ⟨B, 1, none⟩ = some (.int .u64 (x' : Int)) ∧ W'.cell? ⟨B, 2, none⟩ = some (.int .u64 (z' : Int)) ∧ W'.cell? ⟨B, 3, none⟩ = some (.int .i64 f') := by
  obtain ⟨h0, a0, a1, a2, a3, b0, b1, b2, b3⟩ := h
  obtain ⟨hc, _⟩ := bcell hN
  have la := block_lt_of_cell a0
  have lb := block_lt_of_cell b0
  exact ⟨btr h0 hN, (hc _ _ la).trans a0, (hc _ _ la).trans a1, (hc _ _ la).trans a2, (hc _ _ la).trans a3, (hc _ _ lb).trans b0, (hc _ _ lb).trans b1, (hc _ _ lb).trans b2, (hc _ _ lb).trans b3⟩

set_option maxHeartbeats 1000000 in
theorem mul_yes (p q : PS) (w : World) (hp : p.ok) (hq : q.ok) (hn : p.n = q.n) :
    Calls Try.prog 48 #[p.v, q.v] w fun r w' => r = .returned (.tuple #[(p.mul q).v, .int .i64 0]) ∧ Below w.heap.size w w' := by
  have h := both_ok p q hp hq
  unfold Both at h
  rw [if_pos hn] at h
  have e1 := i_xor p.x q.x hp.xl hq.xl
  have e2 := i_xor p.z q.z hp.zl hq.zl
  have e3 := i_and p.z q.x hp.zl hq.xl
  have Y1 := fun w => ys_any p.n p.x p.z p.f w hp.xl hp.zl
  have Y2 := fun w => ys_any q.n q.x q.z q.f w hq.xl hq.zl
  have Y3 := fun w => ys_any p.n (p.x ^^^ q.x) (p.z ^^^ q.z) 0 w (xor_lt hp.xl hq.xl) (xor_lt hp.zl hq.zl)
  have C := fun w => count_any (p.z &&& q.x) w (and_lt hp.zl)
  have l1 := pop_le 64 (p.x &&& p.z)
  have l2 := pop_le 64 (q.x &&& q.z)
  have l3 := pop_le 64 (p.z &&& q.x)
  have l4 := pop_le 64 ((p.x ^^^ q.x) &&& (p.z ^^^ q.z))
  have hf := hp.f1
  have hf' := hq.f1
  have hR : mulF p.x p.z p.f q.x q.z q.f = (p.f + pop 64 (p.x &&& p.z) + q.f + pop 64 (q.x &&& q.z) + 2 * pop 64 (p.z &&& q.x) + 3 * pop 64 ((p.x ^^^ q.x) &&& (p.z ^^^ q.z))) % 4 := rfl
  unfold PS.mul
  generalize mulF p.x p.z p.f q.x q.z q.f = F at *
  generalize pop 64 (p.x &&& p.z) = a at *
  generalize pop 64 (q.x &&& q.z) = b at *
  generalize pop 64 (p.z &&& q.x) = c at *
  generalize pop 64 ((p.x ^^^ q.x) &&& (p.z ^^^ q.z)) = d at *
  have e9 : bits .and .i64 ((p.f : Int) + (a : Int) + (q.f : Int) + (b : Int) + 2 * (c : Int) - (d : Int)) 3 = (F : Int) := by rw [and3]; omega
  have s1 : IntKind.i64.wrap ((p.f : Int) + (a : Int)) = (p.f : Int) + (a : Int) := by rw [IntKind.wrap_i64]; omega
  have s2 : IntKind.i64.wrap ((p.f : Int) + (a : Int) + (q.f : Int)) = (p.f : Int) + (a : Int) + (q.f : Int) := by rw [IntKind.wrap_i64]; omega
  have s3 : IntKind.i64.wrap ((p.f : Int) + (a : Int) + (q.f : Int) + (b : Int)) = (p.f : Int) + (a : Int) + (q.f : Int) + (b : Int) := by rw [IntKind.wrap_i64]; omega
  have s4 : IntKind.i64.wrap (2 * (c : Int)) = 2 * (c : Int) := by rw [IntKind.wrap_i64]; omega
  have s5 : IntKind.i64.wrap ((p.f : Int) + (a : Int) + (q.f : Int) + (b : Int) + 2 * (c : Int)) = (p.f : Int) + (a : Int) + (q.f : Int) + (b : Int) + 2 * (c : Int) := by rw [IntKind.wrap_i64]; omega
  clear hR hn hp hq
  obtain ⟨n, x, z, f⟩ := p
  obtain ⟨n', x', z', f'⟩ := q
  generalize hX : x ^^^ x' = X at *
  generalize hZ : z ^^^ z' = Z at *
  clear hX hZ
  obtain ⟨hW, b1, b2, b3⟩ := three_boxes w n x z f n' x' z' f' 0 0 0 0
  go_enter Try.func48, Try.ntmps48
  go_upto_region 5 with (go_at_call 69; (with_reducible refine (h _).mono ?_); rintro r w1 ⟨rfl, hN⟩; obtain ⟨c0, c1, c2, c3, f0, f1, f2, f3⟩ := b1.below hN; obtain ⟨d0, d1, d2, d3, g0, g1, g2, g3⟩ := b2.below hN)
  have hV := Below.refl (w1.alloc (pc n X Z 0)).heap.size (w1.alloc (pc n X Z 0))
  obtain ⟨c0, c1, c2, c3, f0, f1, f2, f3⟩ := (b1.below hN).alloc (pc n X Z 0)
  obtain ⟨d0, d1, d2, d3, g0, g1, g2, g3⟩ := (b2.below hN).alloc (pc n X Z 0)
  go_region_held3 (fun w' => Below (w1.alloc (pc n X Z 0)).heap.size (w1.alloc (pc n X Z 0)) w' ∧ w'.cell? ⟨w.heap.size, 0, none⟩ = some (.int .i64 n) ∧ w'.cell? ⟨w.heap.size, 1, none⟩ = some (.int .u64 (x : Int)) ∧ w'.cell? ⟨w.heap.size, 2, none⟩ = some (.int .u64 (z : Int)) ∧ w'.cell? ⟨w.heap.size, 3, none⟩ = some (.int .i64 f) ∧ w'.cell? ⟨w.heap.size + 1, 0, none⟩ = some (.int .i64 n') ∧ w'.cell? ⟨w.heap.size + 1, 1, none⟩ = some (.int .u64 (x' : Int)) ∧ w'.cell? ⟨w.heap.size + 1, 2, none⟩ = some (.int .u64 (z' : Int)) ∧ w'.cell? ⟨w.heap.size + 1, 3, none⟩ = some (.int .i64 f'))
    ((first | exact ⟨below_drew hV, c0, c1, c2, c3, d0, d1, d2, d3⟩ | exact keep8 (by assumption) hN2 | assumption))
    (first
      | (go_at_call 70; (with_reducible refine (Y1 _).mono ?_); rintro e w2 ⟨rfl, hN2⟩; have hK := btr (below_drew hV) hN2)
      | (go_at_call 70; (with_reducible refine (Y2 _).mono ?_); rintro e w3 ⟨rfl, hN2⟩; have hK := btr hK hN2)
      | (go_at_call 59; (with_reducible refine (C _).mono ?_); rintro e w4 ⟨rfl, rfl⟩))
  clear c0 c1 c2 c3 f0 f1 f2 f3 d0 d1 d2 d3 g0 g1 g2 g3
  obtain ⟨c0, c1, c2, c3, f0, f1, f2, f3⟩ := (PB.new w1 n X Z 0).below hK
  have b4 := (((b3.below hN).alloc (pc n X Z 0)).below hK)
  have b5 := (PB.new w1 n X Z 0).below hK
  have hs : w.heap.size + 1 + 1 + 1 ≤ w1.heap.size := by have := hN.size; simpa using this
  have n1 : ¬ w1.heap.size = w.heap.size + 1 + 1 := by omega
  have n2 : ¬ w.heap.size + 1 + 1 = w1.heap.size := by omega
  have n3 : w.heap.size ≤ w1.heap.size := by omega
  have n4 : w.heap.size ≤ w.heap.size + 1 + 1 := by omega
  have hB := btr (bal (btr hW hN) (pc n X Z 0)) hK
  go_wp2_with (go_at_call 70; (with_reducible refine (Y3 _).mono ?_); rintro e w5 ⟨rfl, hN5⟩; obtain ⟨d0, d1, d2, d3, g0, g1, g2, g3⟩ := b4.below hN5; obtain ⟨u0, u1, u2, u3, v0, v1, v2, v3⟩ := b5.below hN5)
  refine bodyPost_ret (v := .tuple #[pv n X Z F, .int .i64 0]) (by simp [results, Try.results48, go_sem, d0, d1, d2, d3]) rfl ⟨rfl, ?_⟩
  repeat (first | exact btr hB hN5 | refine Below.setCell ?_ (by first | exact n3 | exact n4) _)

end Go.Proofs.Ytoddbaljnlhhaab.PL
