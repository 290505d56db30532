/-
  The inverses; the entries as numbers; all products of a gate and its inverse, by reckoning.
-/
import Derived.Test.YtjmgcgjmaemgdaaC5
import Derived.Test.YtjmgcgjmaemgdaaV0
namespace Go.Proofs.Ytjmgcgjmaemgdaa
open Go.RowKit Go.Sort

/-- Which gate takes gate i back. -/
def iv (i : Nat) : Nat := [0, 1, 2, 3, 4, 6, 5, 8, 7, 10, 9, 12, 11, 13, 14, 15, 16, 18, 17, 19, 21, 20, 22, 23, 24].getD i 0
def cOf (i : Nat) : Bool := [true, true, true, true, true, true, true, false, false, true, true, true, true, true, true, true, false, false, false, true, true, true, false, false, false].getD i false
theorem nmiv_0 : nm (iv 0) = ⟨#[105]⟩ := by kernel_rfl
theorem nmiv_1 : nm (iv 1) = ⟨#[120]⟩ := by kernel_rfl
theorem nmiv_2 : nm (iv 2) = ⟨#[121]⟩ := by kernel_rfl
theorem nmiv_3 : nm (iv 3) = ⟨#[122]⟩ := by kernel_rfl
theorem nmiv_4 : nm (iv 4) = ⟨#[104]⟩ := by kernel_rfl
theorem nmiv_5 : nm (iv 5) = ⟨#[115, 100, 103]⟩ := by kernel_rfl
theorem nmiv_6 : nm (iv 6) = ⟨#[115]⟩ := by kernel_rfl
theorem nmiv_7 : nm (iv 7) = ⟨#[116, 100, 103]⟩ := by kernel_rfl
theorem nmiv_8 : nm (iv 8) = ⟨#[116]⟩ := by kernel_rfl
theorem nmiv_9 : nm (iv 9) = ⟨#[118, 100, 103]⟩ := by kernel_rfl
theorem nmiv_10 : nm (iv 10) = ⟨#[118]⟩ := by kernel_rfl
theorem nmiv_11 : nm (iv 11) = ⟨#[119, 100, 103]⟩ := by kernel_rfl
theorem nmiv_12 : nm (iv 12) = ⟨#[119]⟩ := by kernel_rfl
theorem nmiv_13 : nm (iv 13) = ⟨#[99, 120]⟩ := by kernel_rfl
theorem nmiv_14 : nm (iv 14) = ⟨#[99, 121]⟩ := by kernel_rfl
theorem nmiv_15 : nm (iv 15) = ⟨#[99, 122]⟩ := by kernel_rfl
theorem nmiv_16 : nm (iv 16) = ⟨#[99, 104]⟩ := by kernel_rfl
theorem nmiv_17 : nm (iv 17) = ⟨#[99, 115, 100, 103]⟩ := by kernel_rfl
theorem nmiv_18 : nm (iv 18) = ⟨#[99, 115]⟩ := by kernel_rfl
theorem nmiv_19 : nm (iv 19) = ⟨#[115, 119, 97, 112]⟩ := by kernel_rfl
theorem nmiv_20 : nm (iv 20) = ⟨#[105, 115, 119, 97, 112, 100, 103]⟩ := by kernel_rfl
theorem nmiv_21 : nm (iv 21) = ⟨#[105, 115, 119, 97, 112]⟩ := by kernel_rfl
theorem nmiv_22 : nm (iv 22) = ⟨#[99, 99, 120]⟩ := by kernel_rfl
theorem nmiv_23 : nm (iv 23) = ⟨#[99, 99, 122]⟩ := by kernel_rfl
theorem nmiv_24 : nm (iv 24) = ⟨#[99, 115, 119, 97, 112]⟩ := by kernel_rfl
set_option maxRecDepth 100000 in
theorem inverse_all (i : Nat) (hi : i < 25) (w : World) : Calls Try.prog 16 #[.string (nm i)] w fun e w' => e = .returned (.tuple #[.string (nm (iv i)), .int .i64 0]) ∧ Below w.heap.size w w' := by
  have : i = 0 ∨ i = 1 ∨ i = 2 ∨ i = 3 ∨ i = 4 ∨ i = 5 ∨ i = 6 ∨ i = 7 ∨ i = 8 ∨ i = 9 ∨ i = 10 ∨ i = 11 ∨ i = 12 ∨ i = 13 ∨ i = 14 ∨ i = 15 ∨ i = 16 ∨ i = 17 ∨ i = 18 ∨ i = 19 ∨ i = 20 ∨ i = 21 ∨ i = 22 ∨ i = 23 ∨ i = 24 := by omega
  rcases this with rfl | rfl | rfl | rfl | rfl | rfl | rfl | rfl | rfl | rfl | rfl | rfl | rfl | rfl | rfl | rfl | rfl | rfl | rfl | rfl | rfl | rfl | rfl | rfl | rfl
  · rw [nm_0, nmiv_0]; exact inverse_hit hit_0 w
  · rw [nm_1, nmiv_1]; exact inverse_hit hit_1 w
  · rw [nm_2, nmiv_2]; exact inverse_hit hit_2 w
  · rw [nm_3, nmiv_3]; exact inverse_hit hit_3 w
  · rw [nm_4, nmiv_4]; exact inverse_hit hit_4 w
  · rw [nm_5, nmiv_5]; exact inverse_hit hit_5 w
  · rw [nm_6, nmiv_6]; exact inverse_hit hit_6 w
  · rw [nm_7, nmiv_7]; exact inverse_hit hit_7 w
  · rw [nm_8, nmiv_8]; exact inverse_hit hit_8 w
  · rw [nm_9, nmiv_9]; exact inverse_hit hit_9 w
  · rw [nm_10, nmiv_10]; exact inverse_hit hit_10 w
  · rw [nm_11, nmiv_11]; exact inverse_hit hit_11 w
  · rw [nm_12, nmiv_12]; exact inverse_hit hit_12 w
  · rw [nm_13, nmiv_13]; exact inverse_hit hit_13 w
  · rw [nm_14, nmiv_14]; exact inverse_hit hit_14 w
  · rw [nm_15, nmiv_15]; exact inverse_hit hit_15 w
  · rw [nm_16, nmiv_16]; exact inverse_hit hit_16 w
  · rw [nm_17, nmiv_17]; exact inverse_hit hit_17 w
  · rw [nm_18, nmiv_18]; exact inverse_hit hit_18 w
  · rw [nm_19, nmiv_19]; exact inverse_hit hit_19 w
  · rw [nm_20, nmiv_20]; exact inverse_hit hit_20 w
  · rw [nm_21, nmiv_21]; exact inverse_hit hit_21 w
  · rw [nm_22, nmiv_22]; exact inverse_hit hit_22 w
  · rw [nm_23, nmiv_23]; exact inverse_hit hit_23 w
  · rw [nm_24, nmiv_24]; exact inverse_hit hit_24 w
set_option maxRecDepth 100000 in
theorem clifford_all (i : Nat) (hi : i < 25) (w : World) : Calls Try.prog 12 #[.string (nm i)] w fun e w' => e = .returned (.bool (cOf i)) ∧ Below w.heap.size w w' := by
  have : i = 0 ∨ i = 1 ∨ i = 2 ∨ i = 3 ∨ i = 4 ∨ i = 5 ∨ i = 6 ∨ i = 7 ∨ i = 8 ∨ i = 9 ∨ i = 10 ∨ i = 11 ∨ i = 12 ∨ i = 13 ∨ i = 14 ∨ i = 15 ∨ i = 16 ∨ i = 17 ∨ i = 18 ∨ i = 19 ∨ i = 20 ∨ i = 21 ∨ i = 22 ∨ i = 23 ∨ i = 24 := by omega
  rcases this with rfl | rfl | rfl | rfl | rfl | rfl | rfl | rfl | rfl | rfl | rfl | rfl | rfl | rfl | rfl | rfl | rfl | rfl | rfl | rfl | rfl | rfl | rfl | rfl | rfl
  · rw [nm_0]; exact clifford_hit hit_0 w
  · rw [nm_1]; exact clifford_hit hit_1 w
  · rw [nm_2]; exact clifford_hit hit_2 w
  · rw [nm_3]; exact clifford_hit hit_3 w
  · rw [nm_4]; exact clifford_hit hit_4 w
  · rw [nm_5]; exact clifford_hit hit_5 w
  · rw [nm_6]; exact clifford_hit hit_6 w
  · rw [nm_7]; exact clifford_hit hit_7 w
  · rw [nm_8]; exact clifford_hit hit_8 w
  · rw [nm_9]; exact clifford_hit hit_9 w
  · rw [nm_10]; exact clifford_hit hit_10 w
  · rw [nm_11]; exact clifford_hit hit_11 w
  · rw [nm_12]; exact clifford_hit hit_12 w
  · rw [nm_13]; exact clifford_hit hit_13 w
  · rw [nm_14]; exact clifford_hit hit_14 w
  · rw [nm_15]; exact clifford_hit hit_15 w
  · rw [nm_16]; exact clifford_hit hit_16 w
  · rw [nm_17]; exact clifford_hit hit_17 w
  · rw [nm_18]; exact clifford_hit hit_18 w
  · rw [nm_19]; exact clifford_hit hit_19 w
  · rw [nm_20]; exact clifford_hit hit_20 w
  · rw [nm_21]; exact clifford_hit hit_21 w
  · rw [nm_22]; exact clifford_hit hit_22 w
  · rw [nm_23]; exact clifford_hit hit_23 w
  · rw [nm_24]; exact clifford_hit hit_24 w
/-- An entry as a number. -/
def eO : Option (Nat × Int) → A5
  | none => a0
  | some (m, h) => ⟨⟨tA m 1 0 0 0, tB m 1 0 0 0, tC m 1 0 0 0, tD m 1 0 0 0⟩, h.toNat⟩
def eA (i : Nat) : Nat → Nat → A5 := fun x y => eO (ec i x y)
theorem eA_cells (i : Nat) (hi : i < 25) (x y : Nat) (hx : x < 2 ^ qOf i) (hy : y < 2 ^ qOf i) : matA (ens i) (2 ^ qOf i) x y = (eA i x y).cells := by
  rw [mat_c]
  show cellsO (ec i x y) = (eO (ec i x y)).cells
  rcases ((gate_ok i hi).cell y x hy hx).2 with ⟨m, h, e, s⟩ | ⟨e, _⟩
  · rw [e]
    have := s.h0
    show unL m h = [_, _, .int .i64 ((h.toNat : Nat) : Int)]
    rw [Int.toNat_of_nonneg this]
    rfl
  · rw [e]; rfl
def eqA (x y : A5) : Bool := decide (x.q.a = y.q.a) && decide (x.q.b = y.q.b) && decide (x.q.c = y.q.c) && decide (x.q.d = y.q.d) && decide (x.k = y.k)
theorem eqA_eq {x y : A5} (h : eqA x y = true) : x = y := by
  unfold eqA at h
  simp only [Bool.and_eq_true, decide_eq_true_eq] at h
  obtain ⟨⟨a, b, c, d⟩, k⟩ := x
  obtain ⟨⟨a', b', c', d'⟩, k'⟩ := y
  simp only at h
  obtain ⟨⟨⟨⟨rfl, rfl⟩, rfl⟩, rfl⟩, rfl⟩ := h
  rfl
def okXY (A B : Nat → Nat → A5) (N x y : Nat) : Bool := (A x y).chk && dotOk A B x y N && eqA (dotP A B x y N) (oneA x y) && dotOk B A x y N && eqA (dotP B A x y N) (oneA x y) && eqA (A y x).conj (B x y)
/-- A matrix from a list of rows. -/
def ofL (l : List (List A5)) : Nat → Nat → A5 := fun x y => (l.getD x []).getD y a0
def toL (A : Nat → Nat → A5) (N : Nat) : List (List A5) := (List.range N).map fun x => (List.range N).map fun y => A x y
def okBack (i : Nat) : Bool := decide (iv i < 25) && decide (iv (iv i) = i) && decide (qOf (iv i) = qOf i) && decide (hOf (iv i) = hOf i) && (cOf (iv i) == cOf i) && (dOf (iv i) == dOf i)
  && (List.range (2 ^ qOf i)).all fun x => (List.range (2 ^ qOf i)).all fun y => okXY (eA i) (eA (iv i)) (2 ^ qOf i) x y
set_option maxRecDepth 1000000 in
theorem back_1 : ∀ i : Fin 13, okBack i = true := by decide +kernel
set_option maxRecDepth 1000000 in
theorem back_2 : ∀ i : Fin 9, okBack (13 + i) = true := by decide +kernel
set_option maxRecDepth 1000000 in
theorem back_3 : ∀ i : Fin 3, okBack (22 + i) = true := by decide +kernel
theorem back_all (i : Nat) (hi : i < 25) : okBack i = true := by
  by_cases h1 : i < 13
  · exact back_1 ⟨i, h1⟩
  · by_cases h2 : i < 22
    · have := back_2 ⟨i - 13, by omega⟩
      rwa [show 13 + ((⟨i - 13, by omega⟩ : Fin 9) : Nat) = i by show 13 + (i - 13) = i; omega] at this
    · have := back_3 ⟨i - 22, by omega⟩
      rwa [show 22 + ((⟨i - 22, by omega⟩ : Fin 3) : Nat) = i by show 22 + (i - 22) = i; omega] at this
structure BackOk (i : Nat) : Prop where
  iv : iv i < 25
  ii : Go.Proofs.Ytjmgcgjmaemgdaa.iv (Go.Proofs.Ytjmgcgjmaemgdaa.iv i) = i
  q : qOf (Go.Proofs.Ytjmgcgjmaemgdaa.iv i) = qOf i
  h : hOf (Go.Proofs.Ytjmgcgjmaemgdaa.iv i) = hOf i
  c : cOf (Go.Proofs.Ytjmgcgjmaemgdaa.iv i) = cOf i
  d : dOf (Go.Proofs.Ytjmgcgjmaemgdaa.iv i) = dOf i
  xy : ∀ x y, x < 2 ^ qOf i → y < 2 ^ qOf i → okXY (eA i) (eA (Go.Proofs.Ytjmgcgjmaemgdaa.iv i)) (2 ^ qOf i) x y = true
theorem back_ok (i : Nat) (hi : i < 25) : BackOk i := by
  have h := back_all i hi
  simp only [okBack, Bool.and_eq_true, List.all_eq_true, List.mem_range, decide_eq_true_eq, beq_iff_eq] at h
  obtain ⟨⟨⟨⟨⟨⟨h1, h2⟩, h3⟩, h4⟩, h5⟩, h6⟩, h7⟩ := h
  exact ⟨h1, h2, h3, h4, h5, h6, fun x y hx hy => h7 x hx y hy⟩
theorem ok_xy {A B : Nat → Nat → A5} {N x y : Nat} (h : okXY A B N x y = true) : (A x y).chk = true ∧ dotOk A B x y N = true ∧ mulP A B N x y = oneA x y ∧ dotOk B A x y N = true ∧ mulP B A N x y = oneA x y ∧ adjP A x y = B x y := by
  unfold okXY at h
  simp only [Bool.and_eq_true] at h
  obtain ⟨⟨⟨⟨⟨h1, h2⟩, h3⟩, h4⟩, h5⟩, h6⟩ := h
  exact ⟨h1, h2, eqA_eq h3, h4, eqA_eq h5, eqA_eq h6⟩
end Go.Proofs.Ytjmgcgjmaemgdaa
