/-
  The matrix of each gate.
-/
import Derived.Test.YtjmgcgjmaemgdaaM4
import Derived.Test.YtjmgcgjmaemgdaaM5
import Derived.Test.YtjmgcgjmaemgdaaM6
namespace Go.Proofs.Ytjmgcgjmaemgdaa
open Go.RowKit Go.Sort

set_option maxRecDepth 100000 in
theorem row_ok : ∀ i : Fin 25, ∀ y : Fin 8, ∀ j : Fin 2, y.val < 2 ^ qOf i → 0 ≤ enR (ens i y) j ∧ (j.val < (ens i y).length → enR (ens i y) j < 2 ^ qOf i) := by decide +kernel
theorem ens_eok (i y : Nat) (hi : i < 25) (hy : y < 2 ^ qOf i) : Eok (ens i y) (2 ^ qOf i) := fun j hj => by
  have h8 : y < 8 := Nat.lt_of_lt_of_le hy (q_le ⟨i, hi⟩)
  have h2 : j < 2 := Nat.lt_of_lt_of_le hj (ens_len ⟨i, hi⟩ ⟨y, h8⟩)
  have hr := row_ok ⟨i, hi⟩ ⟨y, h8⟩ ⟨j, h2⟩ hy
  have hr1 := hr.1
  have hr2 := hr.2 hj
  simp only at hr1 hr2
  refine ⟨(enR (ens i y) j).toNat, ?_, ?_, ens_va i y hi hy j hj⟩
  · omega
  · have e : ((2 ^ qOf i : Nat) : Int) = (2 : Int) ^ qOf i := by simp
    omega
set_option maxRecDepth 100000 in
theorem matrix_all (i : Nat) (hi : i < 25) (w : World) : Calls Try.prog 18 #[.string (nm i)] w fun e w' => ∃ M, e = .returned (.tuple #[.slice (some ⟨M, 0, none⟩) (2 ^ qOf i) (2 ^ qOf i), .int .i64 0]) ∧ MX w w' M (2 ^ qOf i) (matA (ens i) (2 ^ qOf i)) := by
  have EN := fun y (hy : y < 2 ^ qOf i) => en_all i y hi hy
  have VA := fun y (hy : y < 2 ^ qOf i) => ens_eok i y hi hy
  have LE : ∀ y, y < 2 ^ qOf i → (ens i y).length ≤ 8 := fun y hy => Nat.le_trans (ens_len ⟨i, hi⟩ ⟨y, Nat.lt_of_lt_of_le hy (q_le ⟨i, hi⟩)⟩) (by decide)
  generalize ens i = LS at *
  have : i = 0 ∨ i = 1 ∨ i = 2 ∨ i = 3 ∨ i = 4 ∨ i = 5 ∨ i = 6 ∨ i = 7 ∨ i = 8 ∨ i = 9 ∨ i = 10 ∨ i = 11 ∨ i = 12 ∨ i = 13 ∨ i = 14 ∨ i = 15 ∨ i = 16 ∨ i = 17 ∨ i = 18 ∨ i = 19 ∨ i = 20 ∨ i = 21 ∨ i = 22 ∨ i = 23 ∨ i = 24 := by omega
  rcases this with rfl | rfl | rfl | rfl | rfl | rfl | rfl | rfl | rfl | rfl | rfl | rfl | rfl | rfl | rfl | rfl | rfl | rfl | rfl | rfl | rfl | rfl | rfl | rfl | rfl
  · rw [kvOf_0] at EN
    rw [qOf_0] at *
    rw [nm_0]
    exact matrix_1 hit_0 LS w EN VA LE
  · rw [kvOf_1] at EN
    rw [qOf_1] at *
    rw [nm_1]
    exact matrix_1 hit_1 LS w EN VA LE
  · rw [kvOf_2] at EN
    rw [qOf_2] at *
    rw [nm_2]
    exact matrix_1 hit_2 LS w EN VA LE
  · rw [kvOf_3] at EN
    rw [qOf_3] at *
    rw [nm_3]
    exact matrix_1 hit_3 LS w EN VA LE
  · rw [kvOf_4] at EN
    rw [qOf_4] at *
    rw [nm_4]
    exact matrix_1 hit_4 LS w EN VA LE
  · rw [kvOf_5] at EN
    rw [qOf_5] at *
    rw [nm_5]
    exact matrix_1 hit_5 LS w EN VA LE
  · rw [kvOf_6] at EN
    rw [qOf_6] at *
    rw [nm_6]
    exact matrix_1 hit_6 LS w EN VA LE
  · rw [kvOf_7] at EN
    rw [qOf_7] at *
    rw [nm_7]
    exact matrix_1 hit_7 LS w EN VA LE
  · rw [kvOf_8] at EN
    rw [qOf_8] at *
    rw [nm_8]
    exact matrix_1 hit_8 LS w EN VA LE
  · rw [kvOf_9] at EN
    rw [qOf_9] at *
    rw [nm_9]
    exact matrix_1 hit_9 LS w EN VA LE
  · rw [kvOf_10] at EN
    rw [qOf_10] at *
    rw [nm_10]
    exact matrix_1 hit_10 LS w EN VA LE
  · rw [kvOf_11] at EN
    rw [qOf_11] at *
    rw [nm_11]
    exact matrix_1 hit_11 LS w EN VA LE
  · rw [kvOf_12] at EN
    rw [qOf_12] at *
    rw [nm_12]
    exact matrix_1 hit_12 LS w EN VA LE
  · rw [kvOf_13] at EN
    rw [qOf_13] at *
    rw [nm_13]
    exact matrix_2 hit_13 LS w EN VA LE
  · rw [kvOf_14] at EN
    rw [qOf_14] at *
    rw [nm_14]
    exact matrix_2 hit_14 LS w EN VA LE
  · rw [kvOf_15] at EN
    rw [qOf_15] at *
    rw [nm_15]
    exact matrix_2 hit_15 LS w EN VA LE
  · rw [kvOf_16] at EN
    rw [qOf_16] at *
    rw [nm_16]
    exact matrix_2 hit_16 LS w EN VA LE
  · rw [kvOf_17] at EN
    rw [qOf_17] at *
    rw [nm_17]
    exact matrix_2 hit_17 LS w EN VA LE
  · rw [kvOf_18] at EN
    rw [qOf_18] at *
    rw [nm_18]
    exact matrix_2 hit_18 LS w EN VA LE
  · rw [kvOf_19] at EN
    rw [qOf_19] at *
    rw [nm_19]
    exact matrix_2 hit_19 LS w EN VA LE
  · rw [kvOf_20] at EN
    rw [qOf_20] at *
    rw [nm_20]
    exact matrix_2 hit_20 LS w EN VA LE
  · rw [kvOf_21] at EN
    rw [qOf_21] at *
    rw [nm_21]
    exact matrix_2 hit_21 LS w EN VA LE
  · rw [kvOf_22] at EN
    rw [qOf_22] at *
    rw [nm_22]
    exact matrix_3 hit_22 LS w EN VA LE
  · rw [kvOf_23] at EN
    rw [qOf_23] at *
    rw [nm_23]
    exact matrix_3 hit_23 LS w EN VA LE
  · rw [kvOf_24] at EN
    rw [qOf_24] at *
    rw [nm_24]
    exact matrix_3 hit_24 LS w EN VA LE
/-- An entry of a matrix: nought, or w to the m over r to the h. -/
def cellsO : Option (Nat × Int) → List Value
  | none => zc
  | some (m, h) => unL m h
def updC (C : Nat → Nat → Option (Nat × Int)) (x y : Nat) (l : Nat × Int) : Nat → Nat → Option (Nat × Int) := fun x' y' => if x' = x ∧ y' = y then some l else C x' y'
def stepC (C : Nat → Nat → Option (Nat × Int)) (y : Nat) (L : List (Int × Int × Int)) : Nat → Nat → Nat → Option (Nat × Int)
  | 0 => C
  | k + 1 => updC (stepC C y L k) (enR L k).toNat y (mo (enP L k), enH L k)
def matC (LS : Nat → List (Int × Int × Int)) : Nat → Nat → Nat → Option (Nat × Int)
  | 0 => fun _ _ => none
  | y + 1 => stepC (matC LS y) y (LS y) (LS y).length
theorem step_c (A : Nat → Nat → List Value) (C : Nat → Nat → Option (Nat × Int)) (h : ∀ x y, A x y = cellsO (C x y)) (y : Nat) (L : List (Int × Int × Int)) (k : Nat) : ∀ x y', stepA A y L k x y' = cellsO (stepC C y L k x y') := by
  induction k with
  | zero => exact h
  | succ k ih =>
    intro x y'
    simp only [stepA, stepC, upd, updC]
    split
    · rfl
    · exact ih x y'
theorem mat_c (LS : Nat → List (Int × Int × Int)) (n : Nat) : ∀ x y, matA LS n x y = cellsO (matC LS n x y) := by
  induction n with
  | zero => intro x y; rfl
  | succ n ih => exact step_c _ _ ih n (LS n) _
/-- The entry of gate i in row x and column y. -/
def ec (i x y : Nat) : Option (Nat × Int) := matC (ens i) (2 ^ qOf i) x y
end Go.Proofs.Ytjmgcgjmaemgdaa
