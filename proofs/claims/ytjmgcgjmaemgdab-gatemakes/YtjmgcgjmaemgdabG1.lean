/-
  The law GateMakes: its rows in memory, and its loop.
-/
import Derived.Test.YtjmgcgjmaemgdabG0
import Derived.Test.YtjmgcgjmaemgdabC7
import Derived.Test.YtjmgcgjmaemgdabK6
import Derived.ProofKit
import Derived.OpenShut
import Derived.Carry
namespace Go.Proofs.Ytjmgcgjmaemgdab
open Go.ChangeShapes Go.WideShapes Go.ChangeAt Go.RowKit Go.Sort

def allocL (w : World) : List Obj → World
  | [] => w
  | o :: os => allocL (w.alloc o) os
theorem allocL_old (w : World) (os : List Obj) (b : Nat) (h : b < w.heap.size) : (allocL w os).heap[b]? = w.heap[b]? := by
  induction os generalizing w with
  | nil => rfl
  | cons o os ih =>
    have s1 : (w.alloc o).heap.size = w.heap.size + 1 := by simp [go_sem]
    rw [allocL, ih _ (by omega), (MapKept.heap_alloc w o).2 b h]
theorem allocL_at (w : World) (os : List Obj) (t : Nat) (o : Obj) (h : os[t]? = some o) : (allocL w os).heap[w.heap.size + t]? = some o := by
  induction os generalizing w t with
  | nil => simp at h
  | cons o' os ih =>
    have s1 : (w.alloc o').heap.size = w.heap.size + 1 := by simp [go_sem]
    rw [allocL]
    cases t with
    | zero =>
      simp at h
      subst h
      rw [allocL_old _ _ _ (by omega)]
      exact (MapKept.heap_alloc w o').1
    | succ t =>
      have := ih (w.alloc o') t (by simpa using h)
      rw [s1] at this
      rw [show w.heap.size + (t + 1) = w.heap.size + 1 + t by omega]
      exact this
theorem allocL_size (w : World) (os : List Obj) : (allocL w os).heap.size = w.heap.size + os.length := by
  induction os generalizing w with
  | nil => rfl
  | cons o os ih =>
    have s1 : (w.alloc o).heap.size = w.heap.size + 1 := by simp [go_sem]
    rw [allocL, ih, s1, List.length_cons]; omega
theorem allocL_below (w : World) (os : List Obj) : Below w.heap.size w (allocL w os) := by
  induction os generalizing w with
  | nil => exact Below.refl _ _
  | cons o os ih => exact btr (bal (Below.refl _ _) o) (ih _)
def sC (r : Nat) : Obj := .cells ((rw_ r).map fun i => Value.string (nm i)).toArray 9
def sS (A : Nat) : Obj := .cells ((List.range 10).map fun r => Value.slice (some ⟨A + r, 0, none⟩) (ln r + 1) (ln r + 1)).toArray 23
def tL (A : Nat) : List Obj := [sC 0, sC 1, sC 2, sC 3, sC 4, sC 5, sC 6, sC 7, sC 8, sC 9, sS A]
structure TB (W : World) (A : Nat) : Prop where
  r : ∀ r, r < 10 → W.cell? ⟨A + 10, r, none⟩ = some (.slice (some ⟨A + r, 0, none⟩) (ln r + 1) (ln r + 1))
  s : ∀ r j, r < 10 → j < ln r + 1 → W.cell? ⟨A + r, j, none⟩ = some (.string (nm (ix r j)))
  lt : A + 10 < W.heap.size
theorem TB.on {W W2 : World} {A : Nat} (h : TB W A) (hb : Below W.heap.size W W2) : TB W2 A :=
  ⟨fun r hr => (hb.cell (p := ⟨A + 10, r, none⟩) h.lt).trans (h.r r hr), fun r j hr hj => (hb.cell (p := ⟨A + r, j, none⟩) (by have := h.lt; show A + r < _; omega)).trans (h.s r j hr hj), Nat.lt_of_lt_of_le h.lt hb.size⟩
theorem tb_new (w : World) : TB (allocL w (tL w.heap.size)) w.heap.size := by
  refine ⟨fun r hr => ?_, fun r j hr hj => ?_, ?_⟩
  · refine cell_of (allocL_at w _ 10 (sS w.heap.size) rfl) ?_
    simp [List.getElem?_range hr]
  · have hs : (tL w.heap.size)[r]? = some (sC r) := by
      have : r = 0 ∨ r = 1 ∨ r = 2 ∨ r = 3 ∨ r = 4 ∨ r = 5 ∨ r = 6 ∨ r = 7 ∨ r = 8 ∨ r = 9 := by omega
      rcases this with rfl | rfl | rfl | rfl | rfl | rfl | rfl | rfl | rfl | rfl <;> rfl
    refine cell_of (allocL_at w _ r (sC r) hs) ?_
    have hl := (mk_ok r hr).len
    simp only [List.getElem?_toArray, List.getElem?_map]
    rw [List.getElem?_eq_getElem (by omega)]
    simp only [Option.map_some, ix, List.getD_eq_getElem?_getD]
    rw [List.getElem?_eq_getElem (by omega)]
    rfl
  · rw [allocL_size]; show _ < _ + 11; omega
set_option maxRecDepth 100000 in
theorem tb_is (w : World) : (((((((((((w.alloc (.cells #[.string ⟨#[122]⟩, .string ⟨#[115]⟩, .string ⟨#[115]⟩] 9)).alloc (.cells #[.string ⟨#[115]⟩, .string ⟨#[116]⟩, .string ⟨#[116]⟩] 9)).alloc (.cells #[.string ⟨#[120]⟩, .string ⟨#[118]⟩, .string ⟨#[118]⟩] 9)).alloc (.cells #[.string ⟨#[122]⟩, .string ⟨#[104]⟩, .string ⟨#[120]⟩, .string ⟨#[104]⟩] 9)).alloc (.cells #[.string ⟨#[120]⟩, .string ⟨#[104]⟩, .string ⟨#[122]⟩, .string ⟨#[104]⟩] 9)).alloc (.cells #[.string ⟨#[121]⟩, .string ⟨#[115]⟩, .string ⟨#[120]⟩, .string ⟨#[115, 100, 103]⟩] 9)).alloc (.cells #[.string ⟨#[105]⟩, .string ⟨#[119]⟩, .string ⟨#[119]⟩, .string ⟨#[119]⟩, .string ⟨#[119]⟩, .string ⟨#[119]⟩, .string ⟨#[119]⟩, .string ⟨#[119]⟩, .string ⟨#[119]⟩] 9)).alloc (.cells #[.string ⟨#[105]⟩, .string ⟨#[104]⟩, .string ⟨#[104]⟩] 9)).alloc (.cells #[.string ⟨#[99, 122]⟩, .string ⟨#[99, 115]⟩, .string ⟨#[99, 115]⟩] 9)).alloc (.cells #[.string ⟨#[115, 119, 97, 112]⟩, .string ⟨#[105, 115, 119, 97, 112]⟩, .string ⟨#[105, 115, 119, 97, 112, 100, 103]⟩, .string ⟨#[115, 119, 97, 112]⟩] 9)).alloc (.cells #[.slice (some ⟨w.heap.size, 0, none⟩) 3 3, .slice (some ⟨w.heap.size + 1, 0, none⟩) 3 3, .slice (some ⟨w.heap.size + 1 + 1, 0, none⟩) 3 3, .slice (some ⟨w.heap.size + 1 + 1 + 1, 0, none⟩) 4 4, .slice (some ⟨w.heap.size + 1 + 1 + 1 + 1, 0, none⟩) 4 4, .slice (some ⟨w.heap.size + 1 + 1 + 1 + 1 + 1, 0, none⟩) 4 4, .slice (some ⟨w.heap.size + 1 + 1 + 1 + 1 + 1 + 1, 0, none⟩) 9 9, .slice (some ⟨w.heap.size + 1 + 1 + 1 + 1 + 1 + 1 + 1, 0, none⟩) 3 3, .slice (some ⟨w.heap.size + 1 + 1 + 1 + 1 + 1 + 1 + 1 + 1, 0, none⟩) 3 3, .slice (some ⟨w.heap.size + 1 + 1 + 1 + 1 + 1 + 1 + 1 + 1 + 1, 0, none⟩) 4 4] 23)) = allocL w (tL w.heap.size) := by
  rfl
theorem ln_is : ∀ r : Fin 10, ln r = 2 ∨ ln r = 3 ∨ ln r = 8 := by decide +kernel
set_option maxRecDepth 100000 in
set_option maxHeartbeats 2000000 in
theorem makes_law (w : World) : Calls Try.prog 3 #[] w fun e w' => e = .returned (.bool true) ∧ Below w.heap.size w w' := by
  have AL := alive_any w
  have SA : ∀ V M M' N A, MR V M N A → MR V M' N A → N ≤ 8 → (∀ x y, x < N → y < N → (A x y).chk = true) → Calls Try.prog 6 #[mv M N, mv M' N] V fun e w' => e = .returned (.bool true) ∧ Below V.heap.size V w' := fun V M M' N A h h' h8 hc => same_any h h' h8 hc
  go_enter Try.func3, Try.ntmps3
  go_upto_region 5 with (go_at_call 4; (with_reducible refine AL.mono ?_); rintro e w1 ⟨rfl, hN1⟩)
  rw [tb_is w1]
  have hI : Hid (Below w.heap.size w (allocL w1 (tL w1.heap.size)) ∧ TB (allocL w1 (tL w1.heap.size)) w1.heap.size) := ⟨btr hN1 (allocL_below _ _), tb_new w1⟩
  obtain ⟨C, hC⟩ : ∃ C, C = w1.heap.size + 1 + 1 + 1 + 1 + 1 + 1 + 1 + 1 + 1 + 1 := ⟨_, rfl⟩
  rw [← hC]
  have hC2 : C = w1.heap.size + 10 := hC
  clear hC hN1 AL
  generalize allocL w1 (tL w1.heap.size) = W at *
  generalize w1.heap.size = A at *
  subst hC2
  go_loopw [2] (fun v wr => ∃ k : Nat, k ≤ 10 ∧ v = .int .i64 k ∧ Hid (Below w.heap.size w wr ∧ TB wr A)) (fun v _ => 10 - (intOf v).toNat)
  case atStart => exact ⟨0, by omega, rfl, hI⟩
  case round =>
    clear hI
    obtain ⟨k, hk, rfl, hH⟩ := hrel
    by_cases hlt : k < 10
    · have R := mk_ok k hlt
      have ck := hH.out.2.r k hlt
      have CK : ∀ V, TB V A → V.cell? ⟨A + 10, k, none⟩ = some (.slice (some ⟨A + k, 0, none⟩) (ln k + 1) (ln k + 1)) := fun V h => h.r k hlt
      have c0 := hH.out.2.s k 0 hlt (by omega)
      have M0 : ∀ w, Calls Try.prog 5 #[.string (nm (ix k 0))] w fun e w' => ∃ M, e = .returned (.tuple #[mv M (nOf k), .int .i64 0]) ∧ Below w.heap.size w w' ∧ MR w' M (nOf k) (eA (ix k 0)) := matrix_num (ix k 0) (R.i 0 (by omega)).1
      have PR : ∀ V c, TB V A → Calls Try.prog 7 #[.slice (some ⟨A + k, 1, none⟩) (ln k) c] V fun e w' => ∃ P, e = .returned (mv P (nOf k)) ∧ Below V.heap.size V w' ∧ MR w' P (nOf k) (eA (ix k 0)) := fun V c hT => product_any k R (A + k) c (fun j hj => by
        have := hT.s k (j + 1) hlt (by omega)
        rwa [Nat.add_comm j 1] at this ⊢) (by have := hT.lt; omega)
      have SB : ∀ V M M', MR V M (nOf k) (eA (ix k 0)) → MR V M' (nOf k) (eA (ix k 0)) → Calls Try.prog 6 #[mv M (nOf k), mv M' (nOf k)] V fun e w' => e = .returned (.bool true) ∧ Below V.heap.size V w' := fun V M M' h h' => SA V M M' _ _ h h' (by have := R.n; omega) R.chk0
      have hn := ln_is ⟨k, hlt⟩
      simp only at hn
      clear R SA
      generalize nOf k = N at *
      generalize eA (ix k 0) = E at *
      generalize nm (ix k 0) = s at *
      generalize ln k = n at *
      rcases hn with rfl | rfl | rfl
      all_goals
        go_wp2_with (first
          | (go_at_call 5; (with_reducible refine (M0 _).mono ?_); rintro e w2 ⟨P, rfl, hN, hM⟩; have hT := hH.out.2.on hN; have hB := btr hH.out.1 hN; have ck2 := CK _ hT)
          | (go_at_call 7; (with_reducible refine (PR _ _ hT).mono ?_); rintro e w3 ⟨P3, rfl, hN3, hM3⟩; replace hT := hT.on hN3; replace hB := btr hB hN3; replace hM := hM.on hN3)
          | (go_at_call 6; (with_reducible refine (SB _ _ _ hM hM3).mono ?_); rintro e w4 ⟨rfl, hN4⟩; replace hT := hT.on hN4; replace hB := btr hB hN4))
        go_roundw
        case rel => exact ⟨k + 1, by omega, by go_num, hB, hT⟩
        case measure => simp [intOf]; omega
    · obtain rfl : k = 10 := by omega
      go_wp2
      go_ret
      exact ⟨by simp, hH.out.1⟩
end Go.Proofs.Ytjmgcgjmaemgdab
