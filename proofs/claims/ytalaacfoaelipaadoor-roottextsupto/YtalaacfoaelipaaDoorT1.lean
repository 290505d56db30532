/-
  Blocks of four words that a call has made for itself.
-/
import Derived.Test.YtalaacfoaelipaaDoorG2
import Derived.Test.YtalaacfoaelipaaDoorWm
import Derived.Test.YtalaacfoaelipaaDoorT0
namespace Go.Proofs.YtalaacfoaelipaaDoor
open Go.RowKit Go.Sort

/-- A block of four cells, from n on, that may be written. -/
structure Own (n : Nat) (W : World) (B : Nat) : Prop where
  ge : n ≤ B
  c0 : (W.cell? ⟨B, 0, none⟩).isSome = true
  c1 : (W.cell? ⟨B, 1, none⟩).isSome = true
  c2 : (W.cell? ⟨B, 2, none⟩).isSome = true
  c3 : (W.cell? ⟨B, 3, none⟩).isSome = true
  fz : ∀ i, W.frozen? ⟨B, i, none⟩ = false
theorem Own.lt {n : Nat} {W : World} {B : Nat} (h : Own n W B) : B < W.heap.size := by
  obtain ⟨v, hv⟩ := Option.isSome_iff_exists.1 h.c0
  exact block_lt_of_cell hv
/-- The block holds the words of v. -/
structure Wds (W : World) (B : Nat) (v : Int) : Prop where
  c0 : W.cell? ⟨B, 0, none⟩ = some (.int .u64 (q3 v))
  c1 : W.cell? ⟨B, 1, none⟩ = some (.int .u64 (q2 v))
  c2 : W.cell? ⟨B, 2, none⟩ = some (.int .u64 (q1 v))
  c3 : W.cell? ⟨B, 3, none⟩ = some (.int .u64 (q0 v))
theorem Wds.lt {W : World} {B : Nat} {v : Int} (h : Wds W B v) : B < W.heap.size := block_lt_of_cell h.c0
theorem Own.below {n : Nat} {W W' : World} {B : Nat} (h : Own n W B) (hb : Below W.heap.size W W') : Own n W' B := by
  obtain ⟨hc, hf⟩ := bcell hb
  have hl := h.lt
  exact ⟨h.ge, by rw [hc _ _ hl]; exact h.c0, by rw [hc _ _ hl]; exact h.c1, by rw [hc _ _ hl]; exact h.c2, by rw [hc _ _ hl]; exact h.c3, fun i => by rw [hf _ _ hl]; exact h.fz i⟩
theorem Wds.below {W W' : World} {B : Nat} {v : Int} (h : Wds W B v) (hb : Below W.heap.size W W') : Wds W' B v := by
  obtain ⟨hc, hf⟩ := bcell hb
  have hl := h.lt
  exact ⟨(hc _ _ hl).trans h.c0, (hc _ _ hl).trans h.c1, (hc _ _ hl).trans h.c2, (hc _ _ hl).trans h.c3⟩
theorem Own.new {n : Nat} {W : World} (z0 z1 z2 z3 : Value) (t : TypeId) (h : n ≤ W.heap.size) : Own n (W.alloc (.cells #[z0, z1, z2, z3] t)) W.heap.size where
  ge := h
  c0 := by rw [World.cell?_alloc_at _ _ _ _ rfl]; rfl
  c1 := by rw [World.cell?_alloc_at _ _ _ _ rfl]; rfl
  c2 := by rw [World.cell?_alloc_at _ _ _ _ rfl]; rfl
  c3 := by rw [World.cell?_alloc_at _ _ _ _ rfl]; rfl
  fz := fun i => World.frozen?_alloc_at _ _ _ _ rfl
/-- The words of v, stored into block B. -/
def st4 (W : World) (B : Nat) (v : Int) : World :=
  (((W.setCell ⟨B, 0, none⟩ (.int .u64 (q3 v))).setCell ⟨B, 1, none⟩ (.int .u64 (q2 v))).setCell ⟨B, 2, none⟩ (.int .u64 (q1 v))).setCell ⟨B, 3, none⟩ (.int .u64 (q0 v))
theorem st4_far {W : World} {B C : Nat} {v : Int} (h : B ≠ C) (i : Nat) : (st4 W B v).cell? ⟨C, i, none⟩ = W.cell? ⟨C, i, none⟩ := by
  unfold st4
  rw [World.cell?_setCell_far _ _ _ _ h, World.cell?_setCell_far _ _ _ _ h, World.cell?_setCell_far _ _ _ _ h, World.cell?_setCell_far _ _ _ _ h]
theorem off_ne {B i j : Nat} (h : i ≠ j) : (⟨B, i, none⟩ : Addr) ≠ ⟨B, j, none⟩ := fun e => h (by injection e)
theorem sco (w : World) (B i j : Nat) (v : Value) (h : i ≠ j) : (w.setCell ⟨B, i, none⟩ v).cell? ⟨B, j, none⟩ = w.cell? ⟨B, j, none⟩ := World.cell?_setCell_other _ _ _ _ (off_ne h)
theorem st4_same {n : Nat} {W : World} {B : Nat} (v : Int) (h : Own n W B) : Wds (st4 W B v) B v := by
  have h0 := h.c0; have h1 := h.c1; have h2 := h.c2; have h3 := h.c3
  unfold st4
  constructor
  · rw [sco _ _ 3 0 _ (by decide), sco _ _ 2 0 _ (by decide), sco _ _ 1 0 _ (by decide), World.cell?_setCell_same' _ _ _ h0]
  · rw [sco _ _ 3 1 _ (by decide), sco _ _ 2 1 _ (by decide), World.cell?_setCell_same' _ _ _ (by rw [sco _ _ 0 1 _ (by decide)]; exact h1)]
  · rw [sco _ _ 3 2 _ (by decide), World.cell?_setCell_same' _ _ _ (by rw [sco _ _ 1 2 _ (by decide), sco _ _ 0 2 _ (by decide)]; exact h2)]
  · rw [World.cell?_setCell_same' _ _ _ (by rw [sco _ _ 2 3 _ (by decide), sco _ _ 1 3 _ (by decide), sco _ _ 0 3 _ (by decide)]; exact h3)]
theorem Own.st {n : Nat} {W : World} {B C : Nat} {v : Int} (hB : Own n W B) (h : Own n W C) : Own n (st4 W B v) C := by
  have hf : ∀ i, (st4 W B v).frozen? ⟨C, i, none⟩ = false := fun i => by unfold st4; simp; exact h.fz i
  by_cases e : B = C
  · subst e
    have s := st4_same v hB
    exact ⟨h.ge, by rw [s.c0]; rfl, by rw [s.c1]; rfl, by rw [s.c2]; rfl, by rw [s.c3]; rfl, hf⟩
  · exact ⟨h.ge, by rw [st4_far e]; exact h.c0, by rw [st4_far e]; exact h.c1, by rw [st4_far e]; exact h.c2, by rw [st4_far e]; exact h.c3, hf⟩
theorem Wds.st {W : World} {B C : Nat} {u v : Int} (e : B ≠ C) (h : Wds W C u) : Wds (st4 W B v) C u :=
  ⟨(st4_far e _).trans h.c0, (st4_far e _).trans h.c1, (st4_far e _).trans h.c2, (st4_far e _).trans h.c3⟩
theorem below_st {a W : World} {B : Nat} {v : Int} (h : Below a.heap.size a W) (hB : a.heap.size ≤ B) : Below a.heap.size a (st4 W B v) :=
  bset (bset (bset (bset h _ _ _ hB) _ _ _ hB) _ _ _ hB) _ _ _ hB
end Go.Proofs.YtalaacfoaelipaaDoor
