/-
  Matrices in memory; gate.noughts.
-/
import Derived.Test.YtjmgcgjmaemgdaaN1
namespace Go.Proofs.Ytjmgcgjmaemgdaa
open Go.RowKit Go.Sort

/-- n blocks more, all alike. -/
def allocs (W : World) (o : Obj) : Nat → World
  | 0 => W
  | n + 1 => (allocs W o n).alloc o
theorem allocs_size (W : World) (o : Obj) (n : Nat) : (allocs W o n).heap.size = W.heap.size + n := by
  induction n with
  | zero => rfl
  | succ n ih =>
    have : ((allocs W o n).alloc o).heap.size = (allocs W o n).heap.size + 1 := by simp [go_sem]
    rw [allocs, this, ih]; omega
theorem allocs_old (W : World) (o : Obj) (n r : Nat) (h : r < W.heap.size) : (allocs W o n).heap[r]? = W.heap[r]? := by
  induction n with
  | zero => rfl
  | succ n ih => rw [allocs, (MapKept.heap_alloc _ o).2 r (by rw [allocs_size]; omega), ih]
theorem allocs_new (W : World) (o : Obj) (n x : Nat) (h : x < n) : (allocs W o n).heap[W.heap.size + x]? = some o := by
  induction n with
  | zero => omega
  | succ n ih =>
    rw [allocs]
    by_cases e : x < n
    · rw [(MapKept.heap_alloc _ o).2 _ (by rw [allocs_size]; omega), ih e]
    · obtain rfl : x = n := by omega
      have := (MapKept.heap_alloc (allocs W o x) o).1
      rwa [allocs_size] at this
theorem allocs_below (W : World) (o : Obj) (n : Nat) : Below W.heap.size W (allocs W o n) := by
  induction n with
  | zero => exact Below.refl _ _
  | succ n ih => exact bal ih _
/-- An amplitude's cells. -/
abbrev zc : List Value := [.complex .f64 0 0, .complex .f64 0 0, .int .i64 0]
/-- A row of noughts. -/
def ZR (N : Nat) : Array Value := ((List.range (N * 3)).map fun o => zc.getD (o % 3) (.int .i64 0)).toArray
theorem ZR_at {N y t : Nat} {v : Value} (hy : y < N) (hv : zc[t]? = some v) : (ZR N)[y * 3 + t]? = some v := by
  have ht : t < 3 := (List.getElem?_eq_some_iff.1 hv).1
  have e : (y * 3 + t) % 3 = t := by omega
  simp only [ZR, List.getElem?_toArray, List.getElem?_map, List.getElem?_range (show y * 3 + t < N * 3 by omega), Option.map_some, e, List.getD_eq_getElem?_getD, hv, Option.getD_some]
/-- A matrix of N rows and columns: its list of rows in block M, row x in block M + 1 + x. -/
structure MX (w W : World) (M N : Nat) (A : Nat → Nat → List Value) : Prop where
  below : Below w.heap.size w W
  ge : w.heap.size ≤ M
  m : ∀ x, x < N → W.cell? ⟨M, x, none⟩ = some (.slice (some ⟨M + 1 + x, 0, none⟩) N N)
  c : ∀ x y t v, x < N → y < N → (A x y)[t]? = some v → W.cell? ⟨M + 1 + x, y * 3 + t, none⟩ = some v
  f : ∀ x o, x < N → W.frozen? ⟨M + 1 + x, o, none⟩ = false
  len : ∀ x y, (A x y).length = 3
  lt : M + N < W.heap.size
def zA : Nat → Nat → List Value := fun _ _ => zc
theorem mx_new (w : World) (N : Nat) (ms : Array Value) (hm : ∀ x, x < N → ms[x]? = some (.slice (some ⟨w.heap.size + 1 + x, 0, none⟩) N N)) : MX w (allocs (w.alloc (.cells ms 37)) (.cells (ZR N) 46) N) w.heap.size N zA := by
  have s1 : (w.alloc (.cells ms 37)).heap.size = w.heap.size + 1 := by simp [go_sem]
  have h1 : Below w.heap.size w (w.alloc (.cells ms 37)) := bal (Below.refl _ _) _
  have hn := fun x (hx : x < N) => allocs_new (w.alloc (.cells ms 37)) (.cells (ZR N) 46) N x hx
  rw [s1] at hn
  refine ⟨btr h1 (allocs_below _ _ _), Nat.le_refl _, fun x hx => ?_, fun x y t v hx hy hv => cell_of (hn x hx) (ZR_at hy hv), fun x o hx => frozen_of (hn x hx) o, fun _ _ => rfl, ?_⟩
  · refine cell_of (cur := ms) (t := 37) ?_ (hm x hx)
    rw [allocs_old _ _ _ _ (by omega)]
    exact (MapKept.heap_alloc w _).1
  · rw [allocs_size, s1]; omega
theorem MX.on {w W W2 : World} {M N : Nat} {A : Nat → Nat → List Value} (h : MX w W M N A) (hb : Below W.heap.size W W2) : MX w W2 M N A :=
  ⟨btr h.below hb, h.ge, fun x hx => (hb.cell (p := ⟨M, x, none⟩) (by have := h.lt; show M < _; omega)).trans (h.m x hx), fun x y t v hx hy hv => (hb.cell (p := ⟨M + 1 + x, _, none⟩) (by have := h.lt; show M + 1 + x < _; omega)).trans (h.c x y t v hx hy hv),
    fun x o hx => (hb.frozen (p := ⟨M + 1 + x, o, none⟩) (by have := h.lt; show M + 1 + x < _; omega)).trans (h.f x o hx), h.len, Nat.lt_of_lt_of_le h.lt hb.size⟩
theorem MX.drew {w W : World} {M N : Nat} {A : Nat → Nat → List Value} (h : MX w W M N A) : MX w W.drew M N A := ⟨below_drew h.below, h.ge, h.m, h.c, h.f, h.len, h.lt⟩
theorem MX.base {w w0 W : World} {M N : Nat} {A : Nat → Nat → List Value} (h : MX w0 W M N A) (hb : Below w.heap.size w w0) : MX w W M N A := ⟨btr hb h.below, Nat.le_trans hb.size h.ge, h.m, h.c, h.f, h.len, h.lt⟩
/-- One entry written. -/
def upd (A : Nat → Nat → List Value) (x y : Nat) (l : List Value) : Nat → Nat → List Value := fun x' y' => if x' = x ∧ y' = y then l else A x' y'
theorem set_cell (W : World) (b o b' o' : Nat) (v : Value) (hs : (W.cell? ⟨b, o, none⟩).isSome) : (W.setCell ⟨b, o, none⟩ v).cell? ⟨b', o', none⟩ = if b' = b ∧ o' = o then some v else W.cell? ⟨b', o', none⟩ := by
  by_cases e : b' = b ∧ o' = o
  · obtain ⟨rfl, rfl⟩ := e
    rw [if_pos ⟨rfl, rfl⟩]
    exact World.cell?_setCell_same' _ _ _ hs
  · rw [if_neg e]
    exact World.cell?_setCell_other _ _ _ _ (fun g => e (by injection g with g1 g2; exact ⟨g1.symm, g2.symm⟩))
theorem MX.put {w W : World} {M N : Nat} {A : Nat → Nat → List Value} (h : MX w W M N A) (x y : Nat) (hx : x < N) (hy : y < N) (v0 v1 v2 : Value) :
    MX w (((W.setCell ⟨M + 1 + x, y * 3, none⟩ v0).setCell ⟨M + 1 + x, y * 3 + 1, none⟩ v1).setCell ⟨M + 1 + x, y * 3 + 2, none⟩ v2) M N (upd A x y [v0, v1, v2]) := by
  have hl := h.len x y
  have g : ∀ t, t < 3 → (W.cell? ⟨M + 1 + x, y * 3 + t, none⟩).isSome := fun t ht => by
    have := h.c x y t _ hx hy (List.getElem?_eq_getElem (by omega))
    rw [this]; rfl
  have g0 : (W.cell? ⟨M + 1 + x, y * 3, none⟩).isSome := g 0 (by omega)
  have g1 : ((W.setCell ⟨M + 1 + x, y * 3, none⟩ v0).cell? ⟨M + 1 + x, y * 3 + 1, none⟩).isSome := by rw [set_cell _ _ _ _ _ _ g0, if_neg (by omega)]; exact g 1 (by omega)
  have g2 : (((W.setCell ⟨M + 1 + x, y * 3, none⟩ v0).setCell ⟨M + 1 + x, y * 3 + 1, none⟩ v1).cell? ⟨M + 1 + x, y * 3 + 2, none⟩).isSome := by
    rw [set_cell _ _ _ _ _ _ g1, if_neg (by omega), set_cell _ _ _ _ _ _ g0, if_neg (by omega)]; exact g 2 (by omega)
  have key : ∀ b o, (((W.setCell ⟨M + 1 + x, y * 3, none⟩ v0).setCell ⟨M + 1 + x, y * 3 + 1, none⟩ v1).setCell ⟨M + 1 + x, y * 3 + 2, none⟩ v2).cell? ⟨b, o, none⟩ = if b = M + 1 + x ∧ o = y * 3 + 2 then some v2 else if b = M + 1 + x ∧ o = y * 3 + 1 then some v1 else if b = M + 1 + x ∧ o = y * 3 then some v0 else W.cell? ⟨b, o, none⟩ := fun b o => by
    rw [set_cell _ _ _ _ _ _ g2, set_cell _ _ _ _ _ _ g1, set_cell _ _ _ _ _ _ g0]
  have hge : w.heap.size ≤ M + 1 + x := by have := h.ge; omega
  refine ⟨bset (bset (bset h.below _ _ _ hge) _ _ _ hge) _ _ _ hge, h.ge, fun x' hx' => ?_, fun x' y' t v hx' hy' hv => ?_, fun x' o hx' => ?_, fun x' y' => ?_, by simpa using h.lt⟩
  · rw [key, if_neg (by omega), if_neg (by omega), if_neg (by omega)]; exact h.m x' hx'
  · unfold upd at hv
    by_cases e : x' = x ∧ y' = y
    · rw [if_pos e] at hv
      obtain ⟨rfl, rfl⟩ := e
      have ht : t < 3 := (List.getElem?_eq_some_iff.1 hv).1
      have : t = 0 ∨ t = 1 ∨ t = 2 := by omega
      rcases this with rfl | rfl | rfl
      · rw [key, if_neg (by omega), if_neg (by omega), if_pos (by omega)]; exact hv
      · rw [key, if_neg (by omega), if_pos (by omega)]; exact hv
      · rw [key, if_pos (by omega)]; exact hv
    · rw [if_neg e] at hv
      have ht : t < 3 := by have := (List.getElem?_eq_some_iff.1 hv).1; rw [h.len] at this; exact this
      rw [key, if_neg (by omega), if_neg (by omega), if_neg (by omega)]; exact h.c x' y' t v hx' hy' hv
  · simp; exact h.f x' o hx'
  · unfold upd
    split
    · rfl
    · exact h.len x' y'
theorem EB.far {W : World} {b n : Nat} {r p h : Nat → Int} (E : EB W b n r p h) {R o : Nat} {v : Value} (hR : R ≠ b) : EB (W.setCell ⟨R, o, none⟩ v) b n r p h :=
  ⟨fun j hj => (World.cell?_setCell_far _ _ _ _ hR).trans (E.c0 j hj), fun j hj => (World.cell?_setCell_far _ _ _ _ hR).trans (E.c1 j hj), fun j hj => (World.cell?_setCell_far _ _ _ _ hR).trans (E.c2 j hj), by simpa using E.lt⟩
theorem Bx.far {W : World} {B : Nat} {vs : List Value} (h : Bx W B vs) {R o : Nat} {v : Value} (hR : R ≠ B) : Bx (W.setCell ⟨R, o, none⟩ v) B vs :=
  ⟨fun j u hj => (World.cell?_setCell_far _ _ _ _ hR).trans (h.c j u hj), fun j u hj => by simpa using h.f j u hj, by simpa using h.lt⟩
end Go.Proofs.Ytjmgcgjmaemgdaa
