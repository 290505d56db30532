/-
  The memory that the law GateEntries reads.
-/
import Derived.Test.YtjmgcgjmaemgdaaV0
import Derived.Test.YtjmgcgjmaemgdaaU1
namespace Go.Proofs.Ytjmgcgjmaemgdaa
open Go.RowKit Go.Sort

theorem rowsL_at (r : Nat → Int) {n j : Nat} (h : j < n) : (rowsL r n)[j]? = some (.int .i64 (r j)) := by
  simp [rowsL, List.getElem?_range h]
theorem ampsL_len (m : Nat → Nat) (h : Nat → Int) (n : Nat) : (ampsL m h n).length = n * 3 := by
  induction n with
  | zero => rfl
  | succ n ih => rw [ampsL_succ, List.length_append, ih]; simp; omega
theorem ampsL_at (m : Nat → Nat) (h : Nat → Int) {n j t : Nat} {v : Value} (hj : j < n) (hv : (unL (m j) (h j))[t]? = some v) : (ampsL m h n)[j * 3 + t]? = some v := by
  have ht : t < 3 := (List.getElem?_eq_some_iff.1 hv).1
  induction n with
  | zero => omega
  | succ n ih =>
    rw [ampsL_succ]
    by_cases e : j < n
    · rw [List.getElem?_append_left (by rw [ampsL_len]; omega)]
      exact ih e
    · obtain rfl : j = n := by omega
      rw [List.getElem?_append_right (by rw [ampsL_len]; omega), ampsL_len]
      rw [show j * 3 + t - j * 3 = t by omega]
      exact hv
structure VJ (w W : World) (M N : Nat) (A : Nat → Nat → List Value) (g g' n : Nat) (r h : Nat → Int) (m : Nat → Nat) : Prop where
  mx : MX w W M N A
  rc : ∀ j, j < n → W.cell? ⟨g, j, none⟩ = some (.int .i64 (r j))
  a0 : ∀ j, j < n → W.cell? ⟨g', j * 3, none⟩ = some (cx (tA (m j) 1 0 0 0) (tB (m j) 1 0 0 0))
  a1 : ∀ j, j < n → W.cell? ⟨g', j * 3 + 1, none⟩ = some (cx (tC (m j) 1 0 0 0) (tD (m j) 1 0 0 0))
  a2 : ∀ j, j < n → W.cell? ⟨g', j * 3 + 2, none⟩ = some (.int .i64 (h j))
  l1 : g < W.heap.size
  l2 : g' < W.heap.size
theorem VJ.on {w W W2 : World} {M N : Nat} {A : Nat → Nat → List Value} {g g' n : Nat} {r h : Nat → Int} {m : Nat → Nat} (H : VJ w W M N A g g' n r h m) (hb : Below W.heap.size W W2) : VJ w W2 M N A g g' n r h m :=
  ⟨H.mx.on hb, fun j hj => (hb.cell (p := ⟨g, j, none⟩) H.l1).trans (H.rc j hj), fun j hj => (hb.cell (p := ⟨g', _, none⟩) H.l2).trans (H.a0 j hj), fun j hj => (hb.cell (p := ⟨g', _, none⟩) H.l2).trans (H.a1 j hj), fun j hj => (hb.cell (p := ⟨g', _, none⟩) H.l2).trans (H.a2 j hj), Nat.lt_of_lt_of_le H.l1 hb.size, Nat.lt_of_lt_of_le H.l2 hb.size⟩
theorem vj_of {w wr W : World} {M N : Nat} {A : Nat → Nat → List Value} {n : Nat} {r h : Nat → Int} {m : Nat → Nat} {e : Ending} (hM : MX w wr M N A) (H : CR wr W n r h m e) (hn : 0 < n) : ∃ g c g' c', e = .returned (.tuple #[.slice (some ⟨g, 0, none⟩) n c, .slice (some ⟨g', 0, none⟩) n c', .int .i64 0]) ∧ VJ w W M N A g g' n r h m := by
  obtain ⟨v9, v10, rfl, h9, h10⟩ := H.it
  obtain ⟨g, c, rfl, _, _, l1, c1⟩ := own_at h9 hn
  obtain ⟨g', c', rfl, _, _, l2, c2⟩ := own_at h10 hn
  exact ⟨g, c, g', c', rfl, hM.on H.below, fun j hj => c1 j _ (rowsL_at r hj), fun j hj => c2 (j * 3 + 0) _ (ampsL_at m h hj rfl), fun j hj => c2 (j * 3 + 1) _ (ampsL_at m h hj rfl), fun j hj => c2 (j * 3 + 2) _ (ampsL_at m h hj rfl), l1, l2⟩
/-- What the great test reads. -/
abbrev SF (V W : World) (g a g' M x y : Nat) (rv : Int) (u0 u1 u2 : Value) (sl : Value) : Prop := Below V.heap.size V W ∧ W.cell? ⟨g, a, none⟩ = some (.int .i64 rv) ∧ W.cell? ⟨g', a * 3, none⟩ = some u0 ∧ W.cell? ⟨g', a * 3 + 1, none⟩ = some u1 ∧ W.cell? ⟨g', a * 3 + 2, none⟩ = some u2 ∧
  W.cell? ⟨M, x, none⟩ = some sl ∧ W.cell? ⟨M + 1 + x, y * 3, none⟩ = some u0 ∧ W.cell? ⟨M + 1 + x, y * 3 + 1, none⟩ = some u1 ∧ W.cell? ⟨M + 1 + x, y * 3 + 2, none⟩ = some u2
theorem sf_keep {V W W2 : World} {g a g' M x y : Nat} {rv : Int} {u0 u1 u2 sl : Value} (h : SF V W g a g' M x y rv u0 u1 u2 sl) (hb : Below W.heap.size W W2) : SF V W2 g a g' M x y rv u0 u1 u2 sl := by
  obtain ⟨h0, h1, h2, h3, h4, h5, h6, h7, h8⟩ := h
  have k : ∀ {p : Addr} {v : Value}, W.cell? p = some v → W2.cell? p = some v := fun {p v} hp => (hb.cell (World.block_lt_of_cell? W p hp)).trans hp
  exact ⟨btr h0 hb, k h1, k h2, k h3, k h4, k h5, k h6, k h7, k h8⟩
end Go.Proofs.Ytjmgcgjmaemgdaa
