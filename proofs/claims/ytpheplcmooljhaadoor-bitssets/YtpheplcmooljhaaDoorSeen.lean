/-
  A row of bools that is written, beside lists of numbers that are read.
-/
import Derived.Test.YtpheplcmooljhaaDoorOf
import Derived.Deep.OwnRows
namespace Go.Proofs.YtpheplcmooljhaaDoor
open Go.RowKit

theorem Tryd.info4 : (Tryd.prog.info? 4).map (fun i => (i.zero, i.size, i.bytes)) = some (some (.bool false), 1, 1) := by kernel_rfl

/-- Block S holds N bools, f's; all older than w is as it was. -/
structure Seen (S N : Nat) (f : Nat → Bool) (w w' : World) : Prop where
  below : Below w.heap.size w w'
  ge : w.heap.size ≤ S
  lt : S < w'.heap.size
  at_ : ∀ x, x < N → w'.cell? ⟨S, x, none⟩ = some (.bool (f x))
  free : ∀ x, w'.frozen? ⟨S, x, none⟩ = false
theorem Seen.next {S N : Nat} {f : Nat → Bool} {w w1 w2 : World} (h : Seen S N f w w1) (hb : Below w1.heap.size w1 w2) : Seen S N f w w2 :=
  ⟨h.below.trans (hb.mono h.below.size), h.ge, Nat.lt_of_lt_of_le h.lt hb.size, fun x hx => (hb.cell (p := ⟨S, x, none⟩) h.lt).trans (h.at_ x hx), fun x => (hb.frozen (p := ⟨S, x, none⟩) h.lt).trans (h.free x)⟩
theorem Seen.drewN {S N : Nat} {f : Nat → Bool} {w w1 : World} (h : Seen S N f w w1) (n : Nat) : Seen S N f w (w1.drewN n) :=
  ⟨⟨h.below.os, h.below.tape, h.below.output, h.below.size, h.below.block⟩, h.ge, by simpa using h.lt, fun x hx => by simpa using h.at_ x hx, fun x => by simpa using h.free x⟩
theorem Seen.set {S N : Nat} {f g : Nat → Bool} {w w1 : World} (h : Seen S N f w w1) {x : Nat} (hx : x < N) (hg : ∀ y, y < N → g y = if y = x then true else f y) : Seen S N g w (w1.setCell ⟨S, x, none⟩ (.bool true)) := by
  refine ⟨h.below.setCell h.ge _, h.ge, by simpa using h.lt, fun y hy => ?_, fun y => by simpa using h.free y⟩
  rw [hg y hy]
  by_cases e : y = x
  · subst e; rw [if_pos rfl]; exact World.cell?_setCell_same _ _ _ (h.at_ y hy)
  · rw [if_neg e, World.cell?_setCell_other _ _ _ _ (by simp)]; exact h.at_ y hy
theorem Seen.make {w w1 : World} {N : Nat} (hb : Below w.heap.size w w1) : Seen w1.heap.size N (fun _ => false) w (w1.alloc (.cells (madeCells #[.bool false] N) 4)) := by
  refine ⟨hb.alloc hb.size _, hb.size, by simp, fun x hx => ?_, fun x => ?_⟩
  · rw [World.cell?_alloc_at _ _ _ _ (by simp)]
    simp [madeCells, hx, Nat.mod_one]
  · rw [World.frozen?_alloc_at _ _ _ _ (by simp)]
theorem Seen.congr {S N : Nat} {f g : Nat → Bool} {w w1 : World} (h : Seen S N f w w1) (hg : ∀ y, y < N → g y = f y) : Seen S N g w w1 :=
  ⟨h.below, h.ge, h.lt, fun x hx => by rw [hg x hx]; exact h.at_ x hx, h.free⟩

/-- The numbers A from a on, none of them in block S. -/
structure Nums (S : Nat) (a : Option Addr) (A : List Nat) (w : World) : Prop where
  at_ : ∀ i (h : i < A.length), ∃ g, a = some ⟨g, 0, none⟩ ∧ g ≠ S ∧ g < w.heap.size ∧ w.cell? ⟨g, i, none⟩ = some (.int .u64 (A[i] : Int))
theorem Nums.next {S : Nat} {a : Option Addr} {A : List Nat} {w w2 : World} (h : Nums S a A w) (hb : Below w.heap.size w w2) : Nums S a A w2 := ⟨fun i hi => by
  obtain ⟨g, e, hs, hg, hc⟩ := h.at_ i hi
  exact ⟨g, e, hs, Nat.lt_of_lt_of_le hg hb.size, (hb.cell (p := ⟨g, i, none⟩) hg).trans hc⟩⟩
theorem Nums.drewN {S : Nat} {a : Option Addr} {A : List Nat} {w : World} (h : Nums S a A w) (n : Nat) : Nums S a A (w.drewN n) := ⟨fun i hi => by
  obtain ⟨g, e, hs, hg, hc⟩ := h.at_ i hi
  exact ⟨g, e, hs, by simpa using hg, by simpa using hc⟩⟩
theorem Nums.set {S : Nat} {a : Option Addr} {A : List Nat} {w : World} (h : Nums S a A w) (x : Nat) (v : Value) : Nums S a A (w.setCell ⟨S, x, none⟩ v) := ⟨fun i hi => by
  obtain ⟨g, e, hs, hg, hc⟩ := h.at_ i hi
  exact ⟨g, e, hs, by simpa using hg, by rw [World.cell?_setCell_other _ _ _ _ (by simp)]; exact hc⟩⟩
theorem Told.nums {S : Nat} {A : List Nat} {a : Option Addr} {c : Nat} {w w1 : World} (h : Told A (.slice a A.length c) w w1) (hS : S < w.heap.size) : Nums S a A w1 := ⟨fun i hi => by
  rcases h.owns.2 with ⟨_, e⟩ | ⟨g, c', cur, e, hb, hh, _⟩
  · omega
  · have ho := h.owns
    simp only [Value.slice.injEq, true_and] at e
    obtain ⟨rfl, rfl⟩ := e
    have hc := ho.cellAt i (by omega)
    rw [uvals_at A i hi] at hc
    exact ⟨g, rfl, by omega, block_lt_of_cell hc, hc⟩⟩
end Go.Proofs.YtpheplcmooljhaaDoor
