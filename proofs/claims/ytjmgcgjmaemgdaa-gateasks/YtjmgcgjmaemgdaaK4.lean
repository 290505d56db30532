/-
  gate.Column: the two lists that it lets grow.
-/
import Derived.Test.YtjmgcgjmaemgdaaK3
import Derived.Maps.AppendAt
import Derived.OwnWalk
namespace Go.Proofs.Ytjmgcgjmaemgdaa
open Go.RowKit Go.Sort

abbrev unL (m : Nat) (h : Int) : List Value := [cx (tA m 1 0 0 0) (tB m 1 0 0 0), cx (tC m 1 0 0 0) (tD m 1 0 0 0), .int .i64 h]
def rowsL (r : Nat → Int) (k : Nat) : List Value := (List.range k).map fun j => .int .i64 (r j)
def ampsL (m : Nat → Nat) (h : Nat → Int) (k : Nat) : List Value := (List.range k).flatMap fun j => unL (m j) (h j)
theorem rowsL_succ (r : Nat → Int) (k : Nat) : rowsL r (k + 1) = rowsL r k ++ [.int .i64 (r k)] := by simp [rowsL, List.range_succ]
theorem ampsL_succ (m : Nat → Nat) (h : Nat → Int) (k : Nat) : ampsL m h (k + 1) = ampsL m h k ++ unL (m k) (h k) := by simp [ampsL, List.range_succ]
/-- The entries of a column lie in block b. -/
structure EB (W : World) (b n : Nat) (r p h : Nat → Int) : Prop where
  c0 : ∀ j, j < n → W.cell? ⟨b, j * 3, none⟩ = some (.int .i64 (r j))
  c1 : ∀ j, j < n → W.cell? ⟨b, j * 3 + 1, none⟩ = some (.int .i64 (p j))
  c2 : ∀ j, j < n → W.cell? ⟨b, j * 3 + 2, none⟩ = some (.int .i64 (h j))
  lt : b < W.heap.size
theorem EB.grown {W W' : World} {b n : Nat} {r p h : Nat → Int} {row : Option Nat} (E : EB W b n r p h) (hg : W.grownBy W' row) (hne : some b ≠ row) : EB W' b n r p h :=
  ⟨fun j hj => hg.cell (E.c0 j hj) hne, fun j hj => hg.cell (E.c1 j hj) hne, fun j hj => hg.cell (E.c2 j hj) hne, Nat.lt_of_lt_of_le E.lt hg.size⟩
theorem grown_of {W W' : World} (h : Below W.heap.size W W') : W.grownBy W' none := ⟨h.os, h.tape, h.output, h.size, fun k hk _ => h.block k hk⟩
theorem EB.alloc {W : World} {b n : Nat} {r p h : Nat → Int} (E : EB W b n r p h) (o : Obj) : EB (W.alloc o) b n r p h := E.grown (grown_of (bal (Below.refl _ _) _)) (by simp)
/-- Within Column: i rows and k amplitudes are told. -/
structure CI (w W : World) (b n : Nat) (r p h : Nat → Int) (m : Nat → Nat) (v9 v10 : Value) (i k : Nat) : Prop where
  below : Below w.heap.size w W
  ent : EB W b n r p h
  o9 : W.ownsRow w.heap.size 3 1 v9 i (rowsL r i)
  o10 : W.ownsRow w.heap.size 46 3 v10 k (ampsL m h k)
  ap : ∀ g, v9.ownBlock = some g → v10.ownBlock ≠ some g
  b9 : v9.ownBlock ≠ some b
  b10 : v10.ownBlock ≠ some b
section
variable {w W W2 : World} {b n : Nat} {r p h : Nat → Int} {m : Nat → Nat} {v9 v10 v' : Value} {i k : Nat}
theorem CI.on (H : CI w W b n r p h m v9 v10 i k) (hb : Below W.heap.size W W2) : CI w W2 b n r p h m v9 v10 i k :=
  ⟨btr H.below hb, H.ent.grown (grown_of hb) (by simp), H.o9.kept (grown_of hb) (by cases v9.ownBlock <;> simp), H.o10.kept (grown_of hb) (by cases v10.ownBlock <;> simp), H.ap, H.b9, H.b10⟩
theorem CI.alloc (H : CI w W b n r p h m v9 v10 i k) (o : Obj) : CI w (W.alloc o) b n r p h m v9 v10 i k := H.on (bal (Below.refl _ _) _)
theorem CI.row (H : CI w W b n r p h m v9 v10 i k) (hg : W.grownBy W2 v9.ownBlock) (hown : W2.ownsRow w.heap.size 3 1 v' (i + 1) (rowsL r i ++ [.int .i64 (r i)])) (hloc : v'.ownBlock = v9.ownBlock ∨ v'.ownBlock = some W.heap.size) : CI w W2 b n r p h m v' v10 (i + 1) k where
  below := H.below.grown hg H.below.size (fun j e => (H.o9.lt j e).1)
  ent := H.ent.grown hg (fun e => H.b9 e.symm)
  o9 := by rw [rowsL_succ]; exact hown
  o10 := H.o10.kept hg (by
    cases e : v10.ownBlock with
    | none => exact .inl rfl
    | some g => exact .inr fun e' => H.ap g e'.symm e)
  ap := fun g hg' e => by
    rcases hloc with hl | hl
    · exact H.ap g (hl ▸ hg') e
    · rw [hl] at hg'
      injection hg' with hg'
      have := (H.o10.lt g e).2
      omega
  b9 := by
    rcases hloc with hl | hl
    · rw [hl]; exact H.b9
    · rw [hl]; intro e; injection e with e; have := H.ent.lt; omega
  b10 := H.b10
theorem CI.amp (H : CI w W b n r p h m v9 v10 i k) (hg : W.grownBy W2 v10.ownBlock) (hown : W2.ownsRow w.heap.size 46 3 v' (k + 1) (ampsL m h k ++ unL (m k) (h k))) (hloc : v'.ownBlock = v10.ownBlock ∨ v'.ownBlock = some W.heap.size) : CI w W2 b n r p h m v9 v' i (k + 1) where
  below := H.below.grown hg H.below.size (fun j e => (H.o10.lt j e).1)
  ent := H.ent.grown hg (fun e => H.b10 e.symm)
  o9 := H.o9.kept hg (by
    cases e : v9.ownBlock with
    | none => exact .inl rfl
    | some g => exact .inr fun e' => H.ap g e e'.symm)
  o10 := by rw [ampsL_succ]; exact hown
  ap := fun g hg' e => by
    rcases hloc with hl | hl
    · exact H.ap g hg' (hl ▸ e)
    · rw [hl] at e
      injection e with e
      have := (H.o9.lt g hg').2
      omega
  b9 := H.b9
  b10 := by
    rcases hloc with hl | hl
    · rw [hl]; exact H.b10
    · rw [hl]; intro e; injection e with e; have := H.ent.lt; omega
theorem CI.shape9 (H : CI w W b n r p h m v9 v10 i k) : ∃ a c, v9 = .slice a i c := by
  rcases H.o9.2 with ⟨rfl, rfl⟩ | ⟨g, cap, cur, rfl, _⟩
  · exact ⟨_, _, rfl⟩
  · exact ⟨_, _, rfl⟩
theorem CI.shape10 (H : CI w W b n r p h m v9 v10 i k) : ∃ a c, v10 = .slice a k c := by
  rcases H.o10.2 with ⟨rfl, rfl⟩ | ⟨g, cap, cur, rfl, _⟩
  · exact ⟨_, _, rfl⟩
  · exact ⟨_, _, rfl⟩
end
theorem Try.info3 : (Try.prog.info? 3).map (fun i => (i.zero, i.size, i.bytes)) = some (some (.int .i64 0), 1, 8) := by kernel_rfl
theorem Try.info46 : (Try.prog.info? 46).map (fun i => (i.zero, i.size, i.bytes)) = some (some (.agg #[.complex .f64 0 0, .complex .f64 0 0, .int .i64 0]), 3, 40) := by kernel_rfl
end Go.Proofs.Ytjmgcgjmaemgdaa
