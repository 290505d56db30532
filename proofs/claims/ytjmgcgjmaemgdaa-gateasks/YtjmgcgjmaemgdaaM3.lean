/-
  Within gate.Matrix: the matrix while its columns are written.
-/
import Derived.Test.YtjmgcgjmaemgdaaM2
import Derived.Test.YtjmgcgjmaemgdaaL6
namespace Go.Proofs.Ytjmgcgjmaemgdaa
open Go.RowKit Go.Sort

/-- The first k entries of column y written. -/
def stepA (A : Nat → Nat → List Value) (y : Nat) (L : List (Int × Int × Int)) : Nat → Nat → Nat → List Value
  | 0 => A
  | k + 1 => upd (stepA A y L k) (enR L k).toNat y (unL (mo (enP L k)) (enH L k))
/-- The first y columns written. -/
def matA (LS : Nat → List (Int × Int × Int)) : Nat → Nat → Nat → List Value
  | 0 => zA
  | y + 1 => stepA (matA LS y) y (LS y) (LS y).length
/-- Entries that can be written into a matrix of N rows. -/
abbrev Eok (L : List (Int × Int × Int)) (N : Nat) : Prop := ∀ j, j < L.length → ∃ x : Nat, enR L j = (x : Int) ∧ x < N ∧ 0 ≤ enH L j ∧ enH L j ≤ 60 ∧ bits .and .i64 (enP L j) 7 = (mo (enP L j) : Int) ∧ mo (enP L j) < 8
abbrev kcl (q c : Int) (f : Nat) (p h : Int) (cl di : Bool) (inv : ByteArray) : List Value := [.int .i64 q, .int .i64 c, .func (.func f) #[] #[], .int .i64 p, .int .i64 h, .bool cl, .bool di, .string inv]
theorem len3 {l : List Value} (h : l.length = 3) : ∃ a b c, l = [a, b, c] := by
  match l, h with
  | [a, b, c], _ => exact ⟨a, b, c, rfl⟩
structure MI (w W : World) (M N : Nat) (A : Nat → Nat → List Value) (y : Nat) (L : List (Int × Int × Int)) (b k : Nat) (kl : List Value) : Prop where
  mx : MX w W M N (stepA A y L k)
  kb : Bx W (w.heap.size + 1) kl
  ent : EB W b L.length (enR L) (enP L) (enH L)
  bM : M + N < b
  kM : w.heap.size + 1 < M
section
variable {w W W2 : World} {M N : Nat} {A : Nat → Nat → List Value} {y : Nat} {L : List (Int × Int × Int)} {b k : Nat} {kl : List Value}
theorem MI.on (h : MI w W M N A y L b k kl) (hb : Below W.heap.size W W2) : MI w W2 M N A y L b k kl := ⟨h.mx.on hb, h.kb.below hb, h.ent.grown (grown_of hb) (by simp), h.bM, h.kM⟩
theorem MI.alloc (h : MI w W M N A y L b k kl) (o : Obj) : MI w (W.alloc o) M N A y L b k kl := h.on (bal (Below.refl _ _) _)
theorem MI.drew (h : MI w W M N A y L b k kl) : MI w W.drew M N A y L b k kl := h.on (below_drew (Below.refl _ _))
theorem MI.put (h : MI w W M N A y L b k kl) (x : Nat) (hx : x < N) (hy : y < N) {m : Nat} {hh : Int} (e : stepA A y L (k + 1) = upd (stepA A y L k) x y (unL m hh)) :
    MI w (((W.setCell ⟨M + 1 + x, y * 3, none⟩ (cx (tA m 1 0 0 0) (tB m 1 0 0 0))).setCell ⟨M + 1 + x, y * 3 + 1, none⟩ (cx (tC m 1 0 0 0) (tD m 1 0 0 0))).setCell ⟨M + 1 + x, y * 3 + 2, none⟩ (.int .i64 hh)) M N A y L b (k + 1) kl := by
  have n1 : M + 1 + x ≠ w.heap.size + 1 := by have := h.kM; omega
  have n2 : M + 1 + x ≠ b := by have := h.bM; omega
  exact ⟨by rw [e]; exact h.mx.put x y hx hy _ _ _, ((h.kb.far n1).far n1).far n1, ((h.ent.far n2).far n2).far n2, h.bM, h.kM⟩
end
end Go.Proofs.Ytjmgcgjmaemgdaa
