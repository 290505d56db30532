/-
  The law PauliMakes answers true, whatever the arguments.
-/
import Derived.Test.YtoddbaljnlhhaaaPP5
namespace Go.Proofs.Ytoddbaljnlhhaaa.PL
open Go.RowKit Go.Sort

/-- Block B's cells hold that string. -/
abbrev C4 (W : World) (B : Nat) (n : Int) (x z : Nat) (f : Int) : Prop :=
  W.cell? ⟨B, 0, none⟩ = some (.int .i64 n) ∧ W.cell? ⟨B, 1, none⟩ = some (.int .u64 (x : Int)) ∧ W.cell? ⟨B, 2, none⟩ = some (.int .u64 (z : Int)) ∧ W.cell? ⟨B, 3, none⟩ = some (.int .i64 f)
theorem PB.c4 {W : World} {B : Nat} {n : Int} {x z : Nat} {f : Int} (h : PB W B n x z f) : C4 W B n x z f := ⟨h.c0, h.c1, h.c2, h.c3⟩
theorem C4.lt {W : World} {B : Nat} {n : Int} {x z : Nat} {f : Int} (h : C4 W B n x z f) : B < W.heap.size := block_lt_of_cell h.1
theorem C4.below {W W' : World} {B : Nat} {n : Int} {x z : Nat} {f : Int} (h : C4 W B n x z f) (hb : Below W.heap.size W W') : C4 W' B n x z f := by
  obtain ⟨hc, hf⟩ := bcell hb
  have hl := C4.lt h
  exact ⟨(hc _ _ hl).trans h.1, (hc _ _ hl).trans h.2.1, (hc _ _ hl).trans h.2.2.1, (hc _ _ hl).trans h.2.2.2⟩
theorem C4.alloc {W : World} {B : Nat} {n : Int} {x z : Nat} {f : Int} (h : C4 W B n x z f) (o : Obj) : C4 (W.alloc o) B n x z f := C4.below h (bal (Below.refl _ _) _)
abbrev Cal (f : Nat) (args : Array Value) (v : PS) (e : Int) : Prop := ∀ w, Calls Try.prog f args w fun r w' => r = .returned (.tuple #[pv v.n v.x v.z v.f, .int .i64 e]) ∧ Below w.heap.size w w'
abbrev Chk (f : Nat) (v : PS) : Prop := ∀ w, Calls Try.prog f #[pv v.n v.x v.z v.f] w fun r w' => r = .returned (.int .i64 0) ∧ Below w.heap.size w w'
theorem keep4 {V W W' : World} {A B C D : Nat} {n : Int} {x z : Nat} {f : Int} {n' : Int} {x' z' : Nat} {f' : Int} {n2 : Int} {x2 z2 : Nat} {f2 : Int} {n3 : Int} {x3 z3 : Nat} {f3 : Int}
    (h : Below V.heap.size V W ∧ C4 W A n x z f ∧ C4 W B n' x' z' f' ∧ C4 W C n2 x2 z2 f2 ∧ C4 W D n3 x3 z3 f3) (hN : Below W.heap.size W W') :
    Below V.heap.size V W' ∧ C4 W' A n x z f ∧ C4 W' B n' x' z' f' ∧ C4 W' C n2 x2 z2 f2 ∧ C4 W' D n3 x3 z3 f3 :=
  ⟨btr h.1 hN, C4.below h.2.1 hN, C4.below h.2.2.1 hN, C4.below h.2.2.2.1 hN, C4.below h.2.2.2.2 hN⟩

end Go.Proofs.Ytoddbaljnlhhaaa.PL
