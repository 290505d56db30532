/-
  The law PauliMakes answers true, whatever the arguments.
-/
import Derived.Test.YtbkdehnemhkbkaaP5
namespace Go.Proofs.Ytbkdehnemhkbkaa
open Go.RowKit Go.Sort

/-- Block B's cells hold that string. -/
abbrev C4 (W : World) (B : Nat) (n : Int) (x z : Nat) (f : Int) : Prop :=
  W.cell? ⟨B, 0, none⟩ = some (.int .i64 n) ∧ W.cell? ⟨B, 1, none⟩ = some (.int .u64 (x : Int)) ∧ W.cell? ⟨B, 2, none⟩ = some (.int .u64 (z : Int)) ∧ W.cell? ⟨B, 3, none⟩ = some (.int .i64 f)
theorem PB.c4 {W : World} {B : Nat} {n : Int} {x z : Nat} {f : Int} (h : PB W B n x z f) : C4 W B n x z f := ⟨h.c0, h.c1, h.c2, h.c3⟩
theorem C4.lt {W : World} {B : Nat} {n : Int} {x z : Nat} {f : Int} (h : C4 W B n x z f) : B < W.heap.size := block_lt_of_cell h.1
theorem C4.below {W W' : World} {B : Nat} {n : Int} {x z : Nat} {f : Int} (h : C4 W B n x z f) (hb : Below W.heap.size W W') : C4 W' B n x z f := by
  obtain ⟨hc, hf⟩ := bcell hb
  have hl := C4.lt h
  exact ⟨(hc _ _ hl).trans h.1, (hc _ _ hl).trans h.2.1, (hc _ _ hl).trans h.2.2.1, (hc _ _ hl).trans h.2.2.2⟩
theorem C4.alloc {W : World} {B : Nat} {n : Int} {x z : Nat} {f : Int} (h : C4 W B n x z f) (o : Obj) : C4 (W.alloc o) B n x z f := C4.below h (bal (Below.refl _ _) _)
abbrev Cal (f : Nat) (args : Array Value) (v : PS) (e : Int) : Prop := ∀ w, Calls Try.prog f args w fun r w' => r = .returned (.tuple #[pv v.n v.x v.z v.f, .int .i64 e]) ∧ Below w.heap.size w w'
abbrev Chk (f : Nat) (v : PS) : Prop := ∀ w, Calls Try.prog f #[pv v.n v.x v.z v.f] w fun r w' => r = .returned (.int .i64 0) ∧ Below w.heap.size w w'
theorem keep4 {V W W' : World} {A B C D : Nat} {n : Int} {x z : Nat} {f : Int} {n' : Int} {x' z' : Nat} {f' : Int} {n2 : Int} {x2 z2 : Nat} {f2 : Int} {n3 : Int} {x3 z3 : Nat} {f3 : Int}
    (h : Below V.heap.size V W ∧ C4 W A n x z f ∧ C4 W B n' x' z' f' ∧ C4 W C n2 x2 z2 f2 ∧ C4 W D n3 x3 z3 f3) (hN : Below W.heap.size W W') :
    Below V.heap.size V W' ∧ C4 W' A n x z f ∧ C4 W' B n' x' z' f' ∧ C4 W' C n2 x2 z2 f2 ∧ C4 W' D n3 x3 z3 f3 :=
  ⟨btr h.1 hN, C4.below h.2.1 hN, C4.below h.2.2.1 hN, C4.below h.2.2.2.1 hN, C4.below h.2.2.2.2 hN⟩

set_option maxHeartbeats 2000000 in
theorem makes_core (n q : Int) (c : Int) (E O : PS) (e1 e2 : Int) (w : World) (A9 : Cal 9 #[.int .i64 n] E e1) (A10 : Cal 10 #[.int .i64 n] E e1)
    (A11 : Cal 11 #[.int .i64 n, .int .i64 q, .int .u8 c] O e2) (A12 : Cal 12 #[.int .i64 n, .int .i64 q, .int .u8 c] O e2) (K1 : Chk 13 E) (K2 : Chk 14 E) (K3 : Chk 13 O) :
    Calls Try.prog 3 #[.int .i64 n, .int .i64 q, .int .u8 c] w fun r w' => r = .returned (.bool true) ∧ Below w.heap.size w w' := by
  have AW := awake_any w
  obtain ⟨n1, x1, z1, f1⟩ := E
  obtain ⟨n2, x2, z2, f2⟩ := O
  go_enter Try.func3, Try.ntmps3
  go_upto_region 7 with (first
    | (go_at_call 8; (with_reducible refine AW.mono ?_); rintro e w0 ⟨rfl, h0⟩)
    | (go_at_call 9; (with_reducible refine (A9 _).mono ?_); rintro e w1 ⟨rfl, h1⟩)
    | (go_at_call 10; (with_reducible refine (A10 _).mono ?_); rintro e w2 ⟨rfl, h2⟩)
    | (go_at_call 11; (with_reducible refine (A11 _).mono ?_); rintro e w3 ⟨rfl, h3⟩)
    | (go_at_call 12; (with_reducible refine (A12 _).mono ?_); rintro e w4 ⟨rfl, h4⟩))
  have b1 : C4 (w4.alloc (pc n2 x2 z2 f2)) w1.heap.size n1 x1 z1 f1 := C4.alloc (C4.below (C4.alloc (C4.below (C4.alloc (C4.below (PB.new w1 n1 x1 z1 f1).c4 h2) (pc n1 x1 z1 f1)) h3) (pc n2 x2 z2 f2)) h4) (pc n2 x2 z2 f2)
  have b2 : C4 (w4.alloc (pc n2 x2 z2 f2)) w2.heap.size n1 x1 z1 f1 := C4.alloc (C4.below (C4.alloc (C4.below (PB.new w2 n1 x1 z1 f1).c4 h3) (pc n2 x2 z2 f2)) h4) (pc n2 x2 z2 f2)
  have b3 : C4 (w4.alloc (pc n2 x2 z2 f2)) w3.heap.size n2 x2 z2 f2 := C4.alloc (C4.below (PB.new w3 n2 x2 z2 f2).c4 h4) (pc n2 x2 z2 f2)
  have b4 : C4 (w4.alloc (pc n2 x2 z2 f2)) w4.heap.size n2 x2 z2 f2 := (PB.new w4 n2 x2 z2 f2).c4
  have hV := Below.refl (w4.alloc (pc n2 x2 z2 f2)).heap.size (w4.alloc (pc n2 x2 z2 f2))
  go_region_held3 (fun w' => Below (w4.alloc (pc n2 x2 z2 f2)).heap.size (w4.alloc (pc n2 x2 z2 f2)) w' ∧ C4 w' w1.heap.size n1 x1 z1 f1 ∧ C4 w' w2.heap.size n1 x1 z1 f1 ∧ C4 w' w3.heap.size n2 x2 z2 f2 ∧ C4 w' w4.heap.size n2 x2 z2 f2)
    ((first | exact ⟨below_drew hV, b1, b2, b3, b4⟩ | exact keep4 (by assumption) hN))
    (first
      | (go_at_call 13; (with_reducible refine (K1 _).mono ?_); rintro e w5 ⟨rfl, hN⟩; (first | (have hK := btr hK hN) | (have hK := btr (below_drew hV) hN)))
      | (go_at_call 14; (with_reducible refine (K2 _).mono ?_); rintro e w6 ⟨rfl, hN⟩; have hK := btr hK hN)
      | (go_at_call 13; (with_reducible refine (K3 _).mono ?_); rintro e w7 ⟨rfl, hN⟩; have hK := btr hK hN))
  go_wp2
  go_ret
  exact ⟨rfl, btr (bal (btr (bal (btr (bal (btr (bal (btr h0 h1) _) h2) _) h3) _) h4) _) hK⟩

end Go.Proofs.Ytbkdehnemhkbkaa
