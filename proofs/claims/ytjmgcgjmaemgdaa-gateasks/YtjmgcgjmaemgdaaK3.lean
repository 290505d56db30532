/-
  The columns of the gates.
-/
import Derived.Test.YtjmgcgjmaemgdaaK2
import Derived.Test.YtjmgcgjmaemgdaaE5
namespace Go.Proofs.Ytjmgcgjmaemgdaa
open Go.RowKit Go.Sort

/-- Two entries, as the cells of a list. -/
abbrev two (r0 p0 h0 r1 p1 h1 : Int) : Array Value := #[.int .i64 r0, .int .i64 p0, .int .i64 h0, .int .i64 r1, .int .i64 p1, .int .i64 h1]
/-- A column's function that tells two entries. -/
abbrev Col2 (f : Nat) (p y r0 p0 h0 r1 p1 h1 : Int) : Prop := ∀ w, Calls Try.prog f #[.int .i64 p, .int .i64 y] w fun e w' => e = .returned (.slice (some ⟨w.heap.size, 0, none⟩) 2 2) ∧ w' = w.alloc (.cells (two r0 p0 h0 r1 p1 h1) 67)
set_option maxHeartbeats 400000 in
theorem hadamard_any (p y z : Int) (hz : IntKind.i64.wrap (4 * y) = z) : Col2 44 p y 0 0 1 1 z 1 := fun w => by
  go_enter Try.func44, Try.ntmps44
  go_wp2
  all_goals (go_ret; exact ⟨by simp, by simp⟩)

/-- The block of a kind. -/
abbrev kc (q c : Int) (f : Nat) (p h : Int) (cl di : Bool) (inv : ByteArray) : Obj := .cells #[.int .i64 q, .int .i64 c, .func (.func f) #[] #[], .int .i64 p, .int .i64 h, .bool cl, .bool di, .string inv] 59
set_option maxRecDepth 100000 in
set_option maxHeartbeats 1000000 in
theorem entries_ch (w : World) : Calls Try.prog 32 #[kd 2 1 44 0 1 false false ⟨#[99, 104]⟩, .int .i64 3] w fun e w' => ∃ b, e = .returned (.slice (some ⟨b, 0, none⟩) 2 2) ∧ Bx w' b (two 1 0 1 3 4 1).toList ∧ Below w.heap.size w w' := by
  have CL := hadamard_any 0 1 4 (by decide)
  have b1 : bits .and .i64 3 1 = 1 := by decide
  have b2 : bits .or .i64 0 1 = 1 := by decide
  have b3 : bits .or .i64 2 1 = 3 := by decide
  go_enter Try.func32, Try.ntmps32
  go_upto_region 4 with (fail)
  go_cut [6] from 20 to 28 (fun v6 W => v6 = Value.slice (some ⟨w.heap.size + 1, 0, none⟩) 2 2 ∧ W = ((w.alloc (kc 2 1 44 0 1 false false ⟨#[99, 104]⟩)).alloc (.cells (two 0 0 1 1 4 1) 67)).drew)
  case first =>
    go_region_with (go_at_call 44; (with_reducible refine (CL _).mono ?_); rintro e w1 ⟨rfl, rfl⟩)
    all_goals
      go_wp2
      go_meet
      case rel => exact ⟨rfl, rfl⟩
  obtain ⟨rfl, rfl⟩ := hcut
  go_wp2
  refine wp_loop_rounds 3 ?_
  rw [rounds_succ]
  go_wp2
  go_region
  go_wp2
  rw [rounds_succ]
  go_wp2
  go_region
  go_wp2
  rw [rounds_succ]
  go_wp2
  go_ret
  refine ⟨w.heap.size + 1, rfl, ?_, below_drew (below_drew (below_drew (bal (bal (Below.refl _ _) _) _)))⟩
  have := (((Bx.new (w.alloc (kc 2 1 44 0 1 false false ⟨#[99, 104]⟩)) (two 1 0 1 3 4 1).toList 67).drew).drew).drew
  simpa [go_sem] using this
end Go.Proofs.Ytjmgcgjmaemgdaa
