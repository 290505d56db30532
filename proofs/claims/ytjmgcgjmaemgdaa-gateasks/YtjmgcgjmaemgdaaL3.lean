/-
  The entries of the gates' columns.
-/
import Derived.Test.YtjmgcgjmaemgdaaL0
namespace Go.Proofs.Ytjmgcgjmaemgdaa
open Go.RowKit Go.Sort

set_option maxRecDepth 100000 in
set_option maxHeartbeats 1000000 in
theorem ent_46_0 (q p h : Int) (cl di : Bool) (inv : ByteArray) (y r0 p0 h0 R : Int) (w : World) (hr : 0 ≤ r0) (hr8 : r0 < 8) (CL : Col1 46 p y r0 p0 h0) (b1 : bits .and .i64 y 0 = 0) (b3 : bits .or .i64 r0 0 = R) :
    Calls Try.prog 32 #[kd q 0 46 p h cl di inv, .int .i64 y] w fun e w' => ∃ b, e = .returned (.slice (some ⟨b, 0, none⟩) 1 1) ∧ Bx w' b [.int .i64 R, .int .i64 p0, .int .i64 h0] ∧ w.heap.size ≤ b ∧ Below w.heap.size w w' := by
  go_enter Try.func32, Try.ntmps32
  go_upto_region 4 with (fail)
  go_cut [6] from 20 to 28 (fun v6 W => v6 = Value.slice (some ⟨w.heap.size + 1, 0, none⟩) 1 1 ∧ W = ((w.alloc (kc q 0 46 p h cl di inv)).alloc (.cells #[.int .i64 r0, .int .i64 p0, .int .i64 h0] 67)).drew)
  case first =>
    go_region_with (go_at_call 46; (with_reducible refine (CL _).mono ?_); rintro e w1 ⟨rfl, rfl⟩)
    all_goals
      go_wp2
      go_meet
      case rel => exact ⟨rfl, rfl⟩
  obtain ⟨rfl, rfl⟩ := hcut
  clear CL
  go_wp2
  refine wp_loop_rounds 2 ?_
  rw [rounds_succ]
  go_wp2
  go_region
  go_wp2
  rw [rounds_succ]
  go_wp2
  go_ret
  refine ⟨w.heap.size + 1, rfl, ?_, Nat.le_succ _, below_drew (below_drew (bal (bal (Below.refl _ _) _) _))⟩
  have := ((Bx.new (w.alloc (kc q 0 46 p h cl di inv)) [.int .i64 R, .int .i64 p0, .int .i64 h0] 67).drew).drew
  simpa [go_sem] using this
set_option maxRecDepth 100000 in
set_option maxHeartbeats 1000000 in
theorem ent_47_0 (q p h : Int) (cl di : Bool) (inv : ByteArray) (y r0 p0 h0 R : Int) (w : World) (hr : 0 ≤ r0) (hr8 : r0 < 8) (CL : Col1 47 p y r0 p0 h0) (b1 : bits .and .i64 y 0 = 0) (b3 : bits .or .i64 r0 0 = R) :
    Calls Try.prog 32 #[kd q 0 47 p h cl di inv, .int .i64 y] w fun e w' => ∃ b, e = .returned (.slice (some ⟨b, 0, none⟩) 1 1) ∧ Bx w' b [.int .i64 R, .int .i64 p0, .int .i64 h0] ∧ w.heap.size ≤ b ∧ Below w.heap.size w w' := by
  go_enter Try.func32, Try.ntmps32
  go_upto_region 4 with (fail)
  go_cut [6] from 20 to 28 (fun v6 W => v6 = Value.slice (some ⟨w.heap.size + 1, 0, none⟩) 1 1 ∧ W = ((w.alloc (kc q 0 47 p h cl di inv)).alloc (.cells #[.int .i64 r0, .int .i64 p0, .int .i64 h0] 67)).drew)
  case first =>
    go_region_with (go_at_call 47; (with_reducible refine (CL _).mono ?_); rintro e w1 ⟨rfl, rfl⟩)
    all_goals
      go_wp2
      go_meet
      case rel => exact ⟨rfl, rfl⟩
  obtain ⟨rfl, rfl⟩ := hcut
  clear CL
  go_wp2
  refine wp_loop_rounds 2 ?_
  rw [rounds_succ]
  go_wp2
  go_region
  go_wp2
  rw [rounds_succ]
  go_wp2
  go_ret
  refine ⟨w.heap.size + 1, rfl, ?_, Nat.le_succ _, below_drew (below_drew (bal (bal (Below.refl _ _) _) _))⟩
  have := ((Bx.new (w.alloc (kc q 0 47 p h cl di inv)) [.int .i64 R, .int .i64 p0, .int .i64 h0] 67).drew).drew
  simpa [go_sem] using this
set_option maxRecDepth 100000 in
set_option maxHeartbeats 1000000 in
theorem ent_47_1 (q p h : Int) (cl di : Bool) (inv : ByteArray) (y r0 p0 h0 R : Int) (w : World) (hr : 0 ≤ r0) (hr8 : r0 < 8) (CL : Col1 47 p (y / 2) r0 p0 h0) (b1 : bits .and .i64 y 1 = 1) (b3 : bits .or .i64 (r0 * 2) 1 = R) :
    Calls Try.prog 32 #[kd q 1 47 p h cl di inv, .int .i64 y] w fun e w' => ∃ b, e = .returned (.slice (some ⟨b, 0, none⟩) 1 1) ∧ Bx w' b [.int .i64 R, .int .i64 p0, .int .i64 h0] ∧ w.heap.size ≤ b ∧ Below w.heap.size w w' := by
  go_enter Try.func32, Try.ntmps32
  go_upto_region 4 with (fail)
  go_cut [6] from 20 to 28 (fun v6 W => v6 = Value.slice (some ⟨w.heap.size + 1, 0, none⟩) 1 1 ∧ W = ((w.alloc (kc q 1 47 p h cl di inv)).alloc (.cells #[.int .i64 r0, .int .i64 p0, .int .i64 h0] 67)).drew)
  case first =>
    go_region_with (go_at_call 47; (with_reducible refine (CL _).mono ?_); rintro e w1 ⟨rfl, rfl⟩)
    all_goals
      go_wp2
      go_meet
      case rel => exact ⟨rfl, rfl⟩
  obtain ⟨rfl, rfl⟩ := hcut
  clear CL
  go_wp2
  refine wp_loop_rounds 2 ?_
  rw [rounds_succ]
  go_wp2
  go_region
  go_wp2
  rw [rounds_succ]
  go_wp2
  go_ret
  refine ⟨w.heap.size + 1, rfl, ?_, Nat.le_succ _, below_drew (below_drew (bal (bal (Below.refl _ _) _) _))⟩
  have := ((Bx.new (w.alloc (kc q 1 47 p h cl di inv)) [.int .i64 R, .int .i64 p0, .int .i64 h0] 67).drew).drew
  simpa [go_sem] using this
end Go.Proofs.Ytjmgcgjmaemgdaa
