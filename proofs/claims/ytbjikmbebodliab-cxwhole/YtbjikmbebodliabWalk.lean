/-
  What the law's body does, step by step: its loop lays twelve floats into new memory; each test answers true.
-/
import Derived.Test.YtbjikmbebodliabAwake
import Derived.Test.YtbjikmbebodliabFacts
namespace Go.Proofs.Ytbjikmbebodliab
open Go.RowKit
theorem run_at0 (n0 n1 n2 n3 n4 n5 : Int) (w : World) : (Instr.index 22 (.agg #[.int .i32 n0, .int .i32 n1, .int .i32 n2, .int .i32 n3, .int .i32 n4, .int .i32 n5]) (.int .i64 0)).run Try.prog w = .ok (.int .i32 n0) w := by kernel_rfl
theorem run_at1 (n0 n1 n2 n3 n4 n5 : Int) (w : World) : (Instr.index 22 (.agg #[.int .i32 n0, .int .i32 n1, .int .i32 n2, .int .i32 n3, .int .i32 n4, .int .i32 n5]) (.int .i64 1)).run Try.prog w = .ok (.int .i32 n1) w := by kernel_rfl
theorem run_at2 (n0 n1 n2 n3 n4 n5 : Int) (w : World) : (Instr.index 22 (.agg #[.int .i32 n0, .int .i32 n1, .int .i32 n2, .int .i32 n3, .int .i32 n4, .int .i32 n5]) (.int .i64 2)).run Try.prog w = .ok (.int .i32 n2) w := by kernel_rfl
theorem run_at3 (n0 n1 n2 n3 n4 n5 : Int) (w : World) : (Instr.index 22 (.agg #[.int .i32 n0, .int .i32 n1, .int .i32 n2, .int .i32 n3, .int .i32 n4, .int .i32 n5]) (.int .i64 3)).run Try.prog w = .ok (.int .i32 n3) w := by kernel_rfl
theorem run_at4 (n0 n1 n2 n3 n4 n5 : Int) (w : World) : (Instr.index 22 (.agg #[.int .i32 n0, .int .i32 n1, .int .i32 n2, .int .i32 n3, .int .i32 n4, .int .i32 n5]) (.int .i64 4)).run Try.prog w = .ok (.int .i32 n4) w := by kernel_rfl
theorem run_at5 (n0 n1 n2 n3 n4 n5 : Int) (w : World) : (Instr.index 22 (.agg #[.int .i32 n0, .int .i32 n1, .int .i32 n2, .int .i32 n3, .int .i32 n4, .int .i32 n5]) (.int .i64 5)).run Try.prog w = .ok (.int .i32 n5) w := by kernel_rfl
theorem run_store_fl (w : World) (a : Addr) (b : Nat) (h : (w.cell? a).isSome = true) (g : w.frozen? a = false) : (store a (.float .f64 b)).run Try.prog w = .ok () (w.setCell a (.float .f64 b)) := by
  rw [run_store _ _ _ _ _ rfl]
  obtain ⟨u, hu⟩ := Option.isSome_iff_exists.1 h
  rw [hu, g]; rfl

theorem laid12 (w0 w1 : World) (P Q : Nat) (f0 f1 f2 f3 f4 f5 g0 g1 g2 g3 g4 g5 : Value) (hQP : Q ≠ P) (cF : ∀ o, o < 6 → (w0.cell? ⟨P, o, none⟩).isSome = true) (cG : ∀ o, o < 6 → (w0.cell? ⟨Q, o, none⟩).isSome = true)
    (h : w1 = ((((((((((((w0.setCell ⟨P, 0, none⟩ f0).setCell ⟨Q, 0, none⟩ g0).setCell ⟨P, 1, none⟩ f1).setCell ⟨Q, 1, none⟩ g1).setCell ⟨P, 2, none⟩ f2).setCell ⟨Q, 2, none⟩ g2).setCell ⟨P, 3, none⟩ f3).setCell ⟨Q, 3, none⟩ g3).setCell ⟨P, 4, none⟩ f4).setCell ⟨Q, 4, none⟩ g4).setCell ⟨P, 5, none⟩ f5).setCell ⟨Q, 5, none⟩ g5)) :
    w1.cell? ⟨P, 0, none⟩ = some f0 ∧ w1.cell? ⟨P, 1, none⟩ = some f1 ∧ w1.cell? ⟨P, 2, none⟩ = some f2 ∧ w1.cell? ⟨P, 3, none⟩ = some f3 ∧ w1.cell? ⟨P, 4, none⟩ = some f4 ∧ w1.cell? ⟨P, 5, none⟩ = some f5 ∧ w1.cell? ⟨Q, 0, none⟩ = some g0 ∧ w1.cell? ⟨Q, 1, none⟩ = some g1 ∧ w1.cell? ⟨Q, 2, none⟩ = some g2 ∧ w1.cell? ⟨Q, 3, none⟩ = some g3 ∧ w1.cell? ⟨Q, 4, none⟩ = some g4 ∧ w1.cell? ⟨Q, 5, none⟩ = some g5 := by
  subst h
  simp [World.cell?_setCell_same', World.cell?_setCell_other, cF, cG]

set_option maxHeartbeats 1000000 in
theorem whole_any (n0 n1 n2 n3 n4 n5 : Int) (w : World) :
    Calls Try.prog 3 #[.agg #[.int .i32 n0, .int .i32 n1, .int .i32 n2, .int .i32 n3, .int .i32 n4, .int .i32 n5]] w fun e w' => e = .returned (.bool true) ∧ Below w.heap.size w w' := by
  have i0 := run_at0 n0 n1 n2 n3 n4 n5
  have i1 := run_at1 n0 n1 n2 n3 n4 n5
  have i2 := run_at2 n0 n1 n2 n3 n4 n5
  have i3 := run_at3 n0 n1 n2 n3 n4 n5
  have i4 := run_at4 n0 n1 n2 n3 n4 n5
  have i5 := run_at5 n0 n1 n2 n3 n4 n5
  go_enter Try.func3, Try.ntmps3
  go_wp2_with (go_at_call 4; refine (awake_any _).mono ?_; rintro e w' ⟨rfl, rfl⟩)
  obtain ⟨w0, hw0⟩ : ∃ w0, w0 = (((w.alloc (.cells #[.int .i32 n0, .int .i32 n1, .int .i32 n2, .int .i32 n3, .int .i32 n4, .int .i32 n5] 22)).alloc (.cells #[.float .f64 0, .float .f64 0, .float .f64 0, .float .f64 0, .float .f64 0, .float .f64 0] 25)).alloc (.cells #[.float .f64 0, .float .f64 0, .float .f64 0, .float .f64 0, .float .f64 0, .float .f64 0] 25)) := ⟨_, rfl⟩
  rw [← hw0]
  have B0 : Below w.heap.size w w0 := by
    rw [hw0]
    exact (((Below.refl _ _).alloc (Nat.le_refl _) _).alloc (by simp) _).alloc (by simp; omega) _
  have cF : ∀ o, o < 6 → (w0.cell? ⟨w.heap.size + 1, o, none⟩).isSome = true := by
    intro o ho
    rw [hw0, World.cell?_alloc_past _ _ _ (by simp), World.cell?_alloc_at _ _ _ _ (by simp)]
    simp [ho]
  have cG : ∀ o, o < 6 → (w0.cell? ⟨w.heap.size + 1 + 1, o, none⟩).isSome = true := by
    intro o ho
    rw [hw0, World.cell?_alloc_at _ _ _ _ (by simp)]
    simp [ho]
  have zF : ∀ o, w0.frozen? ⟨w.heap.size + 1, o, none⟩ = false := by
    intro o
    rw [hw0, World.frozen?_alloc_past _ _ _ (by simp), World.frozen?_alloc_at _ _ _ _ (by simp)]
  have zG : ∀ o, w0.frozen? ⟨w.heap.size + 1 + 1, o, none⟩ = false := by
    intro o
    rw [hw0, World.frozen?_alloc_at _ _ _ _ (by simp)]
  clear hw0
  have hst := run_store_fl
  refine wp_loop_rounds 7 ?_
  rw [rounds_succ]
  go_wp2
  rw [rounds_succ]
  go_wp2
  rw [rounds_succ]
  go_wp2
  rw [rounds_succ]
  go_wp2
  rw [rounds_succ]
  go_wp2
  rw [rounds_succ]
  go_wp2
  rw [rounds_succ]
  go_wp2
  obtain ⟨w1, hw1⟩ : ∃ w1, w1 = ((((((((((((w0.setCell ⟨w.heap.size + 1, 0, none⟩ (.float .f64 (floatOfInt .f64 (n0.tmod 33554432)))).setCell ⟨w.heap.size + 1 + 1, 0, none⟩ (.float .f64 (floatOfInt .f64 (n0.tmod 65536)))).setCell ⟨w.heap.size + 1, 1, none⟩ (.float .f64 (floatOfInt .f64 (n1.tmod 33554432)))).setCell ⟨w.heap.size + 1 + 1, 1, none⟩ (.float .f64 (floatOfInt .f64 (n1.tmod 65536)))).setCell ⟨w.heap.size + 1, 2, none⟩ (.float .f64 (floatOfInt .f64 (n2.tmod 33554432)))).setCell ⟨w.heap.size + 1 + 1, 2, none⟩ (.float .f64 (floatOfInt .f64 (n2.tmod 65536)))).setCell ⟨w.heap.size + 1, 3, none⟩ (.float .f64 (floatOfInt .f64 (n3.tmod 33554432)))).setCell ⟨w.heap.size + 1 + 1, 3, none⟩ (.float .f64 (floatOfInt .f64 (n3.tmod 65536)))).setCell ⟨w.heap.size + 1, 4, none⟩ (.float .f64 (floatOfInt .f64 (n4.tmod 33554432)))).setCell ⟨w.heap.size + 1 + 1, 4, none⟩ (.float .f64 (floatOfInt .f64 (n4.tmod 65536)))).setCell ⟨w.heap.size + 1, 5, none⟩ (.float .f64 (floatOfInt .f64 (n5.tmod 33554432)))).setCell ⟨w.heap.size + 1 + 1, 5, none⟩ (.float .f64 (floatOfInt .f64 (n5.tmod 65536)))) := ⟨_, rfl⟩
  rw [← hw1]
  have B1 : Below w.heap.size w w1 := by
    rw [hw1]
    exact ((((((((((((B0.setCell (Nat.le_succ _) _).setCell (Nat.le_trans (Nat.le_succ _) (Nat.le_succ _)) _).setCell (Nat.le_succ _) _).setCell (Nat.le_trans (Nat.le_succ _) (Nat.le_succ _)) _).setCell (Nat.le_succ _) _).setCell (Nat.le_trans (Nat.le_succ _) (Nat.le_succ _)) _).setCell (Nat.le_succ _) _).setCell (Nat.le_trans (Nat.le_succ _) (Nat.le_succ _)) _).setCell (Nat.le_succ _) _).setCell (Nat.le_trans (Nat.le_succ _) (Nat.le_succ _)) _).setCell (Nat.le_succ _) _).setCell (Nat.le_trans (Nat.le_succ _) (Nat.le_succ _)) _)
  obtain ⟨a0, a1, a2, a3, _, _, b0, b1, b2, b3, b4, b5⟩ := laid12 w0 w1 (w.heap.size + 1) (w.heap.size + 1 + 1) _ _ _ _ _ _ _ _ _ _ _ _ (by omega) cF cG hw1
  clear hw1 B0 cF cG zF zG hst i0 i1 i2 i3 i4 i5
  obtain ⟨e, f, g, h, k, l, m1, m2, m3, s1, s2, s3, d1, d2, d3⟩ := (big_of (cb_of n0 n1) (cb_of n2 n3)).all
  have hS := small_of (cb_small n0 n1) (cb_small n2 n3) (cb_small n4 n5)
  have hN := norms_of (cb_small n0 n1) (cb_small n2 n3)
  generalize floatOfInt .f64 (n0.tmod 33554432) = u0 at *
  generalize floatOfInt .f64 (n1.tmod 33554432) = u1 at *
  generalize floatOfInt .f64 (n2.tmod 33554432) = u2 at *
  generalize floatOfInt .f64 (n3.tmod 33554432) = u3 at *
  generalize floatOfInt .f64 (n0.tmod 65536) = v0 at *
  generalize floatOfInt .f64 (n1.tmod 65536) = v1 at *
  generalize floatOfInt .f64 (n2.tmod 65536) = v2 at *
  generalize floatOfInt .f64 (n3.tmod 65536) = v3 at *
  generalize floatOfInt .f64 (n4.tmod 65536) = v4 at *
  generalize floatOfInt .f64 (n5.tmod 65536) = v5 at *
  go_quiet (fail)
  have z0 : (w1.drewN nq).cell? ⟨w.heap.size + 1 + 1, 0, none⟩ = some (.float .f64 v0) := by simpa using b0
  have z1 : (w1.drewN nq).cell? ⟨w.heap.size + 1 + 1, 1, none⟩ = some (.float .f64 v1) := by simpa using b1
  have z2 : (w1.drewN nq).cell? ⟨w.heap.size + 1 + 1, 2, none⟩ = some (.float .f64 v2) := by simpa using b2
  have z3 : (w1.drewN nq).cell? ⟨w.heap.size + 1 + 1, 3, none⟩ = some (.float .f64 v3) := by simpa using b3
  have z4 : (w1.drewN nq).cell? ⟨w.heap.size + 1 + 1, 4, none⟩ = some (.float .f64 v4) := by simpa using b4
  have z5 : (w1.drewN nq).cell? ⟨w.heap.size + 1 + 1, 5, none⟩ = some (.float .f64 v5) := by simpa using b5
  have B2 : Below w.heap.size w (w1.drewN nq) := below_drewN B1 nq
  obtain ⟨w2, hw2⟩ : ∃ w2, w2 = w1.drewN nq := ⟨_, rfl⟩
  rw [← hw2] at z0 z1 z2 z3 z4 z5 B2
  rw [← hw2]
  clear hw2 a0 a1 a2 a3 b0 b1 b2 b3 b4 b5 B1
  go_wp2_with (first
    | (go_at_call 6; refine Calls.mono (Ret.calls (by assumption) _) ?_; rintro e w' ⟨rfl, rfl⟩)
    | (go_at_call 7; refine Calls.mono (Ret.calls (by assumption) _) ?_; rintro e w' ⟨rfl, rfl⟩)
    | (go_at_call 8; refine Calls.mono (Ret.calls (by assumption) _) ?_; rintro e w' ⟨rfl, rfl⟩)
    | (go_at_call 5; refine Calls.mono (Ret.calls (by assumption) _) ?_; rintro e w' ⟨rfl, rfl⟩))
  clear m1 m2 m3 s1 s2 s3 d1 d2 d3
  go_quiet (fail)
  have B3 : Below w.heap.size w (w'.drewN nq) := below_drewN B2 nq
  obtain ⟨w3, hw3⟩ : ∃ w3, w3 = w'.drewN nq := ⟨_, rfl⟩
  rw [← hw3] at B3
  rw [← hw3]
  clear hw3 z0 z1 z2 z3 z4 z5 B2
  obtain ⟨p1, q1, r1, t1, p2, q2, r2, t2, x1, x2, x3, x4, x5, p3, q3, r3, t3, p4, q4, r4, t4, y1, y2, y3, y4, y5⟩ := hS.all
  obtain ⟨e1, f1, na, p5, q5, nb, p6, q6, p7, q7, p8, q8, nn, h1, h2, h3, h4, h5, h6, h7, h8, h9, h10, h11⟩ := hN.all
  go_wp2_with (first
    | (go_at_call 6; refine Calls.mono (Ret.calls (by assumption) _) ?_; rintro e w' ⟨rfl, rfl⟩)
    | (go_at_call 7; refine Calls.mono (Ret.calls (by assumption) _) ?_; rintro e w' ⟨rfl, rfl⟩)
    | (go_at_call 9; refine Calls.mono (Ret.calls (conj_ret _ _) _) ?_; rintro e w' ⟨rfl, rfl⟩)
    | (go_at_call 10; refine Calls.mono (Ret.calls (by assumption) _) ?_; rintro e w' ⟨rfl, rfl⟩)
    | (go_at_call 11; refine Calls.mono (Ret.calls (turn_ret _ _) _) ?_; rintro e w' ⟨rfl, rfl⟩)
    | (go_at_call 5; refine Calls.mono (Ret.calls (by assumption) _) ?_; rintro e w' ⟨rfl, rfl⟩))
  refine (dot_bits _ _ v0 v1 v2 v3 e1 f1 p6 q6 p7 q7 p8 q8 _ (by simp [go_sem]) (by simp [go_sem]) (by simp [go_sem]) (by simp [go_sem]) h1 h7 h8 h9).mono ?_
  rintro e w'' ⟨rfl, nd, rfl⟩
  have hz : w.heap.size ≤ w'.heap.size := B3.size
  have B4 := below_drewN ((B3.alloc hz (.cells #[.complex .f64 v0 v1, .complex .f64 v2 v3] 26)).alloc (by simp; omega) (.cells #[.complex .f64 v0 v1, .complex .f64 v2 v3] 26)) nd
  obtain ⟨w4, hw4⟩ : ∃ w4, w4 = ((w'.alloc (.cells #[.complex .f64 v0 v1, .complex .f64 v2 v3] 26)).alloc (.cells #[.complex .f64 v0 v1, .complex .f64 v2 v3] 26)).drewN nd := ⟨_, rfl⟩
  rw [← hw4] at B4
  rw [← hw4]
  clear hw4 hz B3
  go_wp2_with (first
    | (go_at_call 10; refine Calls.mono (Ret.calls (by assumption) _) ?_; rintro e w' ⟨rfl, rfl⟩)
    | (go_at_call 5; refine Calls.mono (Ret.calls (by assumption) _) ?_; rintro e w' ⟨rfl, rfl⟩))
  go_ret
  exact ⟨rfl, B4⟩

end Go.Proofs.Ytbjikmbebodliab
