/-
  tableau: the reference's mul and on.
-/
import Derived.Test.YtoddbaljnlhhaaaB2
namespace Go.Proofs.Ytoddbaljnlhhaaa
open Go.RowKit Go.Sort
open PL (pv PS)

set_option maxHeartbeats 1000000 in
set_option maxRecDepth 100000 in
theorem rmulT_any (p q : PS) (w : World) (hp : p.ok) (hq : q.ok) (hn : p.n = q.n) :
    Calls Try.prog 52 #[p.v, q.v] w fun e w' => e = .returned (p.mul q).v ∧ Below w.heap.size w w' := by
  have C := fun w => PL.rmul_yes p q w hp hq hn
  generalize p.mul q = m at *
  clear hp hq hn
  obtain ⟨n, x, z, f⟩ := p
  obtain ⟨n', x', z', f'⟩ := q
  obtain ⟨mn, mx, mz, mf⟩ := m
  obtain ⟨hW, b1, b2, b3⟩ := PL.three_boxes w n x z f n' x' z' f' 0 0 0 0
  go_enter Try.func52, Try.ntmps52
  go_wp2_with (go_at_call 60; (with_reducible refine (C _).mono ?_); rintro e w1 ⟨rfl, hB1⟩; (have b4 := b3.below hB1); obtain ⟨c0, c1, c2, c3, f0, f1, f2, f3⟩ := b4; have l4 := (b3.below hB1).lt)
  have r4 := (((((b3.below hB1).set0 (mn : Int)).set1 mx).set2 mz).set3 (mf : Int)).alloc (PL.pc mn mx mz mf)
  obtain ⟨q0, q1, q2, q3, _, _, _, _⟩ := r4
  have hB4 := bal (bset (bset (bset (bset (btr hW hB1) (w.heap.size + 1 + 1) 0 (.int .i64 (mn : Int)) (by omega)) (w.heap.size + 1 + 1) 1 (.int .u64 (mx : Int)) (by omega)) (w.heap.size + 1 + 1) 2 (.int .u64 (mz : Int)) (by omega)) (w.heap.size + 1 + 1) 3 (.int .i64 (mf : Int)) (by omega)) (PL.pc mn mx mz mf)
  exact bodyPost_ret (v := pv mn mx mz mf) (by simp [results, Try.results52, go_sem, q0, q1, q2, q3]) rfl ⟨rfl, hB4⟩
set_option maxHeartbeats 1000000 in
set_option maxRecDepth 100000 in
theorem ron_any (n q : Int) (kc X Z N : Nat) (f : Int) (w : World) (C : ∀ w, Calls Try.prog 61 #[.int .i64 n, .int .i64 q, .int .u8 (kc : Int)] w fun e w' => e = .returned (.tuple #[pv N X Z 0, .int .i64 0]) ∧ Below w.heap.size w w') :
    Calls Try.prog 36 #[.int .i64 n, .int .i64 q, .int .u8 (kc : Int), .int .i64 f] w fun e w' => e = .returned (pv N X Z f) ∧ Below w.heap.size w w' := by
  have b0 := PL.PB.new w 0 0 0 0
  have hW := bal (Below.refl w.heap.size w) (PL.pc 0 0 0 0)
  go_enter Try.func36, Try.ntmps36
  go_wp2_with (go_at_call 61; (with_reducible refine (C _).mono ?_); rintro e w1 ⟨rfl, hB1⟩; (have b1 := b0.below hB1); obtain ⟨c0, c1, c2, c3, f0, f1, f2, f3⟩ := b1; have l1 := (b0.below hB1).lt)
  have r4 := (((((b0.below hB1).set0 (N : Int)).set1 X).set2 Z).set3 f).alloc (PL.pc N X Z f)
  obtain ⟨q0, q1, q2, q3, _, _, _, _⟩ := r4
  have hB4 := bal (bset (bset (bset (bset (btr hW hB1) w.heap.size 0 (.int .i64 (N : Int)) (Nat.le_refl _)) w.heap.size 1 (.int .u64 (X : Int)) (Nat.le_refl _)) w.heap.size 2 (.int .u64 (Z : Int)) (Nat.le_refl _)) w.heap.size 3 (.int .i64 f) (Nat.le_refl _)) (PL.pc N X Z f)
  exact bodyPost_ret (v := pv N X Z f) (by simp [results, Try.results36, go_sem, q0, q1, q2, q3]) rfl ⟨rfl, hB4⟩
end Go.Proofs.Ytoddbaljnlhhaaa
