/-
  The walk of the law BitsSets: true, whatever the input.
-/
import Derived.Test.YtpheplcmooljhaaDoorSetsM
namespace Go.Proofs.YtpheplcmooljhaaDoor
open Go.RowKit Go.Shelf

theorem awake_beside (stop : Int) (w : World) : Calls Tryd.prog 9 #[] ((w.alloc (.cells #[.int .i64 stop] 3)).alloc (.cells #[.bool false] 4)) fun e w1 => e = .returned (.bool true) ∧
    w1.cell? ⟨w.heap.size, 0, none⟩ = some (.int .i64 stop) ∧ w1.frozen? ⟨w.heap.size, 0, none⟩ = false ∧ w1.cell? ⟨w.heap.size + 1, 0, none⟩ = some (.bool false) ∧ w1.frozen? ⟨w.heap.size + 1, 0, none⟩ = false ∧ Hid (Below w.heap.size w w1) :=
  (awake_any _).mono fun e w1 ⟨he, hB⟩ => by
    have c1 := cell_new w (.int .i64 stop) 3
    have c2 := cell_new (w.alloc (.cells #[.int .i64 stop] 3)) (.bool false) 4
    simp only [World.size_alloc] at c2 hB
    have b1 : Below (w.heap.size + 1) (w.alloc (.cells #[.int .i64 stop] 3)) ((w.alloc (.cells #[.int .i64 stop] 3)).alloc (.cells #[.bool false] 4)) := (Below.refl _ _).alloc (by simp) _
    have b2 : Below w.heap.size w ((w.alloc (.cells #[.int .i64 stop] 3)).alloc (.cells #[.bool false] 4)) := ((Below.refl _ w).alloc (Nat.le_refl _) _).alloc (by simp) _
    exact ⟨he, (hB.cell (p := ⟨w.heap.size, 0, none⟩) (by show w.heap.size < _; omega)).trans ((b1.cell (p := ⟨w.heap.size, 0, none⟩) (by show w.heap.size < _; omega)).trans c1.1),
      (hB.frozen (p := ⟨w.heap.size, 0, none⟩) (by show w.heap.size < _; omega)).trans ((b1.frozen (p := ⟨w.heap.size, 0, none⟩) (by show w.heap.size < _; omega)).trans c1.2),
      (hB.cell (p := ⟨w.heap.size + 1, 0, none⟩) (by show w.heap.size + 1 < _; omega)).trans c2.1, (hB.frozen (p := ⟨w.heap.size + 1, 0, none⟩) (by show w.heap.size + 1 < _; omega)).trans c2.2,
      b2.trans (hB.mono (by omega))⟩

theorem sets_end {w w4 : World} {B R : Nat} (hB : B = w.heap.size) (hB4 : Below B w w4) (D1 D2 : Nat) (hD : D1 ≠ D2) (hD1 : B ≤ D1) (hD2 : B ≤ D2) :
    TailQ B R D1 D2 [{ target := .collected D2, args := #[] }, { target := .collected D1, args := #[] }] (bodyPostM Fence.wide 9 Tryd.prog Tryd.f6 fun e w' => e = .returned (.bool true) ∧ Below w.heap.size w w') w4 := by
  rintro ⟨tmps, ds⟩ W' h8 hd hBW hc e1 e2
  simp only at h8 hd
  subst hd
  have e1' : (W'.putObj D2 (.deferred none)).heap[D1]? = some (.deferred (some [])) := (World.putObj_heap_other (by omega)).trans e1
  have c1 := cell_kept hc (grownBy_putObj' _ D2 (.deferred none)) (fun r e => by cases e; exact ⟨_, e2, rfl⟩)
  have c2 := cell_kept c1 (grownBy_putObj' _ D1 (.deferred none)) (fun r e => by cases e; exact ⟨_, e1', rfl⟩)
  have b1 : Below B w (W'.putObj D2 (.deferred none)) := (hB4.trans hBW).trans (belowK_b (w := w) (by omega) W' D2 _ _ (by omega) e2 rfl rfl)
  have b2 := b1.trans (belowK_b (w := w) (n₀ := B) (by omega) _ D1 _ (.deferred none) (by omega) e1' rfl rfl)
  refine ⟨by simp, .inl ⟨_, _, rfl, run_takeDeferred e2, by simp, .inl ⟨_, _, rfl, run_takeDeferred e1', .bool true, ?_, rfl, hB ▸ b2⟩⟩⟩
  simp [results, Tryd.f6, go_sem, h8, c2]

set_option maxRecDepth 100000 in
set_option maxHeartbeats 4000000 in
theorem sets_any (mask : Nat) (stop n k : Int) (w : World) (hm : mask < 18446744073709551616) :
    Calls Tryd.prog 6 #[.int .u64 mask, .int .i64 stop, .int .i64 n, .int .i64 k] w fun e w' => e = .returned (.bool true) ∧ Below w.heap.size w w' := by
  refine (callsIn_wide (n := 9)).1 ?_
  refine callsIn_of_wp_marks Tryd.func6 rfl trivial ?_ rfl
  refine wpIn_wide.2 ?_
  simp only [Tryd.ntmps6, List.size_toArray, List.length_cons, List.length_nil, Nat.reduceAdd, Nat.reduceSub, Array.replicate_succ, Array.replicate_zero, List.push_toArray, List.append_toArray, List.nil_append, List.cons_append]
  show Code.wp Tryd.prog (Code.seq _ (Code.seq _ (Code.seq _ restC))) _ _ _
  have HA := awake_beside stop w
  obtain ⟨s, hs1, hs2, hs⟩ : ∃ s : Nat, 1 ≤ s ∧ s ≤ 300 ∧ ((stop < 1 ∧ s = 1) ∨ (1 ≤ stop ∧ stop ≤ 300 ∧ s = stop) ∨ (300 < stop ∧ s = 300)) := by
    rcases (show stop < 1 ∨ (1 ≤ stop ∧ stop ≤ 300) ∨ 300 < stop by omega) with h | ⟨h1, h2⟩ | h
    · exact ⟨1, by omega, by omega, .inl ⟨h, rfl⟩⟩
    · exact ⟨stop.toNat, by omega, by omega, .inr (.inl ⟨h1, h2, by omega⟩)⟩
    · exact ⟨300, by omega, by omega, .inr (.inr ⟨h, rfl⟩)⟩
  rcases hs with ⟨h, rfl⟩ | ⟨h1, h2, rfl⟩ | ⟨h, rfl⟩
  all_goals
    go_wp2_with (first | (go_at_call 9; (with_reducible refine HA.mono ?_); rintro e w1 ⟨rfl, cS, fS, cR, fR, hB⟩))
    exact rest_any (B := w.heap.size) hm hs1 hs2 (World.cell?_setCell_same' _ _ _ (by rw [cS]; rfl)) ((World.cell?_setCell_other _ _ _ _ (by simp)).trans cR) (by rw [World.frozen?_setCell]; exact fR) (by omega) (by have := hB.out.size; simpa using this)
      (sets_end rfl (hB.out.setCell (p := ⟨w.heap.size, 0, none⟩) (Nat.le_refl _) _))
end Go.Proofs.YtpheplcmooljhaaDoor
