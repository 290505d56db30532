/-
  The law's own waking test.
-/
import Derived.Test.YtjmgcgjmaemgdaaK5
namespace Go.Proofs.Ytjmgcgjmaemgdaa
open Go.RowKit Go.Sort

set_option maxRecDepth 100000 in
theorem hit_ch : Hit ⟨#[99, 104]⟩ 16 2 1 44 0 1 false false ⟨#[99, 104]⟩ := by unfold Hit; kernel_rfl
set_option maxRecDepth 100000 in
theorem hit_v : Hit ⟨#[118]⟩ 9 1 0 45 1 1 true false ⟨#[118, 100, 103]⟩ := by unfold Hit; kernel_rfl
set_option maxRecDepth 100000 in
theorem hit_ccx : Hit ⟨#[99, 99, 120]⟩ 22 3 2 43 0 0 false false ⟨#[99, 99, 120]⟩ := by unfold Hit; kernel_rfl
set_option maxRecDepth 100000 in
theorem miss_X : Instr.findNow .string (.string ⟨#[88]⟩) (KA 25).toList 0 = some none := by kernel_rfl

theorem eb_two {W : World} {b : Nat} {r0 p0 h0 r1 p1 h1 : Int} (h : Bx W b (two r0 p0 h0 r1 p1 h1).toList) : EB W b 2 (fun j => if j = 0 then r0 else r1) (fun j => if j = 0 then p0 else p1) (fun j => if j = 0 then h0 else h1) where
  c0 := fun j hj => by
    have : j = 0 ∨ j = 1 := by omega
    rcases this with rfl | rfl
    · exact h.c 0 _ rfl
    · exact h.c 3 _ rfl
  c1 := fun j hj => by
    have : j = 0 ∨ j = 1 := by omega
    rcases this with rfl | rfl
    · exact h.c 1 _ rfl
    · exact h.c 4 _ rfl
  c2 := fun j hj => by
    have : j = 0 ∨ j = 1 := by omega
    rcases this with rfl | rfl
    · exact h.c 2 _ rfl
    · exact h.c 5 _ rfl
  lt := h.lt
theorem own_at {w W : World} {e size n : Nat} {v : Value} {xs : List Value} (h : W.ownsRow w.heap.size e size v n xs) (hn : 0 < n) : ∃ g cap, v = .slice (some ⟨g, 0, none⟩) n cap ∧ n ≤ cap ∧ w.heap.size ≤ g ∧ g < W.heap.size ∧ ∀ j u, xs[j]? = some u → W.cell? ⟨g, j, none⟩ = some u := by
  have hc := fun g (hg : v.ownBlock = some g) => h.cells hg
  have hl := h.lt
  rcases h.2 with ⟨_, e⟩ | ⟨g, cap, cur, rfl, hb, _, hnc, _⟩
  · omega
  · refine ⟨g, cap, rfl, hnc, hb, (hl g rfl).2, fun j u hj => ?_⟩
    have := hc g rfl j u hj
    rwa [WideShapes.add_plain, Nat.zero_add] at this
/-- What alive asks of Column: the column 3 of ch. -/
theorem column_ch (w : World) : Calls Try.prog 21 #[.string ⟨#[99, 104]⟩, .int .i64 3] w fun e w' => ∃ g c g' c', e = .returned (.tuple #[.slice (some ⟨g, 0, none⟩) 2 c, .slice (some ⟨g', 0, none⟩) 2 c', .int .i64 0]) ∧
    w'.cell? ⟨g, 1, none⟩ = some (.int .i64 3) ∧ w'.cell? ⟨g', 3, none⟩ = some (.complex .f64 13830554455654793216 0) ∧ w'.cell? ⟨g', 4, none⟩ = some (.complex .f64 0 0) ∧ w'.cell? ⟨g', 5, none⟩ = some (.int .i64 1) ∧ g < w'.heap.size ∧ g' < w'.heap.size ∧ Below w.heap.size w w' := by
  refine (column_2 hit_ch 3 2 (fun j => if j = 0 then 1 else 3) (fun j => if j = 0 then 0 else 4) (fun j => if j = 0 then 1 else 1) (fun j => if j = 0 then 0 else 4) w (by omega) (by omega) (by omega)
    (fun w => (entries_ch w).mono fun e w' ⟨b, h1, h2, h3⟩ => ⟨b, h1, eb_two h2, h3⟩) (fun j hj => by
      have : j = 0 ∨ j = 1 := by omega
      rcases this with rfl | rfl
      · exact ⟨by decide, by decide, by decide, by decide⟩
      · exact ⟨by decide, by decide, by decide, by decide⟩)).mono fun e w' H => ?_
  obtain ⟨v9, v10, rfl, h9, h10⟩ := H.it
  obtain ⟨g, c, rfl, _, _, l1, c1⟩ := own_at h9 (by omega)
  obtain ⟨g', c', rfl, _, _, l2, c2⟩ := own_at h10 (by omega)
  exact ⟨g, c, g', c', rfl, c1 1 _ rfl, c2 3 _ rfl, c2 4 _ rfl, c2 5 _ rfl, l1, l2, H.below⟩
theorem run_eq (w : World) : (binOp .eql 46 (.agg #[.complex .f64 13830554455654793216 0, .complex .f64 0 0, .int .i64 1]) (.agg #[.complex .f64 13830554455654793216 0, .complex .f64 0 0, .int .i64 1])).run Try.prog w = .ok (.bool true) w := by kernel_rfl

set_option maxRecDepth 100000 in
set_option maxHeartbeats 2000000 in
theorem alive_any (w : World) : Calls Try.prog 7 #[] w fun e w' => e = .returned (.bool true) ∧ Below w.heap.size w w' := by
  have CO := fun w => column_ch w
  have IX := fun w => inverse_miss miss_X w
  have IV := fun w => inverse_hit hit_v w
  have AR := fun w => arity_hit hit_ccx w
  have NM := fun w => names_any w
  have EQ := run_eq
  generalize hNA : NA = na at NM
  go_enter Try.func7, Try.ntmps7
  go_wp2_with (first
    | (go_at_call 21; (with_reducible refine (CO _).mono ?_); rintro e w1 ⟨g, c, g', c', rfl, r1, a0, a1, a2, l1, l2, hN1⟩)
    | (go_at_call 16; (with_reducible refine (IX _).mono ?_); rintro e w2 ⟨rfl, hN2⟩)
    | (go_at_call 16; (with_reducible refine (IV _).mono ?_); rintro e w3 ⟨rfl, hN3⟩; have hN5 := btr (btr hN1 hN2) hN3; have hB := btr (btr (Below.refl _ w1) hN2) hN3; have r1' := (hB.cell (p := ⟨g, 1, none⟩) l1).trans r1; have a0' := (hB.cell (p := ⟨g', 3, none⟩) l2).trans a0; have a1' := (hB.cell (p := ⟨g', 4, none⟩) l2).trans a1; have a2' := (hB.cell (p := ⟨g', 5, none⟩) l2).trans a2)
    | (go_at_call 24; (with_reducible refine (NM _).mono ?_); rintro e w4 ⟨rfl, rfl⟩; have hB2 : Below w3.heap.size w3 (w3.alloc (.cells na 9)) := bal (Below.refl _ _) _; have r2 := (hB2.cell (p := ⟨g, 1, none⟩) (Nat.lt_of_lt_of_le l1 hB.size)).trans r1'; have b0 := (hB2.cell (p := ⟨g', 3, none⟩) (Nat.lt_of_lt_of_le l2 hB.size)).trans a0'; have b1 := (hB2.cell (p := ⟨g', 4, none⟩) (Nat.lt_of_lt_of_le l2 hB.size)).trans a1'; have b2 := (hB2.cell (p := ⟨g', 5, none⟩) (Nat.lt_of_lt_of_le l2 hB.size)).trans a2')
    | (go_at_call 8; (with_reducible refine (AR _).mono ?_); rintro e w5 ⟨rfl, hN6⟩; have hN7 := btr (btr hN5 hB2) hN6))
  all_goals (go_ret; exact ⟨by simp, hN7⟩)
end Go.Proofs.Ytjmgcgjmaemgdaa
