/-
  The reference's Then where it refuses ahead of joining.
-/
import Derived.Test.YtfaoegiignalkaaJ6
namespace Go.Proofs.Ytfaoegiignalkaa
open Go.RowKit Go.Shelf

section
variable (c d : Ci) (a1 a2 : Option Addr) (c1 c2 : Nat) (A1 A2 : Nat → Option Addr) (C1 C2 : Nat → Nat) (w : World)
set_option maxHeartbeats 4000000 in
set_option maxRecDepth 100000 in
theorem rthen_no (H1 : OS w a1 c1 c.ops A1 C1) (H2 : OS w a2 c2 d.ops A2 C2) (hno : (lk c).2.2 ≠ 0 ∨ (lk d).2.2 ≠ 0 ∨ c.q ≠ d.q ∨ c.b ≠ d.b) :
    Calls Try.prog 19 #[civ c a1 c1, civ d a2 c2] w fun e w' => ThR c d w e w' := by
  have F1 := fun w1 h => rcheck_any c a1 c1 A1 C1 w1 h
  have F2 := fun w1 h => rcheck_any d a2 c2 A2 C2 w1 h
  have HO1 := hid H1
  have HO2 := hid H2
  have TH := fun e w' => th_no c d w (e := e) (w' := w')
  clear H1 H2
  by_cases h1 : (lk c).2.2 = 0
  case neg =>
    have hE : thE c d = (lk c).2.2 := by unfold thE; rw [if_pos h1]
    have T1 := fun w' => TH _ w' h1 hE
    generalize (lk c).2.2 = E at *
    generalize (lk c).1 = P at *
    have hE1 : ((E : Int) != 0) = true := bne_iff_ne.2 (by omega)
    have HT := hid T1
    clear h1 hE hno T1 TH F2
    generalize hQ : ThR c d w = Q at *
    go_enter Try.func19, Try.ntmps19
    go_wp2_with (go_at_call 10; (with_reducible refine (F1 _ (HO1.out.below (bal (bal (bal (Below.refl _ _) _) _) _))).mono ?_); rintro e w1 ⟨rfl, hB⟩; obtain ⟨k1, k2, k3⟩ := three_box hB; have q1 : ∀ j, w1.cell? ⟨w.heap.size, j, none⟩ = _ := k1.cell; have q2 : ∀ j, w1.cell? ⟨w.heap.size + 1, j, none⟩ = _ := k2.cell; have q3 : ∀ j, w1.cell? ⟨w.heap.size + 1 + 1, j, none⟩ = _ := k3.cell; have z3 := k3.lt; have f3 : ∀ j, w1.frozen? ⟨w.heap.size + 1 + 1, j, none⟩ = false := k3.free)
    refine bodyPost_ret (v := .tuple #[civ noCi none 0, .int .i64 (E : Nat)]) (by simp [results, Try.results19, go_sem, *]) rfl (HT.out _ ?_)
    repeat (refine bset ?_ _ _ _ (by omega))
    exact below3 hB
  by_cases h2 : (lk d).2.2 = 0
  case neg =>
    have hE : thE c d = (lk d).2.2 := by unfold thE; rw [if_neg (by rw [h1]; simp), if_pos h2]
    have T1 := fun w' => TH _ w' h2 hE
    rw [h1] at F1
    generalize (lk c).1 = P at *
    generalize (lk d).2.2 = E at *
    generalize (lk d).1 = P2 at *
    have hE1 : ((E : Int) != 0) = true := bne_iff_ne.2 (by omega)
    have HT := hid T1
    clear h1 h2 hE hno T1 TH
    generalize hQ : ThR c d w = Q at *
    go_enter Try.func19, Try.ntmps19
    go_wp2_with (first
      | (go_at_call 10; (with_reducible refine (F1 _ (HO1.out.below (bal (bal (bal (Below.refl _ _) _) _) _))).mono ?_); rintro e w1 ⟨rfl, hB⟩; obtain ⟨k1, k2, k3⟩ := three_box hB; have q1 : ∀ j, w1.cell? ⟨w.heap.size, j, none⟩ = _ := k1.cell; have q2 : ∀ j, w1.cell? ⟨w.heap.size + 1, j, none⟩ = _ := k2.cell; have q3 : ∀ j, w1.cell? ⟨w.heap.size + 1 + 1, j, none⟩ = _ := k3.cell; have z3 := k3.lt; have f3 : ∀ j, w1.frozen? ⟨w.heap.size + 1 + 1, j, none⟩ = false := k3.free; clear F1)
      | (go_at_call 10; (with_reducible refine (F2 _ (HO2.out.below (below3 hB))).mono ?_); rintro e w2 ⟨rfl, hB2⟩; have e3 : BK w2 (w.heap.size + 1 + 1) _ 24 := (hB2.block _ k3.lt).trans k3; have r3 : ∀ j, w2.cell? ⟨w.heap.size + 1 + 1, j, none⟩ = _ := e3.cell; have g3 : ∀ j, w2.frozen? ⟨w.heap.size + 1 + 1, j, none⟩ = false := e3.free))
    refine bodyPost_ret (v := .tuple #[civ noCi none 0, .int .i64 (E : Nat)]) (by simp [results, Try.results19, go_sem, *]) rfl (HT.out _ ?_)
    repeat (refine bset ?_ _ _ _ (by omega))
    exact btr (below3 hB) hB2
  have h3 : c.q ≠ d.q ∨ c.b ≠ d.b := by rcases hno with h | h | h; exact absurd h1 h; exact absurd h2 h; exact h
  have hE : thE c d = 2 := by unfold thE; rw [if_neg (by rw [h1]; simp), if_neg (by rw [h2]; simp), if_pos h3]
  have T1 := fun w' => TH _ w' (by decide) hE
  rw [h1] at F1
  rw [h2] at F2
  generalize (lk c).1 = P at *
  generalize (lk d).1 = P2 at *
  have HT := hid T1
  clear h1 h2 hE hno T1 TH
  generalize hQ : ThR c d w = Q at *
  have h3' : c.q ≠ d.q ∨ (c.q = d.q ∧ c.b ≠ d.b) := by omega
  clear h3
  have fin : ∀ hq : (c.q ≠ d.q ∨ (c.q = d.q ∧ c.b ≠ d.b)), True := fun _ => trivial
  rcases h3' with h3 | ⟨h3, h4⟩
  · have d1 : (c.q != d.q) = true := bne_iff_ne.2 h3
    clear h3 fin
    go_enter Try.func19, Try.ntmps19
    go_wp2_with (first
      | (go_at_call 10; (with_reducible refine (F1 _ (HO1.out.below (bal (bal (bal (Below.refl _ _) _) _) _))).mono ?_); rintro e w1 ⟨rfl, hB⟩; obtain ⟨k1, k2, k3⟩ := three_box hB; have q1 : ∀ j, w1.cell? ⟨w.heap.size, j, none⟩ = _ := k1.cell; have q2 : ∀ j, w1.cell? ⟨w.heap.size + 1, j, none⟩ = _ := k2.cell; have q3 : ∀ j, w1.cell? ⟨w.heap.size + 1 + 1, j, none⟩ = _ := k3.cell; have z3 := k3.lt; have f3 : ∀ j, w1.frozen? ⟨w.heap.size + 1 + 1, j, none⟩ = false := k3.free; clear F1)
      | (go_at_call 10; (with_reducible refine (F2 _ (HO2.out.below (below3 hB))).mono ?_); rintro e w2 ⟨rfl, hB2⟩; have e1 : BK w2 w.heap.size _ 24 := (hB2.block _ k1.lt).trans k1; have e2 : BK w2 (w.heap.size + 1) _ 24 := (hB2.block _ k2.lt).trans k2; have e3 : BK w2 (w.heap.size + 1 + 1) _ 24 := (hB2.block _ k3.lt).trans k3; have r1 : ∀ j, w2.cell? ⟨w.heap.size, j, none⟩ = _ := e1.cell; have r2 : ∀ j, w2.cell? ⟨w.heap.size + 1, j, none⟩ = _ := e2.cell; have r3 : ∀ j, w2.cell? ⟨w.heap.size + 1 + 1, j, none⟩ = _ := e3.cell; have g3 : ∀ j, w2.frozen? ⟨w.heap.size + 1 + 1, j, none⟩ = false := e3.free))
    refine bodyPost_ret (v := .tuple #[civ noCi none 0, .int .i64 2]) (by simp [results, Try.results19, go_sem, *]) rfl (HT.out _ ?_)
    repeat (refine bset ?_ _ _ _ (by omega))
    exact btr (below3 hB) hB2
  · have d1 : (c.b != d.b) = true := bne_iff_ne.2 h4
    have d2 : (c.q != d.q) = false := by rw [h3]; simp
    clear h3 h4 fin
    go_enter Try.func19, Try.ntmps19
    go_wp2_with (first
      | (go_at_call 10; (with_reducible refine (F1 _ (HO1.out.below (bal (bal (bal (Below.refl _ _) _) _) _))).mono ?_); rintro e w1 ⟨rfl, hB⟩; obtain ⟨k1, k2, k3⟩ := three_box hB; have q1 : ∀ j, w1.cell? ⟨w.heap.size, j, none⟩ = _ := k1.cell; have q2 : ∀ j, w1.cell? ⟨w.heap.size + 1, j, none⟩ = _ := k2.cell; have q3 : ∀ j, w1.cell? ⟨w.heap.size + 1 + 1, j, none⟩ = _ := k3.cell; have z3 := k3.lt; have f3 : ∀ j, w1.frozen? ⟨w.heap.size + 1 + 1, j, none⟩ = false := k3.free; clear F1)
      | (go_at_call 10; (with_reducible refine (F2 _ (HO2.out.below (below3 hB))).mono ?_); rintro e w2 ⟨rfl, hB2⟩; have e1 : BK w2 w.heap.size _ 24 := (hB2.block _ k1.lt).trans k1; have e2 : BK w2 (w.heap.size + 1) _ 24 := (hB2.block _ k2.lt).trans k2; have e3 : BK w2 (w.heap.size + 1 + 1) _ 24 := (hB2.block _ k3.lt).trans k3; have r1 : ∀ j, w2.cell? ⟨w.heap.size, j, none⟩ = _ := e1.cell; have r2 : ∀ j, w2.cell? ⟨w.heap.size + 1, j, none⟩ = _ := e2.cell; have r3 : ∀ j, w2.cell? ⟨w.heap.size + 1 + 1, j, none⟩ = _ := e3.cell; have g3 : ∀ j, w2.frozen? ⟨w.heap.size + 1 + 1, j, none⟩ = false := e3.free))
    refine bodyPost_ret (v := .tuple #[civ noCi none 0, .int .i64 2]) (by simp [results, Try.results19, go_sem, *]) rfl (HT.out _ ?_)
    repeat (refine bset ?_ _ _ _ (by omega))
    exact btr (below3 hB) hB2
end
end Go.Proofs.Ytfaoegiignalkaa
