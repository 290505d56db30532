/-
  The circuit that Synth tells: Check finds no fault, From tells the matrix.
-/
import Derived.Test.YtinkdonaedoojaaM5
import Derived.Test.YtinkdonaedoojaaF2
namespace Go.Proofs.Ytinkdonaedoojaa
open Go.RowKit

theorem cxo_kb (g : Nat × Nat) : kB (cxo g) = true := by
  unfold kB
  show ((1 : Int) == 1 && !false && ((cxN.toList == [99, 120]) || (cxN.toList == [115, 119, 97, 112]))) = true
  rw [show (cxN.toList == [99, 120]) = true by decide +kernel]
  rfl
theorem cxo_tn (g : Nat × Nat) (F : Nat → Nat) : tn (cxo g) F = adg F g := tn_cx (o := cxo g) rfl F
theorem frF_cx : ∀ (l : List (Nat × Nat)) (F : Nat → Nat), frF (l.map cxo) F = some (runG F l)
  | [], _ => rfl
  | g :: l, F => by
    show (if kB (cxo g) = true then frF (l.map cxo) (tn (cxo g) F) else none) = _
    rw [if_pos (cxo_kb g), cxo_tn, frF_cx l]
    rfl
theorem runG_congr {n : Nat} : ∀ (l : List (Nat × Nat)) (F G : Nat → Nat), GQ n l → (∀ i, i < n → F i = G i) → ∀ i, i < n → runG F l i = runG G l i
  | [], _, _, _, h => h
  | g :: l, F, G, hq, h => by
    have q := hq g List.mem_cons_self
    refine runG_congr l (adg F g) (adg G g) (fun x hx => hq x (List.mem_cons_of_mem _ hx)) (fun i hi => ?_)
    unfold adg adr up
    by_cases e : i = g.2
    · rw [if_pos e, if_pos e, h _ q.2.1, h _ q.1]
    · rw [if_neg e, if_neg e]; exact h i hi
/-- The gates in the opposite order take Eye to the matrix. -/
theorem sy_back {n : Nat} {f : Nat → Nat} (h : ∀ i, i < n → f i < 2 ^ n) (hb : syB n f n = true) : ∀ i, i < n → runG (fun i => 2 ^ i) (syS n f n).l.reverse i = f i := fun i hi => by
  have hq := syS_q n f n (Nat.le_refl _)
  have hr : GQ n (syS n f n).l.reverse := fun g hg => hq g (List.mem_reverse.1 hg)
  rw [runG_congr _ (fun i => 2 ^ i) (syS n f n).f hr (fun k hk => (sy_eye h hb k hk).symm) i hi]
  have e := runG_back (syS n f n).l f (fun g hg => (hq g hg).2.2)
  rw [syS_run] at e
  rw [e]
theorem cxo_op {n : Nat} {g : Nat × Nat} (h : g.1 < n ∧ g.2 < n ∧ g.1 ≠ g.2) : CL.opE (cxo g) n 0 (CL.opN (cxo g)) = 0 ∧ CL.opH (cxo g) = 0 := by
  have hN : CL.opN (cxo g) = 2 := by
    unfold CL.opN
    rw [if_pos rfl]
    show CL.gar cxN = 2
    decide +kernel
  have hH : CL.opH (cxo g) = 0 := by
    unfold CL.opH
    rw [if_pos rfl]
    show CL.ghv cxN = 0
    decide +kernel
  refine ⟨?_, hH⟩
  rw [hN]
  unfold CL.opE
  have c1 : ¬ (CL.rfB (cxo g) = false ∨ CL.rcB (cxo g) 0 = false) := by
    have a : CL.rfB (cxo g) = true := rfl
    have b : CL.rcB (cxo g) 0 = true := rfl
    rw [a, b]
    simp
  have c3 : CL.rnB (cxo g) n ((0 : Nat) : Int) = true := by
    unfold CL.rnB CL.inB
    simp
    omega
  have c4 : CL.dupB (cxo g).qs = false := by
    unfold CL.dupB
    simp [List.range_succ]
    omega
  rw [if_neg c1, if_neg (by decide), if_neg (by simp), c3, if_neg (by simp), c4]
  rfl
theorem lkF_cx {n : Nat} : ∀ (l : List (Nat × Nat)) (k : Nat), GQ n l → CL.lkF n 0 (l.map cxo) k 0 = (0, 0, 0)
  | [], _, _ => rfl
  | g :: l, k, h => by
    obtain ⟨h1, h2⟩ := cxo_op (h g List.mem_cons_self)
    show CL.lkF n 0 (cxo g :: l.map cxo) k 0 = _
    unfold CL.lkF
    rw [h1, h2, if_neg (by decide), if_neg (by decide)]
    exact lkF_cx l (k + 1) (fun x hx => h x (List.mem_cons_of_mem _ hx))
theorem lk_cx {n : Nat} {l : List (Nat × Nat)} (hn : n ≤ 64) (h : GQ n l) (hl : l.length ≤ 4096) : CL.lk ⟨(n : Int), 0, l.map cxo⟩ = (0, 0, 0) := by
  unfold CL.lk
  rw [if_neg (by rw [CL.bad_iff]; unfold CL.badC; simp; omega), if_neg (by simp; omega)]
  exact lkF_cx l 0 h
theorem frR_cx {n : Nat} {l : List (Nat × Nat)} (hn : n ≤ 64) (h : GQ n l) (hl : l.length ≤ 4096) : frR ⟨(n : Int), 0, l.map cxo⟩ = ((n : Int), n, runG (fun i => 2 ^ i) l, (0 : Int)) := by
  unfold frR
  rw [lk_cx hn h hl, if_neg (by simp)]
  show frG (n : Int) (frF (l.map cxo) (fun i => 2 ^ i)) = _
  rw [frF_cx]
  rfl
end Go.Proofs.Ytinkdonaedoojaa
