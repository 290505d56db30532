/-
  The gates that Synth lays, as additions of rows.
-/
import Derived.Test.YtinkdonaedoojaaS4
namespace Go.Proofs.Ytinkdonaedoojaa
open Go.RowKit

def adg (F : Nat → Nat) (g : Nat × Nat) : Nat → Nat := adr F g.1 g.2
def runG (F : Nat → Nat) (l : List (Nat × Nat)) : Nat → Nat := l.foldl adg F
theorem runG_app (F : Nat → Nat) (l m : List (Nat × Nat)) : runG F (l ++ m) = runG (runG F l) m := List.foldl_append
theorem adg_two (F : Nat → Nat) (g : Nat × Nat) (h : g.1 ≠ g.2) : adg (adg F g) g = F := funext fun i => by
  unfold adg adr up
  by_cases e : i = g.2
  · rw [if_pos e, if_pos rfl, if_neg h, e, Nat.xor_assoc, Nat.xor_self, Nat.xor_zero]
  · rw [if_neg e, if_neg e]
theorem runG_back : ∀ (l : List (Nat × Nat)) (F : Nat → Nat), (∀ g ∈ l, g.1 ≠ g.2) → runG (runG F l) l.reverse = F
  | [], F, _ => rfl
  | g :: l, F, h => by
    have ih := runG_back l (adg F g) (fun x hx => h x (List.mem_cons_of_mem _ hx))
    rw [List.reverse_cons, runG_app]
    show adg (runG (runG (adg F g) l) l.reverse) g = F
    rw [ih]
    exact adg_two F g (h g List.mem_cons_self)
theorem clL_run (j : Nat) (f : Nat → Nat) : ∀ k, runG f (clL j f k) = clr j j f f k
  | 0 => (clr_zero j j f f).symm
  | k + 1 => by
    unfold clL
    by_cases h : k ≠ j ∧ (f k).testBit j = true
    · rw [if_pos h, runG_app, clL_run j f k]
      exact clr_yes j j f f k h.1 h.2
    · rw [if_neg h, clL_run j f k]
      funext i
      unfold clr
      by_cases e : i = k
      · subst e
        rw [if_neg (by omega), if_neg (fun g => h g.2)]
      · by_cases g : i < k ∧ i ≠ j ∧ (f i).testBit j = true
        · rw [if_pos g, if_pos ⟨by omega, g.2⟩]
        · rw [if_neg g, if_neg (fun q => g ⟨by omega, q.2⟩)]
theorem pr1_run (f : Nat → Nat) (j k : Nat) : runG f (pr1 f j k).l = (pr1 f j k).f := by
  unfold pr1
  split
  · rfl
  · split <;> rfl
theorem stS_run (n j : Nat) (f : Nat → Nat) : runG f (stS n j f).l = (stS n j f).f := by
  unfold stS
  split
  · show runG f ((pr1 f j n).l ++ clL j (pr1 f j n).f n) = clr j j (pr1 f j n).f (pr1 f j n).f n
    rw [runG_app, pr1_run, clL_run]
  · exact pr1_run f j n
theorem syS_run (n : Nat) (f : Nat → Nat) : ∀ j, runG f (syS n f j).l = (syS n f j).f
  | 0 => rfl
  | j + 1 => by
    show runG f ((syS n f j).l ++ (stS n j (syS n f j).f).l) = (stS n j (syS n f j).f).f
    rw [runG_app, syS_run n f j, stS_run]
/-- The gates' qubits. -/
def GQ (n : Nat) (l : List (Nat × Nat)) : Prop := ∀ g ∈ l, g.1 < n ∧ g.2 < n ∧ g.1 ≠ g.2
theorem GQ.app {n : Nat} {l m : List (Nat × Nat)} (h : GQ n l) (h' : GQ n m) : GQ n (l ++ m) := fun g hg => (List.mem_append.1 hg).elim (h g) (h' g)
theorem clL_q (n j : Nat) (f : Nat → Nat) (hj : j < n) : ∀ k, k ≤ n → GQ n (clL j f k)
  | 0, _ => fun g hg => by cases hg
  | k + 1, hk => by
    unfold clL
    split
    · rename_i h
      refine (clL_q n j f hj k (by omega)).app (fun g hg => ?_)
      obtain rfl := List.mem_singleton.1 hg
      exact ⟨hj, by show k < n; omega, fun e => h.1 e.symm⟩
    · exact clL_q n j f hj k (by omega)
theorem pr1_q (n j : Nat) (f : Nat → Nat) (hj : j < n) : GQ n (pr1 f j n).l := by
  unfold pr1
  split
  · exact fun g hg => by cases hg
  · split
    · exact fun g hg => by cases hg
    · rename_i i e
      intro g hg
      obtain rfl := List.mem_singleton.1 hg
      obtain ⟨h1, h2, _⟩ := fnd_lt f j (j + 1) n i e
      exact ⟨h1, hj, by show i ≠ j; omega⟩
theorem stS_q (n j : Nat) (f : Nat → Nat) (hj : j < n) : GQ n (stS n j f).l := by
  unfold stS
  split
  · exact (pr1_q n j f hj).app (clL_q n j _ hj n (Nat.le_refl _))
  · exact pr1_q n j f hj
theorem syS_q (n : Nat) (f : Nat → Nat) : ∀ j, j ≤ n → GQ n (syS n f j).l
  | 0, _ => fun g hg => by cases hg
  | j + 1, h => (syS_q n f j (by omega)).app (stS_q n j _ (by omega))
theorem clL_len2 (j : Nat) (f : Nat → Nat) : ∀ k, (clL j f k).length + (if j < k then 1 else 0) ≤ k
  | 0 => by simp [clL]
  | k + 1 => by
    have ih := clL_len2 j f k
    unfold clL
    by_cases e : k = j
    · subst e
      rw [if_neg (fun g => g.1 rfl), if_pos (by omega)]
      rw [if_neg (by omega)] at ih
      omega
    · have h2 : (if j < k + 1 then 1 else 0) = (if j < k then 1 else 0) := by
        by_cases g : j < k
        · rw [if_pos g, if_pos (by omega)]
        · rw [if_neg g, if_neg (by omega)]
      rw [h2]
      split
      · rw [List.length_append]
        show (clL j f k).length + 1 + _ ≤ k + 1
        omega
      · omega
theorem stS_len2 (n j : Nat) (f : Nat → Nat) (hj : j < n) : (stS n j f).l.length ≤ n := by
  have h1 := pr1_len f j n
  have h2 := clL_len2 j (pr1 f j n).f n
  rw [if_pos hj] at h2
  unfold stS
  split
  · show ((pr1 f j n).l ++ clL j (pr1 f j n).f n).length ≤ n
    rw [List.length_append]
    omega
  · omega
/-- A column takes at most n gates. -/
theorem syS_len2 (n : Nat) (f : Nat → Nat) : ∀ j, j ≤ n → (syS n f j).l.length ≤ n * j
  | 0, _ => Nat.le_refl _
  | j + 1, h => by
    have h1 := syS_len2 n f j (by omega)
    have h2 := stS_len2 n j (syS n f j).f (by omega)
    show ((syS n f j).l ++ (stS n j (syS n f j).f).l).length ≤ n * (j + 1)
    rw [List.length_append, Nat.mul_succ]
    omega
end Go.Proofs.Ytinkdonaedoojaa
