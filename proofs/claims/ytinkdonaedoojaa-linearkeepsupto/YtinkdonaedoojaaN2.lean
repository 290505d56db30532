/-
  What the law LinearKeeps calls, as letters.
-/
import Derived.Test.YtinkdonaedoojaaN1
namespace Go.Proofs.Ytinkdonaedoojaa
open Go.RowKit

section
variable (P : Nat) (N N' : Int) (n n' : Nat) (f f' : Nat → Nat)
def RankK (k : Nat) (E : Int) : Prop := ∀ (w : World) (a : Option Addr) (c : Nat), RR w a n f → Calls Try.prog P #[lv N a n c] w fun e w' => e = .returned (.tuple #[.int .i64 k, .int .i64 E]) ∧ Below w.heap.size w w'
def MulK (M : Int) (m : Nat) (F : Nat → Nat) (E : Int) : Prop := ∀ (w : World) (a a' : Option Addr) (c c' : Nat), RR w a n f → RR w a' n' f' → Calls Try.prog P #[lv N a n c, lv N' a' n' c'] w fun e w' => LR w w' e M m F E
def InvK (M : Int) (m : Nat) (F : Nat → Nat) (E : Int) : Prop := ∀ (w : World) (a : Option Addr) (c : Nat), RR w a n f → Calls Try.prog P #[lv N a n c] w fun e w' => LR w w' e M m F E
def SynK (M : Int) (l : List (Nat × Nat)) (E : Int) : Prop := ∀ (w : World) (a : Option Addr) (c : Nat), RR w a n f → Calls Try.prog P #[lv N a n c] w fun e w' => CR w w' e M l E
def FroK (M : Int) (l : List (Nat × Nat)) : Prop := ∀ (w : World) (B : Nat) (a : Option Addr) (c : Nat), OZ w B (.slice a l.length c) l → Calls Try.prog P #[.agg #[.int .i64 M, .int .i64 0, .slice a l.length c]] w fun e w' => LR w w' e N n f 0
end
theorem lr_ex {w w' : World} {e : Ending} {M : Int} {m : Nat} {F : Nat → Nat} {E : Int} (h : LR w w' e M m F E) : ∃ b d, e = .returned (.tuple #[.agg #[.int .i64 M, .slice b m d], .int .i64 E]) ∧ (∃ g, OQ w' w.heap.size w'.heap.size b g m F ∧ m ≤ d ∧ d ≤ 9223372036854775807) ∧ Below w.heap.size w w' := by
  obtain ⟨v, rfl, hO, hB⟩ := h
  obtain ⟨b, d, rfl⟩ := os_shape hO
  exact ⟨b, d, rfl, oq_of hO, hB⟩
theorem rank_k (N : Int) (n : Nat) (f : Nat → Nat) : ∃ (k : Nat) (E : Int), RankK 18 N n f k E ∧ RankK 19 N n f k E := by
  by_cases h1 : Gd N n f
  · have e1 := h1.2.2.1
    subst e1
    exact ⟨_, 0, fun w a c H => rank_good n a c f w H h1, fun w a c H => rrank_good n a c f w H h1⟩
  · exact ⟨0, 2, fun w a c H => rank_bad N n a c f w H h1, fun w a c H => rrank_bad N n a c f w H h1⟩
theorem mul_k (N N' : Int) (n n' : Nat) (f g : Nat → Nat) : ∃ (M : Int) (m : Nat) (F : Nat → Nat) (E : Int), MulK 14 N N' n n' f g M m F E ∧ MulK 15 N N' n n' f g M m F E := by
  by_cases h : Gd N n f ∧ Gd N' n' g ∧ N = N'
  · obtain ⟨h1, h2, rfl⟩ := h
    have e1 := h1.2.2.1
    have e2 := h2.2.2.1
    subst e1
    obtain rfl : n' = n := by omega
    exact ⟨n', n', _, 0, fun w a a' c c' H H' => mul_good n' a a' c c' f g w H H' h1 h2, fun w a a' c c' H H' => rmul_good' n' a a' c c' f g w H H' h1 h2⟩
  · exact ⟨0, 0, fun _ => 0, 2, fun w a a' c c' H H' => mul_bad N N' n n' a a' c c' f g _ w H H' h, fun w a a' c c' H H' => rmul_bad N N' n n' a a' c c' f g _ w H H' h⟩
theorem inv_k (N : Int) (n : Nat) (f : Nat → Nat) : ∃ (M : Int) (m : Nat) (F : Nat → Nat) (E : Int), InvK 20 N n f M m F E ∧ InvK 21 N n f M m F E := by
  by_cases h1 : Gd N n f
  · have e1 := h1.2.2.1
    subst e1
    by_cases hr : rk n f = n
    · refine ⟨n, n, iv n f, 0, fun w a c H => (inverse_good n a c f w H h1).mono ?_, fun w a c H => (rinverse_good n a c f w H h1).mono ?_⟩
      all_goals
        rintro e w' (⟨_, h⟩ | ⟨h, _⟩)
        · exact h
        · omega
    · refine ⟨0, 0, iv n f, 200, fun w a c H => (inverse_good n a c f w H h1).mono ?_, fun w a c H => (rinverse_good n a c f w H h1).mono ?_⟩
      all_goals
        rintro e w' (⟨h, _⟩ | ⟨_, h⟩)
        · exact absurd h hr
        · exact h
  · exact ⟨0, 0, fun _ => 0, 2, fun w a c H => inverse_bad N n a c f _ w H h1, fun w a c H => rinverse_bad N n a c f _ w H h1⟩
theorem syn_k (N : Int) (n : Nat) (f : Nat → Nat) : ∃ (M : Int) (l : List (Nat × Nat)) (E : Int), SynK 24 N n f M l E ∧ l.length ≤ 4096 ∧ ((E != 0) = true ∨ (E = 0 ∧ FroK 22 N n f M l)) := by
  by_cases hg : Gd N n f
  · have e1 := hg.2.2.1
    subst e1
    have hn : n ≤ 64 := by have := hg.2.1; omega
    cases hb : syB n f n
    · refine ⟨0, [], 200, fun w a c H => (synth_good n a c f w H hg).mono ?_, by simp, .inl rfl⟩
      rintro e w2 (⟨h1, _⟩ | ⟨_, h2⟩)
      · rw [hb] at h1; cases h1
      · exact h2
    · have hq : GQ n (syS n f n).l.reverse := fun g hg => syS_q n f n (Nat.le_refl _) g (List.mem_reverse.1 hg)
      have hlen : (syS n f n).l.reverse.length ≤ n * n := by rw [List.length_reverse]; exact syS_len2 n f n (Nat.le_refl _)
      have hnn : n * n ≤ 4096 := Nat.mul_le_mul hn hn
      have hbk := sy_back hg.2.2.2 hb
      refine ⟨n, (syS n f n).l.reverse, 0, fun w a c H => (synth_good n a c f w H hg).mono ?_, by omega, .inr ⟨rfl, fun w' B a' c' hO => ?_⟩⟩
      · rintro e w2 (⟨_, h2⟩ | ⟨h1, _⟩)
        · exact h2
        · rw [hb] at h1; cases h1
      · obtain ⟨a2, c2, A, C, e, hS⟩ := hO.read
        obtain ⟨rfl, rfl⟩ : a' = a2 ∧ c' = c2 := by simpa using e
        have h := from_any ⟨(n : Int), 0, (syS n f n).l.reverse.map cxo⟩ a' c' A C w' hS
        rw [frR_cx hn hq (Nat.le_trans hlen hnn)] at h
        have h2 : Calls Try.prog 22 #[.agg #[.int .i64 (n : Int), .int .i64 0, .slice a' ((syS n f n).l.reverse.map cxo).length c']] w' fun e w2 => LR w' w2 e n n (runG (fun i => 2 ^ i) (syS n f n).l.reverse) 0 := h
        rw [List.length_map] at h2
        refine h2.mono ?_
        rintro e w2 ⟨v, he, hv, hB⟩
        exact ⟨v, he, hv.congr hbk, hB⟩
  · exact ⟨0, [], 2, fun w a c H => synth_bad N n a c f w H hg, by simp, .inl rfl⟩
section
variable {P : Nat} {N N' : Int} {n n' : Nat} {f f' : Nat → Nat} {w : World} {a a' : Option Addr} {c c' : Nat}
theorem RankK.go {k : Nat} {E : Int} (H : RankK P N n f k E) (R : RR w a n f) : Calls Try.prog P #[lv N a n c] w fun e w' => e = .returned (.tuple #[.int .i64 k, .int .i64 E]) ∧ Below w.heap.size w w' := H w a c R
theorem MulK.go {M : Int} {m : Nat} {F : Nat → Nat} {E : Int} (H : MulK P N N' n n' f f' M m F E) (R : RR w a n f) (R' : RR w a' n' f') : Calls Try.prog P #[lv N a n c, lv N' a' n' c'] w fun e w' => LR w w' e M m F E := H w a a' c c' R R'
theorem InvK.go {M : Int} {m : Nat} {F : Nat → Nat} {E : Int} (H : InvK P N n f M m F E) (R : RR w a n f) : Calls Try.prog P #[lv N a n c] w fun e w' => LR w w' e M m F E := H w a c R
theorem SynK.go {M : Int} {l : List (Nat × Nat)} {E : Int} (H : SynK P N n f M l E) (R : RR w a n f) : Calls Try.prog P #[lv N a n c] w fun e w' => CR w w' e M l E := H w a c R
theorem FroK.go {M : Int} {l : List (Nat × Nat)} {B : Nat} (H : FroK P N n f M l) (R : OZ w B (.slice a l.length c) l) : Calls Try.prog P #[.agg #[.int .i64 M, .int .i64 0, .slice a l.length c]] w fun e w' => LR w w' e N n f 0 := H w B a c R
/-- Two rows that hold the same. -/
theorem sameK {N : Int} {n : Nat} {f : Nat → Nat} (R : RR w a n f) (R' : RR w a' n f) : Calls Try.prog 13 #[lv N a n c, lv N a' n c'] w fun e w' => e = .returned (.bool true) ∧ Below w.heap.size w w' :=
  same_any N N n n a a' c c' f f w R R' true (fun _ _ _ => rfl) (fun h => absurd ⟨rfl, rfl, fun _ _ => rfl⟩ h)
end
end Go.Proofs.Ytinkdonaedoojaa
