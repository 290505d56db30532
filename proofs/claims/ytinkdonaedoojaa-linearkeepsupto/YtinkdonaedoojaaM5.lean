/-
  Synth's descent: it goes through just where the rank is full.
-/
import Derived.Test.YtinkdonaedoojaaM4
import Derived.Test.YtinkdonaedoojaaM3
namespace Go.Proofs.Ytinkdonaedoojaa
open Go.RowKit

/-- Rows of which each tells the others. -/
structure RSp (n : Nat) (f F : Nat → Nat) : Prop where
  lt : ∀ i, i < n → F i < 2 ^ n
  fwd : ∀ i, i < n → Sps f n (F i)
  bwd : ∀ i, i < n → Sps F n (f i)
theorem RSp.start {n : Nat} {f : Nat → Nat} (h : ∀ i, i < n → f i < 2 ^ n) : RSp n f f := ⟨h, fun _ hi => sp_at hi, fun _ hi => sp_at hi⟩
theorem RSp.adg {n : Nat} {f F : Nat → Nat} (h : RSp n f F) (g : Nat × Nat) (h1 : g.1 < n) (h2 : g.2 < n) (hne : g.1 ≠ g.2) : RSp n f (adg F g) := by
  have e2 : Go.Proofs.Ytinkdonaedoojaa.adg F g g.2 = F g.2 ^^^ F g.1 := if_pos rfl
  have eo : ∀ i, i ≠ g.2 → Go.Proofs.Ytinkdonaedoojaa.adg F g i = F i := fun i hi => if_neg hi
  refine ⟨fun i hi => ?_, fun i hi => ?_, fun i hi => ?_⟩
  · by_cases e : i = g.2
    · subst e; rw [e2]; exact Nat.xor_lt_two_pow (h.lt _ h2) (h.lt _ h1)
    · rw [eo i e]; exact h.lt i hi
  · by_cases e : i = g.2
    · subst e; rw [e2]; exact sp_xor (h.fwd _ h2) (h.fwd _ h1)
    · rw [eo i e]; exact h.fwd i hi
  · refine sp_sub (f := F) (fun k hk => ?_) (h.bwd i hi)
    by_cases e : k = g.2
    · subst e
      have a1 := sp_at (f := Go.Proofs.Ytinkdonaedoojaa.adg F g) h2
      have a2 := sp_at (f := Go.Proofs.Ytinkdonaedoojaa.adg F g) h1
      rw [e2] at a1
      rw [eo _ hne] at a2
      have a3 := sp_xor a1 a2
      rw [Nat.xor_assoc, Nat.xor_self, Nat.xor_zero] at a3
      exact a3
    · have a1 := sp_at (f := Go.Proofs.Ytinkdonaedoojaa.adg F g) hk
      rw [eo k e] at a1
      exact a1
theorem RSp.run {n : Nat} {f : Nat → Nat} : ∀ (l : List (Nat × Nat)) (F : Nat → Nat), RSp n f F → GQ n l → RSp n f (runG F l)
  | [], _, h, _ => h
  | g :: l, F, h, hq => by
    have q := hq g List.mem_cons_self
    exact RSp.run l (Go.Proofs.Ytinkdonaedoojaa.adg F g) (h.adg g q.1 q.2.1 q.2.2) (fun x hx => hq x (List.mem_cons_of_mem _ hx))
theorem sy_rs {n : Nat} {f : Nat → Nat} (h : ∀ i, i < n → f i < 2 ^ n) (j : Nat) (hj : j ≤ n) : RSp n f (syS n f j).f := by
  rw [← syS_run]
  exact RSp.run _ f (RSp.start h) (syS_q n f j hj)
/-- The first j columns are Eye's. -/
def UC (n : Nat) (F : Nat → Nat) (j : Nat) : Prop := ∀ c, c < j → ∀ i, i < n → (F i).testBit c = decide (i = c)
theorem pr1_uc {n j : Nat} {F : Nat → Nat} (h : UC n F j) (hj : j < n) : UC n (pr1 F j n).f j := by
  unfold pr1
  split
  · exact h
  · split
    · exact h
    · rename_i i e
      obtain ⟨h1, h2, _⟩ := fnd_lt F j (j + 1) n i e
      intro c hc k hk
      show (adr F i j k).testBit c = _
      by_cases q : k = j
      · subst q
        rw [adr_at, Nat.testBit_xor, h c hc k hk, h c hc i h1]
        rw [decide_eq_false (show ¬ k = c by omega), decide_eq_false (show ¬ i = c by omega)]
        rfl
      · rw [show adr F i j k = F k from if_neg q]
        exact h c hc k hk
theorem stS_uc {n j : Nat} {F : Nat → Nat} (h : UC n F j) (hj : j < n) (hb : stB n j F = true) : UC n (stS n j F).f (j + 1) := by
  have hP := pr1_uc h hj
  have hb2 : ((pr1 F j n).f j).testBit j = true := hb
  unfold stS
  rw [if_pos hb]
  generalize (pr1 F j n).f = P at *
  intro c hc i hi
  show (clr j j P P n i).testBit c = _
  rw [clr_of j j P P n hi]
  by_cases hcj : c = j
  · subst hcj
    by_cases hij : i = c
    · subst hij
      rw [if_neg (fun g => g.1 rfl), hb2, decide_eq_true rfl]
    · cases e : (P i).testBit c
      · rw [if_neg (fun g => by cases g.2), e, decide_eq_false hij]
      · rw [if_pos ⟨hij, rfl⟩, Nat.testBit_xor, e, hb2, decide_eq_false hij]
        rfl
  · have hc2 : c < j := by omega
    split
    · rw [Nat.testBit_xor, hP c hc2 i hi, hP c hc2 j hj, decide_eq_false (show ¬ j = c by omega), Bool.xor_false]
    · exact hP c hc2 i hi
theorem sy_uc {n : Nat} {f : Nat → Nat} : ∀ j, j ≤ n → syB n f j = true → UC n (syS n f j).f j
  | 0, _, _ => fun c hc => absurd hc (Nat.not_lt_zero _)
  | j + 1, hj, h => by
    have h2 : (syB n f j && stB n j (syS n f j).f) = true := h
    rw [Bool.and_eq_true] at h2
    exact stS_uc (sy_uc j (by omega) h2.1) (by omega) h2.2
theorem sy_fail {n : Nat} {f : Nat → Nat} : ∀ k, syB n f k = false → ∃ j, j < k ∧ syB n f j = true ∧ stB n j (syS n f j).f = false
  | 0, h => by cases h
  | k + 1, h => by
    have h2 : (syB n f k && stB n k (syS n f k).f) = false := h
    cases e : syB n f k
    · obtain ⟨j, h3, h4⟩ := sy_fail k e
      exact ⟨j, by omega, h4⟩
    · rw [e, Bool.true_and] at h2
      exact ⟨k, by omega, e, h2⟩
theorem eye_sp {n : Nat} {g : Nat → Nat} (h : ∀ i, i < n → Sps g n (2 ^ i)) : ∀ v, v < 2 ^ n → Sps g n v := fun v hv =>
  sp_sub (f := fun i => 2 ^ i) h ⟨v, sm_eye' hv⟩
theorem sy_eye {n : Nat} {f : Nat → Nat} (h : ∀ i, i < n → f i < 2 ^ n) (hb : syB n f n = true) : ∀ i, i < n → (syS n f n).f i = 2 ^ i := fun i hi => by
  have hu := sy_uc n (Nat.le_refl _) hb
  have hr := sy_rs h n (Nat.le_refl _)
  refine tb_eq fun c => ?_
  rw [Nat.testBit_two_pow]
  by_cases hc : c < n
  · exact hu c hc i hi
  · rw [tb_high (hr.lt i hi) (by omega), decide_eq_false (show ¬ i = c by omega)]
theorem sy_full {n : Nat} {f : Nat → Nat} (h : ∀ i, i < n → f i < 2 ^ n) (hb : syB n f n = true) : rk n f = n := by
  rcases Nat.lt_or_ge (rk n f) n with hr | hr
  · obtain ⟨x, hx, h0, hs⟩ := singular h hr
    have hR := sy_rs h n (Nat.le_refl _)
    refine absurd (full_inj (eye_sp fun i hi => ?_) x hx hs) h0
    have a := hR.fwd i hi
    rw [sy_eye h hb i hi] at a
    exact a
  · exact Nat.le_antisymm (rk_le n f) hr
theorem su_null {g : Nat → Nat} (n : Nat) (h : ∀ i, i < n → g i = 0) : su g n = 0 := by
  rw [su_congr (g' := fun i => g i * (if n = i then 1 else 0)) n (fun i hi => by rw [h i hi, Nat.zero_mul]), su_one, if_neg (Nat.lt_irrefl n)]
theorem sy_short {n : Nat} {f : Nat → Nat} (h : ∀ i, i < n → f i < 2 ^ n) (hb : syB n f n = false) : rk n f < n := by
  rcases Nat.lt_or_ge (rk n f) n with hr | hr
  · exact hr
  have hr2 : rk n f = n := Nat.le_antisymm (rk_le n f) hr
  obtain ⟨j, hj, hy, hs⟩ := sy_fail n hb
  have hu := sy_uc j (by omega) hy
  have hR := sy_rs h j (by omega)
  obtain ⟨s1, s2, _⟩ := pr1_not _ j n hs
  have s3 := fnd_no _ j (j + 1) n s2
  generalize (syS n f j).f = F at *
  have hf : Sps f n (2 ^ j) := ⟨_, inv_left h hr2 j hj⟩
  obtain ⟨x, hx⟩ := sp_sub (f := f) hR.bwd hf
  have low : ∀ c, c < j → bt x c = 0 := fun c hc => by
    have e : bt (sm F x n) c = bt (2 ^ j) c := congrArg (fun v => bt v c) hx
    rw [bt_sm, bt_pow, su_congr (g' := fun i => bt x i * (if c = i then 1 else 0)) n (fun i hi => by
      have q := hu c hc i hi
      unfold bt
      rw [q]
      by_cases z : i = c
      · subst z; simp
      · rw [decide_eq_false z, if_neg (fun y => z y.symm)]; rfl), su_one, if_pos (by omega), if_neg (by omega)] at e
    have := bt_le x c
    omega
  have e : bt (sm F x n) j = bt (2 ^ j) j := congrArg (fun v => bt v j) hx
  rw [bt_sm, bt_pow, if_pos rfl, su_null n (fun i hi => by
    by_cases z : i < j
    · rw [low i z, Nat.zero_mul]
    · have q : (F i).testBit j = false := by
        by_cases y : i = j
        · subst y; exact s1
        · exact s3 i hi (by omega)
      unfold bt
      rw [q]
      rfl)] at e
  omega
end Go.Proofs.Ytinkdonaedoojaa
