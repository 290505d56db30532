/-
  What the law LinearGroup calls, from the matrices themselves.
-/
import Derived.Test.YtinkdonaedoojaaL5
namespace Go.Proofs.Ytinkdonaedoojaa
open Go.RowKit

theorem xor_lt64 {x y : Nat} (hx : x < 18446744073709551616) (hy : y < 18446744073709551616) : x ^^^ y < 18446744073709551616 := Nat.xor_lt_two_pow (n := 64) hx hy
theorem inv_case {n : Nat} {f : Nat → Nat} (hn : n ≤ 64) (hf : Bd n f) : Hid (InvC n f (iv n f) ∧ MulC n f (iv n f) eyF ∧ MulC n (iv n f) f eyF ∧ n = rk n f) ∨ Hid (InvN n f ∧ rk n f < n) := by
  by_cases h : rk n f = n
  · exact .inl (hid ⟨invC hn hf h, mulC hn hf (iv_lt hf) (fun i hi => inv_right hf h i hi), mulC hn (iv_lt hf) hf (fun i hi => inv_left hf h i hi), h.symm⟩)
  · have h2 : rk n f < n := by have := rk_le n f; omega
    exact .inr (hid ⟨invN hn hf h2, h2⟩)
theorem gg_of {n : Nat} {fA fB fC : Nat → Nat} {x y : Nat} (hn : n ≤ 64) (bA : Bd n fA) (bB : Bd n fB) (bC : Bd n fC) (hx : x < 18446744073709551616) (hy : y < 18446744073709551616) :
    GG n fA fB fC (rk n fA) (rk n fB) (rk n (prd fA fB n)) (prd fA fB n) (prd fB fC n) (prd (prd fA fB n) fC n) (iv n fA) (fun i => trN fA i n) x y where
  mAB := mulC hn bA bB (fun _ _ => rfl)
  mBC := mulC hn bB bC (fun _ _ => rfl)
  mL := mulC hn bB.prd bC (fun _ _ => rfl)
  mR := mulC hn bA bC.prd (fun i _ => (sm_sm fC fB (fA i) n n).symm)
  mE := eyeC hn
  mI := mulC hn bA (bd_eye n) (fun i hi => sm_eye' (bA i hi))
  mJ := mulC hn (bd_eye n) bA (fun i hi => sm_at fA hi)
  rA := rankC hn bA
  rB := rankC hn bB
  rAB := rankC hn bB.prd
  tA := turnC hn
  rT := by
    have h := rankC (f := fun i => trN fA i n) hn (fun i _ => trN_lt2 i)
    rw [rank_columns hn bA] at h
    exact h
  ht1 := rank_prod_left bA bB
  ht2 := rank_prod_right bB
  hinv := inv_case hn bA
  hxy := by
    by_cases h : x < 2 ^ n
    · right
      refine ⟨apN fB x n, apN (prd fA fB n) x n, hid (applyC hn bB h), hid (applyC hn bB.prd h), hid ?_, hid (i_xor x y hx hy), ?_⟩
      · have e := ap_mul fA fB x n hn
        have g := applyC hn bA (ap_lt2 fB x n)
        rw [← e] at g
        exact g
      · by_cases h2 : y < 2 ^ n
        · right
          refine ⟨apN fB y n, apN fB (x ^^^ y) n, hid (applyC hn bB h2), hid (applyC hn bB (Nat.xor_lt_two_pow h h2)), hid ?_⟩
          have l64 : ∀ z, apN fB z n < 18446744073709551616 := fun z => Nat.lt_of_lt_of_le (ap_lt2 fB z n) (by have := Nat.pow_le_pow_right (n := 2) (by decide) hn; omega)
          rw [i_xor _ _ (l64 x) (l64 y), ap_xor]
        · left
          refine ⟨hid (applyB hy h2), ?_⟩
          by_cases h3 : x ^^^ y < 2 ^ n
          · exact ⟨_, _, hid (applyC hn bB h3)⟩
          · exact ⟨_, _, hid (applyB (xor_lt64 hx hy) h3)⟩
    · exact .inl (hid (applyB hx h))
theorem mul_any2 {N N' : Int} {n n' c c' : Nat} {a a' : Option Addr} {f g : Nat → Nat} {W : World} (H : RR W a n f) (H' : RR W a' n' g) : ∃ (M : Int) (m : Nat) (F : Nat → Nat) (E : Int), (∀ w, Below W.heap.size W w → Calls Try.prog 14 #[lv N a n c, lv N' a' n' c'] w fun e w' => LR w w' e M m F E) ∧ (¬ (Gd N n f ∧ Gd N' n' g ∧ N = N') → (E != 0) = true) := by
  by_cases h : Gd N n f ∧ Gd N' n' g ∧ N = N'
  · obtain ⟨M, m, F, E, h1, _⟩ := mul_pair (N := N) (N' := N') (c := c) (c' := c') H H'
    exact ⟨M, m, F, E, h1, fun g => absurd h g⟩
  · exact ⟨0, 0, fun _ => 0, 2, fun w hb => mul_bad N N' n n' a a' c c' f g _ w (H.below hb) (H'.below hb) h, fun _ => rfl⟩
theorem group_all (N1 N2 N3 : Int) (n1 n2 n3 : Nat) (fA fB fC : Nat → Nat) (aA aB aC : Option Addr) (cA cB cC x y : Nat) (w : World) (RA : RR w aA n1 fA) (RB : RR w aB n2 fB) (RC : RR w aC n3 fC) (hx : x < 18446744073709551616) (hy : y < 18446744073709551616) :
    Calls Try.prog 6 #[.agg (gcs N1 N2 N3 aA aB aC n1 n2 n3 cA cB cC x y)] w fun e w' => e = .returned (.bool true) ∧ Below w.heap.size w w' := by
  refine group_any N1 N2 N3 n1 n2 n3 fA fB fC aA aB aC cA cB cC x y w RA RB RC ?_
  by_cases h : (Gd N1 n1 fA ∧ Gd N2 n2 fB ∧ N1 = N2) ∧ (Gd N2 n2 fB ∧ Gd N3 n3 fC ∧ N2 = N3)
  · obtain ⟨⟨hA, hB, e1⟩, ⟨_, hC, e2⟩⟩ := h
    have q1 := hA.2.2.1
    have q2 := hB.2.2.1
    have q3 := hC.2.2.1
    have z1 := hA.2.1
    obtain rfl : n1 = n2 := by omega
    obtain rfl : n1 = n3 := by omega
    exact .inr (hid ⟨n1, ⟨q1.symm, q2.symm, q3.symm, rfl, rfl, rfl⟩, _, _, _, _, _, _, _, _, gg_of (by omega) hA.2.2.2 hB.2.2.2 hC.2.2.2 hx hy⟩)
  · obtain ⟨M, m, F, E, P, hE⟩ := mul_any2 (N := N1) (N' := N2) (c := cA) (c' := cB) RA RB
    obtain ⟨M', m', F', E', P', hE'⟩ := mul_any2 (N := N2) (N' := N3) (c := cB) (c' := cC) RB RC
    refine .inl (hid ⟨M, M', m, m', F, F', E, E', P, P', ?_⟩)
    by_cases h1 : Gd N1 n1 fA ∧ Gd N2 n2 fB ∧ N1 = N2
    · exact .inr (hE' fun h2 => h ⟨h1, h2⟩)
    · exact .inl (hE h1)
end Go.Proofs.Ytinkdonaedoojaa
