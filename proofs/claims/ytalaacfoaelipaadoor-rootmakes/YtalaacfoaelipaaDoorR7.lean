/-
  The reference's Make; the law RootMakes.
-/
import Derived.Test.YtalaacfoaelipaaDoorR6
import Derived.Test.YtalaacfoaelipaaDoorR4
import Derived.Test.YtalaacfoaelipaaDoorAwake
namespace Go.Proofs.YtalaacfoaelipaaDoor
open Go.RowKit Go.Sort

theorem hv_small (k : Nat) {p q : Int} (h : ¬ (p = 0 ∧ q = 0)) (hp : -9223372036854775808 ≤ p ∧ p ≤ 9223372036854775807) (hq : -9223372036854775808 ≤ q ∧ q ≤ 9223372036854775807) : hv k p q ≤ 63 := by
  have key : ∀ x : Int, x ≠ 0 → -9223372036854775808 ≤ x ∧ x ≤ 9223372036854775807 → (2 : Int) ^ hv k p q ∣ x → hv k p q ≤ 63 := fun x h0 hx hd => by
    have h1 : (2 : Int) ^ hv k p q ≤ x.natAbs := Int.le_of_dvd (by omega) (Int.dvd_natAbs.2 hd)
    have h2 : (2 : Int) ^ hv k p q ≤ 2 ^ 63 := by
      have : (x.natAbs : Int) ≤ 2 ^ 63 := by omega
      omega
    have h3 : (2 : Nat) ^ hv k p q ≤ 2 ^ 63 := by
      have e : ((2 ^ hv k p q : Nat) : Int) = (2 : Int) ^ hv k p q := by simp
      omega
    exact (Nat.pow_le_pow_iff_right (by decide)).1 h3
  have hd := hv_dvd k p q
  by_cases h0 : p = 0
  · exact key q (fun e => h ⟨h0, e⟩) hq hd.2
  · exact key p h0 hp hd.1
theorem one_far {k : Nat} {p q : Int} (h : ¬ (p = 0 ∧ q = 0)) (hp : -9223372036854775808 ≤ p ∧ p ≤ 9223372036854775807) (hq : -9223372036854775808 ≤ q ∧ q ≤ 9223372036854775807) (hk : 1000 < k) : one p q k = ⟨0, 0, 0, 3⟩ := by
  have := hv_small k h hp hq
  unfold one
  rw [if_neg h, if_neg (by omega)]
set_option maxHeartbeats 1000000 in
theorem rmake_any (p q k : Int) (w : World) (hp : -9223372036854775808 ≤ p ∧ p ≤ 9223372036854775807) (hq : -9223372036854775808 ≤ q ∧ q ≤ 9223372036854775807) :
    Calls Tryd.prog 10 #[.int .i64 p, .int .i64 q, .int .i64 k] w fun e w' => e = .returned (rtV (makeR p q k)) ∧ Below w.heap.size w w' := by
  unfold makeR
  by_cases h0 : k < 0
  · rw [if_pos h0]
    go_enter Tryd.func10, Tryd.ntmps10
    go_wp2
    exact bodyPost_ret (v := rtV ⟨0, 0, 0, 2⟩) (by simp [results, Tryd.results10, go_sem]) rfl ⟨rfl, bal (Below.refl _ _) _⟩
  · rw [if_neg h0]
    obtain ⟨j, rfl⟩ := Int.eq_ofNat_of_zero_le (show 0 ≤ k by omega)
    rw [Int.toNat_natCast]
    by_cases h1 : 1000 < j
    · by_cases hz : p = 0 ∧ q = 0
      · obtain ⟨rfl, rfl⟩ := hz
        rw [show one 0 0 j = ⟨0, 0, 0, 0⟩ by unfold one; simp]
        go_enter Tryd.func10, Tryd.ntmps10
        go_wp2
        exact bodyPost_ret (v := rtV ⟨0, 0, 0, 0⟩) (by simp [results, Tryd.results10, go_sem]) rfl ⟨rfl, bal (Below.refl _ _) _⟩
      · rw [one_far hz hp hq h1]
        have key : (p == 0) = false ∨ ((p == 0) = true ∧ (q == 0) = false) := by simp; omega
        clear hz
        rcases key with k1 | ⟨k1, k2⟩
        all_goals
          go_enter Tryd.func10, Tryd.ntmps10
          go_wp2
          exact bodyPost_ret (v := rtV ⟨0, 0, 0, 3⟩) (by simp [results, Tryd.results10, go_sem]) rfl ⟨rfl, bal (Below.refl _ _) _⟩
    · have OP := fun w => of_any p w hp.1 hp.2
      have OQ := fun w => of_any q w hq.1 hq.2
      have ON : ∀ (a : Option Addr) (n c : Nat) (a' : Option Addr) (n' c' : Nat) (w : World) (_ : II w a n c p) (_ : II w a' n' c' q), Calls Tryd.prog 31 #[.agg #[.int .i64 (sgn p), .slice a n c], .agg #[.int .i64 (sgn q), .slice a' n' c'], .int .i64 j] w fun e w' => e = .returned (rtV (one p q j)) ∧ Below w.heap.size w w' :=
        fun a n c a' n' c' w h1' h2' => rone_any p q j a n c a' n' c' w h1' h2' (by omega) (by omega) (by omega)
      by_cases hpq : p = q
      · subst hpq
        generalize one p p j = R at *
        go_enter Tryd.func10, Tryd.ntmps10
        go_wp2_with (first
          | (go_at_call 32; (with_reducible refine (OP _).mono ?_); rintro e w1 ⟨⟨a1, n1, c1, rfl, i1⟩, hN⟩; (first | (have i0 := i2.below hN; have b2 := btr b1 hN) | (have b1 := hN)); have i2 := i1)
          | (go_at_call 31; (refine (ON _ _ _ _ _ _ _ i0 i2).mono ?_); rintro e w3 ⟨rfl, hN⟩; have hB := btr b2 hN; obtain ⟨hc, hf⟩ := bcell hB))
        exact bodyPost_ret (v := rtV R) (by simp [results, Tryd.results10, go_sem, hc]) rfl ⟨rfl, (((btr (bal (Below.refl _ _) _) hB).setCell (by simp) _).setCell (by simp) _).setCell (by simp) _⟩
      · generalize one p q j = R at *
        go_enter Tryd.func10, Tryd.ntmps10
        go_wp2_with (first
          | (go_at_call 32; (with_reducible refine (OP _).mono ?_); rintro e w1 ⟨⟨a1, n1, c1, rfl, i1⟩, b1⟩)
          | (go_at_call 32; (with_reducible refine (OQ _).mono ?_); rintro e w2 ⟨⟨a2, n2, c2, rfl, i2⟩, hN⟩; have i0 := i1.below hN; have b2 := btr b1 hN)
          | (go_at_call 31; (refine (ON _ _ _ _ _ _ _ i0 i2).mono ?_); rintro e w3 ⟨rfl, hN⟩; have hB := btr b2 hN; obtain ⟨hc, hf⟩ := bcell hB))
        exact bodyPost_ret (v := rtV R) (by simp [results, Tryd.results10, go_sem, hc]) rfl ⟨rfl, (((btr (bal (Below.refl _ _) _) hB).setCell (by simp) _).setCell (by simp) _).setCell (by simp) _⟩
end Go.Proofs.YtalaacfoaelipaaDoor
