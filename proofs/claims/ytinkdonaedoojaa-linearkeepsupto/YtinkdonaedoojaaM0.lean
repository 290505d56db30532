/-
  Plain mathematics of matrices of bits: sums of rows, products, columns. Of no program.
-/
import Derived.Test.YtinkdonaedoojaaAI
import Derived.Test.YtinkdonaedoojaaMa
namespace Go.Proofs.Ytinkdonaedoojaa

theorem trN_bt (f : Nat → Nat) (i k j : Nat) : bt (trN f i k) j = if j < k then bt (f j) i else 0 := bt_mk _ (fun _ => bt_le _ _) k j
/-- The reference's row of a product is the sum of rows. -/
theorem mm_sm (x : Nat) (g : Nat → Nat) (n : Nat) (hn : n ≤ 64) (hg : ∀ i, i < n → g i < 2 ^ n) : mmN x (fun j => trN g j n) n = sm g x n := ext_bt fun j => by
  rw [bt_sm]
  unfold mmN
  rw [bt_mk _ (fun _ => par_le _)]
  by_cases hj : j < n
  · rw [if_pos hj]
    unfold par parN
    rw [pop_su]
    congr 1
    rw [su_ext _ n 64 hn (fun i a b => by rw [bt_and, trN_bt, if_neg (by omega), Nat.mul_zero])]
    refine su_congr n (fun i hi => ?_)
    rw [bt_and, trN_bt, if_pos hi]
  · rw [if_neg hj]
    rw [su_congr (g' := fun _ => 0) n (fun i hi => by
      have h1 : bt (g i) j = 0 := bt_zero.2 (Nat.testBit_lt_two_pow (Nat.lt_of_lt_of_le (hg i hi) (Nat.pow_le_pow_right (by decide) (by omega))))
      rw [h1, Nat.mul_zero])]
    rw [su_zero]
theorem rmul_good' (n : Nat) (a a' : Option Addr) (c c' : Nat) (f g : Nat → Nat) (w : World) (H : RR w a n f) (H' : RR w a' n g) (hf : Gd n n f) (hg : Gd n n g) :
    Calls Try.prog 15 #[lv n a n c, lv n a' n c'] w fun e w' => LR w w' e n n (fun i => sm g (f i) n) 0 := by
  refine (rmul_good n a a' c c' f g w H H' hf hg).mono ?_
  rintro e w' ⟨v, he, hO, hB⟩
  exact ⟨v, he, hO.congr (fun i hi => mm_sm (f i) g n (by have := hf.2.1; omega) hg.2.2.2), hB⟩
end Go.Proofs.Ytinkdonaedoojaa
