/-
  The law RootOrder answers true, whatever the three arguments.
-/
import Derived.Test.YtalaacfoaelipaaDoorG8
namespace Go.Proofs.YtalaacfoaelipaaDoor
open Go.RowKit Go.Sort

theorem sgn_three (x : Int) : sgn x = -1 ∨ sgn x = 0 ∨ sgn x = 1 := by unfold sgn; split <;> (try split) <;> simp
theorem signS_three (p q : Int) : signS p q = -1 ∨ signS p q = 0 ∨ signS p q = 1 := by
  rw [signS_norm]; split
  · exact sgn_three p
  · exact sgn_three q
theorem ne_cases (a1 a2 a3 b1 b2 b3 : Int) (h : ¬ (a1 = b1 ∧ a2 = b2 ∧ a3 = b3)) : ¬ a1 = b1 ∨ (a1 = b1 ∧ ¬ a2 = b2) ∨ (a1 = b1 ∧ a2 = b2 ∧ ¬ a3 = b3) := by omega
theorem order_any (a1 a2 a3 b1 b2 b3 c1 c2 c3 : Int) (w : World) (hT : Tab w) :
    Calls Tryd.prog 8 #[rv a1 a2 a3, rv b1 b2 b3, rv c1 c2 c3] w fun x w' => x = .returned (.bool true) ∧ Below w.heap.size w w' := by
  by_cases ha : isRoot a1 a2 a3
  · by_cases hb : isRoot b1 b2 b3
    · have z := cmp_zero ha hb
      by_cases hc : isRoot c1 c2 c3
      · have x3 := signS_three (sumP a1 (-b1) (max a3.toNat b3.toNat) a3.toNat b3.toNat) (sumP a2 (-b2) (max a3.toNat b3.toNat) a3.toNat b3.toNat)
        have u3 := signS_three (sumP b1 (-c1) (max b3.toNat c3.toNat) b3.toNat c3.toNat) (sumP b2 (-c2) (max b3.toNat c3.toNat) b3.toNat c3.toNat)
        have ht := cmp_turn ha hb
        have htr := cmp_trans ha hb hc
        have s3 := signS_three a1 a2
        have t3 := signS_three b1 b2
        refine order_yes_core a1 a2 a3 b1 b2 b3 c1 c2 c3 (cmpR a1 a2 a3 b1 b2 b3) (cmpR b1 b2 b3 a1 a2 a3) (cmpR b1 b2 b3 c1 c2 c3) (cmpR a1 a2 a3 c1 c2 c3) (signS a1 a2) (signS b1 b2)
          (subR a1 a2 a3 b1 b2 b3) (mulR a1 a2 a3 b1 b2 b3) w hT ?_ ?_ ?_ htr x3 u3 (signS a1 a2 * signS b1 b2) ?_
          (fun w => compare_yes _ _ _ _ _ _ w ha hb) (fun w => compare_yes _ _ _ _ _ _ w hb ha) (fun w => check_yes _ _ _ w ha) (fun w => check_yes _ _ _ w hb) (fun w => check_yes _ _ _ w hc)
          (fun w => compare_yes _ _ _ _ _ _ w hb hc) (fun w => compare_yes _ _ _ _ _ _ w ha hc) (fun w => sign_yes _ _ _ w ha) (fun w => sign_yes _ _ _ w hb)
          (fun w hT => sub_any _ _ _ _ _ _ w hT) (fun w hT => mul_any _ _ _ _ _ _ w hT) (fun h w => ?_) (fun h w => ?_) (fun w => ?_)
        · exact fun W hW => (((hT.alloc _).alloc _).alloc _).below hW
        · change cmpR a1 a2 a3 b1 b2 b3 = -1 ∨ cmpR a1 a2 a3 b1 b2 b3 = 0 ∨ cmpR a1 a2 a3 b1 b2 b3 = 1 at x3
          unfold wrap64; omega
        · by_cases h0 : a1 = b1 ∧ a2 = b2 ∧ a3 = b3
          · exact Or.inl ⟨z.2 h0, h0⟩
          · have hz : ¬ cmpR a1 a2 a3 b1 b2 b3 = 0 := fun h => h0 (z.1 h)
            rcases ne_cases _ _ _ _ _ _ h0 with h | ⟨h, g⟩ | ⟨h, g, k⟩
            · exact Or.inr (Or.inl ⟨hz, h⟩)
            · exact Or.inr (Or.inr (Or.inl ⟨hz, h, g⟩))
            · exact Or.inr (Or.inr (Or.inr ⟨hz, h, g, k⟩))
        · rcases s3 with h | h | h <;> rcases t3 with g | g | g <;> rw [h, g] <;> (unfold wrap64; omega)
        · obtain ⟨rr, e⟩ := sub_sign h
          have := sign_yes _ _ _ w rr
          rwa [e] at this
        · obtain ⟨rr, e⟩ := mul_sign h
          have := sign_yes _ _ _ w rr
          rwa [e] at this
        · have := compare_yes a1 a2 a3 0 0 0 w ha nought_root
          rwa [cmp_nought ha] at this
      · by_cases h0 : a1 = b1 ∧ a2 = b2 ∧ a3 = b3
        · obtain ⟨rfl, rfl, rfl⟩ := h0
          refine order_no3_eq a1 a2 a3 c1 c2 c3 w hT (fun w => ?_) (fun w => check_yes _ _ _ w ha) (fun w => check_no _ _ _ w hc)
          have := compare_yes a1 a2 a3 a1 a2 a3 w ha ha
          rwa [z.2 ⟨rfl, rfl, rfl⟩] at this
        · exact order_no3_ne a1 a2 a3 b1 b2 b3 c1 c2 c3 _ _ w hT (fun h => h0 (z.1 h)) (ne_cases _ _ _ _ _ _ h0)
            (fun w => compare_yes _ _ _ _ _ _ w ha hb) (fun w => compare_yes _ _ _ _ _ _ w hb ha) (fun w => check_yes _ _ _ w ha) (fun w => check_yes _ _ _ w hb) (fun w => check_no _ _ _ w hc)
    · exact order_no2 a1 a2 a3 b1 b2 b3 c1 c2 c3 w hT ha hb
  · exact order_no1 a1 a2 a3 b1 b2 b3 c1 c2 c3 w hT ha
end Go.Proofs.YtalaacfoaelipaaDoor
