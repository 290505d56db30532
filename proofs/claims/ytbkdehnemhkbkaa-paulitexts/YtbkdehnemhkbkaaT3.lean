/-
  The reference's Text.
-/
import Derived.Test.YtbkdehnemhkbkaaT2
namespace Go.Proofs.Ytbkdehnemhkbkaa
open Go.RowKit Go.Sort

theorem rtext_no (n : Int) (x z : Nat) (f : Int) (w : World) (hx : x < 18446744073709551616) (hz : z < 18446744073709551616) (h : ¬ Good n x z f) :
    Calls Try.prog 24 #[pv n x z f] w fun e w' => e = .returned (.tuple #[.string ⟨#[]⟩, .int .i64 70]) ∧ Below w.heap.size w w' := by
  have K := fun w => rcheck_no n x z f w hx hz h
  obtain ⟨hW, b1⟩ := one_box w n x z f
  go_enter Try.func24, Try.ntmps24
  go_wp2_with (go_at_call 14; refine (K _).mono ?_; rintro e w1 ⟨rfl, hN⟩)
  go_ret2
  exact ⟨rfl, btr hW hN⟩
theorem text_no (n : Int) (x z : Nat) (f : Int) (w : World) (hx : x < 18446744073709551616) (hz : z < 18446744073709551616) (h : ¬ Good n x z f) :
    Calls Try.prog 19 #[pv n x z f] w fun e w' => e = .returned (.tuple #[.string ⟨#[]⟩, .int .i64 70]) ∧ Below w.heap.size w w' := by
  have K := fun w => check_no n x z f w hx hz h
  obtain ⟨hW, b1⟩ := one_box w n x z f
  go_enter Try.func19, Try.ntmps19
  go_wp2_with (go_at_call 13; refine (K _).mono ?_; rintro e w1 ⟨rfl, hN⟩)
  go_ret2
  exact ⟨rfl, btr hW hN⟩

set_option maxHeartbeats 2000000 in
theorem rtext_yes (p : PS) (w : World) (h : p.ok) : Calls Try.prog 24 #[p.v] w fun e w' => e = .returned (.tuple #[.string ⟨p.text.toArray⟩, .int .i64 0]) ∧ Below w.heap.size w w' := by
  have K := rcheck_yes p h
  have A := fun (j : Nat) w (hj : j < 64) => at_any p.n p.x p.z p.f j w h.xl h.zl hj
  have S := fun w => rsign_any p.f w h.f1
  have sl := signL_len p.f
  have hn := h.n1
  unfold PS.text
  generalize signL p.f = sg at *
  clear h
  obtain ⟨n, x, z, f⟩ := p
  simp only at hn A S ⊢
  obtain ⟨hW, b1⟩ := one_box w n x z f
  go_enter Try.func24, Try.ntmps24
  go_upto_region 5 with (first
    | (go_at_call 14; refine (K _).mono ?_; rintro e w1 ⟨rfl, hN⟩; replace hW := btr hW hN; replace b1 := b1.below hN; have ⟨c0, c1, c2, c3, _, _, _, _⟩ := b1)
    | (go_at_call 37; refine (S _).mono ?_; rintro e w2 ⟨rfl, hE⟩; subst hE)
    | (at_builtin; refine wpList_app_text rfl _ _ rfl _ sg rfl rfl (by omega) ?_; intro v3 w3 hT))
  clear K S c0 c1 c2 c3
  have ⟨c0, c1, c2, c3, _, _, _, _⟩ := b1.below hT.below
  have HT : Hid (TB w2 v3 sg w3) := hT
  clear hT
  go_upto_region 6 with (fail)
  go_loopw [4, 5] (fun v i wr => ∃ m : Nat, m ≤ n ∧ i = .int .i64 ((n : Int) - 1 - m) ∧ Hid (TB w2 v (sg ++ lts x z n m) wr)) (fun _ i _ => (intOf i + 1).toNat)
  case atStart =>
    refine ⟨0, by omega, by go_num, ?_⟩
    rw [show sg ++ lts x z n 0 = sg from List.append_nil sg]
    exact HT
  case round =>
    clear c0 c1 c2 c3 HT
    obtain ⟨m, hm, rfl, hH⟩ := hrel
    obtain ⟨c0, c1, c2, c3, _, _, _, _⟩ := b1.below hH.out.below
    by_cases hlt : m < n
    · have Ak := fun w => A (n - 1 - m) w (by omega)
      rw [show ((n - 1 - m : Nat) : Int) = (n : Int) - 1 - m by omega] at Ak
      have HL : Hid (lts x z n (m + 1) = lts x z n m ++ [letK (atK (bt x (n - 1 - m)) (bt z (n - 1 - m)))]) := rfl
      have hk := atK_le (bt x (n - 1 - m)) (bt z (n - 1 - m))
      have hlen : (sg ++ lts x z n m).length + 1 ≤ 1000 := by rw [List.length_append, lts_len]; omega
      generalize atK (bt x (n - 1 - m)) (bt z (n - 1 - m)) = t at *
      have i0 : ¬ (n : Int) - 1 - m < 0 := by omega
      have i1 : 0 ≤ (n : Int) - 1 - m := by omega
      obtain ⟨b, hb⟩ : ∃ b, Hid (b = letK t) := ⟨_, rfl⟩
      have HM : Hid (∀ v W, TB w2 v (sg ++ lts x z n m ++ [b]) W → TB w2 v (sg ++ lts x z n (m + 1)) W) := fun v W hv => by
        rw [HL.out, ← List.append_assoc, ← hb.out]; exact hv
      generalize sg ++ lts x z n m = L at *
      have : t = 0 ∨ t = 1 ∨ t = 2 ∨ t = 3 := by omega
      clear hk A HL
      rcases this with rfl | rfl | rfl | rfl
      all_goals
        go_wp2_with (first
          | (go_at_call 36; refine (Ak _).mono ?_; rintro e w4 ⟨rfl, hN4⟩)
          | (at_builtin; refine wpList_app rfl _ _ rfl L _ w2 w4 (hH.out.on hN4) rfl b _ (by rw [hb.out]; rfl) rfl hlen ?_; intro v5 w5 hT5))
        go_roundw
        case rel => exact ⟨m + 1, by omega, by go_num, HM.out _ _ hT5⟩
        case measure => simp [intOf]; omega
    · obtain rfl : m = n := by omega
      have i0 : (m : Int) - 1 - m < 0 := by omega
      have hCV := conv_back hH.out (by rw [List.length_append]; omega)
      go_wp2
      go_ret2
      exact ⟨rfl, btr hW hH.out.below⟩
end Go.Proofs.Ytbkdehnemhkbkaa
