/-
  Text of package pauli.
-/
import Derived.Test.YtbkdehnemhkbkaaT3
namespace Go.Proofs.Ytbkdehnemhkbkaa
open Go.RowKit Go.Sort

set_option maxHeartbeats 4000000 in
theorem text_yes (p : PS) (w : World) (h : p.ok) : Calls Try.prog 19 #[p.v] w fun e w' => e = .returned (.tuple #[.string ⟨p.text.toArray⟩, .int .i64 0]) ∧ Below w.heap.size w w' := by
  have K := h.check
  have S := fun w => sign_any p.f w h.f1
  have sl := signL_len p.f
  have hn := h.n1
  have xl := h.xl
  have zl := h.zl
  unfold PS.text
  generalize signL p.f = sg at *
  have CT := fun w => conv_tb sg (by omega) w
  clear h
  obtain ⟨n, x, z, f⟩ := p
  simp only at hn S xl zl ⊢
  obtain ⟨hW, b1⟩ := one_box w n x z f
  go_enter Try.func19, Try.ntmps19
  go_upto_region 5 with (first
    | (go_at_call 13; refine (K _).mono ?_; rintro e w1 ⟨rfl, hN⟩; replace hW := btr hW hN; replace b1 := b1.below hN; have ⟨c0, c1, c2, c3, _, _, _, _⟩ := b1; obtain ⟨v3, w3, CV, hT⟩ := CT w1)
    | (go_at_call 34; refine (S _).mono ?_; rintro e w2 ⟨rfl, hE⟩; subst hE))
  clear K S c0 c1 c2 c3 CT CV
  have ⟨c0, c1, c2, c3, _, _, _, _⟩ := b1.below hT.below
  have HT : Hid (TB _ v3 sg w3) := hT
  clear hT
  go_upto_region 6 with (fail)
  go_loopw [5, 6] (fun v i wr => ∃ m : Nat, m ≤ n ∧ i = .int .i64 ((n : Int) - 1 - m) ∧ Hid (TB w2 v (sg ++ lts x z n m) wr)) (fun _ i _ => (intOf i + 1).toNat)
  case atStart =>
    refine ⟨0, by omega, by go_num, ?_⟩
    rw [show sg ++ lts x z n 0 = sg from List.append_nil sg]
    exact HT
  case round =>
    clear c0 c1 c2 c3 HT
    obtain ⟨m, hm, rfl, hH⟩ := hrel
    have hlr := (b1.below hH.out.below).lt
    obtain ⟨c0, c1, c2, c3, _, _, _, _⟩ := b1.below hH.out.below
    by_cases hlt : m < n
    · have HL : Hid (lts x z n (m + 1) = lts x z n m ++ [letK (atK (bt x (n - 1 - m)) (bt z (n - 1 - m)))]) := rfl
      have hlen : (sg ++ lts x z n m).length + 1 ≤ 1000 := by rw [List.length_append, lts_len]; omega
      have hJ : (n : Int) - 1 - m = ((n - 1 - m : Nat) : Int) := by omega
      have HJ : Hid ((n : Int) - 1 - m = ((n - 1 - m : Nat) : Int)) := hJ
      have hJl : n - 1 - m < 64 := by omega
      rw [hJ]
      obtain ⟨b, hb⟩ : ∃ b, Hid (b = letK (atK (bt x (n - 1 - m)) (bt z (n - 1 - m)))) := ⟨_, rfl⟩
      have HM : Hid (∀ v W, TB w2 v (sg ++ lts x z n m ++ [b]) W → TB w2 v (sg ++ lts x z n (m + 1)) W) := fun v W hv => by
        rw [HL.out, ← List.append_assoc, ← hb.out]; exact hv
      generalize sg ++ lts x z n m = L at *
      clear hJ HL
      have e1 := i_bit x (n - 1 - m) xl
      have e2 := i_bit z (n - 1 - m) zl
      generalize n - 1 - m = J at *
      rcases bt01 x J with g1 | g1 <;> rcases bt01 z J with g2 | g2 <;> rw [g1, g2] at hb <;> rw [g1] at e1 <;> rw [g2] at e2 <;> clear g1 g2
      all_goals
        go_upto_region 8 with (fail)
        go_region_held_law (fun w' => w'.cell? ⟨w.heap.size, 1, none⟩ = some (.int .u64 (x : Int)) ∧ w'.cell? ⟨w.heap.size, 2, none⟩ = some (.int .u64 (z : Int)))
          (first | go_keep | exact ⟨(b1.below hT5.below).c1, (b1.below hT5.below).c2⟩)
          ((refine step_app rfl _ _ (by rfl) L _ w2 wr.drew hH.out.drew (by rfl) b _ (by rw [hb.out]; rfl) (by rfl) hlen ?_; intro v5 w5 hT5))
        go_wp2
        go_roundw
        case rel => exact ⟨m + 1, by omega, by have := HJ.out; go_num, HM.out _ _ hT5⟩
        case measure => simp [intOf]
    · obtain rfl : m = n := by omega
      have i0 : (m : Int) - 1 - m < 0 := by omega
      have hCV := conv_back hH.out (by rw [List.length_append]; omega)
      go_wp2
      go_ret2
      exact ⟨rfl, btr hW hH.out.below⟩
end Go.Proofs.Ytbkdehnemhkbkaa
