/-
  The reference's At, product, Adjoint and Weight.
-/
import Derived.Test.YtbkdehnemhkbkaaM4
import Derived.Test.YtbkdehnemhkbkaaP6
namespace Go.Proofs.Ytbkdehnemhkbkaa
open Go.RowKit Go.Sort

theorem at_any (n : Int) (x z : Nat) (f : Int) (j : Nat) (w : World) (hx : x < 18446744073709551616) (hz : z < 18446744073709551616) (hj : j < 64) :
    Calls Try.prog 36 #[pv n x z f, .int .i64 j] w fun e w' => e = .returned (.int .i64 (atK (bt x j) (bt z j) : Nat)) ∧ Below w.heap.size w w' := by
  have e1 := i_bit x j hx
  have e2 := i_bit z j hz
  rcases bt01 x j with h | h <;> rcases bt01 z j with g | g <;> rw [h] at e1 <;> rw [g] at e2 <;> rw [h, g]
  · show Calls Try.prog 36 #[pv n x z f, .int .i64 j] w fun e w' => e = .returned (.int .i64 0) ∧ Below w.heap.size w w'
    clear h g
    go_enter Try.func36, Try.ntmps36
    go_wp2
    go_ret
    exact ⟨rfl, bal (Below.refl _ _) _⟩
  · show Calls Try.prog 36 #[pv n x z f, .int .i64 j] w fun e w' => e = .returned (.int .i64 3) ∧ Below w.heap.size w w'
    clear h g
    go_enter Try.func36, Try.ntmps36
    go_wp2
    go_ret
    exact ⟨rfl, bal (Below.refl _ _) _⟩
  · show Calls Try.prog 36 #[pv n x z f, .int .i64 j] w fun e w' => e = .returned (.int .i64 1) ∧ Below w.heap.size w w'
    clear h g
    go_enter Try.func36, Try.ntmps36
    go_wp2
    go_ret
    exact ⟨rfl, bal (Below.refl _ _) _⟩
  · show Calls Try.prog 36 #[pv n x z f, .int .i64 j] w fun e w' => e = .returned (.int .i64 2) ∧ Below w.heap.size w w'
    clear h g
    go_enter Try.func36, Try.ntmps36
    go_wp2
    go_ret
    exact ⟨rfl, bal (Below.refl _ _) _⟩

theorem product_any (a b : Nat) (w : World) (ha : a ≤ 3) (hb : b ≤ 3) :
    Calls Try.prog 35 #[.int .i64 a, .int .i64 b] w fun e w' => e = .returned (.tuple #[.int .i64 (prodK a b : Nat), .int .i64 (prodF a b : Nat)]) ∧ w' = w := by
  have h1 : a = 0 ∨ a = 1 ∨ a = 2 ∨ a = 3 := by omega
  have h2 : b = 0 ∨ b = 1 ∨ b = 2 ∨ b = 3 := by omega
  rcases h1 with rfl | rfl | rfl | rfl <;> rcases h2 with rfl | rfl | rfl | rfl
  all_goals
    go_enter Try.func35, Try.ntmps35
    go_wp2
    go_ret2
    exact ⟨rfl, rfl⟩

theorem radj_yes (p : PS) (w : World) (h : p.ok) : Calls Try.prog 23 #[p.v] w fun e w' => e = .returned (.tuple #[p.adj.v, .int .i64 0]) ∧ Below w.heap.size w w' := by
  have hf := h.f1
  have K := rcheck_yes p h
  have e1 : ((4 : Int) - (p.f : Int)) % 4 = (((4 - p.f) % 4 : Nat) : Int) := by omega
  unfold PS.adj
  obtain ⟨n, x, z, f⟩ := p
  have hf4 : f < 4 := hf
  generalize (4 - f) % 4 = F at *
  clear hf h
  obtain ⟨hW, b1, b2⟩ := two_boxes w n x z f 0 0 0 0
  go_enter Try.func23, Try.ntmps23
  go_wp2_with (go_at_call 14; refine (K _).mono ?_; rintro e w1 ⟨rfl, hN⟩; obtain ⟨c0, c1, c2, c3, f0, f1, f2, f3⟩ := b1.below hN; obtain ⟨d0, d1, d2, d3, g0, g1, g2, g3⟩ := b2.below hN)
  refine bodyPost_ret (v := .tuple #[pv n x z F, .int .i64 0]) (by simp [results, Try.results23, go_sem, d0, d1, d2, d3]) rfl ⟨rfl, ?_⟩
  repeat (first | exact btr hW hN | refine bset ?_ _ _ _ (by omega))
theorem radj_no (n : Int) (x z : Nat) (f : Int) (w : World) (hx : x < 18446744073709551616) (hz : z < 18446744073709551616) (h : ¬ Good n x z f) :
    Calls Try.prog 23 #[pv n x z f] w fun e w' => e = .returned (.tuple #[pv 0 0 0 0, .int .i64 70]) ∧ Below w.heap.size w w' := by
  have K := fun w => rcheck_no n x z f w hx hz h
  obtain ⟨hW, b1, b2⟩ := two_boxes w n x z f 0 0 0 0
  go_enter Try.func23, Try.ntmps23
  go_wp2_with (go_at_call 14; refine (K _).mono ?_; rintro e w1 ⟨rfl, hN⟩; obtain ⟨c0, c1, c2, c3, f0, f1, f2, f3⟩ := b1.below hN; obtain ⟨d0, d1, d2, d3, g0, g1, g2, g3⟩ := b2.below hN)
  refine bodyPost_ret (v := .tuple #[pv 0 0 0 0, .int .i64 70]) (by simp [results, Try.results23, go_sem, d0, d1, d2, d3]) rfl ⟨rfl, ?_⟩
  repeat (first | exact btr hW hN | refine bset ?_ _ _ _ (by omega))
theorem rweight_no (n : Int) (x z : Nat) (f : Int) (w : World) (hx : x < 18446744073709551616) (hz : z < 18446744073709551616) (h : ¬ Good n x z f) :
    Calls Try.prog 22 #[pv n x z f] w fun e w' => e = .returned (.tuple #[.int .i64 0, .int .i64 70]) ∧ Below w.heap.size w w' := by
  have K := fun w => rcheck_no n x z f w hx hz h
  obtain ⟨hW, b1⟩ := one_box w n x z f
  go_enter Try.func22, Try.ntmps22
  go_wp2_with (go_at_call 14; refine (K _).mono ?_; rintro e w1 ⟨rfl, hN⟩)
  go_ret2
  exact ⟨rfl, btr hW hN⟩
set_option maxHeartbeats 400000 in
theorem rweight_yes (p : PS) (w : World) (h : p.ok) : Calls Try.prog 22 #[p.v] w fun e w' => e = .returned (.tuple #[.int .i64 (wgt p.x p.z : Nat), .int .i64 0]) ∧ Below w.heap.size w w' := by
  have K := rcheck_yes p h
  have A := fun (j : Nat) w (hj : j < 64) => at_any p.n p.x p.z p.f j w h.xl h.zl hj
  have hW64 : wgt p.x p.z = pop p.n (p.x ||| p.z) := pop_up (or_ltn h.x1 h.z1) 64 h.n1
  have hn := h.n1
  rw [hW64]
  clear hW64 h
  obtain ⟨n, x, z, f⟩ := p
  simp only at hn A ⊢
  obtain ⟨hW, b1⟩ := one_box w n x z f
  go_enter Try.func22, Try.ntmps22
  go_wp2_with (go_at_call 14; refine (K _).mono ?_; rintro e w1 ⟨rfl, hN⟩; have hB := btr hW hN; have b2 := b1.below hN)
  clear hN b1 hW K
  go_loopw [4, 5] (fun c i wr => ∃ k : Nat, k ≤ n ∧ i = .int .i64 k ∧ c = .int .i64 (pop k (x ||| z) : Nat) ∧ Hid (Below w.heap.size w wr ∧ PB wr w.heap.size n x z f)) (fun _ i _ => n - (intOf i).toNat)
  case atStart => exact ⟨0, by omega, rfl, rfl, hB, b2⟩
  case round =>
    obtain ⟨k, hk, rfl, rfl, hH⟩ := hrel
    obtain ⟨c0, c1, c2, c3, _, _, _, _⟩ := hH.out.2
    have hp := pop_le k (x ||| z)
    by_cases hlt : k < n
    · have Ak := fun w => A k w (by omega)
      have hz0 := atK_nil x z k
      have hs : pop (k + 1) (x ||| z) = pop k (x ||| z) + bt (x ||| z) k := rfl
      generalize atK (bt x k) (bt z k) = t at *
      have HS : Hid (pop (k + 1) (x ||| z) = pop k (x ||| z) + bt (x ||| z) k) := hs
      generalize pop k (x ||| z) = P at *
      clear hs
      by_cases ht : t = 0
      · subst ht
        have HZ : Hid (bt (x ||| z) k = 0) := hz0.1 rfl
        clear hz0
        go_wp2_with (go_at_call 36; refine (Ak _).mono ?_; rintro e w2 ⟨rfl, hN2⟩)
        go_roundw
        case rel => exact ⟨k + 1, by omega, by go_num, by rw [HS.out, HZ.out]; rfl, btr hH.out.1 hN2, hH.out.2.below hN2⟩
        case measure => simp [intOf]; omega
      · have HZ : Hid (bt (x ||| z) k = 1) := by
          have := bt_le (x ||| z) k
          show bt (x ||| z) k = 1
          have : ¬ bt (x ||| z) k = 0 := fun e => ht (hz0.2 e)
          omega
        have ht' : ((t : Int) != 0) = true := by simp; omega
        clear hz0
        go_wp2_with (go_at_call 36; refine (Ak _).mono ?_; rintro e w2 ⟨rfl, hN2⟩)
        go_roundw
        case rel => exact ⟨k + 1, by omega, by go_num, by rw [HS.out, HZ.out]; go_num, btr hH.out.1 hN2, hH.out.2.below hN2⟩
        case measure => simp [intOf]; omega
    · obtain rfl : k = n := by omega
      go_wp2
      go_ret2
      exact ⟨rfl, hH.out.1⟩

end Go.Proofs.Ytbkdehnemhkbkaa
