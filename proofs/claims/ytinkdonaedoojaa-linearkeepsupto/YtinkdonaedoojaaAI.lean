/-
  The reference's Inverse.
-/
import Derived.Test.YtinkdonaedoojaaAH
namespace Go.Proofs.Ytinkdonaedoojaa
open Go.RowKit

theorem P2.mk3 {W1 W2 : World} {B : Nat} {v1 v2 : Value} {n : Nat} {f h : Nat → Nat} (h1 : OS W1 B v1 n f) (h2 : OS W2 W1.heap.size v2 n h) (hB : Below W1.heap.size W1 W2) (hS : B ≤ W1.heap.size) : P2 W2 B v1 v2 n f h := by
  obtain ⟨a1, c1, e1, i1, i2, i3⟩ := h1
  obtain ⟨a2, c2, e2, j1, j2, j3⟩ := h2
  refine ⟨a1, c1, a2, c2, e1, e2, i1, i2, j1, j2, ?_⟩
  rcases i3 with hz | ⟨g1, k1, k2, k3⟩
  · exact .inl hz
  rcases j3 with hz | ⟨g2, l1, l2, l3⟩
  · exact .inl hz
  exact .inr ⟨g1, g2, k1, l1, by have := k3.gl; omega, k2, by omega, k3.on hB, l3⟩
set_option maxHeartbeats 2000000 in
set_option maxRecDepth 100000 in
theorem rinverse_bad (N : Int) (n : Nat) (a : Option Addr) (c : Nat) (f F : Nat → Nat) (w : World) (H : RR w a n f) (hf : ¬ Gd N n f) :
    Calls Try.prog 21 #[lv N a n c] w fun e w' => LR w w' e 0 0 F 2 := by
  have C1 := fun w' (h : Below w.heap.size w w') => rcheck_bad N n a c f w' (H.below h) hf
  have HB0 := hid (bal (bal (Below.refl w.heap.size w) (.cells (lcs N a n c) 24)) (.cells zl 24))
  have HK1 := hid (bk_box1 (w := w) (cs := lcs N a n c) (T := 24) zl 24)
  clear H hf
  go_enter Try.func21, Try.ntmps21
  go_upto_region 2 with (go_at_call 10; (with_reducible refine (C1 _ HB0.out).mono ?_); rintro e w1 ⟨rfl, hN⟩)
  have HB1 := hid (btr HB0.out hN)
  have K2 := hid (bk_on HK1.out hN)
  clear HB0 HK1 hN C1
  have d2 := K2.out.cell
  have l2 := K2.out.lt
  have f2 := K2.out.free
  obtain ⟨q0, q1⟩ := two_set K2.out (.int .i64 0) (.slice none 0 0)
  go_wp2
  exact bodyPost_ret (v := .tuple #[.agg #[.int .i64 0, .slice none 0 0], .int .i64 2]) (by simp [results, Try.results21, go_sem, q0, q1]) rfl (lr_zero F (bset (bset HB1.out (w.heap.size + 1) 0 _ (by omega)) (w.heap.size + 1) 1 _ (by omega)))
set_option maxHeartbeats 4000000 in
set_option maxRecDepth 100000 in
theorem rinverse_good (n : Nat) (a : Option Addr) (c : Nat) (f : Nat → Nat) (w : World) (H : RR w a n f) (hf : Gd n n f) :
    Calls Try.prog 21 #[lv n a n c] w fun e w' => (rk n f = n ∧ LR w w' e n n (iv n f) 0) ∨ (rk n f < n ∧ LR w w' e 0 0 (iv n f) 200) := by
  have hn : n ≤ 64 := by have := hf.2.1; omega
  have C1 := fun w' (h : Below w.heap.size w w') => rcheck_good n a c f w' (H.below h) hn hf.2.2.2
  have C2 := fun w' => reye_good n w' hn
  have C3 := fun v1 v2 B w' (h : P2 w' B v1 v2 n f (fun i => 2 ^ i)) => rreduceP n v1 v2 f (fun i => 2 ^ i) B w' h hn
  have HB0 := hid (bal (bal (Below.refl w.heap.size w) (.cells (lcs n a n c) 24)) (.cells zl 24))
  have HK0 := hid ((bk_new w (lcs n a n c) 24).alloc (.cells zl 24))
  have HK1 := hid (bk_box1 (w := w) (cs := lcs n a n c) (T := 24) zl 24)
  have hR : Hid ((rd n f (fun i => 2 ^ i) n).r = rk n f) := rfl
  have hI : Hid ((rd n f (fun i => 2 ^ i) n).h = iv n f) := rfl
  rw [hR.out, hI.out] at C3
  have hrl := rk_le n f
  have HH := hid H
  clear H hf hR hI
  go_enter Try.func21, Try.ntmps21
  go_wp2_with (first
    | (go_at_call 10; (with_reducible refine (C1 _ HB0.out).mono ?_); rintro e w1 ⟨rfl, hN⟩; (have HB1 := hid (btr HB0.out hN)); (have K0 := hid (bk_on HK0.out hN)); (have K1 := hid (bk_on HK1.out hN)); clear hN; (have d0 := K0.out.cell); (have l0 := K0.out.lt))
    | (at_builtin; refine Hid.out ?_))
  refine hid ?_
  refine app_copy rfl _ _ rfl rfl rfl (HH.out.below HB1.out) (by omega) ?_
  intro v6 w6 hO6 hB6
  obtain ⟨a6, c6, rfl⟩ := os_shape hO6
  have K60 := hid (bk_on K0.out hB6)
  have K61 := hid (bk_on K1.out hB6)
  have HB7 := hid (btr HB1.out hB6)
  have HO6 := hid (hO6.mono (show w.heap.size ≤ w1.heap.size from HB1.out.size))
  clear C1 d0 l0 HB0 HK0 HK1 K0 K1 hB6 hO6 HB1
  have d0 := K60.out.cell
  have l0 := K60.out.lt
  go_upto_region 5 with (go_at_call 12; (with_reducible refine (C2 _).mono ?_); rintro e w7 ⟨v7, rfl, hO7, hN7⟩; obtain ⟨a7, c7, rfl⟩ := os_shape hO7)
  have HB8 := hid (bal (btr HB7.out hN7) (.cells (lcs n a7 n c7) 24))
  have M0 := hid ((bk_on K60.out hN7).alloc (.cells (lcs n a7 n c7) 24))
  have M1 := hid ((bk_on K61.out hN7).alloc (.cells (lcs n a7 n c7) 24))
  have M2 := hid (bk_new w7 (lcs n a7 n c7) 24)
  have HP := hid ((P2.mk3 HO6.out hO7 hN7 HB7.out.size).on (bal (Below.refl w7.heap.size w7) (.cells (lcs n a7 n c7) 24)))
  have hz : w.heap.size + 1 < w7.heap.size := (bk_on K61.out hN7).lt
  clear HB7 K60 K61 d0 l0 hN7 hO7 HO6 C2
  generalize hV : w7.alloc (.cells (lcs n a7 n c7) 24) = V at *
  clear hV
  generalize w7.heap.size = g at *
  have d0 := M0.out.cell
  have l0 := M0.out.lt
  have d2 := M2.out.cell
  have l2 := M2.out.lt
  have HD : Hid (Below V.heap.size V V.drew) := below_drew (Below.refl _ _)
  have C := C3 _ _ _ _ (HP.out.on HD.out)
  have HX : ∀ w3, Fr w.heap.size V.drew w3 → Hid (BK w3 w.heap.size (lcs n a n c) 24) ∧ Hid (BK w3 (w.heap.size + 1) zl 24) ∧ Hid (BK w3 g (lcs n a7 n c7) 24) ∧ Hid (Below w.heap.size w w3) := fun w3 hF =>
    ⟨hF.2.2 _ _ _ (by decide) M0.out.drew, hF.2.2 _ _ _ (by decide) M1.out.drew, hF.2.2 _ _ _ (by decide) M2.out.drew, hF.2.1 w (Nat.le_refl _) (btr HB8.out HD.out)⟩
  clear C3
  by_cases hr : rk n f = n
  · have hlt : ¬ (rk n f : Int) < (n : Int) := by omega
    have HR := hid hr
    clear hr hrl
    go_region_with (go_at_call 34; (with_reducible refine C.mono ?_); rintro e w3 ⟨rfl, hP3, hF⟩; obtain ⟨N0, N1, N2, HB3⟩ := HX _ hF; (have s0 := N0.out.cell); (have s1 := N0.out.lt))
    all_goals
      have s2 := N2.out.cell
      have s3 := N2.out.lt
      have s4 := N1.out.cell
      have s5 := N1.out.lt
      have s6 := N1.out.free
      have HO := hP3.os2
      obtain ⟨q0, q1⟩ := two_set N1.out (.int .i64 (n : Int)) (.slice a7 n c7)
      clear hP3 hF
      go_wp2
      exact bodyPost_ret (v := .tuple #[.agg #[.int .i64 (n : Int), .slice a7 n c7], .int .i64 0]) (by simp [results, Try.results21, go_sem, q0, q1]) rfl (.inl ⟨HR.out, lr_end HO N1.out (by omega) HB3.out⟩)
  · have hlt : (rk n f : Int) < (n : Int) := by omega
    clear hr hrl
    go_region_with (go_at_call 34; (with_reducible refine C.mono ?_); rintro e w3 ⟨rfl, hP3, hF⟩; obtain ⟨N0, N1, N2, HB3⟩ := HX _ hF; (have s0 := N0.out.cell); (have s1 := N0.out.lt))
    all_goals
      have s4 := N1.out.cell
      have s5 := N1.out.lt
      have s6 := N1.out.free
      obtain ⟨q0, q1⟩ := two_set N1.out (.int .i64 0) (.slice none 0 0)
      clear hP3 hF
      go_wp2
      exact bodyPost_ret (v := .tuple #[.agg #[.int .i64 0, .slice none 0 0], .int .i64 200]) (by simp [results, Try.results21, go_sem, q0, q1]) rfl (.inr ⟨by omega, lr_zero (iv n f) (bset (bset HB3.out (w.heap.size + 1) 0 _ (by omega)) (w.heap.size + 1) 1 _ (by omega))⟩)
end Go.Proofs.Ytinkdonaedoojaa
