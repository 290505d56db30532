/-
  Rank and Inverse.
-/
import Derived.Test.YtinkdonaedoojaaAA
namespace Go.Proofs.Ytinkdonaedoojaa
open Go.RowKit

theorem rd_zero (f h : Nat → Nat) : rd 0 f h 0 = ⟨f, h, 0⟩ := rfl
set_option maxHeartbeats 1000000 in
theorem reduce_nought (a1 a2 : Option Addr) (c1 c2 : Nat) (w : World) :
    Calls Try.prog 33 #[pv2 (.slice a1 0 c1) (.slice a2 0 c2)] w fun e w' => e = .returned (.int .i64 0) ∧ Below w.heap.size w w' := by
  go_enter Try.func33, Try.ntmps33
  go_wp2
  go_loop [3, 8] (fun r i => r = .int .i64 0 ∧ i = .int .i64 0) (fun _ _ => 0)
  case atStart => exact ⟨rfl, rfl⟩
  case round =>
    obtain ⟨rfl, rfl⟩ := hrel
    go_wp2
    go_ret
    exact ⟨rfl, bal (Below.refl _ _) _⟩
/-- What reducing leaves as it was. -/
def Fr (B : Nat) (w w' : World) : Prop := w.heap.size ≤ w'.heap.size ∧ (∀ W : World, W.heap.size ≤ B → Below W.heap.size W w → Below W.heap.size W w') ∧ ∀ b cs T, 25 ≠ T → BK w b cs T → BK w' b cs T
theorem Fr.of {B : Nat} {w w' : World} (h : Below w.heap.size w w') : Fr B w w' := ⟨h.size, fun _ _ hb => btr hb h, fun _ _ _ _ k => bk_on k h⟩
theorem Fr.g2 {B g1 g2 n : Nat} {f h : Nat → Nat} {w w' : World} (H : G2 g1 g2 w w') (O1 : OR w g1 n f) (O2 : OR w g2 n h) (h1 : B ≤ g1) (h2 : B ≤ g2) : Fr B w w' :=
  ⟨H.size, fun W hW hb => H.blw hb (by omega) (by omega) (Nat.le_refl _), fun b cs T hT k => H.bk k (O1.bk k hT) (O2.bk k hT)⟩
theorem reduceP (n : Nat) (v1 v2 : Value) (f h : Nat → Nat) (B : Nat) (w : World) (H : P2 w B v1 v2 n f h) (hn : n ≤ 64) :
    Calls Try.prog 33 #[pv2 v1 v2] w fun e w' => e = .returned (.int .i64 ((rd n f h n).r : Nat)) ∧ P2 w' B v1 v2 n (rd n f h n).f (rd n f h n).h ∧ Fr B w w' := by
  obtain ⟨a1, c1, a2, c2, rfl, rfl, i1, i2, i3, i4, h5⟩ := H
  rcases h5 with rfl | ⟨g1, g2, rfl, rfl, hne, j1, j2, O1, O2⟩
  · refine (reduce_nought a1 a2 c1 c2 w).mono ?_
    rintro e w' ⟨rfl, hb⟩
    exact ⟨rfl, ⟨a1, c1, a2, c2, rfl, rfl, i1, i2, i3, i4, .inl rfl⟩, Fr.of hb⟩
  · refine (reduce_any n g1 g2 c1 c2 f h w O1 O2 hne hn).mono ?_
    rintro e w' ⟨rfl, P1, P2', hG⟩
    exact ⟨rfl, ⟨_, c1, _, c2, rfl, rfl, i1, i2, i3, i4, .inr ⟨g1, g2, rfl, rfl, hne, j1, j2, P1, P2'⟩⟩, Fr.g2 hG O1 O2 j1 j2⟩
/-- The rank of rows. -/
def rk (n : Nat) (f : Nat → Nat) : Nat := (rd n f (fun i => 2 ^ i) n).r
/-- The rows that take rows back, where there are such. -/
def iv (n : Nat) (f : Nat → Nat) : Nat → Nat := (rd n f (fun i => 2 ^ i) n).h
theorem rk_le (n : Nat) (f : Nat → Nat) : rk n f ≤ n := rd_r n f _ n
set_option maxHeartbeats 2000000 in
set_option maxRecDepth 100000 in
theorem rank_good (n : Nat) (a : Option Addr) (c : Nat) (f : Nat → Nat) (w : World) (H : RR w a n f) (hf : Gd n n f) :
    Calls Try.prog 18 #[lv n a n c] w fun e w' => e = .returned (.tuple #[.int .i64 (rk n f : Nat), .int .i64 0]) ∧ Below w.heap.size w w' := by
  have hn : n ≤ 64 := by have := hf.2.1; omega
  have C1 := fun w' (h : Below w.heap.size w w') => check_good n a c f w' (H.below h) hn hf.2.2.2
  have C2 := fun w' (h : Below w.heap.size w w') => pairOf_any n f a c w' (H.below h) hn
  have C3 := fun v1 v2 B w' (h : P2 w' B v1 v2 n f (fun i => 2 ^ i)) => reduceP n v1 v2 f (fun i => 2 ^ i) B w' h hn
  have HB0 := hid (bal (Below.refl w.heap.size w) (.cells (lcs n a n c) 24))
  have HK0 := hid (bk_new w (lcs n a n c) 24)
  have hR : Hid ((rd n f (fun i => 2 ^ i) n).r = rk n f) := rfl
  rw [hR.out] at C3
  clear H hf
  go_enter Try.func18, Try.ntmps18
  go_upto_region 2 with (go_at_call 9; (with_reducible refine (C1 _ HB0.out).mono ?_); rintro e w1 ⟨rfl, hN⟩)
  have HB1 := hid (btr HB0.out hN)
  have K0 := hid (bk_on HK0.out hN)
  clear HB0 HK0 hN C1
  have d0 := K0.out.cell
  have l0 := K0.out.lt
  go_wp2_with (first
    | (go_at_call 32; (with_reducible refine (C2 _ HB1.out).mono ?_); rintro e w2 ⟨v1, v2, rfl, hP, hN⟩)
    | (go_at_call 33; (with_reducible refine (C3 _ _ _ _ hP).mono ?_); rintro e w3 ⟨rfl, hP3, hF⟩))
  go_ret2
  exact ⟨rfl, hF.2.1 w (by have := HB1.out.size; omega) (btr HB1.out hN)⟩
set_option maxHeartbeats 2000000 in
set_option maxRecDepth 100000 in
theorem rank_bad (N : Int) (n : Nat) (a : Option Addr) (c : Nat) (f : Nat → Nat) (w : World) (H : RR w a n f) (hf : ¬ Gd N n f) :
    Calls Try.prog 18 #[lv N a n c] w fun e w' => e = .returned (.tuple #[.int .i64 0, .int .i64 2]) ∧ Below w.heap.size w w' := by
  have C1 := fun w' (h : Below w.heap.size w w') => check_bad N n a c f w' (H.below h) hf
  have HB0 := hid (bal (Below.refl w.heap.size w) (.cells (lcs N a n c) 24))
  clear H hf
  go_enter Try.func18, Try.ntmps18
  go_wp2_with (go_at_call 9; (with_reducible refine (C1 _ HB0.out).mono ?_); rintro e w1 ⟨rfl, hN⟩)
  go_ret2
  exact ⟨rfl, btr HB0.out hN⟩
theorem P2.os2 {W : World} {B n : Nat} {v1 v2 : Value} {f h : Nat → Nat} (H : P2 W B v1 v2 n f h) : OS W B v2 n h := by
  obtain ⟨a1, c1, a2, c2, rfl, rfl, i1, i2, i3, i4, h5⟩ := H
  refine ⟨a2, c2, rfl, i3, i4, h5.imp id ?_⟩
  rintro ⟨g1, g2, j1, j2, j3, j4, j5, j6, j7⟩
  exact ⟨g2, j2, j5, j7⟩
theorem P2.os1 {W : World} {B n : Nat} {v1 v2 : Value} {f h : Nat → Nat} (H : P2 W B v1 v2 n f h) : OS W B v1 n f := by
  obtain ⟨a1, c1, a2, c2, rfl, rfl, i1, i2, i3, i4, h5⟩ := H
  refine ⟨a1, c1, rfl, i1, i2, h5.imp id ?_⟩
  rintro ⟨g1, g2, j1, j2, j3, j4, j5, j6, j7⟩
  exact ⟨g1, j1, j4, j6⟩
theorem P2.shape {W : World} {B n : Nat} {v1 v2 : Value} {f h : Nat → Nat} (H : P2 W B v1 v2 n f h) : ∃ a1 c1 a2 c2, v1 = .slice a1 n c1 ∧ v2 = .slice a2 n c2 := by
  obtain ⟨a1, c1, a2, c2, e1, e2, _⟩ := H
  exact ⟨a1, c1, a2, c2, e1, e2⟩
set_option maxHeartbeats 2000000 in
set_option maxRecDepth 100000 in
theorem inverse_bad (N : Int) (n : Nat) (a : Option Addr) (c : Nat) (f F : Nat → Nat) (w : World) (H : RR w a n f) (hf : ¬ Gd N n f) :
    Calls Try.prog 20 #[lv N a n c] w fun e w' => LR w w' e 0 0 F 2 := by
  have C1 := fun w' (h : Below w.heap.size w w') => check_bad N n a c f w' (H.below h) hf
  have HB0 := hid (bal (bal (Below.refl w.heap.size w) (.cells (lcs N a n c) 24)) (.cells zl 24))
  have HK1 := hid (bk_box1 (w := w) (cs := lcs N a n c) (T := 24) zl 24)
  clear H hf
  go_enter Try.func20, Try.ntmps20
  go_upto_region 2 with (go_at_call 9; (with_reducible refine (C1 _ HB0.out).mono ?_); rintro e w1 ⟨rfl, hN⟩)
  have HB1 := hid (btr HB0.out hN)
  have K2 := hid (bk_on HK1.out hN)
  clear HB0 HK1 hN C1
  have d2 := K2.out.cell
  have l2 := K2.out.lt
  have f2 := K2.out.free
  obtain ⟨q0, q1⟩ := two_set K2.out (.int .i64 0) (.slice none 0 0)
  go_wp2
  exact bodyPost_ret (v := .tuple #[.agg #[.int .i64 0, .slice none 0 0], .int .i64 2]) (by simp [results, Try.results20, go_sem, q0, q1]) rfl (lr_zero F (bset (bset HB1.out _ _ _ (by omega)) _ _ _ (by omega)))
set_option maxHeartbeats 2000000 in
set_option maxRecDepth 100000 in
theorem inverse_good (n : Nat) (a : Option Addr) (c : Nat) (f : Nat → Nat) (w : World) (H : RR w a n f) (hf : Gd n n f) :
    Calls Try.prog 20 #[lv n a n c] w fun e w' => (rk n f = n ∧ LR w w' e n n (iv n f) 0) ∨ (rk n f < n ∧ LR w w' e 0 0 (iv n f) 200) := by
  have hn : n ≤ 64 := by have := hf.2.1; omega
  have C1 := fun w' (h : Below w.heap.size w w') => check_good n a c f w' (H.below h) hn hf.2.2.2
  have C2 := fun w' (h : Below w.heap.size w w') => pairOf_any n f a c w' (H.below h) hn
  have C3 := fun v1 v2 B w' (h : P2 w' B v1 v2 n f (fun i => 2 ^ i)) => reduceP n v1 v2 f (fun i => 2 ^ i) B w' h hn
  have HB0 := hid (bal (bal (Below.refl w.heap.size w) (.cells (lcs n a n c) 24)) (.cells zl 24))
  have HK0 := hid ((bk_new w (lcs n a n c) 24).alloc (.cells zl 24))
  have HK1 := hid (bk_box1 (w := w) (cs := lcs n a n c) (T := 24) zl 24)
  have hR : Hid ((rd n f (fun i => 2 ^ i) n).r = rk n f) := rfl
  have hI : Hid ((rd n f (fun i => 2 ^ i) n).h = iv n f) := rfl
  rw [hR.out, hI.out] at C3
  have hrl := rk_le n f
  clear H hf hR hI
  go_enter Try.func20, Try.ntmps20
  go_upto_region 2 with (go_at_call 9; (with_reducible refine (C1 _ HB0.out).mono ?_); rintro e w1 ⟨rfl, hN⟩)
  have HB1 := hid (btr HB0.out hN)
  have K0 := hid (bk_on HK0.out hN)
  have K1 := hid (bk_on HK1.out hN)
  clear HB0 HK0 HK1 hN C1
  have d0 := K0.out.cell
  have l0 := K0.out.lt
  go_upto_region 5 with (go_at_call 32; (with_reducible refine (C2 _ HB1.out).mono ?_); rintro e w2 ⟨v1, v2, rfl, hP, hN⟩; obtain ⟨a1, c1, a2, c2, rfl, rfl⟩ := hP.shape)
  have HB2 := hid (bal (btr HB1.out hN) (.cells #[.slice a1 n c1, .slice a2 n c2] 70))
  have M0 := hid ((bk_on K0.out hN).alloc (.cells #[.slice a1 n c1, .slice a2 n c2] 70))
  have M1 := hid ((bk_on K1.out hN).alloc (.cells #[.slice a1 n c1, .slice a2 n c2] 70))
  have M2 := hid (bk_new w2 #[.slice a1 n c1, .slice a2 n c2] 70)
  have HP := hid ((hP.on (bal (Below.refl w2.heap.size w2) (.cells #[.slice a1 n c1, .slice a2 n c2] 70))).mono (show w.heap.size ≤ w1.heap.size from HB1.out.size))
  have hz : w.heap.size + 1 < w2.heap.size := (bk_on K1.out hN).lt
  clear HB1 K0 K1 d0 l0 hN hP C2
  generalize hV : w2.alloc (.cells #[.slice a1 n c1, .slice a2 n c2] 70) = V at *
  clear hV
  generalize w2.heap.size = g at *
  have d0 := M0.out.cell
  have l0 := M0.out.lt
  have d2 := M2.out.cell
  have l2 := M2.out.lt
  have HD : Hid (Below V.heap.size V V.drew) := below_drew (Below.refl _ _)
  have C := C3 _ _ _ _ (HP.out.on HD.out)
  have HX : ∀ w3, Fr w.heap.size V.drew w3 → Hid (BK w3 w.heap.size (lcs n a n c) 24) ∧ Hid (BK w3 (w.heap.size + 1) zl 24) ∧ Hid (BK w3 g #[.slice a1 n c1, .slice a2 n c2] 70) ∧ Hid (Below w.heap.size w w3) := fun w3 hF =>
    ⟨hF.2.2 _ _ _ (by decide) M0.out.drew, hF.2.2 _ _ _ (by decide) M1.out.drew, hF.2.2 _ _ _ (by decide) M2.out.drew, hF.2.1 w (Nat.le_refl _) (btr HB2.out HD.out)⟩
  clear C3
  by_cases hr : rk n f = n
  · have hlt : ¬ (rk n f : Int) < (n : Int) := by omega
    have HR := hid hr
    clear hr hrl
    go_region_with (go_at_call 33; (with_reducible refine C.mono ?_); rintro e w3 ⟨rfl, hP3, hF⟩; obtain ⟨N0, N1, N2, HB3⟩ := HX _ hF; (have s0 := N0.out.cell); (have s1 := N0.out.lt))
    all_goals
      have s2 := N2.out.cell
      have s3 := N2.out.lt
      have s4 := N1.out.cell
      have s5 := N1.out.lt
      have s6 := N1.out.free
      have HO := hP3.os2
      obtain ⟨q0, q1⟩ := two_set N1.out (.int .i64 (n : Int)) (.slice a2 n c2)
      clear hP3 hF
      go_wp2
      exact bodyPost_ret (v := .tuple #[.agg #[.int .i64 (n : Int), .slice a2 n c2], .int .i64 0]) (by simp [results, Try.results20, go_sem, q0, q1]) rfl (.inl ⟨HR.out, lr_end HO N1.out (by omega) HB3.out⟩)
  · have hlt : (rk n f : Int) < (n : Int) := by omega
    clear hr hrl
    go_region_with (go_at_call 33; (with_reducible refine C.mono ?_); rintro e w3 ⟨rfl, hP3, hF⟩; obtain ⟨N0, N1, N2, HB3⟩ := HX _ hF; (have s0 := N0.out.cell); (have s1 := N0.out.lt))
    all_goals
      have s4 := N1.out.cell
      have s5 := N1.out.lt
      have s6 := N1.out.free
      obtain ⟨q0, q1⟩ := two_set N1.out (.int .i64 0) (.slice none 0 0)
      clear hP3 hF
      go_wp2
      exact bodyPost_ret (v := .tuple #[.agg #[.int .i64 0, .slice none 0 0], .int .i64 200]) (by simp [results, Try.results20, go_sem, q0, q1]) rfl (.inr ⟨by omega, lr_zero (iv n f) (bset (bset HB3.out (w.heap.size + 1) 0 _ (by omega)) (w.heap.size + 1) 1 _ (by omega))⟩)
end Go.Proofs.Ytinkdonaedoojaa
