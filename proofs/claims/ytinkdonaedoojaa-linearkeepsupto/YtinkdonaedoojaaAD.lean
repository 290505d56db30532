/-
  The reference's Same and Apply; numbers appended.
-/
import Derived.Test.YtinkdonaedoojaaAC
namespace Go.Proofs.Ytinkdonaedoojaa
open Go.RowKit

theorem boxes2 (w : World) (c0 c1 : Array Value) : Below w.heap.size w ((w.alloc (.cells c0 24)).alloc (.cells c1 24)) ∧ BK ((w.alloc (.cells c0 24)).alloc (.cells c1 24)) w.heap.size c0 24 ∧ BK ((w.alloc (.cells c0 24)).alloc (.cells c1 24)) (w.heap.size + 1) c1 24 :=
  ⟨bal (bal (Below.refl _ _) _) _, (bk_new w c0 24).alloc _, bk_box1 _ _⟩
set_option maxHeartbeats 2000000 in
set_option maxRecDepth 100000 in
/-- The same matrix: told as a Bool. -/
theorem same_any (N N' : Int) (n n' : Nat) (a a' : Option Addr) (c c' : Nat) (f f' : Nat → Nat) (w : World) (H : RR w a n f) (H' : RR w a' n' f') (E : Bool)
    (h1 : N = N' → n = n' → (∀ i, i < n → f i = f' i) → E = true) (h2 : ¬ (N = N' ∧ n = n' ∧ ∀ i, i < n → f i = f' i) → E = false) :
    Calls Try.prog 13 #[lv N a n c, lv N' a' n' c'] w fun e w' => e = .returned (.bool E) ∧ Below w.heap.size w w' := by
  obtain ⟨hB0, hK0, hK1⟩ := boxes2 w (lcs N a n c) (lcs N' a' n' c')
  have hl := H.l
  have hl' := H'.l
  by_cases hN : N = N'
  case neg =>
    obtain rfl : E = false := h2 (fun h => hN h.1)
    have hb : (N != N') = true := bne_iff_ne.2 hN
    clear h1 h2 hN hK0 hK1
    go_enter Try.func13, Try.ntmps13
    go_wp2
    go_ret
    exact ⟨rfl, hB0⟩
  have hb : (N != N') = false := by rw [hN]; exact bne_self_eq_false' _
  by_cases hn : n = n'
  case neg =>
    obtain rfl : E = false := h2 (fun h => hn h.2.1)
    have hb2 : ((n : Int) != (n' : Int)) = true := bne_iff_ne.2 (by omega)
    clear h1 h2 hN hn hK0 hK1
    go_enter Try.func13, Try.ntmps13
    go_wp2
    go_ret
    exact ⟨rfl, hB0⟩
  subst hn
  have HE1 : Hid ((∀ i, i < n → f i = f' i) → E = true) := fun h => h1 hN rfl h
  have HE2 : Hid (∀ i, i < n → f i ≠ f' i → E = false) := fun i hi hne => h2 (fun h => hne (h.2.2 i hi))
  have hb2 : ((n : Int) != (n : Int)) = false := bne_self_eq_false' _
  have HH := hid H
  have HH' := hid H'
  have HB0 := hid hB0
  have HK0 := hid hK0
  have HK1 := hid hK1
  clear h1 h2 hN hB0 hK0 hK1 H H'
  go_enter Try.func13, Try.ntmps13
  go_wp2
  go_loopw [5] (fun v wx => ∃ k : Nat, k ≤ n ∧ v = .int .i64 (k : Nat) ∧ Hid (BK wx w.heap.size (lcs N a n c) 24) ∧ Hid (BK wx (w.heap.size + 1) (lcs N' a' n c') 24) ∧ Hid (Below w.heap.size w wx) ∧ Hid (∀ i, i < k → f i = f' i)) (fun v _ => n - (intOf v).toNat)
  case atStart => exact ⟨0, Nat.zero_le _, rfl, HK0, HK1, HB0, fun i h => absurd h (Nat.not_lt_zero _)⟩
  case round =>
    clear HK0 HK1 HB0
    obtain ⟨k, hk, rfl, K0, K1, HB, HQ⟩ := hrel
    have d0 := K0.out.cell
    have l0 := K0.out.lt
    have d1 := K1.out.cell
    have l1 := K1.out.lt
    have hBd : ∀ n, Below wr.heap.size wr (wr.drewN n) := fun n => below_drewN (Below.refl _ _) n
    by_cases hlt : k < n
    case neg =>
      obtain rfl : k = n := by omega
      obtain rfl : E = true := HE1.out HQ.out
      go_wp2
      go_ret
      exact ⟨rfl, HB.out⟩
    obtain ⟨b, o, rfl, x1, x2⟩ := (HH.out.below HB.out).at_ k hlt
    obtain ⟨b', o', rfl, y1, y2⟩ := (HH'.out.below HB.out).at_ k hlt
    by_cases e : f k = f' k
    · have HQ2 : Hid (∀ i, i < k + 1 → f i = f' i) := fun i hi => by
        rcases Nat.lt_or_ge i k with h | h
        · exact HQ.out i h
        · obtain rfl : i = k := by omega
          exact e
      rw [← e] at y1
      have he : ((f k : Int) != (f k : Int)) = false := bne_self_eq_false' _
      clear e HQ
      generalize f k = F at *
      go_wp2
      go_quiet (fail)
      go_wp2
      exact ⟨⟨k + 1, by omega, by go_num, bk_on K0.out (hBd _), bk_on K1.out (hBd _), btr HB.out (hBd _), HQ2⟩, by simp only [intOf]; omega⟩
    · obtain rfl : E = false := HE2.out k hlt e
      have he : ((f k : Int) != (f' k : Int)) = true := bne_iff_ne.2 (by omega)
      clear e HQ
      generalize f k = F at *
      generalize f' k = F' at *
      go_wp2
      go_quiet (fail)
      go_wp2
      go_ret
      exact ⟨rfl, btr HB.out (hBd _)⟩
set_option maxHeartbeats 2000000 in
set_option maxRecDepth 100000 in
theorem rapply_good (n : Nat) (a : Option Addr) (c : Nat) (f : Nat → Nat) (x : Nat) (w : World) (H : RR w a n f) (hf : Gd n n f) (hx : x < 2 ^ n) :
    Calls Try.prog 17 #[lv n a n c, .int .u64 x] w fun e w' => e = .returned (.tuple #[.int .u64 (apN f x n : Nat), .int .i64 0]) ∧ Below w.heap.size w w' := by
  have hn : n ≤ 64 := by have := hf.2.1; omega
  have hx64 : x < 18446744073709551616 := Nat.lt_of_lt_of_le hx (Nat.pow_le_pow_right (by decide) hn)
  have C1 := fun w' (h : Below w.heap.size w w') => rcheck_good n a c f w' (H.below h) hn hf.2.2.2
  have C2 := fun w' => below_any x n w' hx64 hn
  rw [decide_eq_true hx] at C2
  have C3 := fun k w' (h : k < n) => odd_any (f k &&& x) w' (and_lt x (H.lt k h))
  have HB0 := hid (bal (Below.refl w.heap.size w) (.cells (lcs n a n c) 24))
  have HK0 := hid (bk_new w (lcs n a n c) 24)
  have HLT := hid H.lt
  have HH := hid H
  clear H hf hx
  go_enter Try.func17, Try.ntmps17
  go_wp2_with (first
    | (go_at_call 10; (with_reducible refine (C1 _ HB0.out).mono ?_); rintro e w1 ⟨rfl, hN⟩; (have HB1 := hid (btr HB0.out hN)); (have K0 := hid (bk_on HK0.out hN)); clear hN; (have d0 := K0.out.cell); (have l0 := K0.out.lt))
    | (go_at_call 27; (with_reducible refine (C2 _).mono ?_); rintro e w2 ⟨rfl, rfl⟩))
  go_loop [6, 7] (fun y i => ∃ k : Nat, k ≤ n ∧ i = .int .i64 k ∧ y = .int .u64 (apN f x k : Nat)) (fun _ i => n - (intOf i).toNat)
  case atStart => exact ⟨0, Nat.zero_le _, rfl, rfl⟩
  case round =>
    obtain ⟨k, hk, rfl, rfl⟩ := hrel
    by_cases hlt : k < n
    · obtain ⟨b, o, rfl, hc, hb⟩ := (HH.out.below HB1.out).at_ k hlt
      have CC := fun w' => C3 k w' hlt
      have HS := hid (apN_step f x k (by omega))
      have hpl := par_le (f k &&& x)
      have ha := u64_and_nat (f k) x (HLT.out k hlt) hx64
      generalize par (f k &&& x) = P at *
      generalize f k &&& x = Y at *
      go_wp2_with (go_at_call 30; (with_reducible refine (CC _).mono ?_); rintro e w2 ⟨rfl, rfl⟩)
      go_round
      case rel => exact ⟨k + 1, by omega, by go_num, by rw [HS.out]⟩
      case measure => simp [intOf]; omega
    · obtain rfl : k = n := by omega
      go_wp2
      go_ret2
      exact ⟨rfl, HB1.out⟩
set_option maxHeartbeats 2000000 in
set_option maxRecDepth 100000 in
theorem rapply_bad (N : Int) (n : Nat) (a : Option Addr) (c : Nat) (f : Nat → Nat) (x : Nat) (w : World) (H : RR w a n f) (hx : x < 18446744073709551616) (hb : ¬ (Gd N n f ∧ x < 2 ^ n)) :
    Calls Try.prog 17 #[lv N a n c, .int .u64 x] w fun e w' => e = .returned (.tuple #[.int .u64 0, .int .i64 2]) ∧ Below w.heap.size w w' := by
  have HB0 := hid (bal (Below.refl w.heap.size w) (.cells (lcs N a n c) 24))
  by_cases hf : Gd N n f
  case neg =>
    have C1 := fun w' (h : Below w.heap.size w w') => rcheck_bad N n a c f w' (H.below h) hf
    clear H hf hb
    go_enter Try.func17, Try.ntmps17
    go_wp2_with (go_at_call 10; (with_reducible refine (C1 _ HB0.out).mono ?_); rintro e w1 ⟨rfl, hN⟩)
    go_ret2
    exact ⟨rfl, btr HB0.out hN⟩
  obtain ⟨_, hn, e, hf⟩ := hf
  subst e
  have hn : n ≤ 64 := by omega
  have hxn : ¬ x < 2 ^ n := fun h => hb ⟨⟨by omega, by omega, rfl, hf⟩, h⟩
  have C1 := fun w' (h : Below w.heap.size w w') => rcheck_good n a c f w' (H.below h) hn hf
  have C2 := fun w' => below_any x n w' hx hn
  rw [decide_eq_false hxn] at C2
  have HK0 := hid (bk_new w (lcs n a n c) 24)
  clear H hf hx hb hxn
  go_enter Try.func17, Try.ntmps17
  go_wp2_with (first
    | (go_at_call 10; (with_reducible refine (C1 _ HB0.out).mono ?_); rintro e w1 ⟨rfl, hN⟩; (have HB1 := hid (btr HB0.out hN)); (have K0 := hid (bk_on HK0.out hN)); clear hN; (have d0 := K0.out.cell); (have l0 := K0.out.lt))
    | (go_at_call 27; (with_reducible refine (C2 _).mono ?_); rintro e w2 ⟨rfl, rfl⟩))
  go_ret2
  exact ⟨rfl, HB1.out⟩
end Go.Proofs.Ytinkdonaedoojaa
