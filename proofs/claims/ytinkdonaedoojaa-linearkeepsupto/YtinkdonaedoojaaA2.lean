/-
  The reference's Check; sums of rows; Eye's rows.
-/
import Derived.Test.YtinkdonaedoojaaA1
import Derived.Deep.OwnRows
namespace Go.Proofs.Ytinkdonaedoojaa
open Go.RowKit

theorem bk_on {W W' : World} {b : Nat} {cs : Array Value} {T : TypeId} (h : BK W b cs T) (hb : Below W.heap.size W W') : BK W' b cs T := (hb.block _ h.lt).trans h
set_option maxHeartbeats 1000000 in
theorem rcheck_good (n : Nat) (a : Option Addr) (c : Nat) (f : Nat → Nat) (w : World) (H : RR w a n f) (hn : n ≤ 64) (hf : ∀ i, i < n → f i < 2 ^ n) :
    Calls Try.prog 10 #[lv n a n c] w fun e w' => e = .returned (.int .i64 0) ∧ Below w.heap.size w w' := by
  have HH := hid H
  have F : ∀ k w, k < n → Calls Try.prog 27 #[.int .u64 (f k), .int .i64 n] w fun e w' => e = .returned (.bool true) ∧ w' = w := fun k w h => by
    have := below_any (f k) n w (H.lt k h) hn
    rwa [decide_eq_true (hf k h)] at this
  clear H hf
  go_enter Try.func10, Try.ntmps10
  go_wp2
  go_loopw [3] (fun i wx => ∃ k : Nat, k ≤ n ∧ i = .int .i64 k ∧ Hid (BK wx w.heap.size (lcs n a n c) 24) ∧ Hid (Below w.heap.size w wx)) (fun i _ => n - (intOf i).toNat)
  case atStart => exact ⟨0, Nat.zero_le _, rfl, bk_new _ _ _, bal (Below.refl _ _) _⟩
  case round =>
    obtain ⟨k, hk, rfl, HK, HB⟩ := hrel
    have d1 := HK.out.cell
    have l1 := HK.out.lt
    have hBd : ∀ n, Below wr.heap.size wr (wr.drewN n) := fun n => below_drewN (Below.refl _ _) n
    by_cases hlt : k < n
    · obtain ⟨b, o, rfl, hc, hb⟩ := (HH.out.below HB.out).at_ k hlt
      have FF := fun w => F k w hlt
      clear F
      go_wp2
      go_quiet ((go_at_call 27; exact Calls.quiet_of_same (FF _)))
      go_wp2
      exact ⟨⟨k + 1, by omega, by go_num, bk_on HK.out (hBd _), btr HB.out (hBd _)⟩, by simp only [intOf]; omega⟩
    · obtain rfl : k = n := by omega
      go_wp2
      go_ret
      exact ⟨rfl, HB.out⟩
set_option maxHeartbeats 1000000 in
theorem rcheck_bad (N : Int) (n : Nat) (a : Option Addr) (c : Nat) (f : Nat → Nat) (w : World) (H : RR w a n f) (hg : ¬ Gd N n f) :
    Calls Try.prog 10 #[lv N a n c] w fun e w' => e = .returned (.int .i64 2) ∧ Below w.heap.size w w' := by
  have hl := H.l
  by_cases h0 : N < 0
  · clear hg
    go_enter Try.func10, Try.ntmps10
    go_wp2
    go_ret
    exact ⟨rfl, bal (Below.refl _ _) _⟩
  by_cases h1 : 64 < N
  · clear hg
    go_enter Try.func10, Try.ntmps10
    go_wp2
    go_ret
    exact ⟨rfl, bal (Below.refl _ _) _⟩
  by_cases h2 : (n : Int) = N
  case neg =>
    clear hg
    go_enter Try.func10, Try.ntmps10
    go_wp2
    go_ret
    exact ⟨rfl, bal (Below.refl _ _) _⟩
  subst h2
  have hx : Hid (¬ ∀ i, i < n → f i < 2 ^ n) := fun h => hg ⟨by omega, by omega, rfl, h⟩
  have hn : n ≤ 64 := by omega
  have HH := hid H
  have F := fun k w (h : k < n) => below_any (f k) n w (H.lt k h) hn
  clear H hg h0 h1
  go_enter Try.func10, Try.ntmps10
  go_wp2
  go_loopw [3] (fun i wx => ∃ k : Nat, k ≤ n ∧ i = .int .i64 k ∧ Hid (BK wx w.heap.size (lcs n a n c) 24) ∧ Hid (Below w.heap.size w wx) ∧ Hid (∀ j, j < k → f j < 2 ^ n)) (fun i _ => n - (intOf i).toNat)
  case atStart => exact ⟨0, Nat.zero_le _, rfl, bk_new _ _ _, bal (Below.refl _ _) _, fun _ h => absurd h (Nat.not_lt_zero _)⟩
  case round =>
    obtain ⟨k, hk, rfl, HK, HB, hp⟩ := hrel
    have d1 := HK.out.cell
    have l1 := HK.out.lt
    have hBd : ∀ n, Below wr.heap.size wr (wr.drewN n) := fun n => below_drewN (Below.refl _ _) n
    by_cases hlt : k < n
    · obtain ⟨b, o, rfl, hc, hb⟩ := (HH.out.below HB.out).at_ k hlt
      have FF := fun w => F k w hlt
      clear F
      by_cases hf : f k < 2 ^ n
      · have hp2 : Hid (∀ j, j < k + 1 → f j < 2 ^ n) := fun j hj => by
          rcases Nat.lt_or_ge j k with h | h
          · exact hp j h
          · obtain rfl : j = k := by omega
            exact hf
        rw [decide_eq_true hf] at FF
        clear hf
        go_wp2
        go_quiet ((go_at_call 27; exact Calls.quiet_of_same (FF _)))
        go_wp2
        exact ⟨⟨k + 1, by omega, by go_num, bk_on HK.out (hBd _), btr HB.out (hBd _), hp2⟩, by simp only [intOf]; omega⟩
      · rw [decide_eq_false hf] at FF
        clear hf
        go_wp2
        go_quiet ((go_at_call 27; exact Calls.quiet_of_same (FF _)))
        go_wp2
        go_ret
        exact ⟨rfl, btr HB.out (hBd _)⟩
    · obtain rfl : k = n := by omega
      exact absurd hp.out hx
/-- The reference's Check tells E: 0 if the matrix is right, 2 if not. -/
theorem rcheck_any (N : Int) (n : Nat) (a : Option Addr) (c : Nat) (f : Nat → Nat) (E : Int) (w : World) (H : RR w a n f) (hE : (E = 0 ∧ Gd N n f) ∨ (E = 2 ∧ ¬ Gd N n f)) :
    Calls Try.prog 10 #[lv N a n c] w fun e w' => e = .returned (.int .i64 E) ∧ Below w.heap.size w w' := by
  rcases hE with ⟨rfl, h0, h1, rfl, h⟩ | ⟨rfl, h⟩
  · exact rcheck_good n a c f w H (by omega) h
  · exact rcheck_bad N n a c f w H h
/-- The sum of the rows whose numbers are the ones of x, of those ahead of k. -/
def sm (f : Nat → Nat) (x : Nat) : Nat → Nat
  | 0 => 0
  | k + 1 => if x.testBit k then sm f x k ^^^ f k else sm f x k
theorem sm_lt (f : Nat → Nat) (x n : Nat) (hf : ∀ i, i < n → f i < 18446744073709551616) : ∀ k, k ≤ n → sm f x k < 18446744073709551616
  | 0, _ => by unfold sm; omega
  | k + 1, h => by
    unfold sm
    split
    · exact xor_lt (sm_lt f x n hf k (by omega)) (hf k (by omega))
    · exact sm_lt f x n hf k (by omega)
set_option maxHeartbeats 1000000 in
theorem sum_any (n : Nat) (a : Option Addr) (c : Nat) (f : Nat → Nat) (x : Nat) (w : World) (H : RR w a n f) (hn : n ≤ 64) (hx : x < 18446744073709551616) :
    Calls Try.prog 29 #[.slice a n c, .int .u64 x] w fun e w' => e = .returned (.int .u64 (sm f x n)) ∧ w' = w := by
  have HH := hid H
  have F := fun k w (h : k < n) => has_any x k w hx (by omega)
  have HL := hid (sm_lt f x n H.lt)
  have HF := hid H.lt
  clear H hx
  go_enter Try.func29, Try.ntmps29
  go_wp2
  go_loop [5, 10] (fun s i => ∃ k : Nat, k ≤ n ∧ i = .int .i64 k ∧ s = .int .u64 (sm f x k)) (fun _ i => n - (intOf i).toNat)
  case atStart => exact ⟨0, Nat.zero_le _, rfl, rfl⟩
  case round =>
    obtain ⟨k, hk, rfl, rfl⟩ := hrel
    by_cases hlt : k < n
    · obtain ⟨b, o, rfl, hc, hb⟩ := HH.out.at_ k hlt
      have FF := fun w => F k w hlt
      have h1 := HL.out k hk
      have h2 := HF.out k hlt
      clear F
      by_cases ht : x.testBit k = true
      · have e : Hid (sm f x (k + 1) = sm f x k ^^^ f k) := by show _ = _; rw [sm, if_pos ht]
        have hx := i_xor (sm f x k) (f k) h1 h2
        rw [ht] at FF
        clear ht h1 h2
        go_wp2_with (go_at_call 41; (with_reducible refine (FF _).mono ?_); rintro e w1 ⟨rfl, rfl⟩)
        go_round
        case rel => exact ⟨k + 1, by omega, by go_num, by rw [e.out]⟩
        case measure => simp [intOf]; omega
      · have hf : x.testBit k = false := by simpa using ht
        have e : Hid (sm f x (k + 1) = sm f x k) := by show _ = _; rw [sm, hf]; rfl
        rw [hf] at FF
        clear ht hf h1 h2
        go_wp2_with (go_at_call 41; (with_reducible refine (FF _).mono ?_); rintro e w1 ⟨rfl, rfl⟩)
        go_round
        case rel => exact ⟨k + 1, by omega, by go_num, by rw [e.out]⟩
        case measure => simp [intOf]; omega
    · obtain rfl : k = n := by omega
      go_wp2
      go_ret
      exact ⟨rfl, rfl⟩
end Go.Proofs.Ytinkdonaedoojaa
