/-
  The walk of the law BitsNumbers: true, whatever the input.
-/
import Derived.Test.YtpheplcmooljhaaDoorAwake
import Derived.Test.YtpheplcmooljhaaDoorRef
namespace Go.Proofs.YtpheplcmooljhaaDoor
open Go.RowKit

theorem below_drewN {B : Nat} {a w : World} (h : Below B a w) (n : Nat) : Below B a (w.drewN n) := ⟨h.os, h.tape, h.output, h.size, h.block⟩
theorem Tab.below {w w' : World} (h : Tab w) (hb : Below w.heap.size w w') : Tab w' := fun j hj => by
  have h0 : 0 < w.heap.size := block_lt_of_cell (h 0 (by omega))
  exact (hb.cell (p := ⟨0, j, none⟩) h0).trans (h j hj)

theorem close_pair (x : Nat) (i : Int) (hx : x < 18446744073709551616) : ∃ p q f : Int, (0 ≤ f ∧ f ≤ 2) ∧
    (∀ w, Calls Tryd.prog 20 #[.int .u64 x, .int .i64 i] w fun e w' => e = .returned (.tuple #[.int .u64 p, .int .i64 q, .int .i64 f]) ∧ ∃ n, w' = w.drewN n) ∧
    (∀ w, Calls Tryd.prog 21 #[.int .u64 x, .int .i64 i] w fun e w' => e = .returned (.tuple #[.int .u64 p, .int .i64 q, .int .i64 f]) ∧ ∃ n, w' = w.drewN n) := by
  by_cases h : i < 0 ∨ 64 ≤ i
  · exact ⟨0, 0, 2, by omega, fun w => (rclose_no x i w h).mono fun e w' ⟨a, b⟩ => ⟨a, 0, b⟩, fun w => (close_no x i w h).mono fun e w' ⟨a, b⟩ => ⟨a, 0, b⟩⟩
  · obtain ⟨a, rfl⟩ : ∃ a : Nat, i = a := ⟨i.toNat, by omega⟩
    exact ⟨_, _, 0, by omega, fun w => (rclose_any x a w hx (by omega)).mono fun e w' ⟨a, b⟩ => ⟨a, 0, b⟩, fun w => close_any x a w hx (by omega)⟩
theorem swap_pair (x : Nat) (i j : Int) (hx : x < 18446744073709551616) : ∃ p f : Int, (0 ≤ f ∧ f ≤ 2) ∧
    (∀ w, Calls Tryd.prog 22 #[.int .u64 x, .int .i64 i, .int .i64 j] w fun e w' => e = .returned (.tuple #[.int .u64 p, .int .i64 f]) ∧ ∃ n, w' = w.drewN n) ∧
    (∀ w, Calls Tryd.prog 23 #[.int .u64 x, .int .i64 i, .int .i64 j] w fun e w' => e = .returned (.tuple #[.int .u64 p, .int .i64 f]) ∧ ∃ n, w' = w.drewN n) := by
  by_cases h : (i < 0 ∨ 64 ≤ i) ∨ (j < 0 ∨ 64 ≤ j)
  · exact ⟨0, 2, by omega, fun w => (rswap_no x i j w h).mono fun e w' ⟨a, b⟩ => ⟨a, 0, b⟩, fun w => (swap_no x i j w h).mono fun e w' ⟨a, b⟩ => ⟨a, 0, b⟩⟩
  · obtain ⟨a, rfl⟩ : ∃ a : Nat, i = a := ⟨i.toNat, by omega⟩
    obtain ⟨b, rfl⟩ : ∃ b : Nat, j = b := ⟨j.toNat, by omega⟩
    exact ⟨_, 0, by omega, fun w => (rswap_any x a b w hx (by omega) (by omega)).mono fun e w' ⟨a, b⟩ => ⟨a, 0, b⟩, fun w => swap_any x a b w hx (by omega) (by omega)⟩
theorem open_pair (x : Nat) (i j : Int) (hx : x < 18446744073709551616) : ∃ p f : Int, (0 ≤ f ∧ f ≤ 2) ∧
    (∀ w, Calls Tryd.prog 24 #[.int .u64 x, .int .i64 i, .int .i64 j] w fun e w' => e = .returned (.tuple #[.int .u64 p, .int .i64 f]) ∧ ∃ n, w' = w.drewN n) ∧
    (∀ w, Calls Tryd.prog 25 #[.int .u64 x, .int .i64 i, .int .i64 j] w fun e w' => e = .returned (.tuple #[.int .u64 p, .int .i64 f]) ∧ ∃ n, w' = w.drewN n) := by
  by_cases h : (i < 0 ∨ 64 ≤ i) ∨ (j < 0 ∨ 1 < j)
  · exact ⟨0, 2, by omega, fun w => (ropen_no x i j w h).mono fun e w' ⟨a, b⟩ => ⟨a, 0, b⟩, fun w => (open_no x i j w h).mono fun e w' ⟨a, b⟩ => ⟨a, 0, b⟩⟩
  · obtain ⟨a, rfl⟩ : ∃ a : Nat, i = a := ⟨i.toNat, by omega⟩
    obtain ⟨b, rfl⟩ : ∃ b : Nat, j = b := ⟨j.toNat, by omega⟩
    by_cases hl : 9223372036854775808 ≤ x
    · exact ⟨0, 1, by omega, fun w => (ropen_long x a b w hx (by omega) (by omega) hl).mono fun e w' ⟨a, b⟩ => ⟨a, 0, b⟩, fun w => (open_long x a b w hx (by omega) (by omega) hl).mono fun e w' ⟨a, b⟩ => ⟨a, 0, b⟩⟩
    · exact ⟨_, 0, by omega, fun w => (ropen_any x a b w (by omega) (by omega) (by omega)).mono fun e w' ⟨a, b⟩ => ⟨a, 0, b⟩, fun w => open_any x a b w (by omega) (by omega) (by omega)⟩

set_option maxHeartbeats 2000000 in
theorem numbers_any (x : Nat) (i j b : Int) (w : World) (hx : x < 18446744073709551616) (hT : Tab w) :
    Calls Tryd.prog 3 #[.int .u64 x, .int .i64 i, .int .i64 j, .int .i64 b] w fun e w' => e = .returned (.bool true) ∧ Below w.heap.size w w' := by
  obtain ⟨p, q, f, ⟨hf0, hf2⟩, C1, C2⟩ := close_pair x i hx
  obtain ⟨y, g, ⟨hg0, hg2⟩, S1, S2⟩ := swap_pair x i j hx
  obtain ⟨r, k, ⟨hk0, hk2⟩, O1, O2⟩ := open_pair x i b hx
  have N1 := fun w => count_any x w hx
  have N2 := fun w => rcount_any x w hx
  have N3 := fun w => parity_any x w hx
  have N4 := fun w => rparity_any x w hx
  have N5 := fun w => rlow_any x w hx
  have N6 := fun w => gray_any x w hx
  have N7 := fun w => rgray_any x w hx
  have N8 := fun w => ungray_any x w hx
  have N9 := fun w => rungray_any x w hx
  have N0 : ∀ w, Tab w → Calls Tryd.prog 14 #[.int .u64 x] w fun e w' => e = .returned (.int .i64 (Lib.ctz 64 x)) ∧ w' = w := fun w h => low_any x w hx h
  generalize pop 64 x % 2 = n1 at N3 N4
  generalize pop 64 x = n2 at N1 N2
  generalize Lib.ctz 64 x = n3 at N0 N5
  generalize grayN x = n4 at N6 N7
  generalize ungrayN x = n5 at N8 N9
  go_enter Tryd.func3, Tryd.ntmps3
  go_wp2_with (first
    | (go_at_call 9; refine (awake_any _).mono ?_; rintro e w1 ⟨rfl, hB⟩; have hT1 := hT.below hB)
    | (go_at_call 10; with_reducible refine (N1 _).mono ?_; rintro e w' ⟨rfl, rfl⟩)
    | (go_at_call 11; with_reducible refine (N2 _).mono ?_; rintro e w' ⟨rfl, rfl⟩)
    | (go_at_call 12; with_reducible refine (N3 _).mono ?_; rintro e w' ⟨rfl, rfl⟩)
    | (go_at_call 13; with_reducible refine (N4 _).mono ?_; rintro e w' ⟨rfl, rfl⟩)
    | (go_at_call 14; with_reducible refine (N0 _ (by assumption)).mono ?_; rintro e w' ⟨rfl, rfl⟩)
    | (go_at_call 15; with_reducible refine (N5 _).mono ?_; rintro e w' ⟨rfl, rfl⟩)
    | (go_at_call 16; with_reducible refine (N6 _).mono ?_; rintro e w' ⟨rfl, rfl⟩)
    | (go_at_call 17; with_reducible refine (N7 _).mono ?_; rintro e w' ⟨rfl, rfl⟩)
    | (go_at_call 18; with_reducible refine (N8 _).mono ?_; rintro e w' ⟨rfl, rfl⟩)
    | (go_at_call 19; with_reducible refine (N9 _).mono ?_; rintro e w' ⟨rfl, rfl⟩)
    | (go_at_call 20; with_reducible refine (C1 _).mono ?_; rintro e w' ⟨rfl, m1, rfl⟩)
    | (go_at_call 21; with_reducible refine (C2 _).mono ?_; rintro e w' ⟨rfl, m2, rfl⟩)
    | (go_at_call 22; with_reducible refine (S1 _).mono ?_; rintro e w' ⟨rfl, m3, rfl⟩)
    | (go_at_call 23; with_reducible refine (S2 _).mono ?_; rintro e w' ⟨rfl, m4, rfl⟩)
    | (go_at_call 24; with_reducible refine (O1 _).mono ?_; rintro e w' ⟨rfl, m5, rfl⟩)
    | (go_at_call 25; with_reducible refine (O2 _).mono ?_; rintro e w' ⟨rfl, m6, rfl⟩))
  go_ret
  exact ⟨rfl, below_drewN hB _⟩
end Go.Proofs.YtpheplcmooljhaaDoor
