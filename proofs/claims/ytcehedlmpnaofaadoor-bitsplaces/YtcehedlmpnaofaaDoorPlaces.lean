/-
  The walk of the law BitsPlaces: true, whatever the input.
-/
import Derived.Test.YtcehedlmpnaofaaDoorRoom
import Derived.Test.YtcehedlmpnaofaaDoorRefL
import Derived.Test.YtcehedlmpnaofaaDoorNumbers
namespace Go.Proofs.YtcehedlmpnaofaaDoor
open Go.RowKit

theorem pick_pair (x : Nat) (p : Nat → Int) (n : Nat) (hx : x < 18446744073709551616) (hn : n ≤ 9223372036854775807) : ∃ q f : Int, (0 ≤ f ∧ f ≤ 2) ∧
    (∀ a cap w, Row a p n w → Calls Tryd.prog 26 #[.int .u64 x, .slice a n cap] w fun e w' => e = .returned (.tuple #[.int .u64 q, .int .i64 f]) ∧ ∃ m, w' = w.drewN m) ∧
    (∀ a cap w, Row a p n w → Calls Tryd.prog 27 #[.int .u64 x, .slice a n cap] w fun e w' => e = .returned (.tuple #[.int .u64 q, .int .i64 f]) ∧ ∃ m, w' = w.drewN m) := by
  by_cases h : Plc p n
  · exact ⟨_, 0, by omega, fun a cap w hr => rpick_any x a p n cap w hx hr h, fun a cap w hr => (pick_any x a p n cap w hx hr h).mono fun e w' ⟨a, b⟩ => ⟨a, 0, b⟩⟩
  · exact ⟨0, 2, by omega, fun a cap w hr => rpick_no x a p n cap w hn hr h, fun a cap w hr => (pick_no x a p n cap w hn hr h).mono fun e w' ⟨a, b⟩ => ⟨a, 0, b⟩⟩
theorem put_pair (x v : Nat) (p : Nat → Int) (n : Nat) (hx : x < 18446744073709551616) (hv : v < 18446744073709551616) (hn : n ≤ 9223372036854775807) : ∃ q f : Int, (0 ≤ f ∧ f ≤ 2) ∧
    (∀ a cap w, Row a p n w → Calls Tryd.prog 28 #[.int .u64 x, .slice a n cap, .int .u64 v] w fun e w' => e = .returned (.tuple #[.int .u64 q, .int .i64 f]) ∧ ∃ m, w' = w.drewN m) ∧
    (∀ a cap w, Row a p n w → Calls Tryd.prog 29 #[.int .u64 x, .slice a n cap, .int .u64 v] w fun e w' => e = .returned (.tuple #[.int .u64 q, .int .i64 f]) ∧ ∃ m, w' = w.drewN m) := by
  by_cases h : Plc p n
  · by_cases hl : v < 2 ^ n
    · exact ⟨_, 0, by omega, fun a cap w hr => rput_any x v a p n cap w hx hv hr h hl, fun a cap w hr => put_any x v a p n cap w hx hv hr h hl⟩
    · exact ⟨0, 2, by omega, fun a cap w hr => rput_high x v a p n cap w hv hr h hl, fun a cap w hr => (put_high x v a p n cap w hr h hl).mono fun e w' ⟨a, b⟩ => ⟨a, 0, b⟩⟩
  · exact ⟨0, 2, by omega, fun a cap w hr => rput_no x v a p n cap w hn hr h, fun a cap w hr => (put_no x v a p n cap w hn hr h).mono fun e w' ⟨a, b⟩ => ⟨a, 0, b⟩⟩

set_option maxHeartbeats 2000000 in
theorem places_any (x v : Nat) (a : Option Addr) (p : Nat → Int) (n cap : Nat) (w : World) (hx : x < 18446744073709551616) (hv : v < 18446744073709551616) (hn : n * 8 ≤ 140737488351232)
    (hnone : a = none → n = 0 ∧ cap = 0) (hr : Row a p n w) :
    Calls Tryd.prog 4 #[.int .u64 x, .int .u64 v, .slice a n cap] w fun e w' => e = .returned (.bool true) ∧ Below w.heap.size w w' := by
  obtain ⟨q1, f1, ⟨hf0, hf2⟩, P1, P2⟩ := pick_pair x p n hx (by omega)
  obtain ⟨q2, f2, ⟨hg0, hg2⟩, U1, U2⟩ := put_pair x v p n hx hv (by omega)
  obtain ⟨i, hi, hz0, hz1, hz2⟩ := info_parts Tryd.info3
  have HR : Hid (Row a p n w) := hr
  have HN : Hid (a = none → n = 0 ∧ cap = 0) := hnone
  clear hr hnone
  go_enter Tryd.func4, Tryd.ntmps4
  go_wp2_with (first
    | (go_at_call 9; refine (awake_any _).mono ?_; rintro e w1 ⟨rfl, hB⟩; have hsz1 := hB.size; have HB1 : Hid (Below w.heap.size w (w1.alloc (.cells #[] 3))) := hB.alloc hB.size _; have HO1 := World.ownsRow_lit (base := w.heap.size) (e := 3) (size := 1) w1 #[] 0 hB.size (Nat.zero_le _) rfl; have HR1 : Hid (Row a p n (w1.alloc (.cells #[] 3))) := HR.out.kept HB1.out)
    | (at_builtin; refine wpList_append_row _ rfl _ _ rfl w.heap.size w1.heap.size rfl HO1 a p n cap rfl HR1.out HN.out (by omega) (by simp; omega) ?_; intro v1 w2 hown1 hgr1 hex1; obtain ⟨g1, c1, rfl⟩ := hex1)
    | (at_builtin; refine wpList_append_own _ rfl _ _ 36 rfl w.heap.size 3 i (.int .i64 0) 1 8 Tryd.underlying36 hi hz0 hz1 hz2 rfl (by decide) _ n (vals p n) rfl (hown1.alloc _) ⟨w2.heap.size, 0, none⟩ 2 2 [.int .i64 77, .int .i64 78] rfl rfl (cell_two_new _ _ _ _) (fun u hu => by simp at hu; rcases hu with rfl | rfl <;> rfl) (by unfold maxLen; omega) (by omega) (by have := hgr1.size; simp at this; simp; omega) ?_; intro v2 w3 hown2 hgr2 hnil2; obtain ⟨g2, c2, rfl, hg2', hc2, hc2'⟩ := owns_shape hown2 (by omega); have HRM : Hid (Room a p n w w3 g2) := room_of HR.out HB1.out hsz1 hgr1 hown1 hown2 hgr2; have R1 := HRM.out.old; have R2 := HRM.out.new; have hc77 := HRM.out.c77; have hc78 := HRM.out.c78; clear hown2 hgr2 hnil2 hown1 hgr1 HO1 HR1 HB1)
    | (go_at_call 26; with_reducible refine (P1 _ _ _ (by first | exact R1 | exact R1.drewN _)).mono ?_; rintro e w' ⟨rfl, m1, rfl⟩)
    | (go_at_call 27; with_reducible refine (P2 _ _ _ (by first | exact R2 | exact R2.drewN _)).mono ?_; rintro e w' ⟨rfl, m2, rfl⟩)
    | (go_at_call 28; with_reducible refine (U1 _ _ _ (by first | exact R1 | exact R1.drewN _)).mono ?_; rintro e w' ⟨rfl, m3, rfl⟩)
    | (go_at_call 29; with_reducible refine (U2 _ _ _ (by first | exact R2 | exact R2.drewN _)).mono ?_; rintro e w' ⟨rfl, m4, rfl⟩))
  clear P1 P2 U1 U2 hc77 hc78
  go_loopw [17] (fun i wr => ∃ k m : Nat, k ≤ n ∧ i = .int .i64 k ∧ Hid (wr = w3.drewN m)) (fun i _ => n - (intOf i).toNat)
  case atStart => exact ⟨0, _, by omega, rfl, rfl⟩
  case round =>
    obtain ⟨k, m, hk, rfl, hw⟩ := hrel
    by_cases hlt : k < n
    · obtain ⟨b, off, rfl, hc0⟩ := R1.at_ k hlt
      obtain ⟨b', off', e, hd0⟩ := R2.at_ k hlt
      cases e
      have hc : wr.cell? ⟨b, off + k, none⟩ = some (.int .i64 (p k)) := by rw [hw.out]; simpa using hc0
      have hd : wr.cell? ⟨g2, k, none⟩ = some (.int .i64 (p k)) := by rw [hw.out]; simpa using hd0
      clear hc0 hd0
      go_wp2
      go_quiet (fail)
      go_wp2
      go_roundw
      case rel => exact ⟨k + 1, m + nq, by omega, by go_num, by show _ = _; rw [hw.out]; exact drewN_two _ _ _⟩
      case measure => simp [intOf]; omega
    · go_wp2
      go_ret
      exact ⟨rfl, by rw [hw.out]; exact below_drewN HRM.out.below m⟩
end Go.Proofs.YtcehedlmpnaofaaDoor
