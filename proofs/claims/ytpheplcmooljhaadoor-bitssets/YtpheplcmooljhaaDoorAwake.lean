/-
  What Low answers; the law's own waking test ('awake') answers true.
-/
import Derived.Test.YtpheplcmooljhaaDoorList
import Derived.Test.YtpheplcmooljhaaDoorText
namespace Go.Proofs.YtpheplcmooljhaaDoor
open Go.RowKit

/-- The table of math/bits, where its variable lies. -/
def Tab (w : World) : Prop := ∀ j, j < 64 → w.cell? ⟨0, j, none⟩ = some (.int .u8 (Lib.deBruijn64tab.getD j 0))
theorem Tab.drewN {w : World} (h : Tab w) (n : Nat) : Tab (w.drewN n) := fun j hj => by simpa using h j hj
theorem tab_lt : ∀ j : Fin 64, Lib.deBruijn64tab.getD j.val 0 < 64 := by decide +kernel

theorem tz_zero (w : World) : Calls Tryd.prog 40 #[.int .u64 0] w fun e w' => e = .returned (.int .i64 64) ∧ w' = w := by
  go_enter Tryd.func40, Tryd.ntmps40
  go_wp2
  go_ret
  exact ⟨rfl, rfl⟩
theorem low_zero (w : World) : Calls Tryd.prog 14 #[.int .u64 0] w fun e w' => e = .returned (.int .i64 64) ∧ w' = w := by
  go_enter Tryd.func14, Tryd.ntmps14
  go_wp2_with (go_at_call 40; refine (tz_zero _).mono ?_; rintro e w' ⟨rfl, rfl⟩)
  go_ret
  exact ⟨rfl, rfl⟩

theorem low_key (x k : Nat) (hx : x < 18446744073709551616) (h0 : x ≠ 0) (hk : x &&& (18446744073709551616 - x) = 2 ^ k) :
    IntKind.u64.wrap (bits .and .u64 (x : Int) (IntKind.u64.wrap (-(x : Int))) * 285870213051353865) / 288230376151711744 = ((2 ^ k * 285870213051353865 % 18446744073709551616 / 288230376151711744 : Nat) : Int) := by
  have e : IntKind.u64.wrap (-(x : Int)) = ((18446744073709551616 - x : Nat) : Int) := by rw [IntKind.wrap_u64]; omega
  rw [e, u64_and_nat _ _ hx (by omega), hk, IntKind.wrap_u64]
  generalize 2 ^ k = m
  omega

theorem tz_core (x k idx : Nat) (w : World) (h1 : ((x : Int) == 0) = false) (hk : k < 64) (hi : idx < 64)
    (key : IntKind.u64.wrap (bits .and .u64 (x : Int) (IntKind.u64.wrap (-(x : Int))) * 285870213051353865) / 288230376151711744 = (idx : Int))
    (hc : w.cell? ⟨0, idx, none⟩ = some (.int .u8 k)) :
    Calls Tryd.prog 40 #[.int .u64 x] w fun e w' => e = .returned (.int .i64 k) ∧ w' = w := by
  go_enter Tryd.func40, Tryd.ntmps40
  go_wp2_with (simp only [key])
  go_ret
  exact ⟨rfl, rfl⟩
theorem low_core (x k : Nat) (w : World) (H : Calls Tryd.prog 40 #[.int .u64 x] w fun e w' => e = .returned (.int .i64 k) ∧ w' = w) :
    Calls Tryd.prog 14 #[.int .u64 x] w fun e w' => e = .returned (.int .i64 k) ∧ w' = w := by
  go_enter Tryd.func14, Tryd.ntmps14
  go_wp2_with (go_at_call 40; with_reducible refine H.mono ?_; rintro e w' ⟨rfl, rfl⟩)
  go_ret
  exact ⟨rfl, rfl⟩
theorem low_at (x : Nat) (hx : x < 18446744073709551616) (h0 : x ≠ 0) : ∃ idx : Nat, idx < 64 ∧ Lib.ctz 64 x < 64 ∧ Lib.deBruijn64tab.getD idx 0 = Lib.ctz 64 x ∧
    IntKind.u64.wrap (bits .and .u64 (x : Int) (IntKind.u64.wrap (-(x : Int))) * 285870213051353865) / 288230376151711744 = (idx : Int) := by
  obtain ⟨hlow, hk⟩ := Lib.lowest_bit 64 x h0 hx
  obtain ⟨hi, htab⟩ := Lib.deBruijn64_at _ hk
  exact ⟨_, hi, hk, htab, low_key x _ hx h0 hlow⟩
theorem low_any (x : Nat) (w : World) (hx : x < 18446744073709551616) (hT : Tab w) :
    Calls Tryd.prog 14 #[.int .u64 x] w fun e w' => e = .returned (.int .i64 (Lib.ctz 64 x)) ∧ w' = w := by
  by_cases h0 : x = 0
  · subst h0; exact low_zero w
  · obtain ⟨idx, hi, hk, htab, key⟩ := low_at x hx h0
    have hc := hT _ hi
    rw [htab] at hc
    exact low_core x _ w (tz_core x _ idx w (by simp; omega) hk hi key hc)

def awP (i : Nat) : Int := [2, 0, 3].getD i 0
theorem awP_plc : Plc awP 3 := by unfold Plc; decide
theorem aw_pick (w : World) (hr : Row (some ⟨w.heap.size, 0, none⟩) awP 3 (w.alloc (.cells #[.int .i64 2, .int .i64 0, .int .i64 3] 3))) :
    Calls Tryd.prog 27 #[.int .u64 13, .slice (some ⟨w.heap.size, 0, none⟩) 3 3] (w.alloc (.cells #[.int .i64 2, .int .i64 0, .int .i64 3] 3)) fun e w' => e = .returned (.tuple #[.int .u64 7, .int .i64 0]) ∧ w' = (w.alloc (.cells #[.int .i64 2, .int .i64 0, .int .i64 3] 3)) :=
  pick_any 13 _ awP 3 3 _ (by omega) hr awP_plc
theorem aw_row (w : World) : Row (some ⟨w.heap.size, 0, none⟩) awP 3 (w.alloc (.cells #[.int .i64 2, .int .i64 0, .int .i64 3] 3)) := ⟨fun i hi => by
  refine ⟨_, _, rfl, ?_⟩
  rw [World.cell?_alloc_at _ _ _ _ (by simp)]
  rcases (show i = 0 ∨ i = 1 ∨ i = 2 by omega) with rfl | rfl | rfl <;> rfl⟩
theorem aw_text (w : World) : Calls Tryd.prog 31 #[.int .u64 5, .int .i64 4] w fun e w' => e = .returned (.tuple #[.string ⟨#[48, 49, 48, 49]⟩, .int .i64 0]) ∧ Below w.heap.size w w' :=
  text_any 5 4 w (by omega) (by omega) (by decide)
theorem aw_count (w : World) : Calls Tryd.prog 10 #[.int .u64 11] w fun e w' => e = .returned (.int .i64 3) ∧ w' = w := count_any 11 w (by omega)
theorem aw_gray (w : World) : Calls Tryd.prog 16 #[.int .u64 5] w fun e w' => e = .returned (.int .u64 7) ∧ w' = w := gray_any 5 w (by omega)

set_option maxHeartbeats 400000 in
theorem awake_any (w : World) : Calls Tryd.prog 9 #[] w fun e w' => e = .returned (.bool true) ∧ Below w.heap.size w w' := by
  have HP := aw_pick w (aw_row w)
  go_enter Tryd.func9, Tryd.ntmps9
  go_wp2_with (first
    | (go_at_call 27; refine HP.mono ?_; rintro e w' ⟨rfl, rfl⟩)
    | (go_at_call 31; refine (aw_text _).mono ?_; rintro e w' ⟨rfl, hB⟩)
    | (go_at_call 10; refine (aw_count _).mono ?_; rintro e w' ⟨rfl, rfl⟩)
    | (go_at_call 14; refine (low_zero _).mono ?_; rintro e w' ⟨rfl, rfl⟩)
    | (go_at_call 16; refine (aw_gray _).mono ?_; rintro e w' ⟨rfl, rfl⟩))
  go_ret
  exact ⟨rfl, ((Below.refl _ _).alloc (Nat.le_refl _) _).trans (hB.mono (by simp))⟩
end Go.Proofs.YtpheplcmooljhaaDoor
