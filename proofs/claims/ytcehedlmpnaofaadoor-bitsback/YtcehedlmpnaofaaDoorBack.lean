/-
  The walk of the law BitsBack: true, whatever the input.
-/
import Derived.Test.YtcehedlmpnaofaaDoorNumbers
namespace Go.Proofs.YtcehedlmpnaofaaDoor
open Go.RowKit

theorem Row.below {a : Option Addr} {p : Nat → Int} {n : Nat} {w w' : World} (h : Row a p n w) (hb : Below w.heap.size w w') : Row a p n w' := ⟨fun i hi => by
  obtain ⟨b, off, e, hc⟩ := h.at_ i hi
  exact ⟨b, off, e, (hb.cell (p := ⟨b, off + i, none⟩) (block_lt_of_cell hc)).trans hc⟩⟩

/-- What Pick and Put answer in the law: three ways. -/
def WayA (x v : Nat) (s : Value) (a : Option Addr) (p : Nat → Int) (n : Nat) : Prop :=
  ((∀ w, Row a p n w → Calls Tryd.prog 27 #[.int .u64 x, s] w fun e w' => e = .returned (.tuple #[.int .u64 0, .int .i64 2]) ∧ ∃ m, w' = w.drewN m)) ∨
  (∃ P : Nat, (∀ w, Row a p n w → Calls Tryd.prog 27 #[.int .u64 x, s] w fun e w' => e = .returned (.tuple #[.int .u64 P, .int .i64 0]) ∧ ∃ m, w' = w.drewN m) ∧ (∀ w, Row a p n w → Calls Tryd.prog 29 #[.int .u64 x, s, .int .u64 P] w fun e w' => e = .returned (.tuple #[.int .u64 x, .int .i64 0]) ∧ ∃ m, w' = w.drewN m) ∧ (∀ w, Row a p n w → Calls Tryd.prog 29 #[.int .u64 x, s, .int .u64 v] w fun e w' => e = .returned (.tuple #[.int .u64 0, .int .i64 2]) ∧ ∃ m, w' = w.drewN m)) ∨
  (∃ P : Nat, ∃ Z : Nat, (∀ w, Row a p n w → Calls Tryd.prog 27 #[.int .u64 x, s] w fun e w' => e = .returned (.tuple #[.int .u64 P, .int .i64 0]) ∧ ∃ m, w' = w.drewN m) ∧ (∀ w, Row a p n w → Calls Tryd.prog 29 #[.int .u64 x, s, .int .u64 P] w fun e w' => e = .returned (.tuple #[.int .u64 x, .int .i64 0]) ∧ ∃ m, w' = w.drewN m) ∧ (∀ w, Row a p n w → Calls Tryd.prog 29 #[.int .u64 x, s, .int .u64 v] w fun e w' => e = .returned (.tuple #[.int .u64 Z, .int .i64 0]) ∧ ∃ m, w' = w.drewN m) ∧ (∀ w, Row a p n w → Calls Tryd.prog 27 #[.int .u64 Z, s] w fun e w' => e = .returned (.tuple #[.int .u64 v, .int .i64 0]) ∧ ∃ m, w' = w.drewN m))
theorem WayA.no {x v : Nat} {s : Value} {a : Option Addr} {p : Nat → Int} {n : Nat} (PK : ∀ w, Row a p n w → Calls Tryd.prog 27 #[.int .u64 x, s] w fun e w' => e = .returned (.tuple #[.int .u64 0, .int .i64 2]) ∧ ∃ m, w' = w.drewN m) : WayA x v s a p n := .inl PK
theorem WayA.high {x v : Nat} {s : Value} {a : Option Addr} {p : Nat → Int} {n : Nat} (P : Nat) (PK : ∀ w, Row a p n w → Calls Tryd.prog 27 #[.int .u64 x, s] w fun e w' => e = .returned (.tuple #[.int .u64 P, .int .i64 0]) ∧ ∃ m, w' = w.drewN m) (PU1 : ∀ w, Row a p n w → Calls Tryd.prog 29 #[.int .u64 x, s, .int .u64 P] w fun e w' => e = .returned (.tuple #[.int .u64 x, .int .i64 0]) ∧ ∃ m, w' = w.drewN m) (PU2 : ∀ w, Row a p n w → Calls Tryd.prog 29 #[.int .u64 x, s, .int .u64 v] w fun e w' => e = .returned (.tuple #[.int .u64 0, .int .i64 2]) ∧ ∃ m, w' = w.drewN m) : WayA x v s a p n := .inr (.inl ⟨P, PK, PU1, PU2⟩)
theorem WayA.yes {x v : Nat} {s : Value} {a : Option Addr} {p : Nat → Int} {n : Nat} (P Z : Nat) (PK : ∀ w, Row a p n w → Calls Tryd.prog 27 #[.int .u64 x, s] w fun e w' => e = .returned (.tuple #[.int .u64 P, .int .i64 0]) ∧ ∃ m, w' = w.drewN m) (PU1 : ∀ w, Row a p n w → Calls Tryd.prog 29 #[.int .u64 x, s, .int .u64 P] w fun e w' => e = .returned (.tuple #[.int .u64 x, .int .i64 0]) ∧ ∃ m, w' = w.drewN m) (PU2 : ∀ w, Row a p n w → Calls Tryd.prog 29 #[.int .u64 x, s, .int .u64 v] w fun e w' => e = .returned (.tuple #[.int .u64 Z, .int .i64 0]) ∧ ∃ m, w' = w.drewN m) (PK2 : ∀ w, Row a p n w → Calls Tryd.prog 27 #[.int .u64 Z, s] w fun e w' => e = .returned (.tuple #[.int .u64 v, .int .i64 0]) ∧ ∃ m, w' = w.drewN m) : WayA x v s a p n := .inr (.inr (⟨P, Z, PK, PU1, PU2, PK2⟩))
theorem wayA (x v : Nat) (a : Option Addr) (p : Nat → Int) (n cap : Nat) (hx : x < 18446744073709551616) (hv : v < 18446744073709551616) (hn : n ≤ 9223372036854775807) : WayA x v (.slice a n cap) a p n := by
  by_cases hp : Plc p n
  · have hl := hp.len
    have P1 := fun w hr => pick_any x a p n cap w hx hr hp
    have P2 := fun w hr => put_any x (pickN x p n) a p n cap w hx (pickN_lt x p hl) hr hp (pickN_low x p n)
    rw [put_pick] at P2
    by_cases hh : v < 2 ^ n
    · have P3 := fun w hr => put_any x v a p n cap w hx hv hr hp hh
      have P4 := fun w hr => pick_any (putN v p x n) a p n cap w (putN_lt hx hp) hr hp
      rw [pick_put hp hh] at P4
      exact .yes _ _ (fun w hr => (P1 w hr).mono fun e w' ⟨a, b⟩ => ⟨a, 0, b⟩) P2 P3 (fun w hr => (P4 w hr).mono fun e w' ⟨a, b⟩ => ⟨a, 0, b⟩)
    · exact .high _ (fun w hr => (P1 w hr).mono fun e w' ⟨a, b⟩ => ⟨a, 0, b⟩) P2 (fun w hr => (put_high x v a p n cap w hr hp hh).mono fun e w' ⟨a, b⟩ => ⟨a, 0, b⟩)
  · exact .no fun w hr => (pick_no x a p n cap w hn hr hp).mono fun e w' ⟨a, b⟩ => ⟨a, 0, b⟩

/-- What Close and Open answer in the law: three ways. -/
def WayB (x : Nat) (i : Int) : Prop :=
  ((∀ w, Calls Tryd.prog 21 #[.int .u64 x, .int .i64 i] w fun e w' => e = .returned (.tuple #[.int .u64 0, .int .i64 0, .int .i64 2]) ∧ ∃ m, w' = w.drewN m) ∧ (∀ w, Calls Tryd.prog 25 #[.int .u64 x, .int .i64 i, .int .i64 0] w fun e w' => e = .returned (.tuple #[.int .u64 0, .int .i64 2]) ∧ ∃ m, w' = w.drewN m) ∧ (∀ w, Calls Tryd.prog 25 #[.int .u64 x, .int .i64 i, .int .i64 1] w fun e w' => e = .returned (.tuple #[.int .u64 0, .int .i64 2]) ∧ ∃ m, w' = w.drewN m)) ∨
  (∃ C : Nat, ∃ b : Nat, (b ≤ 1) ∧ (∀ w, Calls Tryd.prog 21 #[.int .u64 x, .int .i64 i] w fun e w' => e = .returned (.tuple #[.int .u64 C, .int .i64 b, .int .i64 0]) ∧ ∃ m, w' = w.drewN m) ∧ (∀ w, Calls Tryd.prog 25 #[.int .u64 C, .int .i64 i, .int .i64 b] w fun e w' => e = .returned (.tuple #[.int .u64 x, .int .i64 0]) ∧ ∃ m, w' = w.drewN m) ∧ (∀ w, Calls Tryd.prog 25 #[.int .u64 x, .int .i64 i, .int .i64 0] w fun e w' => e = .returned (.tuple #[.int .u64 0, .int .i64 1]) ∧ ∃ m, w' = w.drewN m) ∧ (∀ w, Calls Tryd.prog 25 #[.int .u64 x, .int .i64 i, .int .i64 1] w fun e w' => e = .returned (.tuple #[.int .u64 0, .int .i64 1]) ∧ ∃ m, w' = w.drewN m)) ∨
  (∃ C : Nat, ∃ b : Nat, ∃ U : Nat, ∃ V : Nat, (b ≤ 1) ∧ (∀ w, Calls Tryd.prog 21 #[.int .u64 x, .int .i64 i] w fun e w' => e = .returned (.tuple #[.int .u64 C, .int .i64 b, .int .i64 0]) ∧ ∃ m, w' = w.drewN m) ∧ (∀ w, Calls Tryd.prog 25 #[.int .u64 C, .int .i64 i, .int .i64 b] w fun e w' => e = .returned (.tuple #[.int .u64 x, .int .i64 0]) ∧ ∃ m, w' = w.drewN m) ∧ (∀ w, Calls Tryd.prog 25 #[.int .u64 x, .int .i64 i, .int .i64 0] w fun e w' => e = .returned (.tuple #[.int .u64 U, .int .i64 0]) ∧ ∃ m, w' = w.drewN m) ∧ (∀ w, Calls Tryd.prog 25 #[.int .u64 x, .int .i64 i, .int .i64 1] w fun e w' => e = .returned (.tuple #[.int .u64 V, .int .i64 0]) ∧ ∃ m, w' = w.drewN m) ∧ (∀ w, Calls Tryd.prog 21 #[.int .u64 U, .int .i64 i] w fun e w' => e = .returned (.tuple #[.int .u64 x, .int .i64 0, .int .i64 0]) ∧ ∃ m, w' = w.drewN m) ∧ (∀ w, Calls Tryd.prog 21 #[.int .u64 V, .int .i64 i] w fun e w' => e = .returned (.tuple #[.int .u64 x, .int .i64 1, .int .i64 0]) ∧ ∃ m, w' = w.drewN m))
theorem WayB.no {x : Nat} {i : Int} (CL : ∀ w, Calls Tryd.prog 21 #[.int .u64 x, .int .i64 i] w fun e w' => e = .returned (.tuple #[.int .u64 0, .int .i64 0, .int .i64 2]) ∧ ∃ m, w' = w.drewN m) (O0 : ∀ w, Calls Tryd.prog 25 #[.int .u64 x, .int .i64 i, .int .i64 0] w fun e w' => e = .returned (.tuple #[.int .u64 0, .int .i64 2]) ∧ ∃ m, w' = w.drewN m) (O1 : ∀ w, Calls Tryd.prog 25 #[.int .u64 x, .int .i64 i, .int .i64 1] w fun e w' => e = .returned (.tuple #[.int .u64 0, .int .i64 2]) ∧ ∃ m, w' = w.drewN m) : WayB x i := .inl ⟨CL, O0, O1⟩
theorem WayB.long {x : Nat} {i : Int} (C b : Nat) (hb : b ≤ 1) (CL : ∀ w, Calls Tryd.prog 21 #[.int .u64 x, .int .i64 i] w fun e w' => e = .returned (.tuple #[.int .u64 C, .int .i64 b, .int .i64 0]) ∧ ∃ m, w' = w.drewN m) (OC : ∀ w, Calls Tryd.prog 25 #[.int .u64 C, .int .i64 i, .int .i64 b] w fun e w' => e = .returned (.tuple #[.int .u64 x, .int .i64 0]) ∧ ∃ m, w' = w.drewN m) (O0 : ∀ w, Calls Tryd.prog 25 #[.int .u64 x, .int .i64 i, .int .i64 0] w fun e w' => e = .returned (.tuple #[.int .u64 0, .int .i64 1]) ∧ ∃ m, w' = w.drewN m) (O1 : ∀ w, Calls Tryd.prog 25 #[.int .u64 x, .int .i64 i, .int .i64 1] w fun e w' => e = .returned (.tuple #[.int .u64 0, .int .i64 1]) ∧ ∃ m, w' = w.drewN m) : WayB x i := .inr (.inl ⟨C, b, hb, CL, OC, O0, O1⟩)
theorem WayB.yes {x : Nat} {i : Int} (C b U V : Nat) (hb : b ≤ 1) (CL : ∀ w, Calls Tryd.prog 21 #[.int .u64 x, .int .i64 i] w fun e w' => e = .returned (.tuple #[.int .u64 C, .int .i64 b, .int .i64 0]) ∧ ∃ m, w' = w.drewN m) (OC : ∀ w, Calls Tryd.prog 25 #[.int .u64 C, .int .i64 i, .int .i64 b] w fun e w' => e = .returned (.tuple #[.int .u64 x, .int .i64 0]) ∧ ∃ m, w' = w.drewN m) (O0 : ∀ w, Calls Tryd.prog 25 #[.int .u64 x, .int .i64 i, .int .i64 0] w fun e w' => e = .returned (.tuple #[.int .u64 U, .int .i64 0]) ∧ ∃ m, w' = w.drewN m) (O1 : ∀ w, Calls Tryd.prog 25 #[.int .u64 x, .int .i64 i, .int .i64 1] w fun e w' => e = .returned (.tuple #[.int .u64 V, .int .i64 0]) ∧ ∃ m, w' = w.drewN m) (C0 : ∀ w, Calls Tryd.prog 21 #[.int .u64 U, .int .i64 i] w fun e w' => e = .returned (.tuple #[.int .u64 x, .int .i64 0, .int .i64 0]) ∧ ∃ m, w' = w.drewN m) (C1 : ∀ w, Calls Tryd.prog 21 #[.int .u64 V, .int .i64 i] w fun e w' => e = .returned (.tuple #[.int .u64 x, .int .i64 1, .int .i64 0]) ∧ ∃ m, w' = w.drewN m) : WayB x i := .inr (.inr (⟨C, b, U, V, hb, CL, OC, O0, O1, C0, C1⟩))
theorem wayB (x : Nat) (i : Int) (hx : x < 18446744073709551616) : WayB x i := by
  by_cases h : i < 0 ∨ 64 ≤ i
  · exact .no (fun w => (close_no x i w h).mono fun e w' ⟨a, b⟩ => ⟨a, 0, b⟩) (fun w => (open_no x i 0 w (.inl h)).mono fun e w' ⟨a, b⟩ => ⟨a, 0, b⟩) (fun w => (open_no x i 1 w (.inl h)).mono fun e w' ⟨a, b⟩ => ⟨a, 0, b⟩)
  · obtain ⟨a, rfl⟩ : ∃ a : Nat, i = a := ⟨i.toNat, by omega⟩
    have ha : a < 64 := by omega
    have Q1 := fun w => close_any x a w hx ha
    have Q2 := fun w => open_any (closeN x a) a (bt x a) w (close_lt a ha hx) ha (bt_le x a)
    rw [open_close] at Q2
    by_cases hl : x < 9223372036854775808
    · have Q3 := fun w => open_any x a 0 w hl ha (by omega)
      have Q4 := fun w => open_any x a 1 w hl ha (by omega)
      have Q5 := fun w => close_any (openN x a 0) a w (open_lt a 0 ha (by omega) hl) ha
      have Q6 := fun w => close_any (openN x a 1) a w (open_lt a 1 ha (by omega) hl) ha
      rw [close_open x a 0 (by omega), bt_open_at x a 0 (by omega)] at Q5
      rw [close_open x a 1 (by omega), bt_open_at x a 1 (by omega)] at Q6
      exact .yes _ _ _ _ (bt_le x a) Q1 Q2 Q3 Q4 Q5 Q6
    · exact .long _ _ (bt_le x a) Q1 Q2 (fun w => (open_long x a 0 w hx ha (by omega) (by omega)).mono fun e w' ⟨a, b⟩ => ⟨a, 0, b⟩) (fun w => (open_long x a 1 w hx ha (by omega) (by omega)).mono fun e w' ⟨a, b⟩ => ⟨a, 0, b⟩)

theorem gray_count {x : Nat} (hx : x < 18446744073709551615) : ∃ D : Nat, grayN x ^^^ grayN (x + 1) = D ∧ D < 18446744073709551616 ∧ pop 64 D = 1 := by
  obtain ⟨k, hk⟩ := gray_next (x + 1) x (by omega)
  have hl : grayN x ^^^ grayN (x + 1) < 18446744073709551616 := xor_lt (gray_lt (by omega)) (gray_lt (by omega))
  refine ⟨_, rfl, hl, ?_⟩
  rw [hk] at hl ⊢
  rw [pop_pow, if_pos]
  exact (Nat.pow_lt_pow_iff_right (by decide)).1 (show 2 ^ k < 2 ^ 64 from hl)

/-- What Gray and Ungray answer in the law: two ways. -/
def WayG (x : Nat) (g : Nat) : Prop :=
  ((((x : Int) == 18446744073709551615) = true)) ∨
  (∃ h : Nat, ∃ D : Nat, (x < 18446744073709551615) ∧ (((x : Int) == 18446744073709551615) = false) ∧ (bits .xor .u64 (g : Int) (h : Int) = (D : Int)) ∧ (∀ w, Calls Tryd.prog 16 #[.int .u64 ((x : Int) + 1)] w fun e w' => e = .returned (.int .u64 h) ∧ ∃ m, w' = w.drewN m) ∧ (∀ w, Calls Tryd.prog 10 #[.int .u64 D] w fun e w' => e = .returned (.int .i64 1) ∧ ∃ m, w' = w.drewN m))
theorem WayG.max {x : Nat} {g : Nat} (hm : ((x : Int) == 18446744073709551615) = true) : WayG x g := .inl hm
theorem WayG.less {x : Nat} {g : Nat} (h D : Nat) (hx1 : x < 18446744073709551615) (hm : ((x : Int) == 18446744073709551615) = false) (hD : bits .xor .u64 (g : Int) (h : Int) = (D : Int)) (G5 : ∀ w, Calls Tryd.prog 16 #[.int .u64 ((x : Int) + 1)] w fun e w' => e = .returned (.int .u64 h) ∧ ∃ m, w' = w.drewN m) (G6 : ∀ w, Calls Tryd.prog 10 #[.int .u64 D] w fun e w' => e = .returned (.int .i64 1) ∧ ∃ m, w' = w.drewN m) : WayG x g := .inr (⟨h, D, hx1, hm, hD, G5, G6⟩)
theorem wayG (x : Nat) (hx : x < 18446744073709551616) : WayG x (grayN x) := by
  by_cases h : x = 18446744073709551615
  · exact .max (by subst h; rfl)
  · have hl : x < 18446744073709551615 := by omega
    obtain ⟨D, h1, h2, h3⟩ := gray_count hl
    have C := fun w => count_any D w h2
    rw [h3] at C
    refine .less (grayN (x + 1)) D hl (by simp; omega) ?_ (fun w => (gray_any (x + 1) w (by omega)).mono fun e w' ⟨a, b⟩ => ⟨a, 0, b⟩) (fun w => (C w).mono fun e w' ⟨a, b⟩ => ⟨a, 0, b⟩)
    rw [i_xor _ _ (gray_lt hx) (gray_lt (by omega)), h1]

set_option maxHeartbeats 4000000 in
set_option maxRecDepth 4000 in
theorem back_any (x v : Nat) (a : Option Addr) (p : Nat → Int) (n cap : Nat) (i : Int) (w : World) (hx : x < 18446744073709551616) (hv : v < 18446744073709551616) (hn : n ≤ 9223372036854775807) (hr : Row a p n w) :
    Calls Tryd.prog 7 #[.int .u64 x, .int .u64 v, .slice a n cap, .int .i64 i] w fun e w' => e = .returned (.bool true) ∧ Below w.heap.size w w' := by
  have HR : Hid (Row a p n w) := hr
  clear hr
  have G1 : ∀ w, Calls Tryd.prog 16 #[.int .u64 x] w fun e w' => e = .returned (.int .u64 (grayN x)) ∧ ∃ m, w' = w.drewN m := fun w => (gray_any x w hx).mono fun e w' ⟨a, b⟩ => ⟨a, 0, b⟩
  have G2 : ∀ w, Calls Tryd.prog 18 #[.int .u64 (grayN x)] w fun e w' => e = .returned (.int .u64 x) ∧ ∃ m, w' = w.drewN m := fun w => by
    have := ungray_any (grayN x) w (gray_lt hx)
    rw [ungray_gray hx] at this
    exact this.mono fun e w' ⟨a, b⟩ => ⟨a, 0, b⟩
  have G3 : ∀ w, Calls Tryd.prog 18 #[.int .u64 x] w fun e w' => e = .returned (.int .u64 (ungrayN x)) ∧ ∃ m, w' = w.drewN m := fun w => (ungray_any x w hx).mono fun e w' ⟨a, b⟩ => ⟨a, 0, b⟩
  have G4 : ∀ w, Calls Tryd.prog 16 #[.int .u64 (ungrayN x)] w fun e w' => e = .returned (.int .u64 x) ∧ ∃ m, w' = w.drewN m := fun w => by
    have := gray_any (ungrayN x) w (ungray_lt hx)
    rw [gray_ungray hx] at this
    exact this.mono fun e w' ⟨a, b⟩ => ⟨a, 0, b⟩
  have hG := wayG x hx
  generalize grayN x = g at G1 G2 hG
  generalize ungrayN x = u at G3 G4
  have hA := wayA x v a p n cap hx hv hn
  have hB := wayB x i hx
  rcases hA with PK | ⟨P, PK, PU1, PU2⟩ | ⟨P, Z, PK, PU1, PU2, PK2⟩ <;> rcases hB with ⟨CL, O0, O1⟩ | ⟨C, b, hb, CL, OC, O0, O1⟩ | ⟨C, b, U, V, hb, CL, OC, O0, O1, C0, C1⟩ <;> rcases hG with hm | ⟨h, D, hx1, hm, hD, G5, G6⟩
  all_goals
    go_enter Tryd.func7, Tryd.ntmps7
    go_wp2_with (first
      | (go_at_call 9; refine (awake_any _).mono ?_; rintro e w1 ⟨rfl, hB⟩; have HR1 : Hid (Row a p n w1) := HR.out.below hB)
      | (go_at_call 27; with_reducible refine (PK _ (by first | exact HR1.out | exact HR1.out.drewN _)).mono ?_; rintro e w' ⟨rfl, m1, rfl⟩)
      | (go_at_call 27; with_reducible refine (PK2 _ (by first | exact HR1.out | exact HR1.out.drewN _)).mono ?_; rintro e w' ⟨rfl, m1, rfl⟩)
      | (go_at_call 29; with_reducible refine (PU1 _ (by first | exact HR1.out | exact HR1.out.drewN _)).mono ?_; rintro e w' ⟨rfl, m1, rfl⟩)
      | (go_at_call 29; with_reducible refine (PU2 _ (by first | exact HR1.out | exact HR1.out.drewN _)).mono ?_; rintro e w' ⟨rfl, m1, rfl⟩)
      | (go_at_call 21; with_reducible refine (CL _).mono ?_; rintro e w' ⟨rfl, m1, rfl⟩)
      | (go_at_call 21; with_reducible refine (C0 _).mono ?_; rintro e w' ⟨rfl, m1, rfl⟩)
      | (go_at_call 21; with_reducible refine (C1 _).mono ?_; rintro e w' ⟨rfl, m1, rfl⟩)
      | (go_at_call 25; with_reducible refine (OC _).mono ?_; rintro e w' ⟨rfl, m1, rfl⟩)
      | (go_at_call 25; with_reducible refine (O0 _).mono ?_; rintro e w' ⟨rfl, m1, rfl⟩)
      | (go_at_call 25; with_reducible refine (O1 _).mono ?_; rintro e w' ⟨rfl, m1, rfl⟩)
      | (go_at_call 16; with_reducible refine (G1 _).mono ?_; rintro e w' ⟨rfl, m1, rfl⟩)
      | (go_at_call 16; with_reducible refine (G4 _).mono ?_; rintro e w' ⟨rfl, m1, rfl⟩)
      | (go_at_call 16; with_reducible refine (G5 _).mono ?_; rintro e w' ⟨rfl, m1, rfl⟩)
      | (go_at_call 18; with_reducible refine (G2 _).mono ?_; rintro e w' ⟨rfl, m1, rfl⟩)
      | (go_at_call 18; with_reducible refine (G3 _).mono ?_; rintro e w' ⟨rfl, m1, rfl⟩)
      | (go_at_call 10; with_reducible refine (G6 _).mono ?_; rintro e w' ⟨rfl, m1, rfl⟩))
    refine wp_loop_rounds 3 ?_
    rw [rounds_succ]
    go_wp2_with (first
      | (go_at_call 9; refine (awake_any _).mono ?_; rintro e w1 ⟨rfl, hB⟩; have HR1 : Hid (Row a p n w1) := HR.out.below hB)
      | (go_at_call 27; with_reducible refine (PK _ (by first | exact HR1.out | exact HR1.out.drewN _)).mono ?_; rintro e w' ⟨rfl, m1, rfl⟩)
      | (go_at_call 27; with_reducible refine (PK2 _ (by first | exact HR1.out | exact HR1.out.drewN _)).mono ?_; rintro e w' ⟨rfl, m1, rfl⟩)
      | (go_at_call 29; with_reducible refine (PU1 _ (by first | exact HR1.out | exact HR1.out.drewN _)).mono ?_; rintro e w' ⟨rfl, m1, rfl⟩)
      | (go_at_call 29; with_reducible refine (PU2 _ (by first | exact HR1.out | exact HR1.out.drewN _)).mono ?_; rintro e w' ⟨rfl, m1, rfl⟩)
      | (go_at_call 21; with_reducible refine (CL _).mono ?_; rintro e w' ⟨rfl, m1, rfl⟩)
      | (go_at_call 21; with_reducible refine (C0 _).mono ?_; rintro e w' ⟨rfl, m1, rfl⟩)
      | (go_at_call 21; with_reducible refine (C1 _).mono ?_; rintro e w' ⟨rfl, m1, rfl⟩)
      | (go_at_call 25; with_reducible refine (OC _).mono ?_; rintro e w' ⟨rfl, m1, rfl⟩)
      | (go_at_call 25; with_reducible refine (O0 _).mono ?_; rintro e w' ⟨rfl, m1, rfl⟩)
      | (go_at_call 25; with_reducible refine (O1 _).mono ?_; rintro e w' ⟨rfl, m1, rfl⟩)
      | (go_at_call 16; with_reducible refine (G1 _).mono ?_; rintro e w' ⟨rfl, m1, rfl⟩)
      | (go_at_call 16; with_reducible refine (G4 _).mono ?_; rintro e w' ⟨rfl, m1, rfl⟩)
      | (go_at_call 16; with_reducible refine (G5 _).mono ?_; rintro e w' ⟨rfl, m1, rfl⟩)
      | (go_at_call 18; with_reducible refine (G2 _).mono ?_; rintro e w' ⟨rfl, m1, rfl⟩)
      | (go_at_call 18; with_reducible refine (G3 _).mono ?_; rintro e w' ⟨rfl, m1, rfl⟩)
      | (go_at_call 10; with_reducible refine (G6 _).mono ?_; rintro e w' ⟨rfl, m1, rfl⟩))
    rw [rounds_succ]
    go_wp2_with (first
      | (go_at_call 9; refine (awake_any _).mono ?_; rintro e w1 ⟨rfl, hB⟩; have HR1 : Hid (Row a p n w1) := HR.out.below hB)
      | (go_at_call 27; with_reducible refine (PK _ (by first | exact HR1.out | exact HR1.out.drewN _)).mono ?_; rintro e w' ⟨rfl, m1, rfl⟩)
      | (go_at_call 27; with_reducible refine (PK2 _ (by first | exact HR1.out | exact HR1.out.drewN _)).mono ?_; rintro e w' ⟨rfl, m1, rfl⟩)
      | (go_at_call 29; with_reducible refine (PU1 _ (by first | exact HR1.out | exact HR1.out.drewN _)).mono ?_; rintro e w' ⟨rfl, m1, rfl⟩)
      | (go_at_call 29; with_reducible refine (PU2 _ (by first | exact HR1.out | exact HR1.out.drewN _)).mono ?_; rintro e w' ⟨rfl, m1, rfl⟩)
      | (go_at_call 21; with_reducible refine (CL _).mono ?_; rintro e w' ⟨rfl, m1, rfl⟩)
      | (go_at_call 21; with_reducible refine (C0 _).mono ?_; rintro e w' ⟨rfl, m1, rfl⟩)
      | (go_at_call 21; with_reducible refine (C1 _).mono ?_; rintro e w' ⟨rfl, m1, rfl⟩)
      | (go_at_call 25; with_reducible refine (OC _).mono ?_; rintro e w' ⟨rfl, m1, rfl⟩)
      | (go_at_call 25; with_reducible refine (O0 _).mono ?_; rintro e w' ⟨rfl, m1, rfl⟩)
      | (go_at_call 25; with_reducible refine (O1 _).mono ?_; rintro e w' ⟨rfl, m1, rfl⟩)
      | (go_at_call 16; with_reducible refine (G1 _).mono ?_; rintro e w' ⟨rfl, m1, rfl⟩)
      | (go_at_call 16; with_reducible refine (G4 _).mono ?_; rintro e w' ⟨rfl, m1, rfl⟩)
      | (go_at_call 16; with_reducible refine (G5 _).mono ?_; rintro e w' ⟨rfl, m1, rfl⟩)
      | (go_at_call 18; with_reducible refine (G2 _).mono ?_; rintro e w' ⟨rfl, m1, rfl⟩)
      | (go_at_call 18; with_reducible refine (G3 _).mono ?_; rintro e w' ⟨rfl, m1, rfl⟩)
      | (go_at_call 10; with_reducible refine (G6 _).mono ?_; rintro e w' ⟨rfl, m1, rfl⟩))
    rw [rounds_succ]
    go_wp2_with (first
      | (go_at_call 9; refine (awake_any _).mono ?_; rintro e w1 ⟨rfl, hB⟩; have HR1 : Hid (Row a p n w1) := HR.out.below hB)
      | (go_at_call 27; with_reducible refine (PK _ (by first | exact HR1.out | exact HR1.out.drewN _)).mono ?_; rintro e w' ⟨rfl, m1, rfl⟩)
      | (go_at_call 27; with_reducible refine (PK2 _ (by first | exact HR1.out | exact HR1.out.drewN _)).mono ?_; rintro e w' ⟨rfl, m1, rfl⟩)
      | (go_at_call 29; with_reducible refine (PU1 _ (by first | exact HR1.out | exact HR1.out.drewN _)).mono ?_; rintro e w' ⟨rfl, m1, rfl⟩)
      | (go_at_call 29; with_reducible refine (PU2 _ (by first | exact HR1.out | exact HR1.out.drewN _)).mono ?_; rintro e w' ⟨rfl, m1, rfl⟩)
      | (go_at_call 21; with_reducible refine (CL _).mono ?_; rintro e w' ⟨rfl, m1, rfl⟩)
      | (go_at_call 21; with_reducible refine (C0 _).mono ?_; rintro e w' ⟨rfl, m1, rfl⟩)
      | (go_at_call 21; with_reducible refine (C1 _).mono ?_; rintro e w' ⟨rfl, m1, rfl⟩)
      | (go_at_call 25; with_reducible refine (OC _).mono ?_; rintro e w' ⟨rfl, m1, rfl⟩)
      | (go_at_call 25; with_reducible refine (O0 _).mono ?_; rintro e w' ⟨rfl, m1, rfl⟩)
      | (go_at_call 25; with_reducible refine (O1 _).mono ?_; rintro e w' ⟨rfl, m1, rfl⟩)
      | (go_at_call 16; with_reducible refine (G1 _).mono ?_; rintro e w' ⟨rfl, m1, rfl⟩)
      | (go_at_call 16; with_reducible refine (G4 _).mono ?_; rintro e w' ⟨rfl, m1, rfl⟩)
      | (go_at_call 16; with_reducible refine (G5 _).mono ?_; rintro e w' ⟨rfl, m1, rfl⟩)
      | (go_at_call 18; with_reducible refine (G2 _).mono ?_; rintro e w' ⟨rfl, m1, rfl⟩)
      | (go_at_call 18; with_reducible refine (G3 _).mono ?_; rintro e w' ⟨rfl, m1, rfl⟩)
      | (go_at_call 10; with_reducible refine (G6 _).mono ?_; rintro e w' ⟨rfl, m1, rfl⟩))
    go_ret
    exact ⟨rfl, below_drewN hB _⟩
end Go.Proofs.YtcehedlmpnaofaaDoor
