/-
  Numbers that can be read; Check, the code's and the reference's.
-/
import Derived.Test.YtinkdonaedoojaaA0
namespace Go.Proofs.Ytinkdonaedoojaa
open Go.RowKit

/-- n numbers that can be read from a on. -/
structure RR (W : World) (a : Option Addr) (n : Nat) (f : Nat → Nat) : Prop where
  at_ : ∀ i, i < n → ∃ b o, a = some ⟨b, o, none⟩ ∧ W.cell? ⟨b, o + i, none⟩ = some (.int .u64 (f i : Int)) ∧ b < W.heap.size
  lt : ∀ i, i < n → f i < 18446744073709551616
  l : n ≤ 9223372036854775807
theorem RR.below {W W' : World} {a : Option Addr} {n : Nat} {f : Nat → Nat} (h : RR W a n f) (hb : Below W.heap.size W W') : RR W' a n f :=
  ⟨fun i hi => by
    obtain ⟨b, o, e, hc, hl⟩ := h.at_ i hi
    exact ⟨b, o, e, (hb.cell (p := ⟨b, _, none⟩) hl).trans hc, Nat.lt_of_lt_of_le hl hb.size⟩, h.lt, h.l⟩
theorem RR.drewN {W : World} {a : Option Addr} {n : Nat} {f : Nat → Nat} (h : RR W a n f) (m : Nat) : RR (W.drewN m) a n f := h.below (below_drewN (Below.refl _ _) m)
abbrev lv (N : Int) (a : Option Addr) (n c : Nat) : Value := .agg #[.int .i64 N, .slice a n c]
abbrev lcs (N : Int) (a : Option Addr) (n c : Nat) : Array Value := #[.int .i64 N, .slice a n c]
/-- A right matrix. -/
abbrev Gd (N : Int) (n : Nat) (f : Nat → Nat) : Prop := 0 ≤ N ∧ N ≤ 64 ∧ (n : Int) = N ∧ ∀ i, i < n → f i < 2 ^ n
abbrev Bo {w : World} {cs : Array Value} {T : TypeId} : Below w.heap.size w (w.alloc (.cells cs T)) := bal (Below.refl _ _) _
set_option maxHeartbeats 1000000 in
theorem check_good (n : Nat) (a : Option Addr) (c : Nat) (f : Nat → Nat) (w : World) (H : RR w a n f) (hn : n ≤ 64) (hf : ∀ i, i < n → f i < 2 ^ n) :
    Calls Try.prog 9 #[lv n a n c] w fun e w' => e = .returned (.int .i64 0) ∧ Below w.heap.size w w' := by
  have H1 := hid (H.below (Bo (cs := #[.int .i64 (n : Int), .slice a n c]) (T := 24)))
  have F : ∀ k w, k < n → Calls Try.prog 26 #[.int .u64 (f k), .int .i64 n] w fun e w' => e = .returned (.bool true) ∧ w' = w := fun k w h => by
    have := fits_any (f k) n w (H.lt k h) hn
    rwa [decide_eq_true (hf k h)] at this
  clear H hf
  go_enter Try.func9, Try.ntmps9
  go_wp2
  go_loop [24] (fun i => ∃ k : Nat, k ≤ n ∧ i = .int .i64 k) (fun i => n - (intOf i).toNat)
  case atStart => exact ⟨0, Nat.zero_le _, rfl⟩
  case round =>
    obtain ⟨k, hk, rfl⟩ := hrel
    by_cases hlt : k < n
    · obtain ⟨b, o, rfl, hc, hb⟩ := H1.out.at_ k hlt
      have FF := fun w => F k w hlt
      clear F
      go_wp2_with (go_at_call 26; (with_reducible refine (FF _).mono ?_); rintro e w1 ⟨rfl, rfl⟩)
      go_round
      case rel => exact ⟨k + 1, by omega, by go_num⟩
      case measure => simp [intOf]; omega
    · obtain rfl : k = n := by omega
      go_wp2
      go_ret
      exact ⟨rfl, bal (Below.refl _ _) _⟩
set_option maxHeartbeats 1000000 in
theorem check_bad (N : Int) (n : Nat) (a : Option Addr) (c : Nat) (f : Nat → Nat) (w : World) (H : RR w a n f) (hg : ¬ Gd N n f) :
    Calls Try.prog 9 #[lv N a n c] w fun e w' => e = .returned (.int .i64 2) ∧ Below w.heap.size w w' := by
  have hl := H.l
  by_cases h0 : N < 0
  · clear hg
    go_enter Try.func9, Try.ntmps9
    go_wp2
    go_ret
    exact ⟨rfl, bal (Below.refl _ _) _⟩
  by_cases h1 : 64 < N
  · clear hg
    go_enter Try.func9, Try.ntmps9
    go_wp2
    go_ret
    exact ⟨rfl, bal (Below.refl _ _) _⟩
  by_cases h2 : (n : Int) = N
  case neg =>
    clear hg
    go_enter Try.func9, Try.ntmps9
    go_wp2
    go_ret
    exact ⟨rfl, bal (Below.refl _ _) _⟩
  subst h2
  have hx : Hid (¬ ∀ i, i < n → f i < 2 ^ n) := fun h => hg ⟨by omega, by omega, rfl, h⟩
  have hn : n ≤ 64 := by omega
  have H1 := hid (H.below (Bo (cs := #[.int .i64 (n : Int), .slice a n c]) (T := 24)))
  have F := fun k w (h : k < n) => fits_any (f k) n w (H.lt k h) hn
  clear H hg h0 h1
  go_enter Try.func9, Try.ntmps9
  go_wp2
  go_loop [24] (fun i => ∃ k : Nat, k ≤ n ∧ i = .int .i64 k ∧ Hid (∀ j, j < k → f j < 2 ^ n)) (fun i => n - (intOf i).toNat)
  case atStart => exact ⟨0, Nat.zero_le _, rfl, fun _ h => absurd h (Nat.not_lt_zero _)⟩
  case round =>
    obtain ⟨k, hk, rfl, hp⟩ := hrel
    by_cases hlt : k < n
    · obtain ⟨b, o, rfl, hc, hb⟩ := H1.out.at_ k hlt
      have FF := fun w => F k w hlt
      clear F
      by_cases hf : f k < 2 ^ n
      · have hp2 : Hid (∀ j, j < k + 1 → f j < 2 ^ n) := fun j hj => by
          rcases Nat.lt_or_ge j k with h | h
          · exact hp j h
          · obtain rfl : j = k := by omega
            exact hf
        rw [decide_eq_true hf] at FF
        clear hf
        go_wp2_with (go_at_call 26; (with_reducible refine (FF _).mono ?_); rintro e w1 ⟨rfl, rfl⟩)
        go_round
        case rel => exact ⟨k + 1, by omega, by go_num, hp2⟩
        case measure => simp [intOf]; omega
      · rw [decide_eq_false hf] at FF
        clear hf
        go_wp2_with (go_at_call 26; (with_reducible refine (FF _).mono ?_); rintro e w1 ⟨rfl, rfl⟩)
        go_ret
        exact ⟨rfl, bal (Below.refl _ _) _⟩
    · obtain rfl : k = n := by omega
      exact absurd hp.out hx
/-- Check tells E: 0 if the matrix is right, 2 if not. -/
theorem check_any (N : Int) (n : Nat) (a : Option Addr) (c : Nat) (f : Nat → Nat) (E : Int) (w : World) (H : RR w a n f) (hE : (E = 0 ∧ Gd N n f) ∨ (E = 2 ∧ ¬ Gd N n f)) :
    Calls Try.prog 9 #[lv N a n c] w fun e w' => e = .returned (.int .i64 E) ∧ Below w.heap.size w w' := by
  rcases hE with ⟨rfl, h0, h1, rfl, h⟩ | ⟨rfl, h⟩
  · exact check_good n a c f w H (by omega) h
  · exact check_bad N n a c f w H h
theorem gd_or (N : Int) (n : Nat) (f : Nat → Nat) : ∃ E : Int, (E = 0 ∧ Gd N n f) ∨ (E = 2 ∧ ¬ Gd N n f) := by
  by_cases h : Gd N n f
  · exact ⟨0, .inl ⟨rfl, h⟩⟩
  · exact ⟨2, .inr ⟨rfl, h⟩⟩
end Go.Proofs.Ytinkdonaedoojaa
