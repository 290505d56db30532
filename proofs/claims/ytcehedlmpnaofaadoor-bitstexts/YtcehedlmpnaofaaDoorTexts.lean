/-
  The walk of the law BitsTexts: true, whatever the input.
-/
import Derived.Test.YtcehedlmpnaofaaDoorParse
import Derived.Test.YtcehedlmpnaofaaDoorNumbers
namespace Go.Proofs.YtcehedlmpnaofaaDoor
open Go.RowKit

/-- What the two Texts answer in the law, and Parse of what Text answers: two ways. -/
def WayT (x : Nat) (n : Int) : Prop :=
  ((∀ w, Calls Tryd.prog 30 #[.int .u64 x, .int .i64 n] w fun e w' => e = .returned (.tuple #[.string ⟨#[]⟩, .int .i64 2]) ∧ w' = w) ∧ (∀ w, Calls Tryd.prog 31 #[.int .u64 x, .int .i64 n] w fun e w' => e = .returned (.tuple #[.string ⟨#[]⟩, .int .i64 2]) ∧ Below w.heap.size w w')) ∨
  (∃ t : ByteArray, (∀ w, Calls Tryd.prog 30 #[.int .u64 x, .int .i64 n] w fun e w' => e = .returned (.tuple #[.string t, .int .i64 0]) ∧ w' = w) ∧ (∀ w, Calls Tryd.prog 31 #[.int .u64 x, .int .i64 n] w fun e w' => e = .returned (.tuple #[.string t, .int .i64 0]) ∧ Below w.heap.size w w') ∧ (∀ w, Calls Tryd.prog 33 #[.string t] w fun e w' => e = .returned (.tuple #[.int .u64 x, .int .i64 n, .int .i64 0]) ∧ w' = w))
theorem WayT.no {x : Nat} {n : Int} (T1 : ∀ w, Calls Tryd.prog 30 #[.int .u64 x, .int .i64 n] w fun e w' => e = .returned (.tuple #[.string ⟨#[]⟩, .int .i64 2]) ∧ w' = w) (T2 : ∀ w, Calls Tryd.prog 31 #[.int .u64 x, .int .i64 n] w fun e w' => e = .returned (.tuple #[.string ⟨#[]⟩, .int .i64 2]) ∧ Below w.heap.size w w') : WayT x n := .inl ⟨T1, T2⟩
theorem WayT.yes {x : Nat} {n : Int} (t : ByteArray) (T1 : ∀ w, Calls Tryd.prog 30 #[.int .u64 x, .int .i64 n] w fun e w' => e = .returned (.tuple #[.string t, .int .i64 0]) ∧ w' = w) (T2 : ∀ w, Calls Tryd.prog 31 #[.int .u64 x, .int .i64 n] w fun e w' => e = .returned (.tuple #[.string t, .int .i64 0]) ∧ Below w.heap.size w w') (PT : ∀ w, Calls Tryd.prog 33 #[.string t] w fun e w' => e = .returned (.tuple #[.int .u64 x, .int .i64 n, .int .i64 0]) ∧ w' = w) : WayT x n := .inr (⟨t, T1, T2, PT⟩)
theorem wayT (x : Nat) (n : Int) (hx : x < 18446744073709551616) : WayT x n := by
  by_cases h : n < 0 ∨ 64 < n ∨ (0 ≤ n ∧ n ≤ 64 ∧ ¬ x < 2 ^ n.toNat)
  · exact .no (fun w => rtext_no x n w hx h) (fun w => (text_no x n w h).mono fun e w' ⟨a, b⟩ => ⟨a, by rw [b]; exact Below.refl _ _⟩)
  · obtain ⟨m, rfl⟩ : ∃ m : Nat, n = m := ⟨n.toNat, by omega⟩
    simp only [Int.toNat_natCast] at h
    have hm : m ≤ 64 := by omega
    have hv : x < 2 ^ m := by
      apply Decidable.byContradiction
      intro hc
      exact h (.inr (.inr ⟨by omega, by omega, hc⟩))
    have P := fun w => parse_good (ByteArray.mk (txtL x m).toArray) w (by rw [txt_size]; exact hm) (txt_good x m)
    rw [txt_size, txt_prs hv] at P
    exact .yes _ (fun w => rtext_any x m w hx hm hv) (fun w => text_any x m w hx hm hv) P

/-- What the two Parses answer in the law, and Text of what Parse answers: two ways. -/
def WayP (s : ByteArray) : Prop :=
  (∃ g : Int, ((g != 0) = true) ∧ (∀ w, Calls Tryd.prog 32 #[.string s] w fun e w' => e = .returned (.tuple #[.int .u64 0, .int .i64 0, .int .i64 g]) ∧ w' = w) ∧ (∀ w, Calls Tryd.prog 33 #[.string s] w fun e w' => e = .returned (.tuple #[.int .u64 0, .int .i64 0, .int .i64 g]) ∧ w' = w)) ∨
  (∃ X : Nat, (∀ w, Calls Tryd.prog 32 #[.string s] w fun e w' => e = .returned (.tuple #[.int .u64 X, .int .i64 s.size, .int .i64 0]) ∧ w' = w) ∧ (∀ w, Calls Tryd.prog 33 #[.string s] w fun e w' => e = .returned (.tuple #[.int .u64 X, .int .i64 s.size, .int .i64 0]) ∧ w' = w) ∧ (∀ w, Calls Tryd.prog 31 #[.int .u64 X, .int .i64 s.size] w fun e w' => e = .returned (.tuple #[.string s, .int .i64 0]) ∧ Below w.heap.size w w'))
theorem WayP.no {s : ByteArray} (g : Int) (hg : (g != 0) = true) (P1 : ∀ w, Calls Tryd.prog 32 #[.string s] w fun e w' => e = .returned (.tuple #[.int .u64 0, .int .i64 0, .int .i64 g]) ∧ w' = w) (P2 : ∀ w, Calls Tryd.prog 33 #[.string s] w fun e w' => e = .returned (.tuple #[.int .u64 0, .int .i64 0, .int .i64 g]) ∧ w' = w) : WayP s := .inl ⟨g, hg, P1, P2⟩
theorem WayP.yes {s : ByteArray} (X : Nat) (P1 : ∀ w, Calls Tryd.prog 32 #[.string s] w fun e w' => e = .returned (.tuple #[.int .u64 X, .int .i64 s.size, .int .i64 0]) ∧ w' = w) (P2 : ∀ w, Calls Tryd.prog 33 #[.string s] w fun e w' => e = .returned (.tuple #[.int .u64 X, .int .i64 s.size, .int .i64 0]) ∧ w' = w) (TX : ∀ w, Calls Tryd.prog 31 #[.int .u64 X, .int .i64 s.size] w fun e w' => e = .returned (.tuple #[.string s, .int .i64 0]) ∧ Below w.heap.size w w') : WayP s := .inr (⟨X, P1, P2, TX⟩)
theorem wayP (s : ByteArray) (hs : s.size ≤ 9223372036854775807) : WayP s := by
  by_cases hl : 64 < s.size
  · exact .no 1 rfl (fun w => rparse_long s w hs hl) (fun w => parse_long s w hs hl)
  · by_cases hg : Good s
    · have hp := prs_lt _ (dg_le s) s.size
      have hpl : prs (dg s) s.size < 18446744073709551616 := Nat.lt_of_lt_of_le hp (Nat.pow_le_pow_right (n := 2) (by decide) (show s.size ≤ 64 by omega))
      have T := fun w => text_any (prs (dg s) s.size) s.size w hpl (by omega) hp
      rw [txt_back hg] at T
      exact .yes _ (fun w => rparse_good s w (by omega) hg) (fun w => parse_good s w (by omega) hg) T
    · exact .no 22 rfl (fun w => rparse_bad s w (by omega) hg) (fun w => parse_bad s w (by omega) hg)

theorem below_next {B : Nat} {a b c : World} (h : Below B a b) (hs : B ≤ b.heap.size) (k : Below b.heap.size b c) : Below B a c := h.trans (k.mono hs)

set_option maxHeartbeats 2000000 in
theorem texts_any (x : Nat) (n : Int) (s : ByteArray) (w : World) (hx : x < 18446744073709551616) (hs : s.size ≤ 9223372036854775807) :
    Calls Tryd.prog 5 #[.int .u64 x, .int .i64 n, .string s] w fun e w' => e = .returned (.bool true) ∧ Below w.heap.size w w' := by
  have hT := wayT x n hx
  have hP := wayP s hs
  rcases hT with ⟨T1, T2⟩ | ⟨t, T1, T2, PT⟩ <;> rcases hP with ⟨g, hg, P1, P2⟩ | ⟨X, P1, P2, TX⟩
  all_goals
    go_enter Tryd.func5, Tryd.ntmps5
    go_wp2_with (first
      | (go_at_call 9; refine (awake_any _).mono ?_; rintro e w1 ⟨rfl, hB⟩)
      | (go_at_call 30; with_reducible refine (T1 _).mono ?_; rintro e w' ⟨rfl, rfl⟩)
      | (go_at_call 31; with_reducible refine (T2 _).mono ?_; rintro e w2 ⟨rfl, hB2⟩; have hB3 := below_next hB hB.size hB2; clear hB hB2)
      | (go_at_call 31; with_reducible refine (TX _).mono ?_; rintro e w2 ⟨rfl, hB4⟩; have hB5 := below_next hB3 hB3.size hB4; clear hB3 hB4)
      | (go_at_call 32; with_reducible refine (P1 _).mono ?_; rintro e w' ⟨rfl, rfl⟩)
      | (go_at_call 33; with_reducible refine (P2 _).mono ?_; rintro e w' ⟨rfl, rfl⟩)
      | (go_at_call 33; with_reducible refine (PT _).mono ?_; rintro e w' ⟨rfl, rfl⟩))
    go_ret
    exact ⟨rfl, by assumption⟩
end Go.Proofs.YtcehedlmpnaofaaDoor
