/-
  What oneForm, checkBoth, Make, negative and sum tell.
-/
import Derived.Test.YtalaacfoaelipaaDoorW5
namespace Go.Proofs.YtalaacfoaelipaaDoor
open Go.RowKit Go.Sort

/-- A root, and a root with an error, as values. -/
abbrev rv (p q k : Int) : Value := .agg #[.int .i64 p, .int .i64 q, .int .i64 k]
abbrev rtV (r : Rt) : Value := .tuple #[.agg #[.int .i64 r.p, .int .i64 r.q, .int .i64 r.k], .int .i64 r.e]

theorem sgn_zero (a : Int) : sgn a = 0 ↔ a = 0 := by unfold sgn; split <;> (try split) <;> omega
theorem div_in (a : Int) (n : Nat) (ha : In128 a) : In128 (a / 2 ^ n) := by
  unfold In128 at *
  have ht := pow_pos' n
  generalize (2 : Int) ^ n = t at *
  constructor
  · rw [Int.le_ediv_iff_mul_le ht]
    have := Int.mul_le_mul_of_nonneg_left (show 1 ≤ t by omega) (show (0 : Int) ≤ 170141183460469231731687303715884105728 by omega)
    omega
  · rw [Int.ediv_lt_iff_lt_mul ht]
    have := Int.mul_le_mul_of_nonneg_left (show 1 ≤ t by omega) (show (0 : Int) ≤ 170141183460469231731687303715884105728 by omega)
    omega
/-- What narrow tells of a number. -/
def nrw (a : Int) : Bool := decide (-9223372036854775808 ≤ a ∧ a ≤ 9223372036854775807)
theorem narrow_any (a : Int) (w : World) (ha : In128 a) :
    Calls Tryd.prog 63 #[wd a] w fun e w' => e = .returned (.tuple #[.int .i64 (if nrw a = true then a else 0), .bool (nrw a)]) ∧ Below w.heap.size w w' := by
  by_cases h : -9223372036854775808 ≤ a ∧ a ≤ 9223372036854775807
  · have : nrw a = true := by unfold nrw; simpa using h
    rw [this, if_pos rfl]
    exact narrow_yes a w h.1 h.2
  · have : nrw a = false := by unfold nrw; simpa using h
    rw [this, if_neg (by simp)]
    exact narrow_no a w ha (by omega)

theorem zero_any (k : Nat) (w : World) :
    Calls Tryd.prog 33 #[wd 0, wd 0, .int .i64 k] w fun e w' => e = .returned (.tuple #[.agg #[.int .i64 0, .int .i64 0, .int .i64 0], .int .i64 0]) ∧ Below w.heap.size w w' := by
  have S := fun w => sign_nil w
  go_enter Tryd.func33, Tryd.ntmps33
  go_wp2_with (first
    | (go_at_call 60; (refine (S _).mono ?_); rintro e w1 ⟨rfl, hN⟩; (first | (replace hB := btr hB hN) | (have hB := hN)); obtain ⟨hc, hf⟩ := bcell hB))
  exact bodyPost_ret (v := .tuple #[.agg #[.int .i64 0, .int .i64 0, .int .i64 0], .int .i64 0]) (by simp [*, results, Tryd.results33, go_sem]) rfl ⟨rfl, bset (bset (bset (btr (bal (bal (bal (Below.refl w.heap.size w) _) _) _) hB) _ _ _ (by omega)) _ _ _ (by omega)) _ _ _ (by omega)⟩

theorem oneForm_any (p q : Int) (k : Nat) (w : World) (hT : Tab w) (hp : In128 p) (hq : In128 q) (hk : k ≤ 9223372036854775807) (h : k ≤ 64 ∨ evn p q < 64 ∨ (p = 0 ∧ q = 0)) :
    Calls Tryd.prog 33 #[wd p, wd q, .int .i64 k] w fun e w' => e = .returned (rtV (one p q k)) ∧ Below w.heap.size w w' := by
  by_cases h0 : p = 0 ∧ q = 0
  · obtain ⟨rfl, rfl⟩ := h0
    have : one 0 0 k = ⟨0, 0, 0, 0⟩ := by unfold one; rw [if_pos ⟨rfl, rfl⟩]
    rw [this]
    exact zero_any k w
  · have h' : k ≤ 64 ∨ evn p q < 64 := by
      rcases h with h | h | h
      · exact Or.inl h
      · exact Or.inr h
      · exact absurd h h0
    have hvv := hv_evn p q k h' (evn_le p q)
    have hle := evn_le p q
    have hn : hv k p q ≤ k := hv_le k p q
    have hn64 : hv k p q ≤ 64 := by omega
    have hdp := div_in p (hv k p q) hp
    have hdq := div_in q (hv k p q) hq
    have := oneForm_core p q (p / 2 ^ hv k p q) (q / 2 ^ hv k p q) _ _ k (hv k p q) _ _ _ _ (evn p q) w hT hn hk (by omega)
      (fun w => sign_any p w hp) (fun w => sign_any q w hq)
      (by rw [sgn_zero, sgn_zero]; omega) (fun w hT => evenness_any p q w hT) (fun w => down_any p _ w hn64 hp) (fun w => down_any q _ w hn64 hq)
      (fun w => narrow_any _ w hdp) (fun w => narrow_any _ w hdq) (fun w => within_any _ w) (fun w => within_any _ w)
    refine this.mono ?_
    rintro e w' ⟨rfl, hB⟩
    refine ⟨?_, hB⟩
    unfold one
    rw [if_neg h0]
    generalize p / 2 ^ hv k p q = P at *
    generalize q / 2 ^ hv k p q = Q at *
    by_cases hP : inP P = true
    · have n1 : nrw P = true := by rw [inP_iff] at hP; unfold nrw; simp; omega
      by_cases hQ : inP Q = true
      · have n2 : nrw Q = true := by rw [inP_iff] at hQ; unfold nrw; simp; omega
        by_cases h60 : k - hv k p q ≤ 60
        · simp [n1, n2, hP, hQ, h60]
        · simp [n1, n2, hP, hQ, h60]
      · rw [if_neg (by rintro ⟨a, b, c, d, e⟩; rw [if_pos b] at d; exact hQ d), if_neg (by rintro ⟨a, b, c⟩; exact hQ b)]
    · rw [if_neg (by rintro ⟨a, b, c, d, e⟩; rw [if_pos a] at c; exact hP c), if_neg (by rintro ⟨a, b, c⟩; exact hP a)]

theorem both_yes (a b c d e f : Int) (w : World) (h1 : isRoot a b c) (h2 : isRoot d e f) :
    Calls Tryd.prog 42 #[rv a b c, rv d e f] w fun e w' => e = .returned (.int .i64 0) ∧ Below w.heap.size w w' := by
  have C1 := fun w => check_yes a b c w h1
  have C2 := fun w => check_yes d e f w h2
  clear h1 h2
  go_enter Tryd.func42, Tryd.ntmps42
  go_wp2_with (first
    | (go_at_call 12; (with_reducible refine (C1 _).mono ?_); rintro e w1 ⟨rfl, hB⟩; obtain ⟨hc, hf⟩ := bcell hB)
    | (go_at_call 12; (with_reducible refine (C2 _).mono ?_); rintro e w1 ⟨rfl, hN⟩; replace hB := btr hB hN))
  go_ret
  exact ⟨rfl, btr (bal (bal (Below.refl w.heap.size w) _) _) hB⟩
theorem both_no (a b c d e f : Int) (w : World) (h : ¬ (isRoot a b c ∧ isRoot d e f)) :
    Calls Tryd.prog 42 #[rv a b c, rv d e f] w fun e w' => e = .returned (.int .i64 2) ∧ Below w.heap.size w w' := by
  by_cases h1 : isRoot a b c
  · have C1 := fun w => check_yes a b c w h1
    have C2 := fun w => check_no d e f w (fun h2 => h ⟨h1, h2⟩)
    clear h1 h
    go_enter Tryd.func42, Tryd.ntmps42
    go_wp2_with (first
      | (go_at_call 12; (with_reducible refine (C1 _).mono ?_); rintro e w1 ⟨rfl, hB⟩; obtain ⟨hc, hf⟩ := bcell hB)
      | (go_at_call 12; (with_reducible refine (C2 _).mono ?_); rintro e w1 ⟨rfl, hN⟩; replace hB := btr hB hN))
    go_ret
    exact ⟨rfl, btr (bal (bal (Below.refl w.heap.size w) _) _) hB⟩
  · have C1 := fun w => check_no a b c w h1
    clear h1 h
    go_enter Tryd.func42, Tryd.ntmps42
    go_wp2_with (first
      | (go_at_call 12; (with_reducible refine (C1 _).mono ?_); rintro e w1 ⟨rfl, hB⟩; obtain ⟨hc, hf⟩ := bcell hB))
    go_ret
    exact ⟨rfl, btr (bal (bal (Below.refl w.heap.size w) _) _) hB⟩
end Go.Proofs.YtalaacfoaelipaaDoor
