/-
  What Compare tells of any two roots; the law RootOrder where one isn't a root.
-/
import Derived.Test.YtalaacfoaelipaaDoorG5
import Derived.Test.YtalaacfoaelipaaDoorS6
import Derived.Test.YtalaacfoaelipaaDoorAwake
namespace Go.Proofs.YtalaacfoaelipaaDoor
open Go.RowKit Go.Sort

theorem sum_lt (a d : Int) (k c f : Nat) (hk : k ≤ 60) (ha : -9007199254740991 ≤ a ∧ a ≤ 9007199254740991) (hd : -9007199254740991 ≤ d ∧ d ≤ 9007199254740991) :
    -85070591730234615865843651857942052864 < sumP a d k c f ∧ sumP a d k c f < 85070591730234615865843651857942052864 := by
  have p : ∀ n : Nat, n ≤ 60 → (2 : Int) ^ n ≤ 1152921504606846976 := fun n hn => by
    have : (2 : Nat) ^ n ≤ 2 ^ 60 := Nat.pow_le_pow_right (by omega) hn
    have h2 : ((2 ^ n : Nat) : Int) = 2 ^ n := by simp
    have h3 : (2 : Nat) ^ 60 = 1152921504606846976 := rfl
    rw [← h2]; omega
  have m : ∀ (x : Int) (n : Nat), n ≤ 60 → -9007199254740991 ≤ x ∧ x ≤ 9007199254740991 → -10384593717069654320312270131228016 ≤ x * 2 ^ n ∧ x * 2 ^ n ≤ 10384593717069654320312270131228016 := fun x n hn hx => by
    have h1 := p n hn
    have h0 := pow_pos' n
    generalize (2 : Int) ^ n = t at *
    have u1 := Int.mul_le_mul hx.2 h1 (by omega) (by omega)
    have u2 := Int.mul_le_mul (show -x ≤ 9007199254740991 by omega) h1 (by omega) (by omega)
    rw [Int.neg_mul] at u2
    omega
  have h1 := m a (k - c) (by omega) ha
  have h2 := m d (k - f) (by omega) hd
  unfold sumP
  omega
theorem compare_yes (a b c d e f : Int) (w : World) (h1 : isRoot a b c) (h2 : isRoot d e f) :
    Calls Tryd.prog 23 #[rv a b c, rv d e f] w fun x w' => x = .returned (.tuple #[.int .i64 (cmpR a b c d e f), .int .i64 0]) ∧ Below w.heap.size w w' := by
  have C := fun w => both_yes a b c d e f w h1 h2
  obtain ⟨ha, hb, hc', _⟩ := h1
  obtain ⟨hd, he, hf', _⟩ := h2
  obtain ⟨c, rfl⟩ := Int.eq_ofNat_of_zero_le hc'.1
  obtain ⟨f, rfl⟩ := Int.eq_ofNat_of_zero_le hf'.1
  unfold cmpR
  rw [Int.toNat_natCast, Int.toNat_natCast]
  exact compare_yes_core a b c d e f (-d) (-e) _ _ ((max c f : Nat) : Int) _ w C (fun w => negative_rt d e f w hd he)
    (fun w => sum_any a b (-d) (-e) c f (max c f) w (by omega) (by omega) (by omega) ha hb (by omega) (by omega))
    (fun w => signOf_any _ _ w (sum_lt a (-d) _ c f (by omega) ha (by omega)) (sum_lt b (-e) _ c f (by omega) hb (by omega)))
theorem compare_no (a b c d e f : Int) (w : World) (h : ¬ (isRoot a b c ∧ isRoot d e f)) :
    Calls Tryd.prog 23 #[rv a b c, rv d e f] w fun x w' => x = .returned (.tuple #[.int .i64 0, .int .i64 2]) ∧ Below w.heap.size w w' := by
  have C := fun w => both_no a b c d e f w h
  clear h
  go_enter Tryd.func23, Tryd.ntmps23
  go_wp2_with (first
    | (go_at_call 42; (with_reducible refine (C _).mono ?_); rintro e w1 ⟨rfl, hB⟩; obtain ⟨hc, hf⟩ := bcell hB))
  go_ret2
  exact ⟨rfl, btr (bal (bal (Below.refl w.heap.size w) _) _) hB⟩

set_option maxHeartbeats 2000000 in
set_option maxRecDepth 100000 in
theorem order_no1 (a1 a2 a3 b1 b2 b3 c1 c2 c3 : Int) (w : World) (hT : Tab w) (ha : ¬ isRoot a1 a2 a3) :
    Calls Tryd.prog 8 #[rv a1 a2 a3, rv b1 b2 b3, rv c1 c2 c3] w fun x w' => x = .returned (.bool true) ∧ Below w.heap.size w w' := by
  have HT := ((hT.alloc (.cells #[.int .i64 a1, .int .i64 a2, .int .i64 a3] 23)).alloc (.cells #[.int .i64 b1, .int .i64 b2, .int .i64 b3] 23)).alloc (.cells #[.int .i64 c1, .int .i64 c2, .int .i64 c3] 23)
  have AW := awake_any _ HT
  have X1 := fun w => compare_no a1 a2 a3 b1 b2 b3 w (fun h => ha h.1)
  have X2 := fun w => compare_no b1 b2 b3 a1 a2 a3 w (fun h => ha h.2)
  have K1 := fun w => check_no a1 a2 a3 w ha
  clear ha
  have l2 : ∀ n : Nat, n < n + 1 + 1 := fun n => by omega
  have l3 : ∀ n : Nat, n < n + 1 + 1 + 1 := fun n => by omega
  go_enter Tryd.func8, Tryd.ntmps8
  go_wp2_with (first
    | (go_at_call 9; (with_reducible refine AW.mono ?_); rintro e w1 ⟨rfl, hB⟩; obtain ⟨hc, hf⟩ := bcell hB)
    | (go_at_call 23; (with_reducible refine (X1 _).mono ?_); rintro e w1 ⟨rfl, hN⟩; replace hB := btr hB hN; obtain ⟨hc, hf⟩ := bcell hB)
    | (go_at_call 23; (with_reducible refine (X2 _).mono ?_); rintro e w1 ⟨rfl, hN⟩; replace hB := btr hB hN; obtain ⟨hc, hf⟩ := bcell hB)
    | (go_at_call 12; (with_reducible refine (K1 _).mono ?_); rintro e w1 ⟨rfl, hN⟩; replace hB := btr hB hN; obtain ⟨hc, hf⟩ := bcell hB))
  go_ret
  exact ⟨rfl, btr (bal (bal (bal (Below.refl w.heap.size w) _) _) _) hB⟩
end Go.Proofs.YtalaacfoaelipaaDoor
