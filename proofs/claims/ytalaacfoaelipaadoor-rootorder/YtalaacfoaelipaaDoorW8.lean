/-
  What Add, Sub and Mul tell.
-/
import Derived.Test.YtalaacfoaelipaaDoorW7
namespace Go.Proofs.YtalaacfoaelipaaDoor
open Go.RowKit Go.Sort

def decRoot (p q k : Int) : Decidable (isRoot p q k) := by
  unfold isRoot
  exact inferInstance
/-- What Add tells of two roots. -/
def addR (a b c d e f : Int) : Rt :=
  haveI := decRoot a b c
  haveI := decRoot d e f
  if isRoot a b c ∧ isRoot d e f then one (sumP a d (max c.toNat f.toNat) c.toNat f.toNat) (sumP b e (max c.toNat f.toNat) c.toNat f.toNat) (max c.toNat f.toNat) else ⟨0, 0, 0, 2⟩
def mulR (a b c d e f : Int) : Rt :=
  haveI := decRoot a b c
  haveI := decRoot d e f
  if isRoot a b c ∧ isRoot d e f then one (a * d + b * e * 2) (a * e + b * d) (c + f).toNat else ⟨0, 0, 0, 2⟩

theorem sum_in (a d : Int) (k c f : Nat) (hk : k ≤ 60) (ha : -9007199254740991 ≤ a ∧ a ≤ 9007199254740991) (hd : -9007199254740991 ≤ d ∧ d ≤ 9007199254740991) : In128 (sumP a d k c f) := by
  have p : ∀ n : Nat, n ≤ 60 → (2 : Int) ^ n ≤ 1152921504606846976 := fun n hn => by
    have : (2 : Nat) ^ n ≤ 2 ^ 60 := Nat.pow_le_pow_right (by omega) hn
    have h2 : ((2 ^ n : Nat) : Int) = 2 ^ n := by simp
    have h3 : (2 : Nat) ^ 60 = 1152921504606846976 := rfl
    rw [← h2]; omega
  have m : ∀ (x : Int) (n : Nat), n ≤ 60 → -9007199254740991 ≤ x ∧ x ≤ 9007199254740991 → -10384593717069654320312270131228016 ≤ x * 2 ^ n ∧ x * 2 ^ n ≤ 10384593717069654320312270131228016 := fun x n hn hx => by
    have h1 := p n hn
    have h0 := pow_pos' n
    generalize (2 : Int) ^ n = t at *
    have u1 := Int.mul_le_mul hx.2 h1 (by omega) (by omega)
    have u2 := Int.mul_le_mul (show -x ≤ 9007199254740991 by omega) h1 (by omega) (by omega)
    rw [Int.neg_mul] at u2
    omega
  have h1 := m a (k - c) (by omega) ha
  have h2 := m d (k - f) (by omega) hd
  unfold In128 sumP
  omega
theorem mul_in (a d : Int) (ha : -9007199254740991 ≤ a ∧ a ≤ 9007199254740991) (hd : -9007199254740991 ≤ d ∧ d ≤ 9007199254740991) : -81129638414606663681390495662081 ≤ a * d ∧ a * d ≤ 81129638414606663681390495662081 := by
  have key : ∀ x y : Int, 0 ≤ x → x ≤ 9007199254740991 → 0 ≤ y → y ≤ 9007199254740991 → 0 ≤ x * y ∧ x * y ≤ 81129638414606663681390495662081 := fun x y x0 x1 y0 y1 =>
    ⟨Int.mul_nonneg x0 y0, Int.mul_le_mul x1 y1 y0 (by omega)⟩
  by_cases h1 : 0 ≤ a <;> by_cases h2 : 0 ≤ d
  · have := key a d h1 ha.2 h2 hd.2; omega
  · have := key a (-d) h1 ha.2 (by omega) (by omega); rw [Int.mul_neg] at this; omega
  · have := key (-a) d (by omega) (by omega) h2 hd.2; rw [Int.neg_mul] at this; omega
  · have := key (-a) (-d) (by omega) (by omega) (by omega) (by omega); rw [Int.neg_mul_neg] at this; omega

set_option maxHeartbeats 1000000 in
theorem add_any (a b c d e f : Int) (w : World) (hT : Tab w) :
    Calls Tryd.prog 17 #[rv a b c, rv d e f] w fun r w' => r = .returned (rtV (addR a b c d e f)) ∧ Below w.heap.size w w' := by
  unfold addR
  have HT := ((hT.alloc (.cells #[.int .i64 a, .int .i64 b, .int .i64 c] 23)).alloc (.cells #[.int .i64 d, .int .i64 e, .int .i64 f] 23)).alloc (.cells #[.int .i64 0, .int .i64 0, .int .i64 0] 23)
  by_cases h : isRoot a b c ∧ isRoot d e f
  · rw [if_pos h]
    have C := fun w => both_yes a b c d e f w h.1 h.2
    obtain ⟨⟨ha, hb, hc', _⟩, ⟨hd, he, hf', _⟩⟩ := h
    obtain ⟨c, rfl⟩ := Int.eq_ofNat_of_zero_le hc'.1
    obtain ⟨f, rfl⟩ := Int.eq_ofNat_of_zero_le hf'.1
    rw [Int.toNat_natCast, Int.toNat_natCast]
    have SU := fun w => sum_any a b d e c f (max c f) w (by omega) (by omega) (by omega) ha hb hd he
    have ON := fun w hT => oneForm_any (sumP a d (max c f) c f) (sumP b e (max c f) c f) (max c f) w hT (sum_in a d _ c f (by omega) ha hd) (sum_in b e _ c f (by omega) hb he) (by omega) (Or.inl (by omega))
    generalize one (sumP a d (max c f) c f) (sumP b e (max c f) c f) (max c f) = r at *
    generalize sumP a d (max c f) c f = p at *
    generalize sumP b e (max c f) c f = q at *
    generalize max c f = k at *
    obtain ⟨rp, rq, rk, re⟩ := r
    clear ha hb hd he hc' hf'
    go_enter Tryd.func17, Tryd.ntmps17
    go_wp2_with (first
      | (go_at_call 42; (with_reducible refine (C _).mono ?_); rintro e w1 ⟨rfl, hB⟩; obtain ⟨hc, hf⟩ := bcell hB)
      | (go_at_call 43; (with_reducible refine (SU _).mono ?_); rintro e w2 ⟨rfl, hN⟩; replace hB := btr hB hN; obtain ⟨hc, hf⟩ := bcell hB; unfold wd)
      | (go_at_call 33; (refine (ON _ (HT.below hB)).mono ?_); rintro e w3 ⟨rfl, hN⟩; replace hB := btr hB hN; obtain ⟨hc, hf⟩ := bcell hB))
    exact bodyPost_ret (v := rtV ⟨rp, rq, rk, re⟩) (by simp [*, results, Tryd.results17, go_sem]) rfl ⟨rfl, bset (bset (bset (btr (bal (bal (bal (Below.refl w.heap.size w) _) _) _) hB) _ _ _ (by omega)) _ _ _ (by omega)) _ _ _ (by omega)⟩
  · rw [if_neg h]
    have C := fun w => both_no a b c d e f w h
    clear h
    go_enter Tryd.func17, Tryd.ntmps17
    go_wp2_with (first
      | (go_at_call 42; (with_reducible refine (C _).mono ?_); rintro e w1 ⟨rfl, hB⟩; obtain ⟨hc, hf⟩ := bcell hB))
    exact bodyPost_ret (v := rtV ⟨0, 0, 0, 2⟩) (by simp [*, results, Tryd.results17, go_sem]) rfl ⟨rfl, bset (bset (bset (btr (bal (bal (bal (Below.refl w.heap.size w) _) _) _) hB) _ _ _ (by omega)) _ _ _ (by omega)) _ _ _ (by omega)⟩
end Go.Proofs.YtalaacfoaelipaaDoor
