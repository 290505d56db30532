/-
  The sign of p + q times the square root of 2; what Sign tells.
-/
import Derived.Test.YtalaacfoaelipaaDoorG3
namespace Go.Proofs.YtalaacfoaelipaaDoor
open Go.RowKit Go.Sort

set_option maxHeartbeats 1000000 in
theorem signOf_same (p q s : Int) (w : World)
    (S1 : ∀ w, Calls Tryd.prog 60 #[wd p] w fun e w' => e = .returned (.int .i64 s) ∧ Below w.heap.size w w')
    (S2 : ∀ w, Calls Tryd.prog 60 #[wd q] w fun e w' => e = .returned (.int .i64 s) ∧ Below w.heap.size w w') :
    Calls Tryd.prog 50 #[wd p, wd q] w fun e w' => e = .returned (.int .i64 s) ∧ Below w.heap.size w w' := by
  have l2 : ∀ n : Nat, n < n + 1 + 1 := fun n => by omega
  go_enter Tryd.func50, Tryd.ntmps50
  go_wp2
  go_region_held3 (fun w' => Below ((w.alloc (.cells #[.int .u64 (hiW p), .int .u64 (loW p)] 64)).alloc (.cells #[.int .u64 (hiW q), .int .u64 (loW q)] 64)).heap.size ((w.alloc (.cells #[.int .u64 (hiW p), .int .u64 (loW p)] 64)).alloc (.cells #[.int .u64 (hiW q), .int .u64 (loW q)] 64)) w' ∧ w'.cell? ⟨w.heap.size, 0, none⟩ = some (.int .u64 (hiW p)) ∧ w'.cell? ⟨w.heap.size, 1, none⟩ = some (.int .u64 (loW p)) ∧ w'.cell? ⟨w.heap.size + 1, 0, none⟩ = some (.int .u64 (hiW q)) ∧ w'.cell? ⟨w.heap.size + 1, 1, none⟩ = some (.int .u64 (loW q))) ((refine keep4 ?_; repeat (first | exact hK | exact And.left (by assumption) | exact below_drew (by assumption) | exact below_drew (Below.refl _ _) | exact bdr (And.left (by assumption)) _ | exact btr (And.left (by assumption)) hN | refine bal ?_ _ | refine bset ?_ _ _ _ (by first | exact Below.size (by assumption) | exact Below.size (And.left (by assumption)) | exact Nat.le_succ_of_le (Below.size (by assumption)) | exact Nat.le_succ_of_le (Below.size (And.left (by assumption)))) | refine below_drew ?_)))
        (first
          | (go_at_call 60; (with_reducible refine (S1 _).mono ?_); rintro e w2 ⟨rfl, hN⟩; have hK := btr (And.left (by assumption)) hN; (first | (replace hL := btr hL hN) | (have hL := hN)); obtain ⟨hc, hf⟩ := bcell hL; (first | (have sz := szAA hL; obtain ⟨sN, sM, sP, sQ⟩ := sz) | (have sz := szDD hL; obtain ⟨sN, sM, sP, sQ⟩ := sz) | (have sz := szA hL; obtain ⟨sN, sM⟩ := sz) | (have sz := szD hL; obtain ⟨sN, sM⟩ := sz) | skip))
          | (go_at_call 60; (with_reducible refine (S2 _).mono ?_); rintro e w2 ⟨rfl, hN⟩; have hK := btr (And.left (by assumption)) hN; (first | (replace hL := btr hL hN) | (have hL := hN)); obtain ⟨hc, hf⟩ := bcell hL; (first | (have sz := szAA hL; obtain ⟨sN, sM, sP, sQ⟩ := sz) | (have sz := szDD hL; obtain ⟨sN, sM, sP, sQ⟩ := sz) | (have sz := szA hL; obtain ⟨sN, sM⟩ := sz) | (have sz := szD hL; obtain ⟨sN, sM⟩ := sz) | skip)))
  go_wp2
  go_ret
  exact ⟨rfl, btr (bal (bal (Below.refl w.heap.size w) _) _) hK⟩

/-- The sign of p + q times the square root of 2. -/
def signS (p q : Int) : Int := if sgn p = sgn q then sgn p else if q * q * 2 < p * p then sgn p else sgn q
theorem absI_sq (a : Int) : absI a * absI a = a * a := by
  unfold absI
  split
  · exact Int.neg_mul_neg a a
  · rfl
theorem absI_lt (a : Int) (h : -85070591730234615865843651857942052864 < a ∧ a < 85070591730234615865843651857942052864) : 0 ≤ absI a ∧ absI a < 85070591730234615865843651857942052864 := by unfold absI; split <;> omega
theorem signOf_any (p q : Int) (w : World) (hp : -85070591730234615865843651857942052864 < p ∧ p < 85070591730234615865843651857942052864) (hq : -85070591730234615865843651857942052864 < q ∧ q < 85070591730234615865843651857942052864) :
    Calls Tryd.prog 50 #[wd p, wd q] w fun e w' => e = .returned (.int .i64 (signS p q)) ∧ Below w.heap.size w w' := by
  have ip : In128 p := by unfold In128; omega
  have iq : In128 q := by unfold In128; omega
  unfold signS
  by_cases h : sgn p = sgn q
  · rw [if_pos h]
    exact signOf_same p q (sgn p) w (fun w => sign_any p w ip) (fun w => by rw [h]; exact sign_any q w iq)
  · rw [if_neg h]
    have ap := absI_lt p hp
    have aq := absI_lt q hq
    have mp := Int.mul_le_mul (show absI p ≤ 85070591730234615865843651857942052863 by omega) (show absI p ≤ 85070591730234615865843651857942052863 by omega) ap.1 (by omega)
    have mq := Int.mul_le_mul (show absI q ≤ 85070591730234615865843651857942052863 by omega) (show absI q ≤ 85070591730234615865843651857942052863 by omega) aq.1 (by omega)
    have np := Int.mul_nonneg ap.1 ap.1
    have nq := Int.mul_nonneg aq.1 aq.1
    rw [absI_sq] at mp mq np nq
    have fp := first4_pos (p * p) (q * q * 2) np (by omega) (by omega) (by omega)
    refine signOf_core p q (absI p) (absI q) (p * p) (q * q) (sgn p) (sgn q) _ w h _ ?_ (fun w => sign_any p w ip) (fun w => sign_any q w iq) (fun w => size_any p w ip) (fun w => size_any q w iq)
      (fun w => by have := square_any (absI p) w ap.1 (by omega); rwa [absI_sq] at this) (fun w => by have := square_any (absI q) w aq.1 (by omega); rwa [absI_sq] at this)
      (fun w => twice_any (q * q) w nq (by omega))
      (fun B C W hB hC => compare_core B C _ _ _ _ _ _ _ _ _ _ _ _ W hB.c0 hB.c1 hB.c2 hB.c3 hC.c0 hC.c1 hC.c2 hC.c3 (fun w => cmp_any _ _ w) (fun w => cmp_any _ _ w) (fun w => cmp_any _ _ w) (fun w => cmp_any _ _ w))
    by_cases hlt : q * q * 2 < p * p
    · rw [if_pos hlt]; exact Or.inl ⟨fp.2 hlt, rfl⟩
    · rw [if_neg hlt]; exact Or.inr ⟨fun x => hlt (fp.1 x), rfl⟩

theorem keep3r {w W : World} {a b c : Int} (h : Below (w.alloc (.cells #[.int .i64 a, .int .i64 b, .int .i64 c] 23)).heap.size (w.alloc (.cells #[.int .i64 a, .int .i64 b, .int .i64 c] 23)) W) :
    Below (w.alloc (.cells #[.int .i64 a, .int .i64 b, .int .i64 c] 23)).heap.size (w.alloc (.cells #[.int .i64 a, .int .i64 b, .int .i64 c] 23)) W ∧ W.cell? ⟨w.heap.size, 0, none⟩ = some (.int .i64 a) ∧ W.cell? ⟨w.heap.size, 1, none⟩ = some (.int .i64 b) := by
  have hs : (w.alloc (.cells #[.int .i64 a, .int .i64 b, .int .i64 c] 23)).heap.size = w.heap.size + 1 := alz _ _
  have k0 : ∀ i, W.cell? ⟨w.heap.size, i, none⟩ = (#[Value.int .i64 a, .int .i64 b, .int .i64 c])[i]? := fun i => by
    rw [h.cell (p := ⟨w.heap.size, i, none⟩) (by rw [hs]; show w.heap.size < _; omega), World.cell?_alloc_at _ _ _ _ rfl]
  exact ⟨h, k0 0, k0 1⟩
set_option maxHeartbeats 1000000 in
theorem sign_yes (a b c : Int) (w : World) (h : isRoot a b c) :
    Calls Tryd.prog 22 #[rv a b c] w fun e w' => e = .returned (.tuple #[.int .i64 (signS a b), .int .i64 0]) ∧ Below w.heap.size w w' := by
  have C := fun w => check_yes a b c w h
  obtain ⟨ha, hb, _, _⟩ := h
  have A1 := fun w => wideOf_any a w (by omega) (by omega)
  have A2 := fun w => wideOf_any b w (by omega) (by omega)
  have SO := fun w => signOf_any a b w (by omega) (by omega)
  generalize signS a b = r at *
  clear ha hb
  go_enter Tryd.func22, Tryd.ntmps22
  go_wp2_with (first
    | (go_at_call 12; (with_reducible refine (C _).mono ?_); rintro e w1 ⟨rfl, hB⟩; obtain ⟨hc, hf⟩ := bcell hB))
  go_region_held3 (fun w' => Below (w.alloc (.cells #[.int .i64 a, .int .i64 b, .int .i64 c] 23)).heap.size (w.alloc (.cells #[.int .i64 a, .int .i64 b, .int .i64 c] 23)) w' ∧ w'.cell? ⟨w.heap.size, 0, none⟩ = some (.int .i64 a) ∧ w'.cell? ⟨w.heap.size, 1, none⟩ = some (.int .i64 b)) ((refine keep3r ?_; first | exact below_drew (by assumption) | exact btr (And.left (by assumption)) hN))
    (first
      | (go_at_call 34; (with_reducible refine (A1 _).mono ?_); rintro e w2 ⟨rfl, hN⟩; have hK := btr (And.left (by assumption)) hN)
      | (go_at_call 34; (with_reducible refine (A2 _).mono ?_); rintro e w2 ⟨rfl, hN⟩; have hK := btr (And.left (by assumption)) hN)
      | (go_at_call 50; (with_reducible refine (SO _).mono ?_); rintro e w2 ⟨rfl, hN⟩; have hK := btr (And.left (by assumption)) hN))
  go_wp2
  go_ret2
  exact ⟨rfl, btr (bal (Below.refl w.heap.size w) _) hK⟩
theorem sign_no (a b c : Int) (w : World) (h : ¬ isRoot a b c) :
    Calls Tryd.prog 22 #[rv a b c] w fun e w' => e = .returned (.tuple #[.int .i64 0, .int .i64 2]) ∧ Below w.heap.size w w' := by
  have C := fun w => check_no a b c w h
  clear h
  go_enter Tryd.func22, Tryd.ntmps22
  go_wp2_with (first
    | (go_at_call 12; (with_reducible refine (C _).mono ?_); rintro e w1 ⟨rfl, hB⟩; obtain ⟨hc, hf⟩ := bcell hB))
  go_ret2
  exact ⟨rfl, btr (bal (Below.refl w.heap.size w) _) hB⟩
end Go.Proofs.YtalaacfoaelipaaDoor
