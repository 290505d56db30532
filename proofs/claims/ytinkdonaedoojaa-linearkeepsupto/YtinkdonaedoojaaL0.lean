/-
  The law's own waking test.
-/
import Derived.Test.YtinkdonaedoojaaS4
import Derived.Test.YtinkdonaedoojaaM0
namespace Go.Proofs.Ytinkdonaedoojaa
open Go.RowKit

def lst2 (x y : Nat) : Nat → Nat := fun i => if i = 0 then x else y
theorem rr2 (W : World) (b x y : Nat) (K : BK W b #[.int .u64 (x : Int), .int .u64 (y : Int)] 25) (hx : x < 4) (hy : y < 4) : RR W (some ⟨b, 0, none⟩) 2 (lst2 x y) :=
  ⟨fun i hi => ⟨b, 0, rfl, by
    rcases (show i = 0 ∨ i = 1 by omega) with rfl | rfl
    · exact K.cell 0
    · exact K.cell 1, K.lt⟩, fun i hi => by unfold lst2; split <;> omega, by omega⟩
theorem gd2 (x y : Nat) (hx : x < 4) (hy : y < 4) : Gd ((2 : Nat) : Int) 2 (lst2 x y) := ⟨by omega, by omega, rfl, fun i hi => by unfold lst2; split <;> (show _ < 4; omega)⟩
theorem fact_ap : apN (lst2 1 3) 1 2 = 3 := by decide +kernel
theorem fact_rk : rk 2 (lst2 3 3) = 1 := by decide +kernel
theorem fact_sy : syB 2 (lst2 1 3) 2 = true := by decide +kernel
theorem fact_sl : (syS 2 (lst2 1 3) 2).l.reverse.length = 1 := by decide +kernel
theorem fact_ml : ∀ i, i < 2 → sm (lst2 2 1) (lst2 1 3 i) 2 = lst2 2 3 i := by decide +kernel
set_option maxHeartbeats 4000000 in
set_option maxRecDepth 100000 in
theorem alive_any (w : World) : Calls Try.prog 8 #[] w fun e w' => e = .returned (.bool true) ∧ Below w.heap.size w w' := by
  have R0 := hid (bk_new w #[.int .u64 (1 : Int), .int .u64 (3 : Int)] 25)
  have K0 := hid (bk_box1 (w := w) (cs := #[.int .u64 (1 : Int), .int .u64 (3 : Int)]) (T := 25) (lcs 2 (some ⟨w.heap.size, 0, none⟩) 2 2) 24)
  have R1 := hid (R0.out.alloc (.cells (lcs 2 (some ⟨w.heap.size, 0, none⟩) 2 2) 24))
  have HB0 := hid (bal (bal (Below.refl w.heap.size w) (.cells #[.int .u64 (1 : Int), .int .u64 (3 : Int)] 25)) (.cells (lcs 2 (some ⟨w.heap.size, 0, none⟩) 2 2) 24))
  generalize hV : (w.alloc (.cells #[.int .u64 (1 : Int), .int .u64 (3 : Int)] 25)).alloc (.cells (lcs 2 (some ⟨w.heap.size, 0, none⟩) 2 2) 24) = V at *
  have HV := hid hV
  clear hV R0
  have CA : Calls Try.prog 16 #[lv 2 (some ⟨w.heap.size, 0, none⟩) 2 2, .int .u64 1] V fun e w' => e = .returned (.tuple #[.int .u64 3, .int .i64 0]) ∧ Below V.heap.size V w' := by
    have h := apply_good 2 (some ⟨w.heap.size, 0, none⟩) 2 (lst2 1 3) 1 V (rr2 V _ 1 3 R1.out (by omega) (by omega)) (gd2 1 3 (by omega) (by omega)) (by decide)
    rw [fact_ap] at h
    exact h
  have CI : ∀ W : World, Calls Try.prog 20 #[lv 2 (some ⟨W.heap.size, 0, none⟩) 2 2] (W.alloc (.cells #[.int .u64 (3 : Int), .int .u64 (3 : Int)] 25)) fun e w' => LR (W.alloc (.cells #[.int .u64 (3 : Int), .int .u64 (3 : Int)] 25)) w' e 0 0 (iv 2 (lst2 3 3)) 200 := fun W => by
    refine (inverse_good 2 (some ⟨W.heap.size, 0, none⟩) 2 (lst2 3 3) _ (rr2 _ _ 3 3 (bk_new W _ 25) (by omega) (by omega)) (gd2 3 3 (by omega) (by omega))).mono ?_
    rintro e w' (⟨h, _⟩ | ⟨_, h⟩)
    · rw [fact_rk] at h; omega
    · exact h
  have CM : ∀ W : World, BK W w.heap.size #[.int .u64 (1 : Int), .int .u64 (3 : Int)] 25 → Calls Try.prog 14 #[lv 2 (some ⟨w.heap.size, 0, none⟩) 2 2, lv 2 (some ⟨W.heap.size, 0, none⟩) 2 2] (W.alloc (.cells #[.int .u64 (2 : Int), .int .u64 (1 : Int)] 25)) fun e w' => LR (W.alloc (.cells #[.int .u64 (2 : Int), .int .u64 (1 : Int)] 25)) w' e 2 2 (lst2 2 3) 0 := fun W h => by
    refine (mul_good 2 (some ⟨w.heap.size, 0, none⟩) (some ⟨W.heap.size, 0, none⟩) 2 2 (lst2 1 3) (lst2 2 1) _ (rr2 _ _ 1 3 (h.alloc _) (by omega) (by omega)) (rr2 _ _ 2 1 (bk_new W _ 25) (by omega) (by omega)) (gd2 1 3 (by omega) (by omega)) (gd2 2 1 (by omega) (by omega))).mono ?_
    rintro e w' ⟨v, h1, h2, h3⟩
    exact ⟨v, h1, h2.congr fact_ml, h3⟩
  have CS : ∀ W : World, BK W w.heap.size #[.int .u64 (1 : Int), .int .u64 (3 : Int)] 25 → Calls Try.prog 24 #[lv 2 (some ⟨w.heap.size, 0, none⟩) 2 2] W fun e w' => ∃ a c, e = .returned (.tuple #[.agg #[.int .i64 2, .int .i64 0, .slice a 1 c], .int .i64 0]) ∧ Below W.heap.size W w' := fun W h => by
    refine (synth_good 2 (some ⟨w.heap.size, 0, none⟩) 2 (lst2 1 3) W (rr2 _ _ 1 3 h (by omega) (by omega)) (gd2 1 3 (by omega) (by omega))).mono ?_
    rintro e w' (⟨_, v, he, hO, hB⟩ | ⟨h, _⟩)
    · obtain ⟨a, c, A, C, e1, _⟩ := hO.ex
      rw [fact_sl] at e1
      subst e1
      exact ⟨a, c, he, hB⟩
    · rw [fact_sy] at h; cases h
  have d0 := K0.out.cell
  have l0 := K0.out.lt
  go_enter Try.func8, Try.ntmps8
  go_upto_region 2 with (fail)
  rw [show (w.alloc (.cells #[.int .u64 (1 : Int), .int .u64 (3 : Int)] 25)).alloc (.cells (lcs 2 (some ⟨w.heap.size, 0, none⟩) 2 2) 24) = V from HV.out]
  clear HV
  go_upto_region 3 with (go_at_call 16; (with_reducible refine CA.mono ?_); rintro e w1 ⟨rfl, hN⟩)
  have HB1 := hid (btr HB0.out hN)
  replace R1 := hid (bk_on R1.out hN)
  replace K0 := hid (bk_on K0.out hN)
  clear hN HB0 d0 l0 CA
  go_upto_region 4 with (go_at_call 20; (with_reducible refine (CI _).mono ?_); rintro e w2 ⟨v2, rfl, hO2, hN⟩; obtain ⟨a2, c2, rfl⟩ := os_shape hO2)
  have HB2 := hid (bal (btr (bal HB1.out (.cells #[.int .u64 (3 : Int), .int .u64 (3 : Int)] 25)) hN) (.cells #[.int .i64 0, .slice a2 0 c2] 24))
  replace R1 := hid ((bk_on (R1.out.alloc (.cells #[.int .u64 (3 : Int), .int .u64 (3 : Int)] 25)) hN).alloc (.cells #[.int .i64 0, .slice a2 0 c2] 24))
  replace K0 := hid ((bk_on (K0.out.alloc (.cells #[.int .u64 (3 : Int), .int .u64 (3 : Int)] 25)) hN).alloc (.cells #[.int .i64 0, .slice a2 0 c2] 24))
  clear hN hO2 HB1 CI
  generalize hV3 : w2.alloc (.cells #[.int .i64 0, .slice a2 0 c2] 24) = V3 at *
  clear hV3
  have d0 := K0.out.cell
  have l0 := K0.out.lt
  go_upto_region 5 with (go_at_call 14; (with_reducible refine (CM _ R1.out).mono ?_); rintro e w4 ⟨v4, rfl, hO4, hN⟩; obtain ⟨a4, c4, rfl⟩ := os_shape hO4)
  have HB4 := hid (bal (btr (bal HB2.out (.cells #[.int .u64 (2 : Int), .int .u64 (1 : Int)] 25)) hN) (.cells (lcs 2 a4 2 c4) 24))
  replace R1 := hid ((bk_on (R1.out.alloc (.cells #[.int .u64 (2 : Int), .int .u64 (1 : Int)] 25)) hN).alloc (.cells (lcs 2 a4 2 c4) 24))
  replace K0 := hid ((bk_on (K0.out.alloc (.cells #[.int .u64 (2 : Int), .int .u64 (1 : Int)] 25)) hN).alloc (.cells (lcs 2 a4 2 c4) 24))
  have K4 := hid (bk_new w4 (lcs 2 a4 2 c4) 24)
  have HO4 := hid (hO4.on (bal (Below.refl w4.heap.size w4) (.cells (lcs 2 a4 2 c4) 24)))
  clear hN hO4 HB2 CM d0 l0
  generalize hV5 : w4.alloc (.cells (lcs 2 a4 2 c4) 24) = V5 at *
  clear hV5
  generalize w4.heap.size = b4 at *
  have d0 := K0.out.cell
  have l0 := K0.out.lt
  go_upto_region 6 with (go_at_call 24; (with_reducible refine (CS _ R1.out).mono ?_); rintro e w6 ⟨a6, c6, rfl, hN⟩)
  have HB6 := hid (bal (btr HB4.out hN) (.cells #[.int .i64 2, .int .i64 0, .slice a6 1 c6] 50))
  have K6 := hid (bk_new w6 #[.int .i64 2, .int .i64 0, .slice a6 1 c6] 50)
  have K7 := hid ((bk_on K4.out hN).alloc (.cells #[.int .i64 2, .int .i64 0, .slice a6 1 c6] 50))
  have HO6 := hid ((HO4.out.on hN).on (bal (Below.refl w6.heap.size w6) (.cells #[.int .i64 2, .int .i64 0, .slice a6 1 c6] 50)))
  clear hN HO4 HB4 CS d0 l0 K0 K4 R1
  generalize hV7 : w6.alloc (.cells #[.int .i64 2, .int .i64 0, .slice a6 1 c6] 50) = V7 at *
  clear hV7
  generalize w6.heap.size = b6 at *
  have d4 := K7.out.cell
  have l4 := K7.out.lt
  have CE : ∀ W : World, Below V7.heap.size V7 W → Calls Try.prog 13 #[lv 2 a4 2 c4, lv 2 (some ⟨W.heap.size, 0, none⟩) 2 2] (W.alloc (.cells #[.int .u64 (2 : Int), .int .u64 (3 : Int)] 25)) fun e w' => e = .returned (.bool true) ∧ Below (W.alloc (.cells #[.int .u64 (2 : Int), .int .u64 (3 : Int)] 25)).heap.size (W.alloc (.cells #[.int .u64 (2 : Int), .int .u64 (3 : Int)] 25)) w' := fun W h => by
    obtain ⟨a', c', e', hr⟩ := (HO6.out.on (bal h (.cells #[.int .u64 (2 : Int), .int .u64 (3 : Int)] 25))).rr
    injection e' with e1 _ e2
    subst e1
    exact same_any 2 2 2 2 a4 (some ⟨W.heap.size, 0, none⟩) c4 2 (lst2 2 3) (lst2 2 3) _ hr (rr2 _ _ 2 3 (bk_new W _ 25) (by omega) (by omega)) true (fun _ _ _ => rfl) (fun h => absurd ⟨rfl, rfl, fun _ _ => rfl⟩ h)
  go_wp2_with (go_at_call 13; (with_reducible refine (CE _ (Below.refl _ _)).mono ?_); rintro e w8 ⟨rfl, hN⟩; (have K8 := bk_on (K6.out.alloc (.cells #[.int .u64 (2 : Int), .int .u64 (3 : Int)] 25)) hN); (have d8 := K8.cell); (have l8 := K8.lt))
  go_ret
  exact ⟨rfl, btr (bal HB6.out _) hN⟩
end Go.Proofs.Ytinkdonaedoojaa
