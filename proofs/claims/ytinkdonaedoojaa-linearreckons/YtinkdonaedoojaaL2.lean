/-
  The walk of the law LinearReckons.
-/
import Derived.Test.YtinkdonaedoojaaL1
namespace Go.Proofs.Ytinkdonaedoojaa
open Go.RowKit

abbrev SS (V W : World) (b0 b1 : Nat) (x0 x1 y0 y1 : Value) : Prop := Below V.heap.size V W ∧ W.cell? ⟨b0, 0, none⟩ = some x0 ∧ W.cell? ⟨b0, 1, none⟩ = some x1 ∧ W.cell? ⟨b1, 0, none⟩ = some y0 ∧ W.cell? ⟨b1, 1, none⟩ = some y1
theorem ss_keep {V W : World} {b0 b1 : Nat} {x0 x1 y0 y1 : Value} (H : SS V V b0 b1 x0 x1 y0 y1) (h0 : b0 < V.heap.size) (h1 : b1 < V.heap.size) (hb : Below V.heap.size V W) : SS V W b0 b1 x0 x1 y0 y1 := by
  obtain ⟨_, c0, c1, c2, c3⟩ := H
  have g : ∀ x y, x < V.heap.size → W.cell? ⟨x, y, none⟩ = V.cell? ⟨x, y, none⟩ := fun x y hx => hb.cell (p := ⟨x, y, none⟩) hx
  exact ⟨hb, (g _ _ h0).trans c0, (g _ _ h0).trans c1, (g _ _ h1).trans c2, (g _ _ h1).trans c3⟩
set_option maxHeartbeats 8000000 in
set_option maxRecDepth 100000 in
theorem reckons_any (N N' : Int) (n n' : Nat) (a a' : Option Addr) (c c' : Nat) (f g : Nat → Nat) (x : Nat) (w : World) (H : RR w a n f) (H' : RR w a' n' g) (hx : x < 18446744073709551616) :
    Calls Try.prog 3 #[lv N a n c, lv N' a' n' c', .int .u64 x] w fun e w' => e = .returned (.bool true) ∧ Below w.heap.size w w' := by
  obtain ⟨E1, P1, Q1⟩ := check_pair (N := N) (c := c) H
  obtain ⟨E2, P2', Q2⟩ := check_pair (N := N') (c := c') H'
  obtain ⟨M3, m3, F3', E3, P3, Q3⟩ := eye_pair N
  obtain ⟨M4, m4, F4, E4, P4, Q4⟩ := mul_pair (N := N) (N' := N') (c := c) (c' := c') H H'
  obtain ⟨y5, E5, P5, Q5⟩ := apply_pair (N := N) (c := c) H x hx
  obtain ⟨k6, E6, P6, Q6⟩ := rank_pair (N := N) (c := c) H
  obtain ⟨M7, m7, F7, E7, P7, Q7⟩ := inverse_pair (N := N) (c := c) H
  have AL := alive_any
  obtain ⟨hB0, hK0, hK1⟩ := boxes2 w (lcs N a n c) (lcs N' a' n' c')
  have HB := hid hB0
  have K0 := hid hK0
  have K1 := hid hK1
  clear hB0 hK0 hK1 H H' hx
  go_enter Try.func3, Try.ntmps3
  go_upto_region 3 with (go_at_call 8; (with_reducible refine (AL _).mono ?_); rintro e w1 ⟨rfl, hN⟩)
  replace HB := hid (btr HB.out hN)
  replace K0 := hid (bk_on K0.out hN)
  replace K1 := hid (bk_on K1.out hN)
  clear hN AL
  have hRf := Below.refl w1.heap.size w1
  have HS : Hid (SS w1 w1 w.heap.size (w.heap.size + 1) (.int .i64 N) (.slice a n c) (.int .i64 N') (.slice a' n' c')) := ⟨hRf, K0.out.cell 0, K0.out.cell 1, K1.out.cell 0, K1.out.cell 1⟩
  have z0 := K0.out.lt
  have z1 := K1.out.lt
  have P1' := fun w2 (h : Below w1.heap.size w1 w2) => P1 w2 (btr HB.out h)
  have P2'' := fun w2 (h : Below w1.heap.size w1 w2) => P2' w2 (btr HB.out h)
  have Q1' := fun w2 (h : Below w1.heap.size w1 w2) => Q1 w2 (btr HB.out h)
  have Q2' := fun w2 (h : Below w1.heap.size w1 w2) => Q2 w2 (btr HB.out h)
  go_region_held3 (fun w' => SS w1 w' w.heap.size (w.heap.size + 1) (.int .i64 N) (.slice a n c) (.int .i64 N') (.slice a' n' c'))
    ((refine ss_keep HS.out z0 z1 ?_; first | exact below_drew hRf | exact btr (And.left (by assumption)) hN))
    (first
      | (go_at_call 9; (with_reducible refine (P1' _ (And.left (by assumption))).mono ?_); rintro e w2 ⟨rfl, hN⟩)
      | (go_at_call 9; (with_reducible refine (P2'' _ (And.left (by assumption))).mono ?_); rintro e w2 ⟨rfl, hN⟩)
      | (go_at_call 10; (with_reducible refine (Q1' _ (And.left (by assumption))).mono ?_); rintro e w2 ⟨rfl, hN⟩)
      | (go_at_call 10; (with_reducible refine (Q2' _ (And.left (by assumption))).mono ?_); rintro e w2 ⟨rfl, hN⟩))
  have HS2 : SS w1 w2 w.heap.size (w.heap.size + 1) (.int .i64 N) (.slice a n c) (.int .i64 N') (.slice a' n' c') := by assumption
  replace HB := hid (btr HB.out HS2.1)
  replace K0 := hid (bk_on K0.out HS2.1)
  replace K1 := hid (bk_on K1.out HS2.1)
  clear hRf HS z0 z1 P1 P2' Q1 Q2 P1' P2'' Q1' Q2'
  have HBs := HS2.1
  clear HS2
  have hz : w.heap.size + 1 < w2.heap.size := K1.out.lt
  have d0 := K0.out.cell
  have l0 := K0.out.lt
  have d1 := K1.out.cell
  have l1 := K1.out.lt
  go_upto_region 6 with (go_at_call 11; (with_reducible refine (P3 _).mono ?_); rintro e wa ⟨vwa, rfl, hO, hN⟩; obtain ⟨awa, cwa, rfl⟩ := os_shape hO)
  replace HB := hid (bal (btr HB.out hN) (.cells #[.int .i64 M3, .slice awa m3 cwa] 24))
  replace K0 := hid ((bk_on K0.out hN).alloc (.cells #[.int .i64 M3, .slice awa m3 cwa] 24))
  replace K1 := hid ((bk_on K1.out hN).alloc (.cells #[.int .i64 M3, .slice awa m3 cwa] 24))
  have K7 := hid (bk_new wa #[.int .i64 M3, .slice awa m3 cwa] 24)
  have O7 := hid (hO.on (bal (Below.refl wa.heap.size wa) (.cells #[.int .i64 M3, .slice awa m3 cwa] 24)))
  have hz7 : w.heap.size + 1 < wa.heap.size := by have := hN.size; have := l1; omega
  clear hN hO d0 l0 d1 l1
  generalize hV : wa.alloc (.cells #[.int .i64 M3, .slice awa m3 cwa] 24) = Xwa at *
  clear hV
  generalize wa.heap.size = b7 at *
  have d0 := K0.out.cell
  have l0 := K0.out.lt
  have d1 := K1.out.cell
  have l1 := K1.out.lt
  have d7 := K7.out.cell
  have l7 := K7.out.lt
  go_upto_region 7 with (go_at_call 12; (with_reducible refine (Q3 _).mono ?_); rintro e wb ⟨vwb, rfl, hO, hN⟩; obtain ⟨awb, cwb, rfl⟩ := os_shape hO)
  replace HB := hid (bal (btr HB.out hN) (.cells #[.int .i64 M3, .slice awb m3 cwb] 24))
  replace K0 := hid ((bk_on K0.out hN).alloc (.cells #[.int .i64 M3, .slice awb m3 cwb] 24))
  replace K1 := hid ((bk_on K1.out hN).alloc (.cells #[.int .i64 M3, .slice awb m3 cwb] 24))
  replace K7 := hid ((bk_on K7.out hN).alloc (.cells #[.int .i64 M3, .slice awb m3 cwb] 24))
  replace O7 := hid ((O7.out.on hN).on (bal (Below.refl wb.heap.size wb) (.cells #[.int .i64 M3, .slice awb m3 cwb] 24)))
  have K9 := hid (bk_new wb #[.int .i64 M3, .slice awb m3 cwb] 24)
  have O9 := hid (hO.on (bal (Below.refl wb.heap.size wb) (.cells #[.int .i64 M3, .slice awb m3 cwb] 24)))
  have hz9 : w.heap.size + 1 < wb.heap.size := by have := hN.size; have := l1; have := l7; omega
  have hzz : b7 < wb.heap.size := by have := hN.size; have := l7; omega
  clear hN hO d0 l0 d1 l1 d7 l7
  generalize hV : wb.alloc (.cells #[.int .i64 M3, .slice awb m3 cwb] 24) = Xwb at *
  clear hV
  generalize wb.heap.size = b9 at *
  have d0 := K0.out.cell
  have l0 := K0.out.lt
  have d1 := K1.out.cell
  have l1 := K1.out.lt
  have d7 := K7.out.cell
  have l7 := K7.out.lt
  have d9 := K9.out.cell
  have l9 := K9.out.lt
  have SM := same_os (M := M3) O7.out O9.out
  have hE : ((E3 : Int) != E3) = false := bne_self_eq_false' _
  go_upto_region 9 with (go_at_call 13; (with_reducible refine SM.mono ?_); rintro e wc ⟨rfl, hN⟩)
  replace HB := hid (btr HB.out hN)
  replace K0 := hid (bk_on K0.out hN)
  replace K1 := hid (bk_on K1.out hN)
  replace K7 := hid (bk_on K7.out hN)
  replace K9 := hid (bk_on K9.out hN)
  replace O7 := hid (O7.out.on hN)
  replace O9 := hid (O9.out.on hN)
  clear hN SM hE
  clear d0 l0 d1 l1 d7 l7 d9 l9
  have d0 := K0.out.cell
  have l0 := K0.out.lt
  have d1 := K1.out.cell
  have l1 := K1.out.lt
  have d7 := K7.out.cell
  have l7 := K7.out.lt
  have d9 := K9.out.cell
  have l9 := K9.out.lt
  have f7 := K7.out.free
  go_upto_region 10 with (go_at_call 14; (with_reducible refine (P4 _ HB.out).mono ?_); rintro e wd ⟨vwd, rfl, hO, hN⟩; obtain ⟨awd, cwd, rfl⟩ := os_shape hO; (have k0 := (bk_on K0.out hN)); (have k7 := bk_on K7.out hN); (have k9 := bk_on K9.out hN); (have g7 := k7.cell); (have g9 := k9.cell); (have h7 := k7.lt); (have h9 := k9.lt); (have i7 := k7.free); (have i9 := k9.free))
  replace HB := hid (bset (bset (btr HB.out hN) b7 0 (.int .i64 M4) (by omega)) b7 1 (.slice awd m4 cwd) (by omega))
  replace K0 := hid (((bk_on K0.out hN).far (c := b7) (by omega) 0 (.int .i64 M4)).far (c := b7) (by omega) 1 (.slice awd m4 cwd))
  replace K1 := hid (((bk_on K1.out hN).far (c := b7) (by omega) 0 (.int .i64 M4)).far (c := b7) (by omega) 1 (.slice awd m4 cwd))
  replace K9 := hid (((bk_on K9.out hN).far (c := b7) (by omega) 0 (.int .i64 M4)).far (c := b7) (by omega) 1 (.slice awd m4 cwd))
  replace O9 := hid ((O9.out.on hN).far2 k7 (.int .i64 M4) (.slice awd m4 cwd))
  have O7n := hid (hO.far2 k7 (.int .i64 M4) (.slice awd m4 cwd))
  have K7n : Hid (BK ((wd.setCell ⟨b7, 0, none⟩ (.int .i64 M4)).setCell ⟨b7, 1, none⟩ (.slice awd m4 cwd)) b7 #[.int .i64 M4, .slice awd m4 cwd] 24) := (k7.set 0 (.int .i64 M4)).set 1 (.slice awd m4 cwd)
  clear K7 O7 hN hO k0 k7 k9 g7 g9 h7 h9 i7 i9 f7
  clear d0 l0 d1 l1 d7 l7 d9 l9
  rename Hid (BK ((wd.setCell ⟨b7, 0, none⟩ (.int .i64 M4)).setCell ⟨b7, 1, none⟩ (.slice awd m4 cwd)) b7 #[.int .i64 M4, .slice awd m4 cwd] 24) => K7
  have O7 := O7n
  clear O7n
  generalize ((wd.setCell ⟨b7, 0, none⟩ (.int .i64 M4)).setCell ⟨b7, 1, none⟩ (.slice awd m4 cwd)) = Xwd at *
  have d0 := K0.out.cell
  have l0 := K0.out.lt
  have d1 := K1.out.cell
  have l1 := K1.out.lt
  have d7 := K7.out.cell
  have l7 := K7.out.lt
  have d9 := K9.out.cell
  have l9 := K9.out.lt
  have f9 := K9.out.free
  go_upto_region 11 with (go_at_call 15; (with_reducible refine (Q4 _ HB.out).mono ?_); rintro e we ⟨vwe, rfl, hO, hN⟩; obtain ⟨awe, cwe, rfl⟩ := os_shape hO; (have k0 := (bk_on K0.out hN)); (have k7 := bk_on K7.out hN); (have k9 := bk_on K9.out hN); (have g7 := k7.cell); (have g9 := k9.cell); (have h7 := k7.lt); (have h9 := k9.lt); (have i7 := k7.free); (have i9 := k9.free))
  replace HB := hid (bset (bset (btr HB.out hN) b9 0 (.int .i64 M4) (by omega)) b9 1 (.slice awe m4 cwe) (by omega))
  replace K0 := hid (((bk_on K0.out hN).far (c := b9) (by omega) 0 (.int .i64 M4)).far (c := b9) (by omega) 1 (.slice awe m4 cwe))
  replace K1 := hid (((bk_on K1.out hN).far (c := b9) (by omega) 0 (.int .i64 M4)).far (c := b9) (by omega) 1 (.slice awe m4 cwe))
  replace K7 := hid (((bk_on K7.out hN).far (c := b9) (by omega) 0 (.int .i64 M4)).far (c := b9) (by omega) 1 (.slice awe m4 cwe))
  replace O7 := hid ((O7.out.on hN).far2 k9 (.int .i64 M4) (.slice awe m4 cwe))
  have O9n := hid (hO.far2 k9 (.int .i64 M4) (.slice awe m4 cwe))
  have K9n : Hid (BK ((we.setCell ⟨b9, 0, none⟩ (.int .i64 M4)).setCell ⟨b9, 1, none⟩ (.slice awe m4 cwe)) b9 #[.int .i64 M4, .slice awe m4 cwe] 24) := (k9.set 0 (.int .i64 M4)).set 1 (.slice awe m4 cwe)
  clear K9 O9 hN hO k0 k7 k9 g7 g9 h7 h9 i7 i9 f9
  clear d0 l0 d1 l1 d7 l7 d9 l9
  rename Hid (BK ((we.setCell ⟨b9, 0, none⟩ (.int .i64 M4)).setCell ⟨b9, 1, none⟩ (.slice awe m4 cwe)) b9 #[.int .i64 M4, .slice awe m4 cwe] 24) => K9
  have O9 := O9n
  clear O9n
  generalize ((we.setCell ⟨b9, 0, none⟩ (.int .i64 M4)).setCell ⟨b9, 1, none⟩ (.slice awe m4 cwe)) = Xwe at *
  have d0 := K0.out.cell
  have l0 := K0.out.lt
  have d1 := K1.out.cell
  have l1 := K1.out.lt
  have d7 := K7.out.cell
  have l7 := K7.out.lt
  have d9 := K9.out.cell
  have l9 := K9.out.lt
  have SM := same_os (M := M4) O7.out O9.out
  have hE : ((E4 : Int) != E4) = false := bne_self_eq_false' _
  go_upto_region 13 with (go_at_call 13; (with_reducible refine SM.mono ?_); rintro e wf ⟨rfl, hN⟩)
  replace HB := hid (btr HB.out hN)
  replace K0 := hid (bk_on K0.out hN)
  replace K1 := hid (bk_on K1.out hN)
  replace K7 := hid (bk_on K7.out hN)
  replace K9 := hid (bk_on K9.out hN)
  replace O7 := hid (O7.out.on hN)
  replace O9 := hid (O9.out.on hN)
  clear hN SM hE
  clear d0 l0 d1 l1 d7 l7 d9 l9
  have d0 := K0.out.cell
  have l0 := K0.out.lt
  have d1 := K1.out.cell
  have l1 := K1.out.lt
  have d7 := K7.out.cell
  have l7 := K7.out.lt
  have d9 := K9.out.cell
  have l9 := K9.out.lt
  go_upto_region 14 with (go_at_call 16; (with_reducible refine (P5 _ HB.out).mono ?_); rintro e wg ⟨rfl, hN⟩)
  replace HB := hid (btr HB.out hN)
  replace K0 := hid (bk_on K0.out hN)
  replace K1 := hid (bk_on K1.out hN)
  replace K7 := hid (bk_on K7.out hN)
  replace K9 := hid (bk_on K9.out hN)
  replace O7 := hid (O7.out.on hN)
  replace O9 := hid (O9.out.on hN)
  clear hN
  clear d0 l0 d1 l1 d7 l7 d9 l9
  have d0 := K0.out.cell
  have l0 := K0.out.lt
  have d1 := K1.out.cell
  have l1 := K1.out.lt
  have d7 := K7.out.cell
  have l7 := K7.out.lt
  have d9 := K9.out.cell
  have l9 := K9.out.lt
  go_upto_region 15 with (go_at_call 17; (with_reducible refine (Q5 _ HB.out).mono ?_); rintro e wh ⟨rfl, hN⟩)
  replace HB := hid (btr HB.out hN)
  replace K0 := hid (bk_on K0.out hN)
  replace K1 := hid (bk_on K1.out hN)
  replace K7 := hid (bk_on K7.out hN)
  replace K9 := hid (bk_on K9.out hN)
  replace O7 := hid (O7.out.on hN)
  replace O9 := hid (O9.out.on hN)
  clear hN
  clear d0 l0 d1 l1 d7 l7 d9 l9
  have d0 := K0.out.cell
  have l0 := K0.out.lt
  have d1 := K1.out.cell
  have l1 := K1.out.lt
  have d7 := K7.out.cell
  have l7 := K7.out.lt
  have d9 := K9.out.cell
  have l9 := K9.out.lt
  have hE5 : ((E5 : Int) != E5) = false := bne_self_eq_false' _
  have hy5 : ((y5 : Int) != (y5 : Int)) = false := bne_self_eq_false' _
  go_upto_region 18 with (go_at_call 18; (with_reducible refine (P6 _ HB.out).mono ?_); rintro e wi ⟨rfl, hN⟩)
  replace HB := hid (btr HB.out hN)
  replace K0 := hid (bk_on K0.out hN)
  replace K1 := hid (bk_on K1.out hN)
  replace K7 := hid (bk_on K7.out hN)
  replace K9 := hid (bk_on K9.out hN)
  replace O7 := hid (O7.out.on hN)
  replace O9 := hid (O9.out.on hN)
  clear hN
  clear d0 l0 d1 l1 d7 l7 d9 l9
  have d0 := K0.out.cell
  have l0 := K0.out.lt
  have d1 := K1.out.cell
  have l1 := K1.out.lt
  have d7 := K7.out.cell
  have l7 := K7.out.lt
  have d9 := K9.out.cell
  have l9 := K9.out.lt
  go_upto_region 19 with (go_at_call 19; (with_reducible refine (Q6 _ HB.out).mono ?_); rintro e wj ⟨rfl, hN⟩)
  replace HB := hid (btr HB.out hN)
  replace K0 := hid (bk_on K0.out hN)
  replace K1 := hid (bk_on K1.out hN)
  replace K7 := hid (bk_on K7.out hN)
  replace K9 := hid (bk_on K9.out hN)
  replace O7 := hid (O7.out.on hN)
  replace O9 := hid (O9.out.on hN)
  clear hN
  clear d0 l0 d1 l1 d7 l7 d9 l9
  have d0 := K0.out.cell
  have l0 := K0.out.lt
  have d1 := K1.out.cell
  have l1 := K1.out.lt
  have d7 := K7.out.cell
  have l7 := K7.out.lt
  have d9 := K9.out.cell
  have l9 := K9.out.lt
  have hE6 : ((E6 : Int) != E6) = false := bne_self_eq_false' _
  have hk6 : ((k6 : Int) != (k6 : Int)) = false := bne_self_eq_false' _
  have f7 := K7.out.free
  go_upto_region 22 with (go_at_call 20; (with_reducible refine (P7 _ HB.out).mono ?_); rintro e wk ⟨vwk, rfl, hO, hN⟩; obtain ⟨awk, cwk, rfl⟩ := os_shape hO; (have k0 := (bk_on K0.out hN)); (have k7 := bk_on K7.out hN); (have k9 := bk_on K9.out hN); (have g7 := k7.cell); (have g9 := k9.cell); (have h7 := k7.lt); (have h9 := k9.lt); (have i7 := k7.free); (have i9 := k9.free))
  replace HB := hid (bset (bset (btr HB.out hN) b7 0 (.int .i64 M7) (by omega)) b7 1 (.slice awk m7 cwk) (by omega))
  replace K0 := hid (((bk_on K0.out hN).far (c := b7) (by omega) 0 (.int .i64 M7)).far (c := b7) (by omega) 1 (.slice awk m7 cwk))
  replace K1 := hid (((bk_on K1.out hN).far (c := b7) (by omega) 0 (.int .i64 M7)).far (c := b7) (by omega) 1 (.slice awk m7 cwk))
  replace K9 := hid (((bk_on K9.out hN).far (c := b7) (by omega) 0 (.int .i64 M7)).far (c := b7) (by omega) 1 (.slice awk m7 cwk))
  replace O9 := hid ((O9.out.on hN).far2 k7 (.int .i64 M7) (.slice awk m7 cwk))
  have O7n := hid (hO.far2 k7 (.int .i64 M7) (.slice awk m7 cwk))
  have K7n : Hid (BK ((wk.setCell ⟨b7, 0, none⟩ (.int .i64 M7)).setCell ⟨b7, 1, none⟩ (.slice awk m7 cwk)) b7 #[.int .i64 M7, .slice awk m7 cwk] 24) := (k7.set 0 (.int .i64 M7)).set 1 (.slice awk m7 cwk)
  clear K7 O7 hN hO k0 k7 k9 g7 g9 h7 h9 i7 i9 f7
  clear d0 l0 d1 l1 d7 l7 d9 l9
  rename Hid (BK ((wk.setCell ⟨b7, 0, none⟩ (.int .i64 M7)).setCell ⟨b7, 1, none⟩ (.slice awk m7 cwk)) b7 #[.int .i64 M7, .slice awk m7 cwk] 24) => K7
  have O7 := O7n
  clear O7n
  generalize ((wk.setCell ⟨b7, 0, none⟩ (.int .i64 M7)).setCell ⟨b7, 1, none⟩ (.slice awk m7 cwk)) = Xwk at *
  have d0 := K0.out.cell
  have l0 := K0.out.lt
  have d1 := K1.out.cell
  have l1 := K1.out.lt
  have d7 := K7.out.cell
  have l7 := K7.out.lt
  have d9 := K9.out.cell
  have l9 := K9.out.lt
  have f9 := K9.out.free
  go_upto_region 23 with (go_at_call 21; (with_reducible refine (Q7 _ HB.out).mono ?_); rintro e wl ⟨vwl, rfl, hO, hN⟩; obtain ⟨awl, cwl, rfl⟩ := os_shape hO; (have k0 := (bk_on K0.out hN)); (have k7 := bk_on K7.out hN); (have k9 := bk_on K9.out hN); (have g7 := k7.cell); (have g9 := k9.cell); (have h7 := k7.lt); (have h9 := k9.lt); (have i7 := k7.free); (have i9 := k9.free))
  replace HB := hid (bset (bset (btr HB.out hN) b9 0 (.int .i64 M7) (by omega)) b9 1 (.slice awl m7 cwl) (by omega))
  replace K0 := hid (((bk_on K0.out hN).far (c := b9) (by omega) 0 (.int .i64 M7)).far (c := b9) (by omega) 1 (.slice awl m7 cwl))
  replace K1 := hid (((bk_on K1.out hN).far (c := b9) (by omega) 0 (.int .i64 M7)).far (c := b9) (by omega) 1 (.slice awl m7 cwl))
  replace K7 := hid (((bk_on K7.out hN).far (c := b9) (by omega) 0 (.int .i64 M7)).far (c := b9) (by omega) 1 (.slice awl m7 cwl))
  replace O7 := hid ((O7.out.on hN).far2 k9 (.int .i64 M7) (.slice awl m7 cwl))
  have O9n := hid (hO.far2 k9 (.int .i64 M7) (.slice awl m7 cwl))
  have K9n : Hid (BK ((wl.setCell ⟨b9, 0, none⟩ (.int .i64 M7)).setCell ⟨b9, 1, none⟩ (.slice awl m7 cwl)) b9 #[.int .i64 M7, .slice awl m7 cwl] 24) := (k9.set 0 (.int .i64 M7)).set 1 (.slice awl m7 cwl)
  clear K9 O9 hN hO k0 k7 k9 g7 g9 h7 h9 i7 i9 f9
  clear d0 l0 d1 l1 d7 l7 d9 l9
  rename Hid (BK ((wl.setCell ⟨b9, 0, none⟩ (.int .i64 M7)).setCell ⟨b9, 1, none⟩ (.slice awl m7 cwl)) b9 #[.int .i64 M7, .slice awl m7 cwl] 24) => K9
  have O9 := O9n
  clear O9n
  generalize ((wl.setCell ⟨b9, 0, none⟩ (.int .i64 M7)).setCell ⟨b9, 1, none⟩ (.slice awl m7 cwl)) = Xwl at *
  have d0 := K0.out.cell
  have l0 := K0.out.lt
  have d1 := K1.out.cell
  have l1 := K1.out.lt
  have d7 := K7.out.cell
  have l7 := K7.out.lt
  have d9 := K9.out.cell
  have l9 := K9.out.lt
  have SM := same_os (M := M7) O7.out O9.out
  have hE7 : ((E7 : Int) == E7) = true := by simp
  go_wp2_with (go_at_call 13; (with_reducible refine SM.mono ?_); rintro e wm ⟨rfl, hN⟩)
  go_ret
  exact ⟨rfl, btr HB.out hN⟩
end Go.Proofs.Ytinkdonaedoojaa
