/-
  linear.From.
-/
import Derived.Test.YtinkdonaedoojaaF2
namespace Go.Proofs.Ytinkdonaedoojaa
open Go.RowKit

set_option maxHeartbeats 4000000 in
set_option maxRecDepth 100000 in
theorem from_any (c : CL.Ci) (a : Option Addr) (cp : Nat) (A : Nat → Option Addr) (C : Nat → Nat) (w : World) (H : CL.OS w a cp c.ops A C) :
    Calls Try.prog 22 #[CL.civ c a cp] w fun e w' => LR w w' e (frR c).1 (frR c).2.1 (frR c).2.2.1 (frR c).2.2.2 := by
  have CK := fun w1 h => CL.check_any c a cp A C w1 h
  have HB0 := hid (bal (bal (Below.refl w.heap.size w) (.cells (CL.cic c a cp) 50)) (.cells zl 24))
  have HK0 := hid ((bk_new w (CL.cic c a cp) 50).alloc (.cells zl 24))
  have HK1 := hid (bk_box1 (w := w) (cs := CL.cic c a cp) (T := 50) zl 24)
  have HO := hid H
  by_cases hE : (CL.lk c).2.2 ≠ 0
  · have eR : frR c = frE (CL.lk c).2.2 := by unfold frR; rw [if_pos hE]
    rw [eR]
    clear eR H
    have hE1 : (((CL.lk c).2.2 : Int) != 0) = true := bne_iff_ne.2 (by omega)
    generalize (CL.lk c).2.2 = E at *
    generalize (CL.lk c).1 = E1 at *
    go_enter Try.func22, Try.ntmps22
    go_wp2_with (go_at_call 35; (with_reducible refine (CK _ (HO.out.below HB0.out)).mono ?_); rintro e w1 ⟨rfl, hN⟩; (have K1 := bk_on HK1.out hN); (have s4 := K1.cell); (have s5 := K1.lt); (have s6 := K1.free))
    have HB3 := btr HB0.out hN
    obtain ⟨q0, q1⟩ := two_set K1 (.int .i64 0) (.slice none 0 0)
    exact bodyPost_ret (v := .tuple #[.agg #[.int .i64 0, .slice none 0 0], .int .i64 E]) (by simp [results, Try.results22, go_sem, q0, q1]) rfl (lr_zero _ (bset (bset HB3 (w.heap.size + 1) 0 _ (by omega)) (w.heap.size + 1) 1 _ (by omega)))
  have hE0 : (CL.lk c).2.2 = 0 := by omega
  obtain ⟨z1, z2, z3⟩ := lk_ok hE0
  have HR : Hid (frR c = frG c.q (frF c.ops (fun i => 2 ^ i))) := by show _ = _; unfold frR; rw [if_neg hE]
  generalize frR c = R at *
  have HT := hid z3
  have hl := H.l
  obtain ⟨q, b, os⟩ := c
  simp only at z1 z2 hl
  obtain ⟨n, rfl⟩ := Int.eq_ofNat_of_zero_le z1
  have hn : n ≤ 64 := by omega
  rw [hE0] at CK
  generalize (CL.lk ⟨(n : Int), b, os⟩).1 = E1 at *
  have EY := fun w => eyeR_any n w hn
  clear H hE hE0 z1 z2 z3
  simp only [Int.toNat_natCast] at HT
  go_enter Try.func22, Try.ntmps22
  go_upto_region 4 with (go_at_call 35; (with_reducible refine (CK _ (HO.out.below HB0.out)).mono ?_); rintro e w1 ⟨rfl, hN⟩)
  have HB1 := hid (btr HB0.out hN)
  have K0 := hid (bk_on HK0.out hN)
  have K1 := hid (bk_on HK1.out hN)
  clear HB0 HK0 HK1 hN CK
  have d0 := K0.out.cell
  have l0 := K0.out.lt
  have hz1 : w.heap.size + 1 < w1.heap.size := K1.out.lt
  go_upto_region 5 with (go_at_call 28; (with_reducible refine (EY _).mono ?_); rintro e w2 ⟨rfl, hO, hN⟩)
  have HB2 := hid (btr HB1.out hN)
  replace K0 := hid (bk_on K0.out hN)
  replace K1 := hid (bk_on K1.out hN)
  have HOR := hid hO
  clear HB1 hN EY d0 l0 hO
  generalize w1.heap.size = g at *
  have d0 := K0.out.cell
  have l0 := K0.out.lt
  have HF : Hid (frF os (fun i => 2 ^ i) = frF (os.drop 0) (fun i => 2 ^ i)) := by show _ = _; rw [List.drop_zero]
  generalize frF os (fun i => 2 ^ i) = G at *
  go_wp2
  go_loopw [24] (fun v24 wx => ∃ (k : Nat) (f : Nat → Nat), k ≤ os.length ∧ v24 = .int .i64 k ∧ Hid (BK wx w.heap.size (CL.cic ⟨(n : Int), b, os⟩ a cp) 50) ∧ Hid (BK wx (w.heap.size + 1) zl 24) ∧ Hid (OR wx g n f) ∧ Hid (Below w.heap.size w wx) ∧ Hid (G = frF (os.drop k) f)) (fun v24 _ => os.length - (intOf v24).toNat)
  case atStart => exact ⟨0, _, Nat.zero_le _, rfl, K0, K1, HOR, HB2, HF⟩
  case round =>
    clear K0 K1 HOR HB2 HF d0 l0
    obtain ⟨k, f, hk, rfl, K0, K1, HOR, HB, HF⟩ := hrel
    have d0 := K0.out.cell
    have l0 := K0.out.lt
    have d1 := K1.out.cell
    have l1 := K1.out.lt
    have f1 := K1.out.free
    by_cases hlt : k < os.length
    case neg =>
      obtain rfl : k = os.length := by omega
      obtain rfl : G = some f := by rw [HF.out, List.drop_of_length_le (Nat.le_refl _)]; rfl
      obtain rfl : R = ((n : Int), n, f, (0 : Int)) := HR.out
      have hO3 := HOR.out
      obtain ⟨q0, q1⟩ := two_set K1.out (.int .i64 (n : Int)) (.slice (some ⟨g, 0, none⟩) n n)
      go_wp2
      exact bodyPost_ret (v := .tuple #[.agg #[.int .i64 (n : Int), .slice (some ⟨g, 0, none⟩) n n], .int .i64 0]) (by simp [results, Try.results22, go_sem, q0, q1]) rfl (lr_end (OS.of hO3 (Nat.le_refl _) (by omega) (by omega)) K1.out (by omega) HB.out)
    have hO := HO.out.below HB.out
    obtain ⟨b', o', rfl, r⟩ := hO.at_ k hlt
    have hQ := hO.qs k hlt
    have hT := HT.out os[k] (List.getElem_mem hlt)
    have m0 := r.c0 k hlt
    have m1 := r.c1 k hlt
    have m2 := r.c2 k hlt
    have m3 := r.c3 k hlt
    have m4 := r.c4 k hlt
    have m5 := r.c5 k hlt
    have m6 := r.c6 k hlt
    have hbl := r.lt
    have hF2 := HF.out
    rw [fr_drop hlt] at hF2
    clear r hO HF
    generalize os[k] = o at *
    generalize A k = ak at *
    generalize C k = ck at *
    have HQ := hid hQ
    have HF2 := hid hF2
    have HTo := hid hT
    clear hQ hF2 hT
    have hgl := HOR.out.gl
    by_cases hkb : kB o = true
    · have HF3 : Hid (G = frF (os.drop (k + 1)) (tn o f)) := by show _ = _; rw [HF2.out, if_pos hkb]
      have HKB := hid hkb
      clear HF2 hkb
      go_wp2_with (go_at_call 36; (with_reducible refine (turn_any n g n f o ak ck _ (HOR.out.on (bal (Below.refl _ _) _)) (HQ.out.below (bal (Below.refl _ _) _)) HKB.out (HTo.out HKB.out)).mono ?_); rintro e w3 ⟨rfl, hO3, hG3⟩)
      have hA : Below wr.heap.size wr (wr.alloc (.cells (CL.opc o ak ck).toArray 58)) := bal (Below.refl _ _) _
      go_roundw
      case rel => exact ⟨k + 1, _, by omega, by go_num, hG3.bk (bk_on K0.out hA) (by omega) (by omega), hG3.bk (bk_on K1.out hA) (by omega) (by omega), hO3, hG3.blw (btr HB.out hA) (by omega) (by omega) (Nat.le_refl _), HF3⟩
      case measure => simp [intOf]; omega
    · obtain rfl : G = none := by rw [HF2.out, if_neg hkb]
      obtain rfl : R = frG (n : Int) none := HR.out
      have HKB := hid hkb
      clear HF2 hkb
      go_wp2_with (go_at_call 36; (with_reducible refine (turn_none o ak ck _ _ HKB.out).mono ?_); rintro e w3 ⟨rfl, hN⟩; (have K2 := bk_on (K1.out.alloc (.cells (CL.opc o ak ck).toArray 58)) hN); (have s4 := K2.cell); (have s5 := K2.lt); (have s6 := K2.free))
      have HB3 := btr (bal HB.out _) hN
      obtain ⟨q0, q1⟩ := two_set K2 (.int .i64 0) (.slice none 0 0)
      exact bodyPost_ret (v := .tuple #[.agg #[.int .i64 0, .slice none 0 0], .int .i64 120]) (by simp [results, Try.results22, go_sem, q0, q1]) rfl (lr_zero _ (bset (bset HB3 (w.heap.size + 1) 0 _ (by omega)) (w.heap.size + 1) 1 _ (by omega)))
end Go.Proofs.Ytinkdonaedoojaa
