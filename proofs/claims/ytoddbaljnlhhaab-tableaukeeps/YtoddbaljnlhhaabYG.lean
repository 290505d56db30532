/-
  Put together of: JO JP.
-/
import Derived.Test.YtoddbaljnlhhaabYF
import Derived.Test.YtoddbaljnlhhaabXK
import Derived.Test.YtoddbaljnlhhaabXU
namespace Go.Proofs.Ytoddbaljnlhhaab
open Go.RowKit Go.Sort
open PL (pv PS bt cgk cgT)
open BL (pickN putN)

theorem ron_l (N j l : Nat) (f : Int) (w : World) (hN : N ≤ 64) (hj : j < N) (hl : l = 88 ∨ l = 89 ∨ l = 90) :
    Calls Try.prog 22 #[.int .i64 (N : Nat), .int .i64 (j : Nat), .int .u8 (l : Int), .int .i64 f] w fun e w' => e = .returned (pv (N : Nat) (onP N j l 0).x (onP N j l 0).z f) ∧ Below w.heap.size w w' := by
  rcases hl with rfl | rfl | rfl
  · exact ron_any (N : Nat) (j : Nat) 88 (2 ^ j) 0 N f w (fun w => PL.rone_x N j w hN hj)
  · exact ron_any (N : Nat) (j : Nat) 89 (2 ^ j) (2 ^ j) N f w (fun w => PL.rone_y N j w hN hj)
  · exact ron_any (N : Nat) (j : Nat) 90 0 (2 ^ j) N f w (fun w => PL.rone_z N j w hN hj)
section
variable {q : Nat → Int} {n : Nat}
theorem bt_other (h : BL.Plc q 2) {a b : Nat} (ha : a < 2) (hb : b < 2) (hne : a ≠ b) : bt (2 ^ (q a).toNat) (q b).toNat = 0 := by
  rw [PL.bt_pow, if_neg (fun e => hne (plc_inj h ha hb e.symm))]
theorem emb3 (h : BL.Plc q 2) : emb q 2 3 = 2 ^ (q 0).toNat ^^^ 2 ^ (q 1).toNat := by
  have := emb_xor h (2 ^ 0) (2 ^ 1)
  rw [emb_pow h (by decide), emb_pow h (by decide)] at this
  exact this
theorem emb1 (h : BL.Plc q 2) : emb q 2 1 = 2 ^ (q 0).toNat := emb_pow h (m := 0) (by decide)
theorem emb2 (h : BL.Plc q 2) : emb q 2 2 = 2 ^ (q 1).toNat := emb_pow h (m := 1) (by decide)
theorem two_11_0_true (h : BL.Plc q 2) : trP 11 q (gL n (q 0).toNat true) = (gX n (q 0).toNat).mul (gX n (q 1).toNat) := by
  have k := im_two (i := 11) (by decide) (by decide) h (n := n) (m := 0) (by decide) true
  refine k.trans ?_
  have t : PL.lt2 (cgT 11) 2 1 0 0 = (3, 0, 0) := by decide +kernel
  show (⟨n, emb q 2 (PL.lt2 (cgT 11) 2 1 0 0).1, emb q 2 (PL.lt2 (cgT 11) 2 1 0 0).2.1, (PL.lt2 (cgT 11) 2 1 0 0).2.2 % 4⟩ : PS) = _
  rw [t]
  rw [mulX (PL.bt_nought _)]
  exact ps_ext rfl (emb3 h) (emb_nil h) rfl
theorem two_11_1_true (h : BL.Plc q 2) : trP 11 q (gL n (q 1).toNat true) = gX n (q 1).toNat := by
  have k := im_two (i := 11) (by decide) (by decide) h (n := n) (m := 1) (by decide) true
  refine k.trans ?_
  have t : PL.lt2 (cgT 11) 2 2 0 0 = (2, 0, 0) := by decide +kernel
  show (⟨n, emb q 2 (PL.lt2 (cgT 11) 2 2 0 0).1, emb q 2 (PL.lt2 (cgT 11) 2 2 0 0).2.1, (PL.lt2 (cgT 11) 2 2 0 0).2.2 % 4⟩ : PS) = _
  rw [t]
  exact ps_ext rfl (emb2 h) (emb_nil h) rfl
theorem two_11_0_false (h : BL.Plc q 2) : trP 11 q (gL n (q 0).toNat false) = gZ n (q 0).toNat := by
  have k := im_two (i := 11) (by decide) (by decide) h (n := n) (m := 0) (by decide) false
  refine k.trans ?_
  have t : PL.lt2 (cgT 11) 2 0 1 0 = (0, 1, 0) := by decide +kernel
  show (⟨n, emb q 2 (PL.lt2 (cgT 11) 2 0 1 0).1, emb q 2 (PL.lt2 (cgT 11) 2 0 1 0).2.1, (PL.lt2 (cgT 11) 2 0 1 0).2.2 % 4⟩ : PS) = _
  rw [t]
  exact ps_ext rfl (emb_nil h) (emb1 h) rfl
theorem two_11_1_false (h : BL.Plc q 2) : trP 11 q (gL n (q 1).toNat false) = (gZ n (q 1).toNat).mul (gZ n (q 0).toNat) := by
  have k := im_two (i := 11) (by decide) (by decide) h (n := n) (m := 1) (by decide) false
  refine k.trans ?_
  have t : PL.lt2 (cgT 11) 2 0 2 0 = (0, 3, 0) := by decide +kernel
  show (⟨n, emb q 2 (PL.lt2 (cgT 11) 2 0 2 0).1, emb q 2 (PL.lt2 (cgT 11) 2 0 2 0).2.1, (PL.lt2 (cgT 11) 2 0 2 0).2.2 % 4⟩ : PS) = _
  rw [t]
  rw [mulZ0 (PL.bt_nought _)]
  exact ps_ext rfl (emb_nil h) ((emb3 h).trans (Nat.xor_comm _ _)) rfl
theorem two_13_0_true (h : BL.Plc q 2) : trP 13 q (gL n (q 0).toNat true) = (gX n (q 0).toNat).mul (gZ n (q 1).toNat) := by
  have k := im_two (i := 13) (by decide) (by decide) h (n := n) (m := 0) (by decide) true
  refine k.trans ?_
  have t : PL.lt2 (cgT 13) 2 1 0 0 = (1, 2, 0) := by decide +kernel
  show (⟨n, emb q 2 (PL.lt2 (cgT 13) 2 1 0 0).1, emb q 2 (PL.lt2 (cgT 13) 2 1 0 0).2.1, (PL.lt2 (cgT 13) 2 1 0 0).2.2 % 4⟩ : PS) = _
  rw [t]
  rw [mulZ0 (bt_other h (a := 0) (b := 1) (by decide) (by decide) (by decide))]
  exact ps_ext rfl (emb1 h) ((emb2 h).trans (Nat.zero_xor _).symm) rfl
theorem two_13_1_true (h : BL.Plc q 2) : trP 13 q (gL n (q 1).toNat true) = (gX n (q 1).toNat).mul (gZ n (q 0).toNat) := by
  have k := im_two (i := 13) (by decide) (by decide) h (n := n) (m := 1) (by decide) true
  refine k.trans ?_
  have t : PL.lt2 (cgT 13) 2 2 0 0 = (2, 1, 0) := by decide +kernel
  show (⟨n, emb q 2 (PL.lt2 (cgT 13) 2 2 0 0).1, emb q 2 (PL.lt2 (cgT 13) 2 2 0 0).2.1, (PL.lt2 (cgT 13) 2 2 0 0).2.2 % 4⟩ : PS) = _
  rw [t]
  rw [mulZ0 (bt_other h (a := 1) (b := 0) (by decide) (by decide) (by decide))]
  exact ps_ext rfl (emb2 h) ((emb1 h).trans (Nat.zero_xor _).symm) rfl
theorem two_13_0_false (h : BL.Plc q 2) : trP 13 q (gL n (q 0).toNat false) = gZ n (q 0).toNat := by
  have k := im_two (i := 13) (by decide) (by decide) h (n := n) (m := 0) (by decide) false
  refine k.trans ?_
  have t : PL.lt2 (cgT 13) 2 0 1 0 = (0, 1, 0) := by decide +kernel
  show (⟨n, emb q 2 (PL.lt2 (cgT 13) 2 0 1 0).1, emb q 2 (PL.lt2 (cgT 13) 2 0 1 0).2.1, (PL.lt2 (cgT 13) 2 0 1 0).2.2 % 4⟩ : PS) = _
  rw [t]
  exact ps_ext rfl (emb_nil h) (emb1 h) rfl
theorem two_13_1_false (h : BL.Plc q 2) : trP 13 q (gL n (q 1).toNat false) = gZ n (q 1).toNat := by
  have k := im_two (i := 13) (by decide) (by decide) h (n := n) (m := 1) (by decide) false
  refine k.trans ?_
  have t : PL.lt2 (cgT 13) 2 0 2 0 = (0, 2, 0) := by decide +kernel
  show (⟨n, emb q 2 (PL.lt2 (cgT 13) 2 0 2 0).1, emb q 2 (PL.lt2 (cgT 13) 2 0 2 0).2.1, (PL.lt2 (cgT 13) 2 0 2 0).2.2 % 4⟩ : PS) = _
  rw [t]
  exact ps_ext rfl (emb_nil h) (emb2 h) rfl
theorem two_14_0_true (h : BL.Plc q 2) : trP 14 q (gL n (q 0).toNat true) = gX n (q 1).toNat := by
  have k := im_two (i := 14) (by decide) (by decide) h (n := n) (m := 0) (by decide) true
  refine k.trans ?_
  have t : PL.lt2 (cgT 14) 2 1 0 0 = (2, 0, 0) := by decide +kernel
  show (⟨n, emb q 2 (PL.lt2 (cgT 14) 2 1 0 0).1, emb q 2 (PL.lt2 (cgT 14) 2 1 0 0).2.1, (PL.lt2 (cgT 14) 2 1 0 0).2.2 % 4⟩ : PS) = _
  rw [t]
  exact ps_ext rfl (emb2 h) (emb_nil h) rfl
theorem two_14_1_true (h : BL.Plc q 2) : trP 14 q (gL n (q 1).toNat true) = gX n (q 0).toNat := by
  have k := im_two (i := 14) (by decide) (by decide) h (n := n) (m := 1) (by decide) true
  refine k.trans ?_
  have t : PL.lt2 (cgT 14) 2 2 0 0 = (1, 0, 0) := by decide +kernel
  show (⟨n, emb q 2 (PL.lt2 (cgT 14) 2 2 0 0).1, emb q 2 (PL.lt2 (cgT 14) 2 2 0 0).2.1, (PL.lt2 (cgT 14) 2 2 0 0).2.2 % 4⟩ : PS) = _
  rw [t]
  exact ps_ext rfl (emb1 h) (emb_nil h) rfl
theorem two_14_0_false (h : BL.Plc q 2) : trP 14 q (gL n (q 0).toNat false) = gZ n (q 1).toNat := by
  have k := im_two (i := 14) (by decide) (by decide) h (n := n) (m := 0) (by decide) false
  refine k.trans ?_
  have t : PL.lt2 (cgT 14) 2 0 1 0 = (0, 2, 0) := by decide +kernel
  show (⟨n, emb q 2 (PL.lt2 (cgT 14) 2 0 1 0).1, emb q 2 (PL.lt2 (cgT 14) 2 0 1 0).2.1, (PL.lt2 (cgT 14) 2 0 1 0).2.2 % 4⟩ : PS) = _
  rw [t]
  exact ps_ext rfl (emb_nil h) (emb2 h) rfl
theorem two_14_1_false (h : BL.Plc q 2) : trP 14 q (gL n (q 1).toNat false) = gZ n (q 0).toNat := by
  have k := im_two (i := 14) (by decide) (by decide) h (n := n) (m := 1) (by decide) false
  refine k.trans ?_
  have t : PL.lt2 (cgT 14) 2 0 2 0 = (0, 1, 0) := by decide +kernel
  show (⟨n, emb q 2 (PL.lt2 (cgT 14) 2 0 2 0).1, emb q 2 (PL.lt2 (cgT 14) 2 0 2 0).2.1, (PL.lt2 (cgT 14) 2 0 2 0).2.2 % 4⟩ : PS) = _
  rw [t]
  exact ps_ext rfl (emb_nil h) (emb1 h) rfl
end
end Go.Proofs.Ytoddbaljnlhhaab
namespace Go.Proofs.Ytoddbaljnlhhaab
open Go.RowKit Go.Sort
open PL (pv PS bt cgk cgT)
open BL (pickN putN)

theorem plA_l : ∀ i, i < 11 → ∀ x : Bool, (plA i x).1 = 88 ∨ (plA i x).1 = 89 ∨ (plA i x).1 = 90 := by decide +kernel
theorem gL_v (N j : Nat) (x : Bool) : (gL N j x).v = pv (N : Nat) (onP N j (if x = true then 88 else 90) 0).x (onP N j (if x = true then 88 else 90) 0).z (0 : Nat) := by cases x <;> rfl
set_option maxHeartbeats 2000000 in
set_option maxRecDepth 100000 in
theorem rim1 (i : Nat) (hi : i < 11) (N j : Nat) (hN : N ≤ 64) (hj : j < N) (x : Bool) (q : Nat → Int) (aq : Option Addr) (cq : Nat) (w : World) (HQ : BL.Row aq q 1 w) (hP : BL.Plc q (cgk i)) (hq : 0 ≤ q 0) (_hcq : 1 ≤ cq) :
    Calls Try.prog 40 #[.int .i64 (N : Nat), .string (cgN i), .slice aq 1 cq, .int .i64 (j : Nat), .bool x] w fun e w' => e = .returned (trP i q (gL N j x)).v ∧ Below w.heap.size w w' := by
  have hk : cgk i = 1 := (tab1 i hi).1
  obtain ⟨a, ha⟩ := Int.eq_ofNat_of_zero_le hq
  have hon := fun w f => ron_l N j (if x = true then 88 else 90) f w hN hj (by cases x <;> simp)
  have hon2 := fun w => ron_l N j (plA i x).1 ((plA i x).2 : Nat) w hN hj (plA_l i hi x)
  have hpl := fun w => rplain_any i hi x w
  obtain ⟨b, o, rfl, hc⟩ := HQ.at_ 0 (by omega)
  rw [Nat.add_zero, ha] at hc
  have hbl := block_lt_of_cell hc
  have HC := hid (fun W (hb : Below w.heap.size w W) => (hb.cell (p := ⟨b, o, none⟩) hbl).trans hc)
  by_cases e : a = j
  · have hR : (trP i q (gL N j x)).v = pv (N : Nat) (onP N j (plA i x).1 (plA i x).2).x (onP N j (plA i x).1 (plA i x).2).z ((plA i x).2 : Nat) := by
      have h := im_one hi hP (n := N) x
      rw [show (q 0).toNat = j by omega] at h
      rw [h]
      rfl
    rw [hR]
    have hx0 : (onP N j (plA i x).1 (plA i x).2).x = (onP N j (plA i x).1 0).x := rfl
    have hz0 : (onP N j (plA i x).1 (plA i x).2).z = (onP N j (plA i x).1 0).z := rfl
    rw [hx0, hz0]
    clear hR hx0 hz0 HQ hP hq hc
    have hjj : ((a : Int) != (j : Int)) = false := by rw [e]; exact bne_self_eq_false' _
    generalize (onP N j (plA i x).1 0).x = X2 at *
    generalize (onP N j (plA i x).1 0).z = Z2 at *
    generalize (plA i x).1 = L2 at *
    generalize (plA i x).2 = F2 at *
    generalize cgN i = nm at *
    clear e
    cases x
    all_goals
      simp only [Bool.false_eq_true, if_true, if_false] at hon
      generalize (onP N j _ 0).x = X1 at hon
      generalize (onP N j _ 0).z = Z1 at hon
      have P10 := hid (PL.PB.new w 0 0 0 0)
      have HB := hid (bal (Below.refl w.heap.size w) (PL.pc 0 0 0 0))
      go_enter Try.func40, Try.ntmps40
      go_wp2_with (go_at_call 22; refine Hid.out ?_)
      refine hid ?_
      refine (hon _ _).mono ?_
      rintro e w1 ⟨rfl, hN1⟩
      have P12 := hid (PL.PB.new w1 (N : Nat) X1 Z1 0)
      have hA := bal (Below.refl w1.heap.size w1) (PL.pc (N : Nat) X1 Z1 0)
      replace P10 := hid (P10.out.below (btr hN1 hA))
      replace HB := hid (btr HB.out (btr hN1 hA))
      have c0 := HC.out _ HB.out
      clear hA hN1
      go_wp2_with (first
        | (go_at_call 63; (with_reducible refine (hpl _).mono ?_); rintro e w2 ⟨rfl, rfl⟩)
        | (go_at_call 22; refine Hid.out ?_))
      refine hid ?_
      refine (hon2 _).mono ?_
      rintro e w3 ⟨rfl, hN3⟩
      replace P10 := hid (P10.out.below hN3)
      replace HB := hid (btr HB.out hN3)
      obtain ⟨y0, y1, y2, y3, z0, z1, z2, z3⟩ := P10.out
      have yl := P10.out.lt
      have r := (((P10.out.set0 (N : Nat)).set1 X2).set2 Z2).set3 (F2 : Nat)
      obtain ⟨q0, q1, q2, q3, _, _, _, _⟩ := r
      have HBf := hid (bset (bset (bset (bset HB.out w.heap.size 0 (.int .i64 (N : Int)) (Nat.le_refl _)) w.heap.size 1 (.int .u64 (X2 : Int)) (Nat.le_refl _)) w.heap.size 2 (.int .u64 (Z2 : Int)) (Nat.le_refl _)) w.heap.size 3 (.int .i64 (F2 : Int)) (Nat.le_refl _))
      go_wp2
      exact bodyPost_ret (v := pv (N : Nat) X2 Z2 (F2 : Nat)) (by simp [results, Try.results40, go_sem, q0, q1, q2, q3]) rfl ⟨rfl, HBf.out⟩
  · have hR : trP i q (gL N j x) = gL N j x := trP_gen_off x (fun m hm => by
      rw [hk] at hm
      obtain rfl : m = 0 := by omega
      omega)
    rw [hR, gL_v]
    clear hR HQ hP hq hc hon2 hpl
    have hjj : ((a : Int) != (j : Int)) = true := bne_iff_ne.2 (by omega)
    generalize cgN i = nm at *
    clear e
    cases x
    all_goals
      simp only [Bool.false_eq_true, if_true, if_false] at hon ⊢
      generalize (onP N j _ 0).x = X1 at *
      generalize (onP N j _ 0).z = Z1 at *
      have P10 := hid (PL.PB.new w 0 0 0 0)
      have HB := hid (bal (Below.refl w.heap.size w) (PL.pc 0 0 0 0))
      go_enter Try.func40, Try.ntmps40
      go_wp2_with (go_at_call 22; refine Hid.out ?_)
      refine hid ?_
      refine (hon _ _).mono ?_
      rintro e w1 ⟨rfl, hN1⟩
      have P12 := hid (PL.PB.new w1 (N : Nat) X1 Z1 0)
      have hA := bal (Below.refl w1.heap.size w1) (PL.pc (N : Nat) X1 Z1 0)
      replace P10 := hid (P10.out.below (btr hN1 hA))
      replace HB := hid (btr HB.out (btr hN1 hA))
      have c0 := HC.out _ HB.out
      clear hA hN1
      obtain ⟨u0, u1, u2, u3, _, _, _, _⟩ := P12.out
      obtain ⟨y0, y1, y2, y3, z0, z1, z2, z3⟩ := P10.out
      have yl := P10.out.lt
      have ul := P12.out.lt
      have r := (((P10.out.set0 (N : Nat)).set1 X1).set2 Z1).set3 0
      obtain ⟨q0, q1, q2, q3, _, _, _, _⟩ := r
      have HBf := hid (bset (bset (bset (bset HB.out w.heap.size 0 (.int .i64 (N : Int)) (Nat.le_refl _)) w.heap.size 1 (.int .u64 (X1 : Int)) (Nat.le_refl _)) w.heap.size 2 (.int .u64 (Z1 : Int)) (Nat.le_refl _)) w.heap.size 3 (.int .i64 0) (Nat.le_refl _))
      go_wp2
      exact bodyPost_ret (v := pv (N : Nat) X1 Z1 (0 : Nat)) (by simp [results, Try.results40, go_sem, q0, q1, q2, q3]) rfl ⟨rfl, HBf.out⟩
end Go.Proofs.Ytoddbaljnlhhaab
