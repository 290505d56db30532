/-
  Put together of: H0 H1 H2.
-/
import Derived.Test.YtoddbaljnlhhaaaXC
import Derived.Test.YtoddbaljnlhhaaaXA
import Derived.Test.YtoddbaljnlhhaaaXD
namespace Go.Proofs.Ytoddbaljnlhhaaa
open Go.RowKit Go.Sort
open PL (pv PS bt cgk cgT cgB)

set_option maxHeartbeats 2000000 in
set_option maxRecDepth 100000 in
theorem back_AAb (t : Tb) (a : Option Addr) (c : Nat) (s : ByteArray) (aq : Option Addr) (m cq : Nat) (Q bit : Int) (w : World) (H : TS w a c t.rows) (hR : ¬ Rt t) :
    Calls Try.prog 7 #[t.v a c, .string s, .slice aq m cq, .int .i64 Q, .int .i64 bit] w fun e w' => e = .returned (.bool true) ∧ Below w.heap.size w w' := by
  have AW := hid (fun w' => awake_any w')
  have AP := hid (fun w' (h' : Below w.heap.size w w') => apply_bad t a c s aq m cq w' (H.below h') hR)
  have CE := hid (fun w' (h' : Below w.heap.size w w') => certain_f t a c Q w' (H.below h') hR)
  have PR := hid (fun w' (h' : Below w.heap.size w w') => project_f t a c Q bit w' (H.below h') hR)
  have HB0 := hid (bal (Below.refl w.heap.size w) (.cells #[.int .i64 t.n, .slice a t.rows.length c] 24))
  have K5 := hid (bk_new w #[.int .i64 t.n, .slice a t.rows.length c] 24)
  clear H hR
  obtain ⟨n, rs⟩ := t
  simp only at *
  go_enter Try.func7, Try.ntmps7
  go_wp2_with (go_at_call 9; refine Hid.out ?_)
  refine hid ?_
  refine (AW.out _).mono ?_
  rintro e w1 ⟨rfl, hB1⟩
  have HB1 := hid (btr HB0.out hB1)
  have K5_1 := hid (bk_on K5.out hB1)
  have dK51 := K5_1.out.cell
  have fK51 := K5_1.out.free
  have lK51 := K5_1.out.lt
  go_wp2_with (go_at_call 22; refine Hid.out ?_)
  refine hid ?_
  refine (AP.out _ HB1.out).mono ?_
  rintro e w2 ⟨rfl, hB2⟩
  have HB2 := hid (btr HB1.out hB2)
  have K5_2 := hid (bk_on K5_1.out hB2)
  have B11_0 := hid (bk_new w2 #[.int .i64 0, .slice none 0 0] 24)
  have HAB11 := hid (bal HB2.out (.cells #[.int .i64 0, .slice none 0 0] 24))
  have hstepB11 := bal (Below.refl w2.heap.size w2) (.cells #[.int .i64 0, .slice none 0 0] 24)
  have K5_aB11 := hid ((K5_2.out).alloc (.cells #[.int .i64 0, .slice none 0 0] 24))
  have dK52 := K5_aB11.out.cell
  have fK52 := K5_aB11.out.free
  have lK52 := K5_aB11.out.lt
  have dB112 := B11_0.out.cell
  have fB112 := B11_0.out.free
  have lB112 := B11_0.out.lt
  go_wp2_with (go_at_call 15; refine Hid.out ?_)
  refine hid ?_
  refine (CE.out _ HAB11.out).mono ?_
  rintro e w3 ⟨rfl, hB3⟩
  have HB3 := hid (btr HAB11.out hB3)
  have K5_3 := hid (bk_on K5_aB11.out hB3)
  have B11_3 := hid (bk_on B11_0.out hB3)
  unfold fndV
  have dK53 := K5_3.out.cell
  have fK53 := K5_3.out.free
  have lK53 := K5_3.out.lt
  have dB113 := B11_3.out.cell
  have fB113 := B11_3.out.free
  have lB113 := B11_3.out.lt
  go_wp2_with (go_at_call 24; refine Hid.out ?_)
  refine hid ?_
  refine (PR.out _ HB3.out).mono ?_
  rintro e w4 ⟨rfl, hB4⟩
  have HB4 := hid (btr HB3.out hB4)
  have K5_4 := hid (bk_on K5_3.out hB4)
  have B11_4 := hid (bk_on B11_3.out hB4)
  have dK54 := K5_4.out.cell
  have fK54 := K5_4.out.free
  have lK54 := K5_4.out.lt
  have dB114 := B11_4.out.cell
  have fB114 := B11_4.out.free
  have lB114 := B11_4.out.lt
  have hw2 : w.heap.size ≤ w2.heap.size := (btr HB1.out hB2).size
  have HBS := hid (bset (bset HB4.out w2.heap.size 0 (.int .i64 0) hw2) w2.heap.size 1 (.slice none 0 0) hw2)
  go_wp2
  go_ret
  exact ⟨rfl, HBS.out⟩
set_option maxHeartbeats 2000000 in
set_option maxRecDepth 100000 in
theorem back_BZb (t : Tb) (a : Option Addr) (c : Nat) (s : ByteArray) (q : Nat → Int) (aq : Option Addr) (m cq : Nat) (Q bit : Int) (w : World) (H : TS w a c t.rows) (HQ : BL.Row aq q m w) (hm : m ≤ cq) (hc : cq ≤ 9223372036854775807) (hR : Rt t) (hE : gE t.n s q m ≠ 0) (o e f : Int) (is : Bool) (T : Tb) (hC : fndT t Q = (o, is, e)) (hP : prjT t Q bit = (T, f)) (hf : f ≠ 0) (he : e ≠ 0) :
    Calls Try.prog 7 #[t.v a c, .string s, .slice aq m cq, .int .i64 Q, .int .i64 bit] w fun e w' => e = .returned (.bool true) ∧ Below w.heap.size w w' := by
  have AW := hid (fun w' => awake_any w')
  have AP := hid (fun w' (h' : Below w.heap.size w w') => apply_no t a c s q aq m cq w' (H.below h') hR (HQ.below h') hm hc hE)
  have hE' : (gE t.n s q m == 0) = false := beq_eq_false_iff_ne.2 hE
  have CE := hid (fun w' (h' : Below w.heap.size w w') => certain_t t a c Q w' (H.below h') hR)
  have PR := hid (fun w' (h' : Below w.heap.size w w') => project_t t a c Q bit w' (H.below h') hR)
  rw [hC] at CE
  rw [hP] at PR
  have hf' : (f != 0) = true := bne_iff_ne.2 hf
  have he' : (e != 0) = true := bne_iff_ne.2 he
  clear hC hP hf
  generalize gE t.n s q m = ge at *
  have HB0 := hid (bal (Below.refl w.heap.size w) (.cells #[.int .i64 t.n, .slice a t.rows.length c] 24))
  have K5 := hid (bk_new w #[.int .i64 t.n, .slice a t.rows.length c] 24)
  clear H HQ hR hE
  obtain ⟨n, rs⟩ := t
  simp only at *
  go_enter Try.func7, Try.ntmps7
  go_wp2_with (go_at_call 9; refine Hid.out ?_)
  refine hid ?_
  refine (AW.out _).mono ?_
  rintro e w1 ⟨rfl, hB1⟩
  have HB1 := hid (btr HB0.out hB1)
  have K5_1 := hid (bk_on K5.out hB1)
  have dK51 := K5_1.out.cell
  have fK51 := K5_1.out.free
  have lK51 := K5_1.out.lt
  go_wp2_with (go_at_call 22; refine Hid.out ?_)
  refine hid ?_
  refine (AP.out _ HB1.out).mono ?_
  rintro e w2 ⟨rfl, hB2⟩
  have HB2 := hid (btr HB1.out hB2)
  have K5_2 := hid (bk_on K5_1.out hB2)
  have B11_0 := hid (bk_new w2 #[.int .i64 0, .slice none 0 0] 24)
  have HAB11 := hid (bal HB2.out (.cells #[.int .i64 0, .slice none 0 0] 24))
  have hstepB11 := bal (Below.refl w2.heap.size w2) (.cells #[.int .i64 0, .slice none 0 0] 24)
  have K5_aB11 := hid ((K5_2.out).alloc (.cells #[.int .i64 0, .slice none 0 0] 24))
  have dK52 := K5_aB11.out.cell
  have fK52 := K5_aB11.out.free
  have lK52 := K5_aB11.out.lt
  have dB112 := B11_0.out.cell
  have fB112 := B11_0.out.free
  have lB112 := B11_0.out.lt
  go_wp2_with (go_at_call 15; refine Hid.out ?_)
  refine hid ?_
  refine (CE.out _ HAB11.out).mono ?_
  rintro e w3 ⟨rfl, hB3⟩
  have HB3 := hid (btr HAB11.out hB3)
  have K5_3 := hid (bk_on K5_aB11.out hB3)
  have B11_3 := hid (bk_on B11_0.out hB3)
  unfold fndV
  have dK53 := K5_3.out.cell
  have fK53 := K5_3.out.free
  have lK53 := K5_3.out.lt
  have dB113 := B11_3.out.cell
  have fB113 := B11_3.out.free
  have lB113 := B11_3.out.lt
  go_wp2_with (go_at_call 24; refine Hid.out ?_)
  refine hid ?_
  refine (PR.out _ HB3.out).mono ?_
  rintro e w4 ⟨v4, rfl, hO4, hB4⟩
  have HB4 := hid (btr HB3.out hB4)
  have K5_4 := hid (bk_on K5_3.out hB4)
  have B11_4 := hid (bk_on B11_3.out hB4)
  obtain ⟨a4, c4, rfl⟩ := own_shape hO4.own
  obtain ⟨a4', c4', e4, t4⟩ := hO4.ts
  injection e4 with e4a e4b e4c
  subst e4a e4c
  clear e4b
  have TP := hid (t4)
  have dK54 := K5_4.out.cell
  have fK54 := K5_4.out.free
  have lK54 := K5_4.out.lt
  have dB114 := B11_4.out.cell
  have fB114 := B11_4.out.free
  have lB114 := B11_4.out.lt
  have hw2 : w.heap.size ≤ w2.heap.size := (btr HB1.out hB2).size
  have HBS := hid (bset (bset HB4.out w2.heap.size 0 (.int .i64 T.n) hw2) w2.heap.size 1 (.slice a4 T.rows.length c4) hw2)
  go_wp2
  go_ret
  exact ⟨rfl, HBS.out⟩
set_option maxHeartbeats 2000000 in
set_option maxRecDepth 100000 in
theorem back_BYb (t : Tb) (a : Option Addr) (c : Nat) (s : ByteArray) (q : Nat → Int) (aq : Option Addr) (m cq : Nat) (Q bit : Int) (w : World) (H : TS w a c t.rows) (HQ : BL.Row aq q m w) (hm : m ≤ cq) (hc : cq ≤ 9223372036854775807) (hR : Rt t) (hE : gE t.n s q m ≠ 0) (o e f : Int) (is : Bool) (T : Tb) (hC : fndT t Q = (o, is, e)) (hP : prjT t Q bit = (T, f)) (hf : f ≠ 0) (he : e = 0) (hbb : bit < 0) :
    Calls Try.prog 7 #[t.v a c, .string s, .slice aq m cq, .int .i64 Q, .int .i64 bit] w fun e w' => e = .returned (.bool true) ∧ Below w.heap.size w w' := by
  have AW := hid (fun w' => awake_any w')
  have AP := hid (fun w' (h' : Below w.heap.size w w') => apply_no t a c s q aq m cq w' (H.below h') hR (HQ.below h') hm hc hE)
  have hE' : (gE t.n s q m == 0) = false := beq_eq_false_iff_ne.2 hE
  have CE := hid (fun w' (h' : Below w.heap.size w w') => certain_t t a c Q w' (H.below h') hR)
  have PR := hid (fun w' (h' : Below w.heap.size w w') => project_t t a c Q bit w' (H.below h') hR)
  rw [hC] at CE
  rw [hP] at PR
  have hf' : (f != 0) = true := bne_iff_ne.2 hf
  subst he
  clear hC hP hf
  generalize gE t.n s q m = ge at *
  have HB0 := hid (bal (Below.refl w.heap.size w) (.cells #[.int .i64 t.n, .slice a t.rows.length c] 24))
  have K5 := hid (bk_new w #[.int .i64 t.n, .slice a t.rows.length c] 24)
  clear H HQ hR hE
  obtain ⟨n, rs⟩ := t
  simp only at *
  go_enter Try.func7, Try.ntmps7
  go_wp2_with (go_at_call 9; refine Hid.out ?_)
  refine hid ?_
  refine (AW.out _).mono ?_
  rintro e w1 ⟨rfl, hB1⟩
  have HB1 := hid (btr HB0.out hB1)
  have K5_1 := hid (bk_on K5.out hB1)
  have dK51 := K5_1.out.cell
  have fK51 := K5_1.out.free
  have lK51 := K5_1.out.lt
  go_wp2_with (go_at_call 22; refine Hid.out ?_)
  refine hid ?_
  refine (AP.out _ HB1.out).mono ?_
  rintro e w2 ⟨rfl, hB2⟩
  have HB2 := hid (btr HB1.out hB2)
  have K5_2 := hid (bk_on K5_1.out hB2)
  have B11_0 := hid (bk_new w2 #[.int .i64 0, .slice none 0 0] 24)
  have HAB11 := hid (bal HB2.out (.cells #[.int .i64 0, .slice none 0 0] 24))
  have hstepB11 := bal (Below.refl w2.heap.size w2) (.cells #[.int .i64 0, .slice none 0 0] 24)
  have K5_aB11 := hid ((K5_2.out).alloc (.cells #[.int .i64 0, .slice none 0 0] 24))
  have dK52 := K5_aB11.out.cell
  have fK52 := K5_aB11.out.free
  have lK52 := K5_aB11.out.lt
  have dB112 := B11_0.out.cell
  have fB112 := B11_0.out.free
  have lB112 := B11_0.out.lt
  go_wp2_with (go_at_call 15; refine Hid.out ?_)
  refine hid ?_
  refine (CE.out _ HAB11.out).mono ?_
  rintro e w3 ⟨rfl, hB3⟩
  have HB3 := hid (btr HAB11.out hB3)
  have K5_3 := hid (bk_on K5_aB11.out hB3)
  have B11_3 := hid (bk_on B11_0.out hB3)
  unfold fndV
  have dK53 := K5_3.out.cell
  have fK53 := K5_3.out.free
  have lK53 := K5_3.out.lt
  have dB113 := B11_3.out.cell
  have fB113 := B11_3.out.free
  have lB113 := B11_3.out.lt
  go_wp2_with (go_at_call 24; refine Hid.out ?_)
  refine hid ?_
  refine (PR.out _ HB3.out).mono ?_
  rintro e w4 ⟨v4, rfl, hO4, hB4⟩
  have HB4 := hid (btr HB3.out hB4)
  have K5_4 := hid (bk_on K5_3.out hB4)
  have B11_4 := hid (bk_on B11_3.out hB4)
  obtain ⟨a4, c4, rfl⟩ := own_shape hO4.own
  obtain ⟨a4', c4', e4, t4⟩ := hO4.ts
  injection e4 with e4a e4b e4c
  subst e4a e4c
  clear e4b
  have TP := hid (t4)
  have dK54 := K5_4.out.cell
  have fK54 := K5_4.out.free
  have lK54 := K5_4.out.lt
  have dB114 := B11_4.out.cell
  have fB114 := B11_4.out.free
  have lB114 := B11_4.out.lt
  have hw2 : w.heap.size ≤ w2.heap.size := (btr HB1.out hB2).size
  have HBS := hid (bset (bset HB4.out w2.heap.size 0 (.int .i64 T.n) hw2) w2.heap.size 1 (.slice a4 T.rows.length c4) hw2)
  go_wp2
  go_ret
  exact ⟨rfl, HBS.out⟩
set_option maxHeartbeats 2000000 in
set_option maxRecDepth 100000 in
theorem back_BXb (t : Tb) (a : Option Addr) (c : Nat) (s : ByteArray) (q : Nat → Int) (aq : Option Addr) (m cq : Nat) (Q bit : Int) (w : World) (H : TS w a c t.rows) (HQ : BL.Row aq q m w) (hm : m ≤ cq) (hc : cq ≤ 9223372036854775807) (hR : Rt t) (hE : gE t.n s q m ≠ 0) (o e f : Int) (is : Bool) (T : Tb) (hC : fndT t Q = (o, is, e)) (hP : prjT t Q bit = (T, f)) (hf : f ≠ 0) (he : e = 0) (hbb : 1 < bit) :
    Calls Try.prog 7 #[t.v a c, .string s, .slice aq m cq, .int .i64 Q, .int .i64 bit] w fun e w' => e = .returned (.bool true) ∧ Below w.heap.size w w' := by
  have AW := hid (fun w' => awake_any w')
  have AP := hid (fun w' (h' : Below w.heap.size w w') => apply_no t a c s q aq m cq w' (H.below h') hR (HQ.below h') hm hc hE)
  have hE' : (gE t.n s q m == 0) = false := beq_eq_false_iff_ne.2 hE
  have CE := hid (fun w' (h' : Below w.heap.size w w') => certain_t t a c Q w' (H.below h') hR)
  have PR := hid (fun w' (h' : Below w.heap.size w w') => project_t t a c Q bit w' (H.below h') hR)
  rw [hC] at CE
  rw [hP] at PR
  have hf' : (f != 0) = true := bne_iff_ne.2 hf
  subst he
  have hb2 : ¬ bit < 0 := by omega
  clear hC hP hf
  generalize gE t.n s q m = ge at *
  have HB0 := hid (bal (Below.refl w.heap.size w) (.cells #[.int .i64 t.n, .slice a t.rows.length c] 24))
  have K5 := hid (bk_new w #[.int .i64 t.n, .slice a t.rows.length c] 24)
  clear H HQ hR hE
  obtain ⟨n, rs⟩ := t
  simp only at *
  go_enter Try.func7, Try.ntmps7
  go_wp2_with (go_at_call 9; refine Hid.out ?_)
  refine hid ?_
  refine (AW.out _).mono ?_
  rintro e w1 ⟨rfl, hB1⟩
  have HB1 := hid (btr HB0.out hB1)
  have K5_1 := hid (bk_on K5.out hB1)
  have dK51 := K5_1.out.cell
  have fK51 := K5_1.out.free
  have lK51 := K5_1.out.lt
  go_wp2_with (go_at_call 22; refine Hid.out ?_)
  refine hid ?_
  refine (AP.out _ HB1.out).mono ?_
  rintro e w2 ⟨rfl, hB2⟩
  have HB2 := hid (btr HB1.out hB2)
  have K5_2 := hid (bk_on K5_1.out hB2)
  have B11_0 := hid (bk_new w2 #[.int .i64 0, .slice none 0 0] 24)
  have HAB11 := hid (bal HB2.out (.cells #[.int .i64 0, .slice none 0 0] 24))
  have hstepB11 := bal (Below.refl w2.heap.size w2) (.cells #[.int .i64 0, .slice none 0 0] 24)
  have K5_aB11 := hid ((K5_2.out).alloc (.cells #[.int .i64 0, .slice none 0 0] 24))
  have dK52 := K5_aB11.out.cell
  have fK52 := K5_aB11.out.free
  have lK52 := K5_aB11.out.lt
  have dB112 := B11_0.out.cell
  have fB112 := B11_0.out.free
  have lB112 := B11_0.out.lt
  go_wp2_with (go_at_call 15; refine Hid.out ?_)
  refine hid ?_
  refine (CE.out _ HAB11.out).mono ?_
  rintro e w3 ⟨rfl, hB3⟩
  have HB3 := hid (btr HAB11.out hB3)
  have K5_3 := hid (bk_on K5_aB11.out hB3)
  have B11_3 := hid (bk_on B11_0.out hB3)
  unfold fndV
  have dK53 := K5_3.out.cell
  have fK53 := K5_3.out.free
  have lK53 := K5_3.out.lt
  have dB113 := B11_3.out.cell
  have fB113 := B11_3.out.free
  have lB113 := B11_3.out.lt
  go_wp2_with (go_at_call 24; refine Hid.out ?_)
  refine hid ?_
  refine (PR.out _ HB3.out).mono ?_
  rintro e w4 ⟨v4, rfl, hO4, hB4⟩
  have HB4 := hid (btr HB3.out hB4)
  have K5_4 := hid (bk_on K5_3.out hB4)
  have B11_4 := hid (bk_on B11_3.out hB4)
  obtain ⟨a4, c4, rfl⟩ := own_shape hO4.own
  obtain ⟨a4', c4', e4, t4⟩ := hO4.ts
  injection e4 with e4a e4b e4c
  subst e4a e4c
  clear e4b
  have TP := hid (t4)
  have dK54 := K5_4.out.cell
  have fK54 := K5_4.out.free
  have lK54 := K5_4.out.lt
  have dB114 := B11_4.out.cell
  have fB114 := B11_4.out.free
  have lB114 := B11_4.out.lt
  have hw2 : w.heap.size ≤ w2.heap.size := (btr HB1.out hB2).size
  have HBS := hid (bset (bset HB4.out w2.heap.size 0 (.int .i64 T.n) hw2) w2.heap.size 1 (.slice a4 T.rows.length c4) hw2)
  go_wp2
  go_ret
  exact ⟨rfl, HBS.out⟩
set_option maxHeartbeats 2000000 in
set_option maxRecDepth 100000 in
theorem back_BE0 (t : Tb) (a : Option Addr) (c : Nat) (s : ByteArray) (q : Nat → Int) (aq : Option Addr) (m cq : Nat) (Q bit : Int) (w : World) (H : TS w a c t.rows) (HQ : BL.Row aq q m w) (hm : m ≤ cq) (hc : cq ≤ 9223372036854775807) (hR : Rt t) (hE : gE t.n s q m ≠ 0) (hC : fndT t Q = (bit, true, 0)) (hbit : bit = 0) :
    Calls Try.prog 7 #[t.v a c, .string s, .slice aq m cq, .int .i64 Q, .int .i64 bit] w fun e w' => e = .returned (.bool true) ∧ Below w.heap.size w w' := by
  subst hbit
  have AW := hid (fun w' => awake_any w')
  have AP := hid (fun w' (h' : Below w.heap.size w w') => apply_no t a c s q aq m cq w' (H.below h') hR (HQ.below h') hm hc hE)
  have hE' : (gE t.n s q m == 0) = false := beq_eq_false_iff_ne.2 hE
  have CE := hid (fun w' (h' : Below w.heap.size w w') => certain_t t a c Q w' (H.below h') hR)
  have PR := hid (fun w' (h' : Below w.heap.size w w') => project_t t a c Q 0 w' (H.below h') hR)
  have hP : prjT t Q 0 = (t, 0) := by unfold prjT; rw [hC, if_neg (fun e => e rfl), if_neg (fun e => e (by decide)), if_neg (fun e => by cases (e : true = false)), if_neg (fun e => e rfl)]
  rw [hC] at CE
  rw [hP] at PR
  have EQ := hid (fun a2 c2 w' (h' : Below w.heap.size w w') (h2 : TS w' a2 c2 t.rows) => requal_any t t a2 a c2 c w' h2 (H.below h') true (fun _ => rfl) (fun h => absurd rfl h))
  clear hC hP
  generalize gE t.n s q m = ge at *
  have HB0 := hid (bal (Below.refl w.heap.size w) (.cells #[.int .i64 t.n, .slice a t.rows.length c] 24))
  have K5 := hid (bk_new w #[.int .i64 t.n, .slice a t.rows.length c] 24)
  clear H HQ hR hE
  obtain ⟨n, rs⟩ := t
  simp only at *
  go_enter Try.func7, Try.ntmps7
  go_wp2_with (go_at_call 9; refine Hid.out ?_)
  refine hid ?_
  refine (AW.out _).mono ?_
  rintro e w1 ⟨rfl, hB1⟩
  have HB1 := hid (btr HB0.out hB1)
  have K5_1 := hid (bk_on K5.out hB1)
  have dK51 := K5_1.out.cell
  have fK51 := K5_1.out.free
  have lK51 := K5_1.out.lt
  go_wp2_with (go_at_call 22; refine Hid.out ?_)
  refine hid ?_
  refine (AP.out _ HB1.out).mono ?_
  rintro e w2 ⟨rfl, hB2⟩
  have HB2 := hid (btr HB1.out hB2)
  have K5_2 := hid (bk_on K5_1.out hB2)
  have B11_0 := hid (bk_new w2 #[.int .i64 0, .slice none 0 0] 24)
  have HAB11 := hid (bal HB2.out (.cells #[.int .i64 0, .slice none 0 0] 24))
  have hstepB11 := bal (Below.refl w2.heap.size w2) (.cells #[.int .i64 0, .slice none 0 0] 24)
  have K5_aB11 := hid ((K5_2.out).alloc (.cells #[.int .i64 0, .slice none 0 0] 24))
  have dK52 := K5_aB11.out.cell
  have fK52 := K5_aB11.out.free
  have lK52 := K5_aB11.out.lt
  have dB112 := B11_0.out.cell
  have fB112 := B11_0.out.free
  have lB112 := B11_0.out.lt
  go_wp2_with (go_at_call 15; refine Hid.out ?_)
  refine hid ?_
  refine (CE.out _ HAB11.out).mono ?_
  rintro e w3 ⟨rfl, hB3⟩
  have HB3 := hid (btr HAB11.out hB3)
  have K5_3 := hid (bk_on K5_aB11.out hB3)
  have B11_3 := hid (bk_on B11_0.out hB3)
  unfold fndV
  have dK53 := K5_3.out.cell
  have fK53 := K5_3.out.free
  have lK53 := K5_3.out.lt
  have dB113 := B11_3.out.cell
  have fB113 := B11_3.out.free
  have lB113 := B11_3.out.lt
  go_wp2_with (go_at_call 24; refine Hid.out ?_)
  refine hid ?_
  refine (PR.out _ HB3.out).mono ?_
  rintro e w4 ⟨v4, rfl, hO4, hB4⟩
  have HB4 := hid (btr HB3.out hB4)
  have K5_4 := hid (bk_on K5_3.out hB4)
  have B11_4 := hid (bk_on B11_3.out hB4)
  obtain ⟨a4, c4, rfl⟩ := own_shape hO4.own
  obtain ⟨a4', c4', e4, t4⟩ := hO4.ts
  injection e4 with e4a e4b e4c
  subst e4a e4c
  clear e4b
  have TP := hid (t4)
  have dK54 := K5_4.out.cell
  have fK54 := K5_4.out.free
  have lK54 := K5_4.out.lt
  have dB114 := B11_4.out.cell
  have fB114 := B11_4.out.free
  have lB114 := B11_4.out.lt
  have hw2 : w.heap.size ≤ w2.heap.size := (btr HB1.out hB2).size
  have HBS := hid (bset (bset HB4.out w2.heap.size 0 (.int .i64 n) hw2) w2.heap.size 1 (.slice a4 rs.length c4) hw2)
  have B11S := hid ((B11_4.out.set 0 (.int .i64 n)).set 1 (.slice a4 rs.length c4))
  have hne5 : w2.heap.size ≠ w.heap.size := fun e => by have h1 := K5_1.out.lt; have h2 := hB2.size; omega
  have K5S := hid ((K5_4.out.far hne5 0 (.int .i64 n)).far hne5 1 (.slice a4 rs.length c4))
  have hOS := (hO4.put B11_4.out (by decide) 0 (.int .i64 n)).put (B11_4.out.set 0 (.int .i64 n)) (by decide) 1 (.slice a4 rs.length c4)
  obtain ⟨aS, cS, eS, tS⟩ := hOS.ts
  injection eS with eSa eSb eSc
  subst eSa eSc
  clear eSb
  have TS0 := hid tS
  have dK5S := K5S.out.cell
  have lK5S := K5S.out.lt
  have dB11S := B11S.out.cell
  have fB11S := B11S.out.free
  have lB11S := B11S.out.lt
  go_wp2_with (go_at_call 20; refine Hid.out ?_)
  refine hid ?_
  refine (EQ.out a4 c4 _ HBS.out TS0.out).mono ?_
  rintro e w5 ⟨rfl, hB5⟩
  have HB5 := hid (btr HBS.out hB5)
  have K5_5 := hid (bk_on K5S.out hB5)
  have B11_5 := hid (bk_on B11S.out hB5)
  go_wp2
  go_ret
  exact ⟨rfl, HB5.out⟩
set_option maxHeartbeats 2000000 in
set_option maxRecDepth 100000 in
theorem back_BE1 (t : Tb) (a : Option Addr) (c : Nat) (s : ByteArray) (q : Nat → Int) (aq : Option Addr) (m cq : Nat) (Q bit : Int) (w : World) (H : TS w a c t.rows) (HQ : BL.Row aq q m w) (hm : m ≤ cq) (hc : cq ≤ 9223372036854775807) (hR : Rt t) (hE : gE t.n s q m ≠ 0) (hC : fndT t Q = (bit, true, 0)) (hbit : bit = 1) :
    Calls Try.prog 7 #[t.v a c, .string s, .slice aq m cq, .int .i64 Q, .int .i64 bit] w fun e w' => e = .returned (.bool true) ∧ Below w.heap.size w w' := by
  subst hbit
  have AW := hid (fun w' => awake_any w')
  have AP := hid (fun w' (h' : Below w.heap.size w w') => apply_no t a c s q aq m cq w' (H.below h') hR (HQ.below h') hm hc hE)
  have hE' : (gE t.n s q m == 0) = false := beq_eq_false_iff_ne.2 hE
  have CE := hid (fun w' (h' : Below w.heap.size w w') => certain_t t a c Q w' (H.below h') hR)
  have PR := hid (fun w' (h' : Below w.heap.size w w') => project_t t a c Q 1 w' (H.below h') hR)
  have hP : prjT t Q 1 = (t, 0) := by unfold prjT; rw [hC, if_neg (fun e => e rfl), if_neg (fun e => e (by decide)), if_neg (fun e => by cases (e : true = false)), if_neg (fun e => e rfl)]
  rw [hC] at CE
  rw [hP] at PR
  have EQ := hid (fun a2 c2 w' (h' : Below w.heap.size w w') (h2 : TS w' a2 c2 t.rows) => requal_any t t a2 a c2 c w' h2 (H.below h') true (fun _ => rfl) (fun h => absurd rfl h))
  clear hC hP
  generalize gE t.n s q m = ge at *
  have HB0 := hid (bal (Below.refl w.heap.size w) (.cells #[.int .i64 t.n, .slice a t.rows.length c] 24))
  have K5 := hid (bk_new w #[.int .i64 t.n, .slice a t.rows.length c] 24)
  clear H HQ hR hE
  obtain ⟨n, rs⟩ := t
  simp only at *
  go_enter Try.func7, Try.ntmps7
  go_wp2_with (go_at_call 9; refine Hid.out ?_)
  refine hid ?_
  refine (AW.out _).mono ?_
  rintro e w1 ⟨rfl, hB1⟩
  have HB1 := hid (btr HB0.out hB1)
  have K5_1 := hid (bk_on K5.out hB1)
  have dK51 := K5_1.out.cell
  have fK51 := K5_1.out.free
  have lK51 := K5_1.out.lt
  go_wp2_with (go_at_call 22; refine Hid.out ?_)
  refine hid ?_
  refine (AP.out _ HB1.out).mono ?_
  rintro e w2 ⟨rfl, hB2⟩
  have HB2 := hid (btr HB1.out hB2)
  have K5_2 := hid (bk_on K5_1.out hB2)
  have B11_0 := hid (bk_new w2 #[.int .i64 0, .slice none 0 0] 24)
  have HAB11 := hid (bal HB2.out (.cells #[.int .i64 0, .slice none 0 0] 24))
  have hstepB11 := bal (Below.refl w2.heap.size w2) (.cells #[.int .i64 0, .slice none 0 0] 24)
  have K5_aB11 := hid ((K5_2.out).alloc (.cells #[.int .i64 0, .slice none 0 0] 24))
  have dK52 := K5_aB11.out.cell
  have fK52 := K5_aB11.out.free
  have lK52 := K5_aB11.out.lt
  have dB112 := B11_0.out.cell
  have fB112 := B11_0.out.free
  have lB112 := B11_0.out.lt
  go_wp2_with (go_at_call 15; refine Hid.out ?_)
  refine hid ?_
  refine (CE.out _ HAB11.out).mono ?_
  rintro e w3 ⟨rfl, hB3⟩
  have HB3 := hid (btr HAB11.out hB3)
  have K5_3 := hid (bk_on K5_aB11.out hB3)
  have B11_3 := hid (bk_on B11_0.out hB3)
  unfold fndV
  have dK53 := K5_3.out.cell
  have fK53 := K5_3.out.free
  have lK53 := K5_3.out.lt
  have dB113 := B11_3.out.cell
  have fB113 := B11_3.out.free
  have lB113 := B11_3.out.lt
  go_wp2_with (go_at_call 24; refine Hid.out ?_)
  refine hid ?_
  refine (PR.out _ HB3.out).mono ?_
  rintro e w4 ⟨v4, rfl, hO4, hB4⟩
  have HB4 := hid (btr HB3.out hB4)
  have K5_4 := hid (bk_on K5_3.out hB4)
  have B11_4 := hid (bk_on B11_3.out hB4)
  obtain ⟨a4, c4, rfl⟩ := own_shape hO4.own
  obtain ⟨a4', c4', e4, t4⟩ := hO4.ts
  injection e4 with e4a e4b e4c
  subst e4a e4c
  clear e4b
  have TP := hid (t4)
  have dK54 := K5_4.out.cell
  have fK54 := K5_4.out.free
  have lK54 := K5_4.out.lt
  have dB114 := B11_4.out.cell
  have fB114 := B11_4.out.free
  have lB114 := B11_4.out.lt
  have hw2 : w.heap.size ≤ w2.heap.size := (btr HB1.out hB2).size
  have HBS := hid (bset (bset HB4.out w2.heap.size 0 (.int .i64 n) hw2) w2.heap.size 1 (.slice a4 rs.length c4) hw2)
  have B11S := hid ((B11_4.out.set 0 (.int .i64 n)).set 1 (.slice a4 rs.length c4))
  have hne5 : w2.heap.size ≠ w.heap.size := fun e => by have h1 := K5_1.out.lt; have h2 := hB2.size; omega
  have K5S := hid ((K5_4.out.far hne5 0 (.int .i64 n)).far hne5 1 (.slice a4 rs.length c4))
  have hOS := (hO4.put B11_4.out (by decide) 0 (.int .i64 n)).put (B11_4.out.set 0 (.int .i64 n)) (by decide) 1 (.slice a4 rs.length c4)
  obtain ⟨aS, cS, eS, tS⟩ := hOS.ts
  injection eS with eSa eSb eSc
  subst eSa eSc
  clear eSb
  have TS0 := hid tS
  have dK5S := K5S.out.cell
  have lK5S := K5S.out.lt
  have dB11S := B11S.out.cell
  have fB11S := B11S.out.free
  have lB11S := B11S.out.lt
  go_wp2_with (go_at_call 20; refine Hid.out ?_)
  refine hid ?_
  refine (EQ.out a4 c4 _ HBS.out TS0.out).mono ?_
  rintro e w5 ⟨rfl, hB5⟩
  have HB5 := hid (btr HBS.out hB5)
  have K5_5 := hid (bk_on K5S.out hB5)
  have B11_5 := hid (bk_on B11S.out hB5)
  go_wp2
  go_ret
  exact ⟨rfl, HB5.out⟩
set_option maxHeartbeats 2000000 in
set_option maxRecDepth 100000 in
theorem back_BN0 (t : Tb) (a : Option Addr) (c : Nat) (s : ByteArray) (q : Nat → Int) (aq : Option Addr) (m cq : Nat) (Q bit : Int) (w : World) (H : TS w a c t.rows) (HQ : BL.Row aq q m w) (hm : m ≤ cq) (hc : cq ≤ 9223372036854775807) (hR : Rt t) (hE : gE t.n s q m ≠ 0) (o : Int) (hC : fndT t Q = (o, true, 0)) (hob : o ≠ bit) (hbit : bit = 0) :
    Calls Try.prog 7 #[t.v a c, .string s, .slice aq m cq, .int .i64 Q, .int .i64 bit] w fun e w' => e = .returned (.bool true) ∧ Below w.heap.size w w' := by
  subst hbit
  have AW := hid (fun w' => awake_any w')
  have AP := hid (fun w' (h' : Below w.heap.size w w') => apply_no t a c s q aq m cq w' (H.below h') hR (HQ.below h') hm hc hE)
  have hE' : (gE t.n s q m == 0) = false := beq_eq_false_iff_ne.2 hE
  have CE := hid (fun w' (h' : Below w.heap.size w w') => certain_t t a c Q w' (H.below h') hR)
  have PR := hid (fun w' (h' : Below w.heap.size w w') => project_t t a c Q 0 w' (H.below h') hR)
  have hP : prjT t Q 0 = (⟨0, []⟩, 131) := by unfold prjT; rw [hC, if_neg (fun e => e rfl), if_neg (fun e => e (by decide)), if_neg (fun e => by cases (e : true = false)), if_pos hob]
  rw [hC] at CE
  rw [hP] at PR
  have hob1 : (o == 0) = false := beq_eq_false_iff_ne.2 hob
  clear hC hP
  generalize gE t.n s q m = ge at *
  have HB0 := hid (bal (Below.refl w.heap.size w) (.cells #[.int .i64 t.n, .slice a t.rows.length c] 24))
  have K5 := hid (bk_new w #[.int .i64 t.n, .slice a t.rows.length c] 24)
  clear H HQ hR hE
  obtain ⟨n, rs⟩ := t
  simp only at *
  go_enter Try.func7, Try.ntmps7
  go_wp2_with (go_at_call 9; refine Hid.out ?_)
  refine hid ?_
  refine (AW.out _).mono ?_
  rintro e w1 ⟨rfl, hB1⟩
  have HB1 := hid (btr HB0.out hB1)
  have K5_1 := hid (bk_on K5.out hB1)
  have dK51 := K5_1.out.cell
  have fK51 := K5_1.out.free
  have lK51 := K5_1.out.lt
  go_wp2_with (go_at_call 22; refine Hid.out ?_)
  refine hid ?_
  refine (AP.out _ HB1.out).mono ?_
  rintro e w2 ⟨rfl, hB2⟩
  have HB2 := hid (btr HB1.out hB2)
  have K5_2 := hid (bk_on K5_1.out hB2)
  have B11_0 := hid (bk_new w2 #[.int .i64 0, .slice none 0 0] 24)
  have HAB11 := hid (bal HB2.out (.cells #[.int .i64 0, .slice none 0 0] 24))
  have hstepB11 := bal (Below.refl w2.heap.size w2) (.cells #[.int .i64 0, .slice none 0 0] 24)
  have K5_aB11 := hid ((K5_2.out).alloc (.cells #[.int .i64 0, .slice none 0 0] 24))
  have dK52 := K5_aB11.out.cell
  have fK52 := K5_aB11.out.free
  have lK52 := K5_aB11.out.lt
  have dB112 := B11_0.out.cell
  have fB112 := B11_0.out.free
  have lB112 := B11_0.out.lt
  go_wp2_with (go_at_call 15; refine Hid.out ?_)
  refine hid ?_
  refine (CE.out _ HAB11.out).mono ?_
  rintro e w3 ⟨rfl, hB3⟩
  have HB3 := hid (btr HAB11.out hB3)
  have K5_3 := hid (bk_on K5_aB11.out hB3)
  have B11_3 := hid (bk_on B11_0.out hB3)
  unfold fndV
  have dK53 := K5_3.out.cell
  have fK53 := K5_3.out.free
  have lK53 := K5_3.out.lt
  have dB113 := B11_3.out.cell
  have fB113 := B11_3.out.free
  have lB113 := B11_3.out.lt
  go_wp2_with (go_at_call 24; refine Hid.out ?_)
  refine hid ?_
  refine (PR.out _ HB3.out).mono ?_
  rintro e w4 ⟨v4, rfl, hO4, hB4⟩
  have HB4 := hid (btr HB3.out hB4)
  have K5_4 := hid (bk_on K5_3.out hB4)
  have B11_4 := hid (bk_on B11_3.out hB4)
  obtain ⟨a4, c4, rfl⟩ := own_shape hO4.own
  obtain ⟨a4', c4', e4, t4⟩ := hO4.ts
  injection e4 with e4a e4b e4c
  subst e4a e4c
  clear e4b
  have TP := hid (t4)
  have dK54 := K5_4.out.cell
  have fK54 := K5_4.out.free
  have lK54 := K5_4.out.lt
  have dB114 := B11_4.out.cell
  have fB114 := B11_4.out.free
  have lB114 := B11_4.out.lt
  have hw2 : w.heap.size ≤ w2.heap.size := (btr HB1.out hB2).size
  have HBS := hid (bset (bset HB4.out w2.heap.size 0 (.int .i64 0) hw2) w2.heap.size 1 (.slice a4 0 c4) hw2)
  go_wp2
  go_ret
  exact ⟨rfl, HBS.out⟩
set_option maxHeartbeats 2000000 in
set_option maxRecDepth 100000 in
theorem back_BN1 (t : Tb) (a : Option Addr) (c : Nat) (s : ByteArray) (q : Nat → Int) (aq : Option Addr) (m cq : Nat) (Q bit : Int) (w : World) (H : TS w a c t.rows) (HQ : BL.Row aq q m w) (hm : m ≤ cq) (hc : cq ≤ 9223372036854775807) (hR : Rt t) (hE : gE t.n s q m ≠ 0) (o : Int) (hC : fndT t Q = (o, true, 0)) (hob : o ≠ bit) (hbit : bit = 1) :
    Calls Try.prog 7 #[t.v a c, .string s, .slice aq m cq, .int .i64 Q, .int .i64 bit] w fun e w' => e = .returned (.bool true) ∧ Below w.heap.size w w' := by
  subst hbit
  have AW := hid (fun w' => awake_any w')
  have AP := hid (fun w' (h' : Below w.heap.size w w') => apply_no t a c s q aq m cq w' (H.below h') hR (HQ.below h') hm hc hE)
  have hE' : (gE t.n s q m == 0) = false := beq_eq_false_iff_ne.2 hE
  have CE := hid (fun w' (h' : Below w.heap.size w w') => certain_t t a c Q w' (H.below h') hR)
  have PR := hid (fun w' (h' : Below w.heap.size w w') => project_t t a c Q 1 w' (H.below h') hR)
  have hP : prjT t Q 1 = (⟨0, []⟩, 131) := by unfold prjT; rw [hC, if_neg (fun e => e rfl), if_neg (fun e => e (by decide)), if_neg (fun e => by cases (e : true = false)), if_pos hob]
  rw [hC] at CE
  rw [hP] at PR
  have hob1 : (o == 1) = false := beq_eq_false_iff_ne.2 hob
  clear hC hP
  generalize gE t.n s q m = ge at *
  have HB0 := hid (bal (Below.refl w.heap.size w) (.cells #[.int .i64 t.n, .slice a t.rows.length c] 24))
  have K5 := hid (bk_new w #[.int .i64 t.n, .slice a t.rows.length c] 24)
  clear H HQ hR hE
  obtain ⟨n, rs⟩ := t
  simp only at *
  go_enter Try.func7, Try.ntmps7
  go_wp2_with (go_at_call 9; refine Hid.out ?_)
  refine hid ?_
  refine (AW.out _).mono ?_
  rintro e w1 ⟨rfl, hB1⟩
  have HB1 := hid (btr HB0.out hB1)
  have K5_1 := hid (bk_on K5.out hB1)
  have dK51 := K5_1.out.cell
  have fK51 := K5_1.out.free
  have lK51 := K5_1.out.lt
  go_wp2_with (go_at_call 22; refine Hid.out ?_)
  refine hid ?_
  refine (AP.out _ HB1.out).mono ?_
  rintro e w2 ⟨rfl, hB2⟩
  have HB2 := hid (btr HB1.out hB2)
  have K5_2 := hid (bk_on K5_1.out hB2)
  have B11_0 := hid (bk_new w2 #[.int .i64 0, .slice none 0 0] 24)
  have HAB11 := hid (bal HB2.out (.cells #[.int .i64 0, .slice none 0 0] 24))
  have hstepB11 := bal (Below.refl w2.heap.size w2) (.cells #[.int .i64 0, .slice none 0 0] 24)
  have K5_aB11 := hid ((K5_2.out).alloc (.cells #[.int .i64 0, .slice none 0 0] 24))
  have dK52 := K5_aB11.out.cell
  have fK52 := K5_aB11.out.free
  have lK52 := K5_aB11.out.lt
  have dB112 := B11_0.out.cell
  have fB112 := B11_0.out.free
  have lB112 := B11_0.out.lt
  go_wp2_with (go_at_call 15; refine Hid.out ?_)
  refine hid ?_
  refine (CE.out _ HAB11.out).mono ?_
  rintro e w3 ⟨rfl, hB3⟩
  have HB3 := hid (btr HAB11.out hB3)
  have K5_3 := hid (bk_on K5_aB11.out hB3)
  have B11_3 := hid (bk_on B11_0.out hB3)
  unfold fndV
  have dK53 := K5_3.out.cell
  have fK53 := K5_3.out.free
  have lK53 := K5_3.out.lt
  have dB113 := B11_3.out.cell
  have fB113 := B11_3.out.free
  have lB113 := B11_3.out.lt
  go_wp2_with (go_at_call 24; refine Hid.out ?_)
  refine hid ?_
  refine (PR.out _ HB3.out).mono ?_
  rintro e w4 ⟨v4, rfl, hO4, hB4⟩
  have HB4 := hid (btr HB3.out hB4)
  have K5_4 := hid (bk_on K5_3.out hB4)
  have B11_4 := hid (bk_on B11_3.out hB4)
  obtain ⟨a4, c4, rfl⟩ := own_shape hO4.own
  obtain ⟨a4', c4', e4, t4⟩ := hO4.ts
  injection e4 with e4a e4b e4c
  subst e4a e4c
  clear e4b
  have TP := hid (t4)
  have dK54 := K5_4.out.cell
  have fK54 := K5_4.out.free
  have lK54 := K5_4.out.lt
  have dB114 := B11_4.out.cell
  have fB114 := B11_4.out.free
  have lB114 := B11_4.out.lt
  have hw2 : w.heap.size ≤ w2.heap.size := (btr HB1.out hB2).size
  have HBS := hid (bset (bset HB4.out w2.heap.size 0 (.int .i64 0) hw2) w2.heap.size 1 (.slice a4 0 c4) hw2)
  go_wp2
  go_ret
  exact ⟨rfl, HBS.out⟩
end Go.Proofs.Ytoddbaljnlhhaaa
namespace Go.Proofs.Ytoddbaljnlhhaaa
open Go.RowKit Go.Sort
open PL (pv PS bt cgk cgT cgB)

set_option maxHeartbeats 2000000 in
set_option maxRecDepth 100000 in
theorem back_BF0 (t : Tb) (a : Option Addr) (c : Nat) (s : ByteArray) (q : Nat → Int) (aq : Option Addr) (m cq : Nat) (Q bit : Int) (w : World) (H : TS w a c t.rows) (HQ : BL.Row aq q m w) (hm : m ≤ cq) (hc : cq ≤ 9223372036854775807) (hR : Rt t) (hE : gE t.n s q m ≠ 0) (hC1 : (fndT t Q).2.2 = 0) (hC2 : (fndT t Q).2.1 = false) (hbit : bit = 0) :
    Calls Try.prog 7 #[t.v a c, .string s, .slice aq m cq, .int .i64 Q, .int .i64 bit] w fun e w' => e = .returned (.bool true) ∧ Below w.heap.size w w' := by
  subst hbit
  have AW := hid (fun w' => awake_any w')
  have AP := hid (fun w' (h' : Below w.heap.size w w') => apply_no t a c s q aq m cq w' (H.below h') hR (HQ.below h') hm hc hE)
  have hE' : (gE t.n s q m == 0) = false := beq_eq_false_iff_ne.2 hE
  have CE := hid (fun w' (h' : Below w.heap.size w w') => certain_t t a c Q w' (H.below h') hR)
  have PR := hid (fun w' (h' : Below w.heap.size w w') => project_t t a c Q 0 w' (H.below h') hR)
  obtain ⟨Q', N, i, p, rfl, hCh, hP⟩ := chs_of hR hC1 hC2 (show (0 : Int) = 0 ∨ (0 : Int) = 1 by decide)
  obtain ⟨⟨fo, fis, fe⟩, hfr⟩ : ∃ r, r = fndT t (Q' : Nat) := ⟨_, rfl⟩
  rw [← hfr] at hC1 hC2 CE
  have hC1 : fe = 0 := hC1
  have hC2 : fis = false := hC2
  subst hC1 hC2
  rw [hP] at PR
  have hRV := hCh.rt
  have hfo := hCh.found
  have hag := hCh.again
  have hot := hCh.other
  obtain ⟨RV, hRVd⟩ : ∃ RV, RV = chR t.rows N Q' 0 i p := ⟨_, rfl⟩
  rw [← hRVd] at PR hRV hfo hag hot
  have CV := hid (fun a2 c2 w' (h2 : TS w' a2 c2 RV) => rcheck_all ⟨t.n, RV⟩ a2 c2 w' h2 0 (fun _ => rfl) (fun h => absurd hRV h))
  have CE2 := hid (fun a2 c2 w' (h2 : TS w' a2 c2 RV) => certain_t ⟨t.n, RV⟩ a2 c2 (Q' : Nat) w' h2 hRV)
  rw [hfo] at CE2
  have PR2 := hid (fun a2 c2 w' (h2 : TS w' a2 c2 RV) => project_t ⟨t.n, RV⟩ a2 c2 (Q' : Nat) 0 w' h2 hRV)
  rw [hag] at PR2
  have PR3 := hid (fun a2 c2 w' (h2 : TS w' a2 c2 RV) => project_t ⟨t.n, RV⟩ a2 c2 (Q' : Nat) 1 w' h2 hRV)
  rw [show prjT ⟨t.n, RV⟩ (Q' : Nat) 1 = (⟨0, []⟩, 131) from hot] at PR3
  have EQ2 := hid (fun a2 c2 a3 c3 w' (h2 : TS w' a2 c2 RV) (h3 : TS w' a3 c3 RV) => requal_any ⟨t.n, RV⟩ ⟨t.n, RV⟩ a2 a3 c2 c3 w' h2 h3 true (fun _ => rfl) (fun h => absurd rfl h))
  clear hRV hfo hag hot hRVd hCh hP hfr
  generalize gE t.n s q m = ge at *
  have HB0 := hid (bal (Below.refl w.heap.size w) (.cells #[.int .i64 t.n, .slice a t.rows.length c] 24))
  have K5 := hid (bk_new w #[.int .i64 t.n, .slice a t.rows.length c] 24)
  clear H HQ hR hE
  obtain ⟨n, rs⟩ := t
  simp only at *
  go_enter Try.func7, Try.ntmps7
  go_wp2_with (go_at_call 9; refine Hid.out ?_)
  refine hid ?_
  refine (AW.out _).mono ?_
  rintro e w1 ⟨rfl, hB1⟩
  have HB1 := hid (btr HB0.out hB1)
  have K5_1 := hid (bk_on K5.out hB1)
  have dK51 := K5_1.out.cell
  have fK51 := K5_1.out.free
  have lK51 := K5_1.out.lt
  go_wp2_with (go_at_call 22; refine Hid.out ?_)
  refine hid ?_
  refine (AP.out _ HB1.out).mono ?_
  rintro e w2 ⟨rfl, hB2⟩
  have HB2 := hid (btr HB1.out hB2)
  have K5_2 := hid (bk_on K5_1.out hB2)
  have B11_0 := hid (bk_new w2 #[.int .i64 0, .slice none 0 0] 24)
  have HAB11 := hid (bal HB2.out (.cells #[.int .i64 0, .slice none 0 0] 24))
  have hstepB11 := bal (Below.refl w2.heap.size w2) (.cells #[.int .i64 0, .slice none 0 0] 24)
  have K5_aB11 := hid ((K5_2.out).alloc (.cells #[.int .i64 0, .slice none 0 0] 24))
  have dK52 := K5_aB11.out.cell
  have fK52 := K5_aB11.out.free
  have lK52 := K5_aB11.out.lt
  have dB112 := B11_0.out.cell
  have fB112 := B11_0.out.free
  have lB112 := B11_0.out.lt
  go_wp2_with (go_at_call 15; refine Hid.out ?_)
  refine hid ?_
  refine (CE.out _ HAB11.out).mono ?_
  rintro e w3 ⟨rfl, hB3⟩
  have HB3 := hid (btr HAB11.out hB3)
  have K5_3 := hid (bk_on K5_aB11.out hB3)
  have B11_3 := hid (bk_on B11_0.out hB3)
  unfold fndV
  have dK53 := K5_3.out.cell
  have fK53 := K5_3.out.free
  have lK53 := K5_3.out.lt
  have dB113 := B11_3.out.cell
  have fB113 := B11_3.out.free
  have lB113 := B11_3.out.lt
  go_wp2_with (go_at_call 24; refine Hid.out ?_)
  refine hid ?_
  refine (PR.out _ HB3.out).mono ?_
  rintro e w4 ⟨v4, rfl, hO4, hB4⟩
  have HB4 := hid (btr HB3.out hB4)
  have K5_4 := hid (bk_on K5_3.out hB4)
  have B11_4 := hid (bk_on B11_3.out hB4)
  obtain ⟨a4, c4, rfl⟩ := own_shape hO4.own
  obtain ⟨a4', c4', e4, t4⟩ := hO4.ts
  injection e4 with e4a e4b e4c
  subst e4a e4c
  clear e4b
  have TP := hid (t4)
  have dK54 := K5_4.out.cell
  have fK54 := K5_4.out.free
  have lK54 := K5_4.out.lt
  have dB114 := B11_4.out.cell
  have fB114 := B11_4.out.free
  have lB114 := B11_4.out.lt
  have hw2 : w.heap.size ≤ w2.heap.size := (btr HB1.out hB2).size
  have HBS := hid (bset (bset HB4.out w2.heap.size 0 (.int .i64 n) hw2) w2.heap.size 1 (.slice a4 RV.length c4) hw2)
  have B11S := hid ((B11_4.out.set 0 (.int .i64 n)).set 1 (.slice a4 RV.length c4))
  have hne5 : w2.heap.size ≠ w.heap.size := fun e => by have h1 := K5_1.out.lt; have h2 := hB2.size; omega
  have K5S := hid ((K5_4.out.far hne5 0 (.int .i64 n)).far hne5 1 (.slice a4 RV.length c4))
  have hOS := (hO4.put B11_4.out (by decide) 0 (.int .i64 n)).put (B11_4.out.set 0 (.int .i64 n)) (by decide) 1 (.slice a4 RV.length c4)
  obtain ⟨aS, cS, eS, tS⟩ := hOS.ts
  injection eS with eSa eSb eSc
  subst eSa eSc
  clear eSb
  have TS0 := hid tS
  have dK5S := K5S.out.cell
  have lK5S := K5S.out.lt
  have dB11S := B11S.out.cell
  have fB11S := B11S.out.free
  have lB11S := B11S.out.lt
  go_wp2_with (go_at_call 19; refine Hid.out ?_)
  refine hid ?_
  refine (CV.out a4 c4 _ TS0.out).mono ?_
  rintro e w5 ⟨rfl, hB5⟩
  have HB5 := hid (btr HBS.out hB5)
  have K5_5 := hid (bk_on K5S.out hB5)
  have B11_5 := hid (bk_on B11S.out hB5)
  have TS1 := hid (TS0.out.below hB5)
  have dB115 := B11_5.out.cell
  have fB115 := B11_5.out.free
  have lB115 := B11_5.out.lt
  go_wp2_with (go_at_call 15; refine Hid.out ?_)
  refine hid ?_
  refine (CE2.out a4 c4 _ TS1.out).mono ?_
  rintro e w6 ⟨rfl, hB6⟩
  have HB6 := hid (btr HB5.out hB6)
  have K5_6 := hid (bk_on K5_5.out hB6)
  have B11_6 := hid (bk_on B11_5.out hB6)
  unfold fndV
  have TS2 := hid (TS1.out.below hB6)
  have dB116 := B11_6.out.cell
  have fB116 := B11_6.out.free
  have lB116 := B11_6.out.lt
  go_wp2_with (go_at_call 24; refine Hid.out ?_)
  refine hid ?_
  refine (PR2.out a4 c4 _ TS2.out).mono ?_
  rintro e w7 ⟨v7, rfl, hO7, hB7⟩
  have HB7 := hid (btr HB6.out hB7)
  have K5_7 := hid (bk_on K5_6.out hB7)
  have B11_7 := hid (bk_on B11_6.out hB7)
  obtain ⟨a7, c7, rfl⟩ := own_shape hO7.own
  obtain ⟨a7', c7', e7, t7⟩ := hO7.ts
  injection e7 with e7a e7b e7c
  subst e7a e7c
  clear e7b
  have TW := hid (t7)
  have TS3 := hid (TS2.out.below hB7)
  have B23_0 := hid (bk_new w7 #[.int .i64 n, .slice a7 RV.length c7] 24)
  have HAB23 := hid (bal HB7.out (.cells #[.int .i64 n, .slice a7 RV.length c7] 24))
  have hstepB23 := bal (Below.refl w7.heap.size w7) (.cells #[.int .i64 n, .slice a7 RV.length c7] 24)
  have K5_aB23 := hid ((K5_7.out).alloc (.cells #[.int .i64 n, .slice a7 RV.length c7] 24))
  have B11_aB23 := hid ((B11_7.out).alloc (.cells #[.int .i64 n, .slice a7 RV.length c7] 24))
  have dB117 := B11_aB23.out.cell
  have fB117 := B11_aB23.out.free
  have lB117 := B11_aB23.out.lt
  have dB237 := B23_0.out.cell
  have fB237 := B23_0.out.free
  have lB237 := B23_0.out.lt
  have TS4 := hid (TS3.out.below hstepB23)
  have TW0 := hid (t7.below hstepB23)
  go_wp2_with (go_at_call 24; refine Hid.out ?_)
  refine hid ?_
  refine (PR3.out a4 c4 _ TS4.out).mono ?_
  rintro e w8 ⟨v8, rfl, hO8, hB8⟩
  have HB8 := hid (btr HAB23.out hB8)
  have K5_8 := hid (bk_on K5_aB23.out hB8)
  have B11_8 := hid (bk_on B11_aB23.out hB8)
  have B23_8 := hid (bk_on B23_0.out hB8)
  obtain ⟨a8, c8, rfl⟩ := own_shape hO8.own
  obtain ⟨a8', c8', e8, t8⟩ := hO8.ts
  injection e8 with e8a e8b e8c
  subst e8a e8c
  clear e8b
  have TX := hid (t8)
  have TS5 := hid (TS4.out.below hB8)
  have TW1 := hid (TW0.out.below hB8)
  have B25_0 := hid (bk_new w8 #[.int .i64 0, .slice a8 0 c8] 24)
  have HAB25 := hid (bal HB8.out (.cells #[.int .i64 0, .slice a8 0 c8] 24))
  have hstepB25 := bal (Below.refl w8.heap.size w8) (.cells #[.int .i64 0, .slice a8 0 c8] 24)
  have K5_aB25 := hid ((K5_8.out).alloc (.cells #[.int .i64 0, .slice a8 0 c8] 24))
  have B11_aB25 := hid ((B11_8.out).alloc (.cells #[.int .i64 0, .slice a8 0 c8] 24))
  have B23_aB25 := hid ((B23_8.out).alloc (.cells #[.int .i64 0, .slice a8 0 c8] 24))
  have dB118 := B11_aB25.out.cell
  have fB118 := B11_aB25.out.free
  have lB118 := B11_aB25.out.lt
  have dB238 := B23_aB25.out.cell
  have fB238 := B23_aB25.out.free
  have lB238 := B23_aB25.out.lt
  have TS6 := hid (TS5.out.below hstepB25)
  have TW2 := hid (TW1.out.below hstepB25)
  go_wp2_with (go_at_call 20; refine Hid.out ?_)
  refine hid ?_
  refine (EQ2.out a7 c7 a4 c4 _ TW2.out TS6.out).mono ?_
  rintro e w9 ⟨rfl, hB9⟩
  have HB9 := hid (btr HAB25.out hB9)
  have K5_9 := hid (bk_on K5_aB25.out hB9)
  have B11_9 := hid (bk_on B11_aB25.out hB9)
  have B23_9 := hid (bk_on B23_aB25.out hB9)
  have B25_9 := hid (bk_on B25_0.out hB9)
  go_wp2
  go_ret
  exact ⟨rfl, HB9.out⟩
set_option maxHeartbeats 2000000 in
set_option maxRecDepth 100000 in
theorem back_BF1 (t : Tb) (a : Option Addr) (c : Nat) (s : ByteArray) (q : Nat → Int) (aq : Option Addr) (m cq : Nat) (Q bit : Int) (w : World) (H : TS w a c t.rows) (HQ : BL.Row aq q m w) (hm : m ≤ cq) (hc : cq ≤ 9223372036854775807) (hR : Rt t) (hE : gE t.n s q m ≠ 0) (hC1 : (fndT t Q).2.2 = 0) (hC2 : (fndT t Q).2.1 = false) (hbit : bit = 1) :
    Calls Try.prog 7 #[t.v a c, .string s, .slice aq m cq, .int .i64 Q, .int .i64 bit] w fun e w' => e = .returned (.bool true) ∧ Below w.heap.size w w' := by
  subst hbit
  have AW := hid (fun w' => awake_any w')
  have AP := hid (fun w' (h' : Below w.heap.size w w') => apply_no t a c s q aq m cq w' (H.below h') hR (HQ.below h') hm hc hE)
  have hE' : (gE t.n s q m == 0) = false := beq_eq_false_iff_ne.2 hE
  have CE := hid (fun w' (h' : Below w.heap.size w w') => certain_t t a c Q w' (H.below h') hR)
  have PR := hid (fun w' (h' : Below w.heap.size w w') => project_t t a c Q 1 w' (H.below h') hR)
  obtain ⟨Q', N, i, p, rfl, hCh, hP⟩ := chs_of hR hC1 hC2 (show (1 : Int) = 0 ∨ (1 : Int) = 1 by decide)
  obtain ⟨⟨fo, fis, fe⟩, hfr⟩ : ∃ r, r = fndT t (Q' : Nat) := ⟨_, rfl⟩
  rw [← hfr] at hC1 hC2 CE
  have hC1 : fe = 0 := hC1
  have hC2 : fis = false := hC2
  subst hC1 hC2
  rw [hP] at PR
  have hRV := hCh.rt
  have hfo := hCh.found
  have hag := hCh.again
  have hot := hCh.other
  obtain ⟨RV, hRVd⟩ : ∃ RV, RV = chR t.rows N Q' 1 i p := ⟨_, rfl⟩
  rw [← hRVd] at PR hRV hfo hag hot
  have CV := hid (fun a2 c2 w' (h2 : TS w' a2 c2 RV) => rcheck_all ⟨t.n, RV⟩ a2 c2 w' h2 0 (fun _ => rfl) (fun h => absurd hRV h))
  have CE2 := hid (fun a2 c2 w' (h2 : TS w' a2 c2 RV) => certain_t ⟨t.n, RV⟩ a2 c2 (Q' : Nat) w' h2 hRV)
  rw [hfo] at CE2
  have PR2 := hid (fun a2 c2 w' (h2 : TS w' a2 c2 RV) => project_t ⟨t.n, RV⟩ a2 c2 (Q' : Nat) 1 w' h2 hRV)
  rw [hag] at PR2
  have PR3 := hid (fun a2 c2 w' (h2 : TS w' a2 c2 RV) => project_t ⟨t.n, RV⟩ a2 c2 (Q' : Nat) 0 w' h2 hRV)
  rw [show prjT ⟨t.n, RV⟩ (Q' : Nat) 0 = (⟨0, []⟩, 131) from hot] at PR3
  have EQ2 := hid (fun a2 c2 a3 c3 w' (h2 : TS w' a2 c2 RV) (h3 : TS w' a3 c3 RV) => requal_any ⟨t.n, RV⟩ ⟨t.n, RV⟩ a2 a3 c2 c3 w' h2 h3 true (fun _ => rfl) (fun h => absurd rfl h))
  clear hRV hfo hag hot hRVd hCh hP hfr
  generalize gE t.n s q m = ge at *
  have HB0 := hid (bal (Below.refl w.heap.size w) (.cells #[.int .i64 t.n, .slice a t.rows.length c] 24))
  have K5 := hid (bk_new w #[.int .i64 t.n, .slice a t.rows.length c] 24)
  clear H HQ hR hE
  obtain ⟨n, rs⟩ := t
  simp only at *
  go_enter Try.func7, Try.ntmps7
  go_wp2_with (go_at_call 9; refine Hid.out ?_)
  refine hid ?_
  refine (AW.out _).mono ?_
  rintro e w1 ⟨rfl, hB1⟩
  have HB1 := hid (btr HB0.out hB1)
  have K5_1 := hid (bk_on K5.out hB1)
  have dK51 := K5_1.out.cell
  have fK51 := K5_1.out.free
  have lK51 := K5_1.out.lt
  go_wp2_with (go_at_call 22; refine Hid.out ?_)
  refine hid ?_
  refine (AP.out _ HB1.out).mono ?_
  rintro e w2 ⟨rfl, hB2⟩
  have HB2 := hid (btr HB1.out hB2)
  have K5_2 := hid (bk_on K5_1.out hB2)
  have B11_0 := hid (bk_new w2 #[.int .i64 0, .slice none 0 0] 24)
  have HAB11 := hid (bal HB2.out (.cells #[.int .i64 0, .slice none 0 0] 24))
  have hstepB11 := bal (Below.refl w2.heap.size w2) (.cells #[.int .i64 0, .slice none 0 0] 24)
  have K5_aB11 := hid ((K5_2.out).alloc (.cells #[.int .i64 0, .slice none 0 0] 24))
  have dK52 := K5_aB11.out.cell
  have fK52 := K5_aB11.out.free
  have lK52 := K5_aB11.out.lt
  have dB112 := B11_0.out.cell
  have fB112 := B11_0.out.free
  have lB112 := B11_0.out.lt
  go_wp2_with (go_at_call 15; refine Hid.out ?_)
  refine hid ?_
  refine (CE.out _ HAB11.out).mono ?_
  rintro e w3 ⟨rfl, hB3⟩
  have HB3 := hid (btr HAB11.out hB3)
  have K5_3 := hid (bk_on K5_aB11.out hB3)
  have B11_3 := hid (bk_on B11_0.out hB3)
  unfold fndV
  have dK53 := K5_3.out.cell
  have fK53 := K5_3.out.free
  have lK53 := K5_3.out.lt
  have dB113 := B11_3.out.cell
  have fB113 := B11_3.out.free
  have lB113 := B11_3.out.lt
  go_wp2_with (go_at_call 24; refine Hid.out ?_)
  refine hid ?_
  refine (PR.out _ HB3.out).mono ?_
  rintro e w4 ⟨v4, rfl, hO4, hB4⟩
  have HB4 := hid (btr HB3.out hB4)
  have K5_4 := hid (bk_on K5_3.out hB4)
  have B11_4 := hid (bk_on B11_3.out hB4)
  obtain ⟨a4, c4, rfl⟩ := own_shape hO4.own
  obtain ⟨a4', c4', e4, t4⟩ := hO4.ts
  injection e4 with e4a e4b e4c
  subst e4a e4c
  clear e4b
  have TP := hid (t4)
  have dK54 := K5_4.out.cell
  have fK54 := K5_4.out.free
  have lK54 := K5_4.out.lt
  have dB114 := B11_4.out.cell
  have fB114 := B11_4.out.free
  have lB114 := B11_4.out.lt
  have hw2 : w.heap.size ≤ w2.heap.size := (btr HB1.out hB2).size
  have HBS := hid (bset (bset HB4.out w2.heap.size 0 (.int .i64 n) hw2) w2.heap.size 1 (.slice a4 RV.length c4) hw2)
  have B11S := hid ((B11_4.out.set 0 (.int .i64 n)).set 1 (.slice a4 RV.length c4))
  have hne5 : w2.heap.size ≠ w.heap.size := fun e => by have h1 := K5_1.out.lt; have h2 := hB2.size; omega
  have K5S := hid ((K5_4.out.far hne5 0 (.int .i64 n)).far hne5 1 (.slice a4 RV.length c4))
  have hOS := (hO4.put B11_4.out (by decide) 0 (.int .i64 n)).put (B11_4.out.set 0 (.int .i64 n)) (by decide) 1 (.slice a4 RV.length c4)
  obtain ⟨aS, cS, eS, tS⟩ := hOS.ts
  injection eS with eSa eSb eSc
  subst eSa eSc
  clear eSb
  have TS0 := hid tS
  have dK5S := K5S.out.cell
  have lK5S := K5S.out.lt
  have dB11S := B11S.out.cell
  have fB11S := B11S.out.free
  have lB11S := B11S.out.lt
  go_wp2_with (go_at_call 19; refine Hid.out ?_)
  refine hid ?_
  refine (CV.out a4 c4 _ TS0.out).mono ?_
  rintro e w5 ⟨rfl, hB5⟩
  have HB5 := hid (btr HBS.out hB5)
  have K5_5 := hid (bk_on K5S.out hB5)
  have B11_5 := hid (bk_on B11S.out hB5)
  have TS1 := hid (TS0.out.below hB5)
  have dB115 := B11_5.out.cell
  have fB115 := B11_5.out.free
  have lB115 := B11_5.out.lt
  go_wp2_with (go_at_call 15; refine Hid.out ?_)
  refine hid ?_
  refine (CE2.out a4 c4 _ TS1.out).mono ?_
  rintro e w6 ⟨rfl, hB6⟩
  have HB6 := hid (btr HB5.out hB6)
  have K5_6 := hid (bk_on K5_5.out hB6)
  have B11_6 := hid (bk_on B11_5.out hB6)
  unfold fndV
  have TS2 := hid (TS1.out.below hB6)
  have dB116 := B11_6.out.cell
  have fB116 := B11_6.out.free
  have lB116 := B11_6.out.lt
  go_wp2_with (go_at_call 24; refine Hid.out ?_)
  refine hid ?_
  refine (PR2.out a4 c4 _ TS2.out).mono ?_
  rintro e w7 ⟨v7, rfl, hO7, hB7⟩
  have HB7 := hid (btr HB6.out hB7)
  have K5_7 := hid (bk_on K5_6.out hB7)
  have B11_7 := hid (bk_on B11_6.out hB7)
  obtain ⟨a7, c7, rfl⟩ := own_shape hO7.own
  obtain ⟨a7', c7', e7, t7⟩ := hO7.ts
  injection e7 with e7a e7b e7c
  subst e7a e7c
  clear e7b
  have TW := hid (t7)
  have TS3 := hid (TS2.out.below hB7)
  have B23_0 := hid (bk_new w7 #[.int .i64 n, .slice a7 RV.length c7] 24)
  have HAB23 := hid (bal HB7.out (.cells #[.int .i64 n, .slice a7 RV.length c7] 24))
  have hstepB23 := bal (Below.refl w7.heap.size w7) (.cells #[.int .i64 n, .slice a7 RV.length c7] 24)
  have K5_aB23 := hid ((K5_7.out).alloc (.cells #[.int .i64 n, .slice a7 RV.length c7] 24))
  have B11_aB23 := hid ((B11_7.out).alloc (.cells #[.int .i64 n, .slice a7 RV.length c7] 24))
  have dB117 := B11_aB23.out.cell
  have fB117 := B11_aB23.out.free
  have lB117 := B11_aB23.out.lt
  have dB237 := B23_0.out.cell
  have fB237 := B23_0.out.free
  have lB237 := B23_0.out.lt
  have TS4 := hid (TS3.out.below hstepB23)
  have TW0 := hid (t7.below hstepB23)
  go_wp2_with (go_at_call 24; refine Hid.out ?_)
  refine hid ?_
  refine (PR3.out a4 c4 _ TS4.out).mono ?_
  rintro e w8 ⟨v8, rfl, hO8, hB8⟩
  have HB8 := hid (btr HAB23.out hB8)
  have K5_8 := hid (bk_on K5_aB23.out hB8)
  have B11_8 := hid (bk_on B11_aB23.out hB8)
  have B23_8 := hid (bk_on B23_0.out hB8)
  obtain ⟨a8, c8, rfl⟩ := own_shape hO8.own
  obtain ⟨a8', c8', e8, t8⟩ := hO8.ts
  injection e8 with e8a e8b e8c
  subst e8a e8c
  clear e8b
  have TX := hid (t8)
  have TS5 := hid (TS4.out.below hB8)
  have TW1 := hid (TW0.out.below hB8)
  have B25_0 := hid (bk_new w8 #[.int .i64 0, .slice a8 0 c8] 24)
  have HAB25 := hid (bal HB8.out (.cells #[.int .i64 0, .slice a8 0 c8] 24))
  have hstepB25 := bal (Below.refl w8.heap.size w8) (.cells #[.int .i64 0, .slice a8 0 c8] 24)
  have K5_aB25 := hid ((K5_8.out).alloc (.cells #[.int .i64 0, .slice a8 0 c8] 24))
  have B11_aB25 := hid ((B11_8.out).alloc (.cells #[.int .i64 0, .slice a8 0 c8] 24))
  have B23_aB25 := hid ((B23_8.out).alloc (.cells #[.int .i64 0, .slice a8 0 c8] 24))
  have dB118 := B11_aB25.out.cell
  have fB118 := B11_aB25.out.free
  have lB118 := B11_aB25.out.lt
  have dB238 := B23_aB25.out.cell
  have fB238 := B23_aB25.out.free
  have lB238 := B23_aB25.out.lt
  have TS6 := hid (TS5.out.below hstepB25)
  have TW2 := hid (TW1.out.below hstepB25)
  go_wp2_with (go_at_call 20; refine Hid.out ?_)
  refine hid ?_
  refine (EQ2.out a7 c7 a4 c4 _ TW2.out TS6.out).mono ?_
  rintro e w9 ⟨rfl, hB9⟩
  have HB9 := hid (btr HAB25.out hB9)
  have K5_9 := hid (bk_on K5_aB25.out hB9)
  have B11_9 := hid (bk_on B11_aB25.out hB9)
  have B23_9 := hid (bk_on B23_aB25.out hB9)
  have B25_9 := hid (bk_on B25_0.out hB9)
  go_wp2
  go_ret
  exact ⟨rfl, HB9.out⟩
set_option maxHeartbeats 2000000 in
set_option maxRecDepth 100000 in
theorem back_CZb (t : Tb) (a : Option Addr) (c : Nat) (s : ByteArray) (q : Nat → Int) (aq : Option Addr) (m cq : Nat) (Q bit : Int) (w : World) (H : TS w a c t.rows) (HQ : BL.Row aq q m w) (hm : m ≤ cq) (hc : cq ≤ 9223372036854775807) (hR : Rt t) (hE : gE t.n s q m = 0) (o e f : Int) (is : Bool) (T : Tb) (hC : fndT t Q = (o, is, e)) (hP : prjT t Q bit = (T, f)) (hf : f ≠ 0) (he : e ≠ 0) :
    Calls Try.prog 7 #[t.v a c, .string s, .slice aq m cq, .int .i64 Q, .int .i64 bit] w fun e w' => e = .returned (.bool true) ∧ Below w.heap.size w w' := by
  have AW := hid (fun w' => awake_any w')
  obtain ⟨g, hg, rfl, hmk, hPl, hql⟩ := gE_ok hR.n1 hE
  subst hmk
  have hkB := (PL.cgk_is g hg).2.2.1
  have AP := hid (fun w' (h' : Below w.heap.size w w') => apply_yes t a c g hg q aq cq w' (H.below h') hR (HQ.below h') hm hc hE hPl hql)
  have hRU := hR.turn hg hPl hql
  have hE2 := gE_inv hg hE
  have A2 := hid (fun a2 c2 w' (h' : Below w.heap.size w w') (h2 : TS w' a2 c2 (t.rows.map (trR g q))) => apply_yes ⟨t.n, t.rows.map (trR g q)⟩ a2 c2 (cgB g) (PL.cgk_is g hg).2.1 q aq cq w' h2 hRU (by rw [hkB]; exact HQ.below h') (by rw [hkB]; exact hm) hc hE2 (by rw [hkB]; exact hPl) (by rw [hkB]; exact hql))
  have hTB := turn_back hR hg hPl
  rw [show (⟨t.n, t.rows.map (trR g q)⟩ : Tb).rows.map (trR (cgB g) q) = t.rows from hTB, hkB] at A2
  have IV := hid (fun w' => inverse_any (cgN g) w')
  rw [(gE_names g hg).2.2.1, (gE_names g hg).2.2.2] at IV
  have EQ := hid (fun a2 c2 w' (h' : Below w.heap.size w w') (h2 : TS w' a2 c2 t.rows) => requal_any t t a2 a c2 c w' h2 (H.below h') true (fun _ => rfl) (fun h => absurd rfl h))
  have CU := hid (fun a2 c2 w' (h2 : TS w' a2 c2 (t.rows.map (trR g q))) => rcheck_all ⟨t.n, t.rows.map (trR g q)⟩ a2 c2 w' h2 0 (fun _ => rfl) (fun h => absurd hRU h))
  have CE := hid (fun w' (h' : Below w.heap.size w w') => certain_t t a c Q w' (H.below h') hR)
  have PR := hid (fun w' (h' : Below w.heap.size w w') => project_t t a c Q bit w' (H.below h') hR)
  rw [hC] at CE
  rw [hP] at PR
  have hf' : (f != 0) = true := bne_iff_ne.2 hf
  have he' : (e != 0) = true := bne_iff_ne.2 he
  clear hC hP hf
  generalize t.rows.map (trR g q) = RU at *
  generalize cgN (cgB g) = s2 at *
  generalize cgN g = s at *
  generalize cgk g = m at *
  have HB0 := hid (bal (Below.refl w.heap.size w) (.cells #[.int .i64 t.n, .slice a t.rows.length c] 24))
  have K5 := hid (bk_new w #[.int .i64 t.n, .slice a t.rows.length c] 24)
  clear H HQ hR hE hRU hE2 hTB hPl hql hkB
  obtain ⟨n, rs⟩ := t
  simp only at *
  go_enter Try.func7, Try.ntmps7
  go_wp2_with (go_at_call 9; refine Hid.out ?_)
  refine hid ?_
  refine (AW.out _).mono ?_
  rintro e w1 ⟨rfl, hB1⟩
  have HB1 := hid (btr HB0.out hB1)
  have K5_1 := hid (bk_on K5.out hB1)
  have dK51 := K5_1.out.cell
  have fK51 := K5_1.out.free
  have lK51 := K5_1.out.lt
  go_wp2_with (go_at_call 22; refine Hid.out ?_)
  refine hid ?_
  refine (AP.out _ HB1.out).mono ?_
  rintro e w2 ⟨v2, rfl, hO2, hB2⟩
  have HB2 := hid (btr HB1.out hB2)
  have K5_2 := hid (bk_on K5_1.out hB2)
  obtain ⟨a2, c2, rfl⟩ := own_shape hO2.own
  obtain ⟨a2', c2', e2, t2⟩ := hO2.ts
  injection e2 with e2a e2b e2c
  subst e2a e2c
  clear e2b
  have TU := hid (t2)
  have B11_0 := hid (bk_new w2 #[.int .i64 n, .slice a2 RU.length c2] 24)
  have HAB11 := hid (bal HB2.out (.cells #[.int .i64 n, .slice a2 RU.length c2] 24))
  have hstepB11 := bal (Below.refl w2.heap.size w2) (.cells #[.int .i64 n, .slice a2 RU.length c2] 24)
  have K5_aB11 := hid ((K5_2.out).alloc (.cells #[.int .i64 n, .slice a2 RU.length c2] 24))
  have dK52 := K5_aB11.out.cell
  have fK52 := K5_aB11.out.free
  have lK52 := K5_aB11.out.lt
  have dB112 := B11_0.out.cell
  have fB112 := B11_0.out.free
  have lB112 := B11_0.out.lt
  have TU0 := hid (t2.below hstepB11)
  go_wp2_with (go_at_call 31; refine Hid.out ?_)
  refine hid ?_
  refine (IV.out _).mono ?_
  rintro e w3 ⟨rfl, hB3⟩
  have HB3 := hid (btr HAB11.out hB3)
  have K5_3 := hid (bk_on K5_aB11.out hB3)
  have B11_3 := hid (bk_on B11_0.out hB3)
  have TU1 := hid (TU0.out.below hB3)
  have dK53 := K5_3.out.cell
  have fK53 := K5_3.out.free
  have lK53 := K5_3.out.lt
  have dB113 := B11_3.out.cell
  have fB113 := B11_3.out.free
  have lB113 := B11_3.out.lt
  go_wp2_with (go_at_call 22; refine Hid.out ?_)
  refine hid ?_
  refine (A2.out a2 c2 _ HB3.out TU1.out).mono ?_
  rintro e w4 ⟨v4, rfl, hO4, hB4⟩
  have HB4 := hid (btr HB3.out hB4)
  have K5_4 := hid (bk_on K5_3.out hB4)
  have B11_4 := hid (bk_on B11_3.out hB4)
  obtain ⟨a4, c4, rfl⟩ := own_shape hO4.own
  obtain ⟨a4', c4', e4, t4⟩ := hO4.ts
  injection e4 with e4a e4b e4c
  subst e4a e4c
  clear e4b
  have TV := hid (t4)
  have TU2 := hid (TU1.out.below hB4)
  have B15_0 := hid (bk_new w4 #[.int .i64 n, .slice a4 rs.length c4] 24)
  have HAB15 := hid (bal HB4.out (.cells #[.int .i64 n, .slice a4 rs.length c4] 24))
  have hstepB15 := bal (Below.refl w4.heap.size w4) (.cells #[.int .i64 n, .slice a4 rs.length c4] 24)
  have K5_aB15 := hid ((K5_4.out).alloc (.cells #[.int .i64 n, .slice a4 rs.length c4] 24))
  have B11_aB15 := hid ((B11_4.out).alloc (.cells #[.int .i64 n, .slice a4 rs.length c4] 24))
  have dK54 := K5_aB15.out.cell
  have fK54 := K5_aB15.out.free
  have lK54 := K5_aB15.out.lt
  have dB114 := B11_aB15.out.cell
  have fB114 := B11_aB15.out.free
  have lB114 := B11_aB15.out.lt
  have dB154 := B15_0.out.cell
  have fB154 := B15_0.out.free
  have lB154 := B15_0.out.lt
  have TU3 := hid (TU2.out.below hstepB15)
  have TV0 := hid (t4.below hstepB15)
  go_wp2_with (go_at_call 20; refine Hid.out ?_)
  refine hid ?_
  refine (EQ.out a4 c4 _ HAB15.out TV0.out).mono ?_
  rintro e w5 ⟨rfl, hB5⟩
  have HB5 := hid (btr HAB15.out hB5)
  have K5_5 := hid (bk_on K5_aB15.out hB5)
  have B11_5 := hid (bk_on B11_aB15.out hB5)
  have B15_5 := hid (bk_on B15_0.out hB5)
  have TU4 := hid (TU3.out.below hB5)
  have dK55 := K5_5.out.cell
  have fK55 := K5_5.out.free
  have lK55 := K5_5.out.lt
  have dB115 := B11_5.out.cell
  have fB115 := B11_5.out.free
  have lB115 := B11_5.out.lt
  have dB155 := B15_5.out.cell
  have fB155 := B15_5.out.free
  have lB155 := B15_5.out.lt
  go_wp2_with (go_at_call 19; refine Hid.out ?_)
  refine hid ?_
  refine (CU.out a2 c2 _ TU4.out).mono ?_
  rintro e w6 ⟨rfl, hB6⟩
  have HB6 := hid (btr HB5.out hB6)
  have K5_6 := hid (bk_on K5_5.out hB6)
  have B11_6 := hid (bk_on B11_5.out hB6)
  have B15_6 := hid (bk_on B15_5.out hB6)
  have dK56 := K5_6.out.cell
  have fK56 := K5_6.out.free
  have lK56 := K5_6.out.lt
  have dB116 := B11_6.out.cell
  have fB116 := B11_6.out.free
  have lB116 := B11_6.out.lt
  go_wp2_with (go_at_call 15; refine Hid.out ?_)
  refine hid ?_
  refine (CE.out _ HB6.out).mono ?_
  rintro e w7 ⟨rfl, hB7⟩
  have HB7 := hid (btr HB6.out hB7)
  have K5_7 := hid (bk_on K5_6.out hB7)
  have B11_7 := hid (bk_on B11_6.out hB7)
  have B15_7 := hid (bk_on B15_6.out hB7)
  unfold fndV
  have dK57 := K5_7.out.cell
  have fK57 := K5_7.out.free
  have lK57 := K5_7.out.lt
  have dB117 := B11_7.out.cell
  have fB117 := B11_7.out.free
  have lB117 := B11_7.out.lt
  go_wp2_with (go_at_call 24; refine Hid.out ?_)
  refine hid ?_
  refine (PR.out _ HB7.out).mono ?_
  rintro e w8 ⟨v8, rfl, hO8, hB8⟩
  have HB8 := hid (btr HB7.out hB8)
  have K5_8 := hid (bk_on K5_7.out hB8)
  have B11_8 := hid (bk_on B11_7.out hB8)
  have B15_8 := hid (bk_on B15_7.out hB8)
  obtain ⟨a8, c8, rfl⟩ := own_shape hO8.own
  obtain ⟨a8', c8', e8, t8⟩ := hO8.ts
  injection e8 with e8a e8b e8c
  subst e8a e8c
  clear e8b
  have TP := hid (t8)
  have dK58 := K5_8.out.cell
  have fK58 := K5_8.out.free
  have lK58 := K5_8.out.lt
  have dB118 := B11_8.out.cell
  have fB118 := B11_8.out.free
  have lB118 := B11_8.out.lt
  have hw2 : w.heap.size ≤ w2.heap.size := (btr HB1.out hB2).size
  have HBS := hid (bset (bset HB8.out w2.heap.size 0 (.int .i64 T.n) hw2) w2.heap.size 1 (.slice a8 T.rows.length c8) hw2)
  go_wp2
  go_ret
  exact ⟨rfl, HBS.out⟩
set_option maxHeartbeats 2000000 in
set_option maxRecDepth 100000 in
theorem back_CYb (t : Tb) (a : Option Addr) (c : Nat) (s : ByteArray) (q : Nat → Int) (aq : Option Addr) (m cq : Nat) (Q bit : Int) (w : World) (H : TS w a c t.rows) (HQ : BL.Row aq q m w) (hm : m ≤ cq) (hc : cq ≤ 9223372036854775807) (hR : Rt t) (hE : gE t.n s q m = 0) (o e f : Int) (is : Bool) (T : Tb) (hC : fndT t Q = (o, is, e)) (hP : prjT t Q bit = (T, f)) (hf : f ≠ 0) (he : e = 0) (hbb : bit < 0) :
    Calls Try.prog 7 #[t.v a c, .string s, .slice aq m cq, .int .i64 Q, .int .i64 bit] w fun e w' => e = .returned (.bool true) ∧ Below w.heap.size w w' := by
  have AW := hid (fun w' => awake_any w')
  obtain ⟨g, hg, rfl, hmk, hPl, hql⟩ := gE_ok hR.n1 hE
  subst hmk
  have hkB := (PL.cgk_is g hg).2.2.1
  have AP := hid (fun w' (h' : Below w.heap.size w w') => apply_yes t a c g hg q aq cq w' (H.below h') hR (HQ.below h') hm hc hE hPl hql)
  have hRU := hR.turn hg hPl hql
  have hE2 := gE_inv hg hE
  have A2 := hid (fun a2 c2 w' (h' : Below w.heap.size w w') (h2 : TS w' a2 c2 (t.rows.map (trR g q))) => apply_yes ⟨t.n, t.rows.map (trR g q)⟩ a2 c2 (cgB g) (PL.cgk_is g hg).2.1 q aq cq w' h2 hRU (by rw [hkB]; exact HQ.below h') (by rw [hkB]; exact hm) hc hE2 (by rw [hkB]; exact hPl) (by rw [hkB]; exact hql))
  have hTB := turn_back hR hg hPl
  rw [show (⟨t.n, t.rows.map (trR g q)⟩ : Tb).rows.map (trR (cgB g) q) = t.rows from hTB, hkB] at A2
  have IV := hid (fun w' => inverse_any (cgN g) w')
  rw [(gE_names g hg).2.2.1, (gE_names g hg).2.2.2] at IV
  have EQ := hid (fun a2 c2 w' (h' : Below w.heap.size w w') (h2 : TS w' a2 c2 t.rows) => requal_any t t a2 a c2 c w' h2 (H.below h') true (fun _ => rfl) (fun h => absurd rfl h))
  have CU := hid (fun a2 c2 w' (h2 : TS w' a2 c2 (t.rows.map (trR g q))) => rcheck_all ⟨t.n, t.rows.map (trR g q)⟩ a2 c2 w' h2 0 (fun _ => rfl) (fun h => absurd hRU h))
  have CE := hid (fun w' (h' : Below w.heap.size w w') => certain_t t a c Q w' (H.below h') hR)
  have PR := hid (fun w' (h' : Below w.heap.size w w') => project_t t a c Q bit w' (H.below h') hR)
  rw [hC] at CE
  rw [hP] at PR
  have hf' : (f != 0) = true := bne_iff_ne.2 hf
  subst he
  clear hC hP hf
  generalize t.rows.map (trR g q) = RU at *
  generalize cgN (cgB g) = s2 at *
  generalize cgN g = s at *
  generalize cgk g = m at *
  have HB0 := hid (bal (Below.refl w.heap.size w) (.cells #[.int .i64 t.n, .slice a t.rows.length c] 24))
  have K5 := hid (bk_new w #[.int .i64 t.n, .slice a t.rows.length c] 24)
  clear H HQ hR hE hRU hE2 hTB hPl hql hkB
  obtain ⟨n, rs⟩ := t
  simp only at *
  go_enter Try.func7, Try.ntmps7
  go_wp2_with (go_at_call 9; refine Hid.out ?_)
  refine hid ?_
  refine (AW.out _).mono ?_
  rintro e w1 ⟨rfl, hB1⟩
  have HB1 := hid (btr HB0.out hB1)
  have K5_1 := hid (bk_on K5.out hB1)
  have dK51 := K5_1.out.cell
  have fK51 := K5_1.out.free
  have lK51 := K5_1.out.lt
  go_wp2_with (go_at_call 22; refine Hid.out ?_)
  refine hid ?_
  refine (AP.out _ HB1.out).mono ?_
  rintro e w2 ⟨v2, rfl, hO2, hB2⟩
  have HB2 := hid (btr HB1.out hB2)
  have K5_2 := hid (bk_on K5_1.out hB2)
  obtain ⟨a2, c2, rfl⟩ := own_shape hO2.own
  obtain ⟨a2', c2', e2, t2⟩ := hO2.ts
  injection e2 with e2a e2b e2c
  subst e2a e2c
  clear e2b
  have TU := hid (t2)
  have B11_0 := hid (bk_new w2 #[.int .i64 n, .slice a2 RU.length c2] 24)
  have HAB11 := hid (bal HB2.out (.cells #[.int .i64 n, .slice a2 RU.length c2] 24))
  have hstepB11 := bal (Below.refl w2.heap.size w2) (.cells #[.int .i64 n, .slice a2 RU.length c2] 24)
  have K5_aB11 := hid ((K5_2.out).alloc (.cells #[.int .i64 n, .slice a2 RU.length c2] 24))
  have dK52 := K5_aB11.out.cell
  have fK52 := K5_aB11.out.free
  have lK52 := K5_aB11.out.lt
  have dB112 := B11_0.out.cell
  have fB112 := B11_0.out.free
  have lB112 := B11_0.out.lt
  have TU0 := hid (t2.below hstepB11)
  go_wp2_with (go_at_call 31; refine Hid.out ?_)
  refine hid ?_
  refine (IV.out _).mono ?_
  rintro e w3 ⟨rfl, hB3⟩
  have HB3 := hid (btr HAB11.out hB3)
  have K5_3 := hid (bk_on K5_aB11.out hB3)
  have B11_3 := hid (bk_on B11_0.out hB3)
  have TU1 := hid (TU0.out.below hB3)
  have dK53 := K5_3.out.cell
  have fK53 := K5_3.out.free
  have lK53 := K5_3.out.lt
  have dB113 := B11_3.out.cell
  have fB113 := B11_3.out.free
  have lB113 := B11_3.out.lt
  go_wp2_with (go_at_call 22; refine Hid.out ?_)
  refine hid ?_
  refine (A2.out a2 c2 _ HB3.out TU1.out).mono ?_
  rintro e w4 ⟨v4, rfl, hO4, hB4⟩
  have HB4 := hid (btr HB3.out hB4)
  have K5_4 := hid (bk_on K5_3.out hB4)
  have B11_4 := hid (bk_on B11_3.out hB4)
  obtain ⟨a4, c4, rfl⟩ := own_shape hO4.own
  obtain ⟨a4', c4', e4, t4⟩ := hO4.ts
  injection e4 with e4a e4b e4c
  subst e4a e4c
  clear e4b
  have TV := hid (t4)
  have TU2 := hid (TU1.out.below hB4)
  have B15_0 := hid (bk_new w4 #[.int .i64 n, .slice a4 rs.length c4] 24)
  have HAB15 := hid (bal HB4.out (.cells #[.int .i64 n, .slice a4 rs.length c4] 24))
  have hstepB15 := bal (Below.refl w4.heap.size w4) (.cells #[.int .i64 n, .slice a4 rs.length c4] 24)
  have K5_aB15 := hid ((K5_4.out).alloc (.cells #[.int .i64 n, .slice a4 rs.length c4] 24))
  have B11_aB15 := hid ((B11_4.out).alloc (.cells #[.int .i64 n, .slice a4 rs.length c4] 24))
  have dK54 := K5_aB15.out.cell
  have fK54 := K5_aB15.out.free
  have lK54 := K5_aB15.out.lt
  have dB114 := B11_aB15.out.cell
  have fB114 := B11_aB15.out.free
  have lB114 := B11_aB15.out.lt
  have dB154 := B15_0.out.cell
  have fB154 := B15_0.out.free
  have lB154 := B15_0.out.lt
  have TU3 := hid (TU2.out.below hstepB15)
  have TV0 := hid (t4.below hstepB15)
  go_wp2_with (go_at_call 20; refine Hid.out ?_)
  refine hid ?_
  refine (EQ.out a4 c4 _ HAB15.out TV0.out).mono ?_
  rintro e w5 ⟨rfl, hB5⟩
  have HB5 := hid (btr HAB15.out hB5)
  have K5_5 := hid (bk_on K5_aB15.out hB5)
  have B11_5 := hid (bk_on B11_aB15.out hB5)
  have B15_5 := hid (bk_on B15_0.out hB5)
  have TU4 := hid (TU3.out.below hB5)
  have dK55 := K5_5.out.cell
  have fK55 := K5_5.out.free
  have lK55 := K5_5.out.lt
  have dB115 := B11_5.out.cell
  have fB115 := B11_5.out.free
  have lB115 := B11_5.out.lt
  have dB155 := B15_5.out.cell
  have fB155 := B15_5.out.free
  have lB155 := B15_5.out.lt
  go_wp2_with (go_at_call 19; refine Hid.out ?_)
  refine hid ?_
  refine (CU.out a2 c2 _ TU4.out).mono ?_
  rintro e w6 ⟨rfl, hB6⟩
  have HB6 := hid (btr HB5.out hB6)
  have K5_6 := hid (bk_on K5_5.out hB6)
  have B11_6 := hid (bk_on B11_5.out hB6)
  have B15_6 := hid (bk_on B15_5.out hB6)
  have dK56 := K5_6.out.cell
  have fK56 := K5_6.out.free
  have lK56 := K5_6.out.lt
  have dB116 := B11_6.out.cell
  have fB116 := B11_6.out.free
  have lB116 := B11_6.out.lt
  go_wp2_with (go_at_call 15; refine Hid.out ?_)
  refine hid ?_
  refine (CE.out _ HB6.out).mono ?_
  rintro e w7 ⟨rfl, hB7⟩
  have HB7 := hid (btr HB6.out hB7)
  have K5_7 := hid (bk_on K5_6.out hB7)
  have B11_7 := hid (bk_on B11_6.out hB7)
  have B15_7 := hid (bk_on B15_6.out hB7)
  unfold fndV
  have dK57 := K5_7.out.cell
  have fK57 := K5_7.out.free
  have lK57 := K5_7.out.lt
  have dB117 := B11_7.out.cell
  have fB117 := B11_7.out.free
  have lB117 := B11_7.out.lt
  go_wp2_with (go_at_call 24; refine Hid.out ?_)
  refine hid ?_
  refine (PR.out _ HB7.out).mono ?_
  rintro e w8 ⟨v8, rfl, hO8, hB8⟩
  have HB8 := hid (btr HB7.out hB8)
  have K5_8 := hid (bk_on K5_7.out hB8)
  have B11_8 := hid (bk_on B11_7.out hB8)
  have B15_8 := hid (bk_on B15_7.out hB8)
  obtain ⟨a8, c8, rfl⟩ := own_shape hO8.own
  obtain ⟨a8', c8', e8, t8⟩ := hO8.ts
  injection e8 with e8a e8b e8c
  subst e8a e8c
  clear e8b
  have TP := hid (t8)
  have dK58 := K5_8.out.cell
  have fK58 := K5_8.out.free
  have lK58 := K5_8.out.lt
  have dB118 := B11_8.out.cell
  have fB118 := B11_8.out.free
  have lB118 := B11_8.out.lt
  have hw2 : w.heap.size ≤ w2.heap.size := (btr HB1.out hB2).size
  have HBS := hid (bset (bset HB8.out w2.heap.size 0 (.int .i64 T.n) hw2) w2.heap.size 1 (.slice a8 T.rows.length c8) hw2)
  go_wp2
  go_ret
  exact ⟨rfl, HBS.out⟩
set_option maxHeartbeats 2000000 in
set_option maxRecDepth 100000 in
theorem back_CXb (t : Tb) (a : Option Addr) (c : Nat) (s : ByteArray) (q : Nat → Int) (aq : Option Addr) (m cq : Nat) (Q bit : Int) (w : World) (H : TS w a c t.rows) (HQ : BL.Row aq q m w) (hm : m ≤ cq) (hc : cq ≤ 9223372036854775807) (hR : Rt t) (hE : gE t.n s q m = 0) (o e f : Int) (is : Bool) (T : Tb) (hC : fndT t Q = (o, is, e)) (hP : prjT t Q bit = (T, f)) (hf : f ≠ 0) (he : e = 0) (hbb : 1 < bit) :
    Calls Try.prog 7 #[t.v a c, .string s, .slice aq m cq, .int .i64 Q, .int .i64 bit] w fun e w' => e = .returned (.bool true) ∧ Below w.heap.size w w' := by
  have AW := hid (fun w' => awake_any w')
  obtain ⟨g, hg, rfl, hmk, hPl, hql⟩ := gE_ok hR.n1 hE
  subst hmk
  have hkB := (PL.cgk_is g hg).2.2.1
  have AP := hid (fun w' (h' : Below w.heap.size w w') => apply_yes t a c g hg q aq cq w' (H.below h') hR (HQ.below h') hm hc hE hPl hql)
  have hRU := hR.turn hg hPl hql
  have hE2 := gE_inv hg hE
  have A2 := hid (fun a2 c2 w' (h' : Below w.heap.size w w') (h2 : TS w' a2 c2 (t.rows.map (trR g q))) => apply_yes ⟨t.n, t.rows.map (trR g q)⟩ a2 c2 (cgB g) (PL.cgk_is g hg).2.1 q aq cq w' h2 hRU (by rw [hkB]; exact HQ.below h') (by rw [hkB]; exact hm) hc hE2 (by rw [hkB]; exact hPl) (by rw [hkB]; exact hql))
  have hTB := turn_back hR hg hPl
  rw [show (⟨t.n, t.rows.map (trR g q)⟩ : Tb).rows.map (trR (cgB g) q) = t.rows from hTB, hkB] at A2
  have IV := hid (fun w' => inverse_any (cgN g) w')
  rw [(gE_names g hg).2.2.1, (gE_names g hg).2.2.2] at IV
  have EQ := hid (fun a2 c2 w' (h' : Below w.heap.size w w') (h2 : TS w' a2 c2 t.rows) => requal_any t t a2 a c2 c w' h2 (H.below h') true (fun _ => rfl) (fun h => absurd rfl h))
  have CU := hid (fun a2 c2 w' (h2 : TS w' a2 c2 (t.rows.map (trR g q))) => rcheck_all ⟨t.n, t.rows.map (trR g q)⟩ a2 c2 w' h2 0 (fun _ => rfl) (fun h => absurd hRU h))
  have CE := hid (fun w' (h' : Below w.heap.size w w') => certain_t t a c Q w' (H.below h') hR)
  have PR := hid (fun w' (h' : Below w.heap.size w w') => project_t t a c Q bit w' (H.below h') hR)
  rw [hC] at CE
  rw [hP] at PR
  have hf' : (f != 0) = true := bne_iff_ne.2 hf
  subst he
  have hb2 : ¬ bit < 0 := by omega
  clear hC hP hf
  generalize t.rows.map (trR g q) = RU at *
  generalize cgN (cgB g) = s2 at *
  generalize cgN g = s at *
  generalize cgk g = m at *
  have HB0 := hid (bal (Below.refl w.heap.size w) (.cells #[.int .i64 t.n, .slice a t.rows.length c] 24))
  have K5 := hid (bk_new w #[.int .i64 t.n, .slice a t.rows.length c] 24)
  clear H HQ hR hE hRU hE2 hTB hPl hql hkB
  obtain ⟨n, rs⟩ := t
  simp only at *
  go_enter Try.func7, Try.ntmps7
  go_wp2_with (go_at_call 9; refine Hid.out ?_)
  refine hid ?_
  refine (AW.out _).mono ?_
  rintro e w1 ⟨rfl, hB1⟩
  have HB1 := hid (btr HB0.out hB1)
  have K5_1 := hid (bk_on K5.out hB1)
  have dK51 := K5_1.out.cell
  have fK51 := K5_1.out.free
  have lK51 := K5_1.out.lt
  go_wp2_with (go_at_call 22; refine Hid.out ?_)
  refine hid ?_
  refine (AP.out _ HB1.out).mono ?_
  rintro e w2 ⟨v2, rfl, hO2, hB2⟩
  have HB2 := hid (btr HB1.out hB2)
  have K5_2 := hid (bk_on K5_1.out hB2)
  obtain ⟨a2, c2, rfl⟩ := own_shape hO2.own
  obtain ⟨a2', c2', e2, t2⟩ := hO2.ts
  injection e2 with e2a e2b e2c
  subst e2a e2c
  clear e2b
  have TU := hid (t2)
  have B11_0 := hid (bk_new w2 #[.int .i64 n, .slice a2 RU.length c2] 24)
  have HAB11 := hid (bal HB2.out (.cells #[.int .i64 n, .slice a2 RU.length c2] 24))
  have hstepB11 := bal (Below.refl w2.heap.size w2) (.cells #[.int .i64 n, .slice a2 RU.length c2] 24)
  have K5_aB11 := hid ((K5_2.out).alloc (.cells #[.int .i64 n, .slice a2 RU.length c2] 24))
  have dK52 := K5_aB11.out.cell
  have fK52 := K5_aB11.out.free
  have lK52 := K5_aB11.out.lt
  have dB112 := B11_0.out.cell
  have fB112 := B11_0.out.free
  have lB112 := B11_0.out.lt
  have TU0 := hid (t2.below hstepB11)
  go_wp2_with (go_at_call 31; refine Hid.out ?_)
  refine hid ?_
  refine (IV.out _).mono ?_
  rintro e w3 ⟨rfl, hB3⟩
  have HB3 := hid (btr HAB11.out hB3)
  have K5_3 := hid (bk_on K5_aB11.out hB3)
  have B11_3 := hid (bk_on B11_0.out hB3)
  have TU1 := hid (TU0.out.below hB3)
  have dK53 := K5_3.out.cell
  have fK53 := K5_3.out.free
  have lK53 := K5_3.out.lt
  have dB113 := B11_3.out.cell
  have fB113 := B11_3.out.free
  have lB113 := B11_3.out.lt
  go_wp2_with (go_at_call 22; refine Hid.out ?_)
  refine hid ?_
  refine (A2.out a2 c2 _ HB3.out TU1.out).mono ?_
  rintro e w4 ⟨v4, rfl, hO4, hB4⟩
  have HB4 := hid (btr HB3.out hB4)
  have K5_4 := hid (bk_on K5_3.out hB4)
  have B11_4 := hid (bk_on B11_3.out hB4)
  obtain ⟨a4, c4, rfl⟩ := own_shape hO4.own
  obtain ⟨a4', c4', e4, t4⟩ := hO4.ts
  injection e4 with e4a e4b e4c
  subst e4a e4c
  clear e4b
  have TV := hid (t4)
  have TU2 := hid (TU1.out.below hB4)
  have B15_0 := hid (bk_new w4 #[.int .i64 n, .slice a4 rs.length c4] 24)
  have HAB15 := hid (bal HB4.out (.cells #[.int .i64 n, .slice a4 rs.length c4] 24))
  have hstepB15 := bal (Below.refl w4.heap.size w4) (.cells #[.int .i64 n, .slice a4 rs.length c4] 24)
  have K5_aB15 := hid ((K5_4.out).alloc (.cells #[.int .i64 n, .slice a4 rs.length c4] 24))
  have B11_aB15 := hid ((B11_4.out).alloc (.cells #[.int .i64 n, .slice a4 rs.length c4] 24))
  have dK54 := K5_aB15.out.cell
  have fK54 := K5_aB15.out.free
  have lK54 := K5_aB15.out.lt
  have dB114 := B11_aB15.out.cell
  have fB114 := B11_aB15.out.free
  have lB114 := B11_aB15.out.lt
  have dB154 := B15_0.out.cell
  have fB154 := B15_0.out.free
  have lB154 := B15_0.out.lt
  have TU3 := hid (TU2.out.below hstepB15)
  have TV0 := hid (t4.below hstepB15)
  go_wp2_with (go_at_call 20; refine Hid.out ?_)
  refine hid ?_
  refine (EQ.out a4 c4 _ HAB15.out TV0.out).mono ?_
  rintro e w5 ⟨rfl, hB5⟩
  have HB5 := hid (btr HAB15.out hB5)
  have K5_5 := hid (bk_on K5_aB15.out hB5)
  have B11_5 := hid (bk_on B11_aB15.out hB5)
  have B15_5 := hid (bk_on B15_0.out hB5)
  have TU4 := hid (TU3.out.below hB5)
  have dK55 := K5_5.out.cell
  have fK55 := K5_5.out.free
  have lK55 := K5_5.out.lt
  have dB115 := B11_5.out.cell
  have fB115 := B11_5.out.free
  have lB115 := B11_5.out.lt
  have dB155 := B15_5.out.cell
  have fB155 := B15_5.out.free
  have lB155 := B15_5.out.lt
  go_wp2_with (go_at_call 19; refine Hid.out ?_)
  refine hid ?_
  refine (CU.out a2 c2 _ TU4.out).mono ?_
  rintro e w6 ⟨rfl, hB6⟩
  have HB6 := hid (btr HB5.out hB6)
  have K5_6 := hid (bk_on K5_5.out hB6)
  have B11_6 := hid (bk_on B11_5.out hB6)
  have B15_6 := hid (bk_on B15_5.out hB6)
  have dK56 := K5_6.out.cell
  have fK56 := K5_6.out.free
  have lK56 := K5_6.out.lt
  have dB116 := B11_6.out.cell
  have fB116 := B11_6.out.free
  have lB116 := B11_6.out.lt
  go_wp2_with (go_at_call 15; refine Hid.out ?_)
  refine hid ?_
  refine (CE.out _ HB6.out).mono ?_
  rintro e w7 ⟨rfl, hB7⟩
  have HB7 := hid (btr HB6.out hB7)
  have K5_7 := hid (bk_on K5_6.out hB7)
  have B11_7 := hid (bk_on B11_6.out hB7)
  have B15_7 := hid (bk_on B15_6.out hB7)
  unfold fndV
  have dK57 := K5_7.out.cell
  have fK57 := K5_7.out.free
  have lK57 := K5_7.out.lt
  have dB117 := B11_7.out.cell
  have fB117 := B11_7.out.free
  have lB117 := B11_7.out.lt
  go_wp2_with (go_at_call 24; refine Hid.out ?_)
  refine hid ?_
  refine (PR.out _ HB7.out).mono ?_
  rintro e w8 ⟨v8, rfl, hO8, hB8⟩
  have HB8 := hid (btr HB7.out hB8)
  have K5_8 := hid (bk_on K5_7.out hB8)
  have B11_8 := hid (bk_on B11_7.out hB8)
  have B15_8 := hid (bk_on B15_7.out hB8)
  obtain ⟨a8, c8, rfl⟩ := own_shape hO8.own
  obtain ⟨a8', c8', e8, t8⟩ := hO8.ts
  injection e8 with e8a e8b e8c
  subst e8a e8c
  clear e8b
  have TP := hid (t8)
  have dK58 := K5_8.out.cell
  have fK58 := K5_8.out.free
  have lK58 := K5_8.out.lt
  have dB118 := B11_8.out.cell
  have fB118 := B11_8.out.free
  have lB118 := B11_8.out.lt
  have hw2 : w.heap.size ≤ w2.heap.size := (btr HB1.out hB2).size
  have HBS := hid (bset (bset HB8.out w2.heap.size 0 (.int .i64 T.n) hw2) w2.heap.size 1 (.slice a8 T.rows.length c8) hw2)
  go_wp2
  go_ret
  exact ⟨rfl, HBS.out⟩
set_option maxHeartbeats 2000000 in
set_option maxRecDepth 100000 in
theorem back_CE0 (t : Tb) (a : Option Addr) (c : Nat) (s : ByteArray) (q : Nat → Int) (aq : Option Addr) (m cq : Nat) (Q bit : Int) (w : World) (H : TS w a c t.rows) (HQ : BL.Row aq q m w) (hm : m ≤ cq) (hc : cq ≤ 9223372036854775807) (hR : Rt t) (hE : gE t.n s q m = 0) (hC : fndT t Q = (bit, true, 0)) (hbit : bit = 0) :
    Calls Try.prog 7 #[t.v a c, .string s, .slice aq m cq, .int .i64 Q, .int .i64 bit] w fun e w' => e = .returned (.bool true) ∧ Below w.heap.size w w' := by
  subst hbit
  have AW := hid (fun w' => awake_any w')
  obtain ⟨g, hg, rfl, hmk, hPl, hql⟩ := gE_ok hR.n1 hE
  subst hmk
  have hkB := (PL.cgk_is g hg).2.2.1
  have AP := hid (fun w' (h' : Below w.heap.size w w') => apply_yes t a c g hg q aq cq w' (H.below h') hR (HQ.below h') hm hc hE hPl hql)
  have hRU := hR.turn hg hPl hql
  have hE2 := gE_inv hg hE
  have A2 := hid (fun a2 c2 w' (h' : Below w.heap.size w w') (h2 : TS w' a2 c2 (t.rows.map (trR g q))) => apply_yes ⟨t.n, t.rows.map (trR g q)⟩ a2 c2 (cgB g) (PL.cgk_is g hg).2.1 q aq cq w' h2 hRU (by rw [hkB]; exact HQ.below h') (by rw [hkB]; exact hm) hc hE2 (by rw [hkB]; exact hPl) (by rw [hkB]; exact hql))
  have hTB := turn_back hR hg hPl
  rw [show (⟨t.n, t.rows.map (trR g q)⟩ : Tb).rows.map (trR (cgB g) q) = t.rows from hTB, hkB] at A2
  have IV := hid (fun w' => inverse_any (cgN g) w')
  rw [(gE_names g hg).2.2.1, (gE_names g hg).2.2.2] at IV
  have EQ := hid (fun a2 c2 w' (h' : Below w.heap.size w w') (h2 : TS w' a2 c2 t.rows) => requal_any t t a2 a c2 c w' h2 (H.below h') true (fun _ => rfl) (fun h => absurd rfl h))
  have CU := hid (fun a2 c2 w' (h2 : TS w' a2 c2 (t.rows.map (trR g q))) => rcheck_all ⟨t.n, t.rows.map (trR g q)⟩ a2 c2 w' h2 0 (fun _ => rfl) (fun h => absurd hRU h))
  have CE := hid (fun w' (h' : Below w.heap.size w w') => certain_t t a c Q w' (H.below h') hR)
  have PR := hid (fun w' (h' : Below w.heap.size w w') => project_t t a c Q 0 w' (H.below h') hR)
  have hP : prjT t Q 0 = (t, 0) := by unfold prjT; rw [hC, if_neg (fun e => e rfl), if_neg (fun e => e (by decide)), if_neg (fun e => by cases (e : true = false)), if_neg (fun e => e rfl)]
  rw [hC] at CE
  rw [hP] at PR
  clear hC hP
  generalize t.rows.map (trR g q) = RU at *
  generalize cgN (cgB g) = s2 at *
  generalize cgN g = s at *
  generalize cgk g = m at *
  have HB0 := hid (bal (Below.refl w.heap.size w) (.cells #[.int .i64 t.n, .slice a t.rows.length c] 24))
  have K5 := hid (bk_new w #[.int .i64 t.n, .slice a t.rows.length c] 24)
  clear H HQ hR hE hRU hE2 hTB hPl hql hkB
  obtain ⟨n, rs⟩ := t
  simp only at *
  go_enter Try.func7, Try.ntmps7
  go_wp2_with (go_at_call 9; refine Hid.out ?_)
  refine hid ?_
  refine (AW.out _).mono ?_
  rintro e w1 ⟨rfl, hB1⟩
  have HB1 := hid (btr HB0.out hB1)
  have K5_1 := hid (bk_on K5.out hB1)
  have dK51 := K5_1.out.cell
  have fK51 := K5_1.out.free
  have lK51 := K5_1.out.lt
  go_wp2_with (go_at_call 22; refine Hid.out ?_)
  refine hid ?_
  refine (AP.out _ HB1.out).mono ?_
  rintro e w2 ⟨v2, rfl, hO2, hB2⟩
  have HB2 := hid (btr HB1.out hB2)
  have K5_2 := hid (bk_on K5_1.out hB2)
  obtain ⟨a2, c2, rfl⟩ := own_shape hO2.own
  obtain ⟨a2', c2', e2, t2⟩ := hO2.ts
  injection e2 with e2a e2b e2c
  subst e2a e2c
  clear e2b
  have TU := hid (t2)
  have B11_0 := hid (bk_new w2 #[.int .i64 n, .slice a2 RU.length c2] 24)
  have HAB11 := hid (bal HB2.out (.cells #[.int .i64 n, .slice a2 RU.length c2] 24))
  have hstepB11 := bal (Below.refl w2.heap.size w2) (.cells #[.int .i64 n, .slice a2 RU.length c2] 24)
  have K5_aB11 := hid ((K5_2.out).alloc (.cells #[.int .i64 n, .slice a2 RU.length c2] 24))
  have dK52 := K5_aB11.out.cell
  have fK52 := K5_aB11.out.free
  have lK52 := K5_aB11.out.lt
  have dB112 := B11_0.out.cell
  have fB112 := B11_0.out.free
  have lB112 := B11_0.out.lt
  have TU0 := hid (t2.below hstepB11)
  go_wp2_with (go_at_call 31; refine Hid.out ?_)
  refine hid ?_
  refine (IV.out _).mono ?_
  rintro e w3 ⟨rfl, hB3⟩
  have HB3 := hid (btr HAB11.out hB3)
  have K5_3 := hid (bk_on K5_aB11.out hB3)
  have B11_3 := hid (bk_on B11_0.out hB3)
  have TU1 := hid (TU0.out.below hB3)
  have dK53 := K5_3.out.cell
  have fK53 := K5_3.out.free
  have lK53 := K5_3.out.lt
  have dB113 := B11_3.out.cell
  have fB113 := B11_3.out.free
  have lB113 := B11_3.out.lt
  go_wp2_with (go_at_call 22; refine Hid.out ?_)
  refine hid ?_
  refine (A2.out a2 c2 _ HB3.out TU1.out).mono ?_
  rintro e w4 ⟨v4, rfl, hO4, hB4⟩
  have HB4 := hid (btr HB3.out hB4)
  have K5_4 := hid (bk_on K5_3.out hB4)
  have B11_4 := hid (bk_on B11_3.out hB4)
  obtain ⟨a4, c4, rfl⟩ := own_shape hO4.own
  obtain ⟨a4', c4', e4, t4⟩ := hO4.ts
  injection e4 with e4a e4b e4c
  subst e4a e4c
  clear e4b
  have TV := hid (t4)
  have TU2 := hid (TU1.out.below hB4)
  have B15_0 := hid (bk_new w4 #[.int .i64 n, .slice a4 rs.length c4] 24)
  have HAB15 := hid (bal HB4.out (.cells #[.int .i64 n, .slice a4 rs.length c4] 24))
  have hstepB15 := bal (Below.refl w4.heap.size w4) (.cells #[.int .i64 n, .slice a4 rs.length c4] 24)
  have K5_aB15 := hid ((K5_4.out).alloc (.cells #[.int .i64 n, .slice a4 rs.length c4] 24))
  have B11_aB15 := hid ((B11_4.out).alloc (.cells #[.int .i64 n, .slice a4 rs.length c4] 24))
  have dK54 := K5_aB15.out.cell
  have fK54 := K5_aB15.out.free
  have lK54 := K5_aB15.out.lt
  have dB114 := B11_aB15.out.cell
  have fB114 := B11_aB15.out.free
  have lB114 := B11_aB15.out.lt
  have dB154 := B15_0.out.cell
  have fB154 := B15_0.out.free
  have lB154 := B15_0.out.lt
  have TU3 := hid (TU2.out.below hstepB15)
  have TV0 := hid (t4.below hstepB15)
  go_wp2_with (go_at_call 20; refine Hid.out ?_)
  refine hid ?_
  refine (EQ.out a4 c4 _ HAB15.out TV0.out).mono ?_
  rintro e w5 ⟨rfl, hB5⟩
  have HB5 := hid (btr HAB15.out hB5)
  have K5_5 := hid (bk_on K5_aB15.out hB5)
  have B11_5 := hid (bk_on B11_aB15.out hB5)
  have B15_5 := hid (bk_on B15_0.out hB5)
  have TU4 := hid (TU3.out.below hB5)
  have dK55 := K5_5.out.cell
  have fK55 := K5_5.out.free
  have lK55 := K5_5.out.lt
  have dB115 := B11_5.out.cell
  have fB115 := B11_5.out.free
  have lB115 := B11_5.out.lt
  have dB155 := B15_5.out.cell
  have fB155 := B15_5.out.free
  have lB155 := B15_5.out.lt
  go_wp2_with (go_at_call 19; refine Hid.out ?_)
  refine hid ?_
  refine (CU.out a2 c2 _ TU4.out).mono ?_
  rintro e w6 ⟨rfl, hB6⟩
  have HB6 := hid (btr HB5.out hB6)
  have K5_6 := hid (bk_on K5_5.out hB6)
  have B11_6 := hid (bk_on B11_5.out hB6)
  have B15_6 := hid (bk_on B15_5.out hB6)
  have dK56 := K5_6.out.cell
  have fK56 := K5_6.out.free
  have lK56 := K5_6.out.lt
  have dB116 := B11_6.out.cell
  have fB116 := B11_6.out.free
  have lB116 := B11_6.out.lt
  go_wp2_with (go_at_call 15; refine Hid.out ?_)
  refine hid ?_
  refine (CE.out _ HB6.out).mono ?_
  rintro e w7 ⟨rfl, hB7⟩
  have HB7 := hid (btr HB6.out hB7)
  have K5_7 := hid (bk_on K5_6.out hB7)
  have B11_7 := hid (bk_on B11_6.out hB7)
  have B15_7 := hid (bk_on B15_6.out hB7)
  unfold fndV
  have dK57 := K5_7.out.cell
  have fK57 := K5_7.out.free
  have lK57 := K5_7.out.lt
  have dB117 := B11_7.out.cell
  have fB117 := B11_7.out.free
  have lB117 := B11_7.out.lt
  go_wp2_with (go_at_call 24; refine Hid.out ?_)
  refine hid ?_
  refine (PR.out _ HB7.out).mono ?_
  rintro e w8 ⟨v8, rfl, hO8, hB8⟩
  have HB8 := hid (btr HB7.out hB8)
  have K5_8 := hid (bk_on K5_7.out hB8)
  have B11_8 := hid (bk_on B11_7.out hB8)
  have B15_8 := hid (bk_on B15_7.out hB8)
  obtain ⟨a8, c8, rfl⟩ := own_shape hO8.own
  obtain ⟨a8', c8', e8, t8⟩ := hO8.ts
  injection e8 with e8a e8b e8c
  subst e8a e8c
  clear e8b
  have TP := hid (t8)
  have dK58 := K5_8.out.cell
  have fK58 := K5_8.out.free
  have lK58 := K5_8.out.lt
  have dB118 := B11_8.out.cell
  have fB118 := B11_8.out.free
  have lB118 := B11_8.out.lt
  have hw2 : w.heap.size ≤ w2.heap.size := (btr HB1.out hB2).size
  have HBS := hid (bset (bset HB8.out w2.heap.size 0 (.int .i64 n) hw2) w2.heap.size 1 (.slice a8 rs.length c8) hw2)
  have B11S := hid ((B11_8.out.set 0 (.int .i64 n)).set 1 (.slice a8 rs.length c8))
  have hne5 : w2.heap.size ≠ w.heap.size := fun e => by have h1 := K5_1.out.lt; have h2 := hB2.size; omega
  have K5S := hid ((K5_8.out.far hne5 0 (.int .i64 n)).far hne5 1 (.slice a8 rs.length c8))
  have hOS := (hO8.put B11_8.out (by decide) 0 (.int .i64 n)).put (B11_8.out.set 0 (.int .i64 n)) (by decide) 1 (.slice a8 rs.length c8)
  obtain ⟨aS, cS, eS, tS⟩ := hOS.ts
  injection eS with eSa eSb eSc
  subst eSa eSc
  clear eSb
  have TS0 := hid tS
  have dK5S := K5S.out.cell
  have lK5S := K5S.out.lt
  have dB11S := B11S.out.cell
  have fB11S := B11S.out.free
  have lB11S := B11S.out.lt
  go_wp2_with (go_at_call 20; refine Hid.out ?_)
  refine hid ?_
  refine (EQ.out a8 c8 _ HBS.out TS0.out).mono ?_
  rintro e w9 ⟨rfl, hB9⟩
  have HB9 := hid (btr HBS.out hB9)
  have K5_9 := hid (bk_on K5S.out hB9)
  have B11_9 := hid (bk_on B11S.out hB9)
  go_wp2
  go_ret
  exact ⟨rfl, HB9.out⟩
set_option maxHeartbeats 2000000 in
set_option maxRecDepth 100000 in
theorem back_CE1 (t : Tb) (a : Option Addr) (c : Nat) (s : ByteArray) (q : Nat → Int) (aq : Option Addr) (m cq : Nat) (Q bit : Int) (w : World) (H : TS w a c t.rows) (HQ : BL.Row aq q m w) (hm : m ≤ cq) (hc : cq ≤ 9223372036854775807) (hR : Rt t) (hE : gE t.n s q m = 0) (hC : fndT t Q = (bit, true, 0)) (hbit : bit = 1) :
    Calls Try.prog 7 #[t.v a c, .string s, .slice aq m cq, .int .i64 Q, .int .i64 bit] w fun e w' => e = .returned (.bool true) ∧ Below w.heap.size w w' := by
  subst hbit
  have AW := hid (fun w' => awake_any w')
  obtain ⟨g, hg, rfl, hmk, hPl, hql⟩ := gE_ok hR.n1 hE
  subst hmk
  have hkB := (PL.cgk_is g hg).2.2.1
  have AP := hid (fun w' (h' : Below w.heap.size w w') => apply_yes t a c g hg q aq cq w' (H.below h') hR (HQ.below h') hm hc hE hPl hql)
  have hRU := hR.turn hg hPl hql
  have hE2 := gE_inv hg hE
  have A2 := hid (fun a2 c2 w' (h' : Below w.heap.size w w') (h2 : TS w' a2 c2 (t.rows.map (trR g q))) => apply_yes ⟨t.n, t.rows.map (trR g q)⟩ a2 c2 (cgB g) (PL.cgk_is g hg).2.1 q aq cq w' h2 hRU (by rw [hkB]; exact HQ.below h') (by rw [hkB]; exact hm) hc hE2 (by rw [hkB]; exact hPl) (by rw [hkB]; exact hql))
  have hTB := turn_back hR hg hPl
  rw [show (⟨t.n, t.rows.map (trR g q)⟩ : Tb).rows.map (trR (cgB g) q) = t.rows from hTB, hkB] at A2
  have IV := hid (fun w' => inverse_any (cgN g) w')
  rw [(gE_names g hg).2.2.1, (gE_names g hg).2.2.2] at IV
  have EQ := hid (fun a2 c2 w' (h' : Below w.heap.size w w') (h2 : TS w' a2 c2 t.rows) => requal_any t t a2 a c2 c w' h2 (H.below h') true (fun _ => rfl) (fun h => absurd rfl h))
  have CU := hid (fun a2 c2 w' (h2 : TS w' a2 c2 (t.rows.map (trR g q))) => rcheck_all ⟨t.n, t.rows.map (trR g q)⟩ a2 c2 w' h2 0 (fun _ => rfl) (fun h => absurd hRU h))
  have CE := hid (fun w' (h' : Below w.heap.size w w') => certain_t t a c Q w' (H.below h') hR)
  have PR := hid (fun w' (h' : Below w.heap.size w w') => project_t t a c Q 1 w' (H.below h') hR)
  have hP : prjT t Q 1 = (t, 0) := by unfold prjT; rw [hC, if_neg (fun e => e rfl), if_neg (fun e => e (by decide)), if_neg (fun e => by cases (e : true = false)), if_neg (fun e => e rfl)]
  rw [hC] at CE
  rw [hP] at PR
  clear hC hP
  generalize t.rows.map (trR g q) = RU at *
  generalize cgN (cgB g) = s2 at *
  generalize cgN g = s at *
  generalize cgk g = m at *
  have HB0 := hid (bal (Below.refl w.heap.size w) (.cells #[.int .i64 t.n, .slice a t.rows.length c] 24))
  have K5 := hid (bk_new w #[.int .i64 t.n, .slice a t.rows.length c] 24)
  clear H HQ hR hE hRU hE2 hTB hPl hql hkB
  obtain ⟨n, rs⟩ := t
  simp only at *
  go_enter Try.func7, Try.ntmps7
  go_wp2_with (go_at_call 9; refine Hid.out ?_)
  refine hid ?_
  refine (AW.out _).mono ?_
  rintro e w1 ⟨rfl, hB1⟩
  have HB1 := hid (btr HB0.out hB1)
  have K5_1 := hid (bk_on K5.out hB1)
  have dK51 := K5_1.out.cell
  have fK51 := K5_1.out.free
  have lK51 := K5_1.out.lt
  go_wp2_with (go_at_call 22; refine Hid.out ?_)
  refine hid ?_
  refine (AP.out _ HB1.out).mono ?_
  rintro e w2 ⟨v2, rfl, hO2, hB2⟩
  have HB2 := hid (btr HB1.out hB2)
  have K5_2 := hid (bk_on K5_1.out hB2)
  obtain ⟨a2, c2, rfl⟩ := own_shape hO2.own
  obtain ⟨a2', c2', e2, t2⟩ := hO2.ts
  injection e2 with e2a e2b e2c
  subst e2a e2c
  clear e2b
  have TU := hid (t2)
  have B11_0 := hid (bk_new w2 #[.int .i64 n, .slice a2 RU.length c2] 24)
  have HAB11 := hid (bal HB2.out (.cells #[.int .i64 n, .slice a2 RU.length c2] 24))
  have hstepB11 := bal (Below.refl w2.heap.size w2) (.cells #[.int .i64 n, .slice a2 RU.length c2] 24)
  have K5_aB11 := hid ((K5_2.out).alloc (.cells #[.int .i64 n, .slice a2 RU.length c2] 24))
  have dK52 := K5_aB11.out.cell
  have fK52 := K5_aB11.out.free
  have lK52 := K5_aB11.out.lt
  have dB112 := B11_0.out.cell
  have fB112 := B11_0.out.free
  have lB112 := B11_0.out.lt
  have TU0 := hid (t2.below hstepB11)
  go_wp2_with (go_at_call 31; refine Hid.out ?_)
  refine hid ?_
  refine (IV.out _).mono ?_
  rintro e w3 ⟨rfl, hB3⟩
  have HB3 := hid (btr HAB11.out hB3)
  have K5_3 := hid (bk_on K5_aB11.out hB3)
  have B11_3 := hid (bk_on B11_0.out hB3)
  have TU1 := hid (TU0.out.below hB3)
  have dK53 := K5_3.out.cell
  have fK53 := K5_3.out.free
  have lK53 := K5_3.out.lt
  have dB113 := B11_3.out.cell
  have fB113 := B11_3.out.free
  have lB113 := B11_3.out.lt
  go_wp2_with (go_at_call 22; refine Hid.out ?_)
  refine hid ?_
  refine (A2.out a2 c2 _ HB3.out TU1.out).mono ?_
  rintro e w4 ⟨v4, rfl, hO4, hB4⟩
  have HB4 := hid (btr HB3.out hB4)
  have K5_4 := hid (bk_on K5_3.out hB4)
  have B11_4 := hid (bk_on B11_3.out hB4)
  obtain ⟨a4, c4, rfl⟩ := own_shape hO4.own
  obtain ⟨a4', c4', e4, t4⟩ := hO4.ts
  injection e4 with e4a e4b e4c
  subst e4a e4c
  clear e4b
  have TV := hid (t4)
  have TU2 := hid (TU1.out.below hB4)
  have B15_0 := hid (bk_new w4 #[.int .i64 n, .slice a4 rs.length c4] 24)
  have HAB15 := hid (bal HB4.out (.cells #[.int .i64 n, .slice a4 rs.length c4] 24))
  have hstepB15 := bal (Below.refl w4.heap.size w4) (.cells #[.int .i64 n, .slice a4 rs.length c4] 24)
  have K5_aB15 := hid ((K5_4.out).alloc (.cells #[.int .i64 n, .slice a4 rs.length c4] 24))
  have B11_aB15 := hid ((B11_4.out).alloc (.cells #[.int .i64 n, .slice a4 rs.length c4] 24))
  have dK54 := K5_aB15.out.cell
  have fK54 := K5_aB15.out.free
  have lK54 := K5_aB15.out.lt
  have dB114 := B11_aB15.out.cell
  have fB114 := B11_aB15.out.free
  have lB114 := B11_aB15.out.lt
  have dB154 := B15_0.out.cell
  have fB154 := B15_0.out.free
  have lB154 := B15_0.out.lt
  have TU3 := hid (TU2.out.below hstepB15)
  have TV0 := hid (t4.below hstepB15)
  go_wp2_with (go_at_call 20; refine Hid.out ?_)
  refine hid ?_
  refine (EQ.out a4 c4 _ HAB15.out TV0.out).mono ?_
  rintro e w5 ⟨rfl, hB5⟩
  have HB5 := hid (btr HAB15.out hB5)
  have K5_5 := hid (bk_on K5_aB15.out hB5)
  have B11_5 := hid (bk_on B11_aB15.out hB5)
  have B15_5 := hid (bk_on B15_0.out hB5)
  have TU4 := hid (TU3.out.below hB5)
  have dK55 := K5_5.out.cell
  have fK55 := K5_5.out.free
  have lK55 := K5_5.out.lt
  have dB115 := B11_5.out.cell
  have fB115 := B11_5.out.free
  have lB115 := B11_5.out.lt
  have dB155 := B15_5.out.cell
  have fB155 := B15_5.out.free
  have lB155 := B15_5.out.lt
  go_wp2_with (go_at_call 19; refine Hid.out ?_)
  refine hid ?_
  refine (CU.out a2 c2 _ TU4.out).mono ?_
  rintro e w6 ⟨rfl, hB6⟩
  have HB6 := hid (btr HB5.out hB6)
  have K5_6 := hid (bk_on K5_5.out hB6)
  have B11_6 := hid (bk_on B11_5.out hB6)
  have B15_6 := hid (bk_on B15_5.out hB6)
  have dK56 := K5_6.out.cell
  have fK56 := K5_6.out.free
  have lK56 := K5_6.out.lt
  have dB116 := B11_6.out.cell
  have fB116 := B11_6.out.free
  have lB116 := B11_6.out.lt
  go_wp2_with (go_at_call 15; refine Hid.out ?_)
  refine hid ?_
  refine (CE.out _ HB6.out).mono ?_
  rintro e w7 ⟨rfl, hB7⟩
  have HB7 := hid (btr HB6.out hB7)
  have K5_7 := hid (bk_on K5_6.out hB7)
  have B11_7 := hid (bk_on B11_6.out hB7)
  have B15_7 := hid (bk_on B15_6.out hB7)
  unfold fndV
  have dK57 := K5_7.out.cell
  have fK57 := K5_7.out.free
  have lK57 := K5_7.out.lt
  have dB117 := B11_7.out.cell
  have fB117 := B11_7.out.free
  have lB117 := B11_7.out.lt
  go_wp2_with (go_at_call 24; refine Hid.out ?_)
  refine hid ?_
  refine (PR.out _ HB7.out).mono ?_
  rintro e w8 ⟨v8, rfl, hO8, hB8⟩
  have HB8 := hid (btr HB7.out hB8)
  have K5_8 := hid (bk_on K5_7.out hB8)
  have B11_8 := hid (bk_on B11_7.out hB8)
  have B15_8 := hid (bk_on B15_7.out hB8)
  obtain ⟨a8, c8, rfl⟩ := own_shape hO8.own
  obtain ⟨a8', c8', e8, t8⟩ := hO8.ts
  injection e8 with e8a e8b e8c
  subst e8a e8c
  clear e8b
  have TP := hid (t8)
  have dK58 := K5_8.out.cell
  have fK58 := K5_8.out.free
  have lK58 := K5_8.out.lt
  have dB118 := B11_8.out.cell
  have fB118 := B11_8.out.free
  have lB118 := B11_8.out.lt
  have hw2 : w.heap.size ≤ w2.heap.size := (btr HB1.out hB2).size
  have HBS := hid (bset (bset HB8.out w2.heap.size 0 (.int .i64 n) hw2) w2.heap.size 1 (.slice a8 rs.length c8) hw2)
  have B11S := hid ((B11_8.out.set 0 (.int .i64 n)).set 1 (.slice a8 rs.length c8))
  have hne5 : w2.heap.size ≠ w.heap.size := fun e => by have h1 := K5_1.out.lt; have h2 := hB2.size; omega
  have K5S := hid ((K5_8.out.far hne5 0 (.int .i64 n)).far hne5 1 (.slice a8 rs.length c8))
  have hOS := (hO8.put B11_8.out (by decide) 0 (.int .i64 n)).put (B11_8.out.set 0 (.int .i64 n)) (by decide) 1 (.slice a8 rs.length c8)
  obtain ⟨aS, cS, eS, tS⟩ := hOS.ts
  injection eS with eSa eSb eSc
  subst eSa eSc
  clear eSb
  have TS0 := hid tS
  have dK5S := K5S.out.cell
  have lK5S := K5S.out.lt
  have dB11S := B11S.out.cell
  have fB11S := B11S.out.free
  have lB11S := B11S.out.lt
  go_wp2_with (go_at_call 20; refine Hid.out ?_)
  refine hid ?_
  refine (EQ.out a8 c8 _ HBS.out TS0.out).mono ?_
  rintro e w9 ⟨rfl, hB9⟩
  have HB9 := hid (btr HBS.out hB9)
  have K5_9 := hid (bk_on K5S.out hB9)
  have B11_9 := hid (bk_on B11S.out hB9)
  go_wp2
  go_ret
  exact ⟨rfl, HB9.out⟩
set_option maxHeartbeats 2000000 in
set_option maxRecDepth 100000 in
theorem back_CN0 (t : Tb) (a : Option Addr) (c : Nat) (s : ByteArray) (q : Nat → Int) (aq : Option Addr) (m cq : Nat) (Q bit : Int) (w : World) (H : TS w a c t.rows) (HQ : BL.Row aq q m w) (hm : m ≤ cq) (hc : cq ≤ 9223372036854775807) (hR : Rt t) (hE : gE t.n s q m = 0) (o : Int) (hC : fndT t Q = (o, true, 0)) (hob : o ≠ bit) (hbit : bit = 0) :
    Calls Try.prog 7 #[t.v a c, .string s, .slice aq m cq, .int .i64 Q, .int .i64 bit] w fun e w' => e = .returned (.bool true) ∧ Below w.heap.size w w' := by
  subst hbit
  have AW := hid (fun w' => awake_any w')
  obtain ⟨g, hg, rfl, hmk, hPl, hql⟩ := gE_ok hR.n1 hE
  subst hmk
  have hkB := (PL.cgk_is g hg).2.2.1
  have AP := hid (fun w' (h' : Below w.heap.size w w') => apply_yes t a c g hg q aq cq w' (H.below h') hR (HQ.below h') hm hc hE hPl hql)
  have hRU := hR.turn hg hPl hql
  have hE2 := gE_inv hg hE
  have A2 := hid (fun a2 c2 w' (h' : Below w.heap.size w w') (h2 : TS w' a2 c2 (t.rows.map (trR g q))) => apply_yes ⟨t.n, t.rows.map (trR g q)⟩ a2 c2 (cgB g) (PL.cgk_is g hg).2.1 q aq cq w' h2 hRU (by rw [hkB]; exact HQ.below h') (by rw [hkB]; exact hm) hc hE2 (by rw [hkB]; exact hPl) (by rw [hkB]; exact hql))
  have hTB := turn_back hR hg hPl
  rw [show (⟨t.n, t.rows.map (trR g q)⟩ : Tb).rows.map (trR (cgB g) q) = t.rows from hTB, hkB] at A2
  have IV := hid (fun w' => inverse_any (cgN g) w')
  rw [(gE_names g hg).2.2.1, (gE_names g hg).2.2.2] at IV
  have EQ := hid (fun a2 c2 w' (h' : Below w.heap.size w w') (h2 : TS w' a2 c2 t.rows) => requal_any t t a2 a c2 c w' h2 (H.below h') true (fun _ => rfl) (fun h => absurd rfl h))
  have CU := hid (fun a2 c2 w' (h2 : TS w' a2 c2 (t.rows.map (trR g q))) => rcheck_all ⟨t.n, t.rows.map (trR g q)⟩ a2 c2 w' h2 0 (fun _ => rfl) (fun h => absurd hRU h))
  have CE := hid (fun w' (h' : Below w.heap.size w w') => certain_t t a c Q w' (H.below h') hR)
  have PR := hid (fun w' (h' : Below w.heap.size w w') => project_t t a c Q 0 w' (H.below h') hR)
  have hP : prjT t Q 0 = (⟨0, []⟩, 131) := by unfold prjT; rw [hC, if_neg (fun e => e rfl), if_neg (fun e => e (by decide)), if_neg (fun e => by cases (e : true = false)), if_pos hob]
  rw [hC] at CE
  rw [hP] at PR
  have hob1 : (o == 0) = false := beq_eq_false_iff_ne.2 hob
  clear hC hP
  generalize t.rows.map (trR g q) = RU at *
  generalize cgN (cgB g) = s2 at *
  generalize cgN g = s at *
  generalize cgk g = m at *
  have HB0 := hid (bal (Below.refl w.heap.size w) (.cells #[.int .i64 t.n, .slice a t.rows.length c] 24))
  have K5 := hid (bk_new w #[.int .i64 t.n, .slice a t.rows.length c] 24)
  clear H HQ hR hE hRU hE2 hTB hPl hql hkB
  obtain ⟨n, rs⟩ := t
  simp only at *
  go_enter Try.func7, Try.ntmps7
  go_wp2_with (go_at_call 9; refine Hid.out ?_)
  refine hid ?_
  refine (AW.out _).mono ?_
  rintro e w1 ⟨rfl, hB1⟩
  have HB1 := hid (btr HB0.out hB1)
  have K5_1 := hid (bk_on K5.out hB1)
  have dK51 := K5_1.out.cell
  have fK51 := K5_1.out.free
  have lK51 := K5_1.out.lt
  go_wp2_with (go_at_call 22; refine Hid.out ?_)
  refine hid ?_
  refine (AP.out _ HB1.out).mono ?_
  rintro e w2 ⟨v2, rfl, hO2, hB2⟩
  have HB2 := hid (btr HB1.out hB2)
  have K5_2 := hid (bk_on K5_1.out hB2)
  obtain ⟨a2, c2, rfl⟩ := own_shape hO2.own
  obtain ⟨a2', c2', e2, t2⟩ := hO2.ts
  injection e2 with e2a e2b e2c
  subst e2a e2c
  clear e2b
  have TU := hid (t2)
  have B11_0 := hid (bk_new w2 #[.int .i64 n, .slice a2 RU.length c2] 24)
  have HAB11 := hid (bal HB2.out (.cells #[.int .i64 n, .slice a2 RU.length c2] 24))
  have hstepB11 := bal (Below.refl w2.heap.size w2) (.cells #[.int .i64 n, .slice a2 RU.length c2] 24)
  have K5_aB11 := hid ((K5_2.out).alloc (.cells #[.int .i64 n, .slice a2 RU.length c2] 24))
  have dK52 := K5_aB11.out.cell
  have fK52 := K5_aB11.out.free
  have lK52 := K5_aB11.out.lt
  have dB112 := B11_0.out.cell
  have fB112 := B11_0.out.free
  have lB112 := B11_0.out.lt
  have TU0 := hid (t2.below hstepB11)
  go_wp2_with (go_at_call 31; refine Hid.out ?_)
  refine hid ?_
  refine (IV.out _).mono ?_
  rintro e w3 ⟨rfl, hB3⟩
  have HB3 := hid (btr HAB11.out hB3)
  have K5_3 := hid (bk_on K5_aB11.out hB3)
  have B11_3 := hid (bk_on B11_0.out hB3)
  have TU1 := hid (TU0.out.below hB3)
  have dK53 := K5_3.out.cell
  have fK53 := K5_3.out.free
  have lK53 := K5_3.out.lt
  have dB113 := B11_3.out.cell
  have fB113 := B11_3.out.free
  have lB113 := B11_3.out.lt
  go_wp2_with (go_at_call 22; refine Hid.out ?_)
  refine hid ?_
  refine (A2.out a2 c2 _ HB3.out TU1.out).mono ?_
  rintro e w4 ⟨v4, rfl, hO4, hB4⟩
  have HB4 := hid (btr HB3.out hB4)
  have K5_4 := hid (bk_on K5_3.out hB4)
  have B11_4 := hid (bk_on B11_3.out hB4)
  obtain ⟨a4, c4, rfl⟩ := own_shape hO4.own
  obtain ⟨a4', c4', e4, t4⟩ := hO4.ts
  injection e4 with e4a e4b e4c
  subst e4a e4c
  clear e4b
  have TV := hid (t4)
  have TU2 := hid (TU1.out.below hB4)
  have B15_0 := hid (bk_new w4 #[.int .i64 n, .slice a4 rs.length c4] 24)
  have HAB15 := hid (bal HB4.out (.cells #[.int .i64 n, .slice a4 rs.length c4] 24))
  have hstepB15 := bal (Below.refl w4.heap.size w4) (.cells #[.int .i64 n, .slice a4 rs.length c4] 24)
  have K5_aB15 := hid ((K5_4.out).alloc (.cells #[.int .i64 n, .slice a4 rs.length c4] 24))
  have B11_aB15 := hid ((B11_4.out).alloc (.cells #[.int .i64 n, .slice a4 rs.length c4] 24))
  have dK54 := K5_aB15.out.cell
  have fK54 := K5_aB15.out.free
  have lK54 := K5_aB15.out.lt
  have dB114 := B11_aB15.out.cell
  have fB114 := B11_aB15.out.free
  have lB114 := B11_aB15.out.lt
  have dB154 := B15_0.out.cell
  have fB154 := B15_0.out.free
  have lB154 := B15_0.out.lt
  have TU3 := hid (TU2.out.below hstepB15)
  have TV0 := hid (t4.below hstepB15)
  go_wp2_with (go_at_call 20; refine Hid.out ?_)
  refine hid ?_
  refine (EQ.out a4 c4 _ HAB15.out TV0.out).mono ?_
  rintro e w5 ⟨rfl, hB5⟩
  have HB5 := hid (btr HAB15.out hB5)
  have K5_5 := hid (bk_on K5_aB15.out hB5)
  have B11_5 := hid (bk_on B11_aB15.out hB5)
  have B15_5 := hid (bk_on B15_0.out hB5)
  have TU4 := hid (TU3.out.below hB5)
  have dK55 := K5_5.out.cell
  have fK55 := K5_5.out.free
  have lK55 := K5_5.out.lt
  have dB115 := B11_5.out.cell
  have fB115 := B11_5.out.free
  have lB115 := B11_5.out.lt
  have dB155 := B15_5.out.cell
  have fB155 := B15_5.out.free
  have lB155 := B15_5.out.lt
  go_wp2_with (go_at_call 19; refine Hid.out ?_)
  refine hid ?_
  refine (CU.out a2 c2 _ TU4.out).mono ?_
  rintro e w6 ⟨rfl, hB6⟩
  have HB6 := hid (btr HB5.out hB6)
  have K5_6 := hid (bk_on K5_5.out hB6)
  have B11_6 := hid (bk_on B11_5.out hB6)
  have B15_6 := hid (bk_on B15_5.out hB6)
  have dK56 := K5_6.out.cell
  have fK56 := K5_6.out.free
  have lK56 := K5_6.out.lt
  have dB116 := B11_6.out.cell
  have fB116 := B11_6.out.free
  have lB116 := B11_6.out.lt
  go_wp2_with (go_at_call 15; refine Hid.out ?_)
  refine hid ?_
  refine (CE.out _ HB6.out).mono ?_
  rintro e w7 ⟨rfl, hB7⟩
  have HB7 := hid (btr HB6.out hB7)
  have K5_7 := hid (bk_on K5_6.out hB7)
  have B11_7 := hid (bk_on B11_6.out hB7)
  have B15_7 := hid (bk_on B15_6.out hB7)
  unfold fndV
  have dK57 := K5_7.out.cell
  have fK57 := K5_7.out.free
  have lK57 := K5_7.out.lt
  have dB117 := B11_7.out.cell
  have fB117 := B11_7.out.free
  have lB117 := B11_7.out.lt
  go_wp2_with (go_at_call 24; refine Hid.out ?_)
  refine hid ?_
  refine (PR.out _ HB7.out).mono ?_
  rintro e w8 ⟨v8, rfl, hO8, hB8⟩
  have HB8 := hid (btr HB7.out hB8)
  have K5_8 := hid (bk_on K5_7.out hB8)
  have B11_8 := hid (bk_on B11_7.out hB8)
  have B15_8 := hid (bk_on B15_7.out hB8)
  obtain ⟨a8, c8, rfl⟩ := own_shape hO8.own
  obtain ⟨a8', c8', e8, t8⟩ := hO8.ts
  injection e8 with e8a e8b e8c
  subst e8a e8c
  clear e8b
  have TP := hid (t8)
  have dK58 := K5_8.out.cell
  have fK58 := K5_8.out.free
  have lK58 := K5_8.out.lt
  have dB118 := B11_8.out.cell
  have fB118 := B11_8.out.free
  have lB118 := B11_8.out.lt
  have hw2 : w.heap.size ≤ w2.heap.size := (btr HB1.out hB2).size
  have HBS := hid (bset (bset HB8.out w2.heap.size 0 (.int .i64 0) hw2) w2.heap.size 1 (.slice a8 0 c8) hw2)
  go_wp2
  go_ret
  exact ⟨rfl, HBS.out⟩
set_option maxHeartbeats 2000000 in
set_option maxRecDepth 100000 in
theorem back_CN1 (t : Tb) (a : Option Addr) (c : Nat) (s : ByteArray) (q : Nat → Int) (aq : Option Addr) (m cq : Nat) (Q bit : Int) (w : World) (H : TS w a c t.rows) (HQ : BL.Row aq q m w) (hm : m ≤ cq) (hc : cq ≤ 9223372036854775807) (hR : Rt t) (hE : gE t.n s q m = 0) (o : Int) (hC : fndT t Q = (o, true, 0)) (hob : o ≠ bit) (hbit : bit = 1) :
    Calls Try.prog 7 #[t.v a c, .string s, .slice aq m cq, .int .i64 Q, .int .i64 bit] w fun e w' => e = .returned (.bool true) ∧ Below w.heap.size w w' := by
  subst hbit
  have AW := hid (fun w' => awake_any w')
  obtain ⟨g, hg, rfl, hmk, hPl, hql⟩ := gE_ok hR.n1 hE
  subst hmk
  have hkB := (PL.cgk_is g hg).2.2.1
  have AP := hid (fun w' (h' : Below w.heap.size w w') => apply_yes t a c g hg q aq cq w' (H.below h') hR (HQ.below h') hm hc hE hPl hql)
  have hRU := hR.turn hg hPl hql
  have hE2 := gE_inv hg hE
  have A2 := hid (fun a2 c2 w' (h' : Below w.heap.size w w') (h2 : TS w' a2 c2 (t.rows.map (trR g q))) => apply_yes ⟨t.n, t.rows.map (trR g q)⟩ a2 c2 (cgB g) (PL.cgk_is g hg).2.1 q aq cq w' h2 hRU (by rw [hkB]; exact HQ.below h') (by rw [hkB]; exact hm) hc hE2 (by rw [hkB]; exact hPl) (by rw [hkB]; exact hql))
  have hTB := turn_back hR hg hPl
  rw [show (⟨t.n, t.rows.map (trR g q)⟩ : Tb).rows.map (trR (cgB g) q) = t.rows from hTB, hkB] at A2
  have IV := hid (fun w' => inverse_any (cgN g) w')
  rw [(gE_names g hg).2.2.1, (gE_names g hg).2.2.2] at IV
  have EQ := hid (fun a2 c2 w' (h' : Below w.heap.size w w') (h2 : TS w' a2 c2 t.rows) => requal_any t t a2 a c2 c w' h2 (H.below h') true (fun _ => rfl) (fun h => absurd rfl h))
  have CU := hid (fun a2 c2 w' (h2 : TS w' a2 c2 (t.rows.map (trR g q))) => rcheck_all ⟨t.n, t.rows.map (trR g q)⟩ a2 c2 w' h2 0 (fun _ => rfl) (fun h => absurd hRU h))
  have CE := hid (fun w' (h' : Below w.heap.size w w') => certain_t t a c Q w' (H.below h') hR)
  have PR := hid (fun w' (h' : Below w.heap.size w w') => project_t t a c Q 1 w' (H.below h') hR)
  have hP : prjT t Q 1 = (⟨0, []⟩, 131) := by unfold prjT; rw [hC, if_neg (fun e => e rfl), if_neg (fun e => e (by decide)), if_neg (fun e => by cases (e : true = false)), if_pos hob]
  rw [hC] at CE
  rw [hP] at PR
  have hob1 : (o == 1) = false := beq_eq_false_iff_ne.2 hob
  clear hC hP
  generalize t.rows.map (trR g q) = RU at *
  generalize cgN (cgB g) = s2 at *
  generalize cgN g = s at *
  generalize cgk g = m at *
  have HB0 := hid (bal (Below.refl w.heap.size w) (.cells #[.int .i64 t.n, .slice a t.rows.length c] 24))
  have K5 := hid (bk_new w #[.int .i64 t.n, .slice a t.rows.length c] 24)
  clear H HQ hR hE hRU hE2 hTB hPl hql hkB
  obtain ⟨n, rs⟩ := t
  simp only at *
  go_enter Try.func7, Try.ntmps7
  go_wp2_with (go_at_call 9; refine Hid.out ?_)
  refine hid ?_
  refine (AW.out _).mono ?_
  rintro e w1 ⟨rfl, hB1⟩
  have HB1 := hid (btr HB0.out hB1)
  have K5_1 := hid (bk_on K5.out hB1)
  have dK51 := K5_1.out.cell
  have fK51 := K5_1.out.free
  have lK51 := K5_1.out.lt
  go_wp2_with (go_at_call 22; refine Hid.out ?_)
  refine hid ?_
  refine (AP.out _ HB1.out).mono ?_
  rintro e w2 ⟨v2, rfl, hO2, hB2⟩
  have HB2 := hid (btr HB1.out hB2)
  have K5_2 := hid (bk_on K5_1.out hB2)
  obtain ⟨a2, c2, rfl⟩ := own_shape hO2.own
  obtain ⟨a2', c2', e2, t2⟩ := hO2.ts
  injection e2 with e2a e2b e2c
  subst e2a e2c
  clear e2b
  have TU := hid (t2)
  have B11_0 := hid (bk_new w2 #[.int .i64 n, .slice a2 RU.length c2] 24)
  have HAB11 := hid (bal HB2.out (.cells #[.int .i64 n, .slice a2 RU.length c2] 24))
  have hstepB11 := bal (Below.refl w2.heap.size w2) (.cells #[.int .i64 n, .slice a2 RU.length c2] 24)
  have K5_aB11 := hid ((K5_2.out).alloc (.cells #[.int .i64 n, .slice a2 RU.length c2] 24))
  have dK52 := K5_aB11.out.cell
  have fK52 := K5_aB11.out.free
  have lK52 := K5_aB11.out.lt
  have dB112 := B11_0.out.cell
  have fB112 := B11_0.out.free
  have lB112 := B11_0.out.lt
  have TU0 := hid (t2.below hstepB11)
  go_wp2_with (go_at_call 31; refine Hid.out ?_)
  refine hid ?_
  refine (IV.out _).mono ?_
  rintro e w3 ⟨rfl, hB3⟩
  have HB3 := hid (btr HAB11.out hB3)
  have K5_3 := hid (bk_on K5_aB11.out hB3)
  have B11_3 := hid (bk_on B11_0.out hB3)
  have TU1 := hid (TU0.out.below hB3)
  have dK53 := K5_3.out.cell
  have fK53 := K5_3.out.free
  have lK53 := K5_3.out.lt
  have dB113 := B11_3.out.cell
  have fB113 := B11_3.out.free
  have lB113 := B11_3.out.lt
  go_wp2_with (go_at_call 22; refine Hid.out ?_)
  refine hid ?_
  refine (A2.out a2 c2 _ HB3.out TU1.out).mono ?_
  rintro e w4 ⟨v4, rfl, hO4, hB4⟩
  have HB4 := hid (btr HB3.out hB4)
  have K5_4 := hid (bk_on K5_3.out hB4)
  have B11_4 := hid (bk_on B11_3.out hB4)
  obtain ⟨a4, c4, rfl⟩ := own_shape hO4.own
  obtain ⟨a4', c4', e4, t4⟩ := hO4.ts
  injection e4 with e4a e4b e4c
  subst e4a e4c
  clear e4b
  have TV := hid (t4)
  have TU2 := hid (TU1.out.below hB4)
  have B15_0 := hid (bk_new w4 #[.int .i64 n, .slice a4 rs.length c4] 24)
  have HAB15 := hid (bal HB4.out (.cells #[.int .i64 n, .slice a4 rs.length c4] 24))
  have hstepB15 := bal (Below.refl w4.heap.size w4) (.cells #[.int .i64 n, .slice a4 rs.length c4] 24)
  have K5_aB15 := hid ((K5_4.out).alloc (.cells #[.int .i64 n, .slice a4 rs.length c4] 24))
  have B11_aB15 := hid ((B11_4.out).alloc (.cells #[.int .i64 n, .slice a4 rs.length c4] 24))
  have dK54 := K5_aB15.out.cell
  have fK54 := K5_aB15.out.free
  have lK54 := K5_aB15.out.lt
  have dB114 := B11_aB15.out.cell
  have fB114 := B11_aB15.out.free
  have lB114 := B11_aB15.out.lt
  have dB154 := B15_0.out.cell
  have fB154 := B15_0.out.free
  have lB154 := B15_0.out.lt
  have TU3 := hid (TU2.out.below hstepB15)
  have TV0 := hid (t4.below hstepB15)
  go_wp2_with (go_at_call 20; refine Hid.out ?_)
  refine hid ?_
  refine (EQ.out a4 c4 _ HAB15.out TV0.out).mono ?_
  rintro e w5 ⟨rfl, hB5⟩
  have HB5 := hid (btr HAB15.out hB5)
  have K5_5 := hid (bk_on K5_aB15.out hB5)
  have B11_5 := hid (bk_on B11_aB15.out hB5)
  have B15_5 := hid (bk_on B15_0.out hB5)
  have TU4 := hid (TU3.out.below hB5)
  have dK55 := K5_5.out.cell
  have fK55 := K5_5.out.free
  have lK55 := K5_5.out.lt
  have dB115 := B11_5.out.cell
  have fB115 := B11_5.out.free
  have lB115 := B11_5.out.lt
  have dB155 := B15_5.out.cell
  have fB155 := B15_5.out.free
  have lB155 := B15_5.out.lt
  go_wp2_with (go_at_call 19; refine Hid.out ?_)
  refine hid ?_
  refine (CU.out a2 c2 _ TU4.out).mono ?_
  rintro e w6 ⟨rfl, hB6⟩
  have HB6 := hid (btr HB5.out hB6)
  have K5_6 := hid (bk_on K5_5.out hB6)
  have B11_6 := hid (bk_on B11_5.out hB6)
  have B15_6 := hid (bk_on B15_5.out hB6)
  have dK56 := K5_6.out.cell
  have fK56 := K5_6.out.free
  have lK56 := K5_6.out.lt
  have dB116 := B11_6.out.cell
  have fB116 := B11_6.out.free
  have lB116 := B11_6.out.lt
  go_wp2_with (go_at_call 15; refine Hid.out ?_)
  refine hid ?_
  refine (CE.out _ HB6.out).mono ?_
  rintro e w7 ⟨rfl, hB7⟩
  have HB7 := hid (btr HB6.out hB7)
  have K5_7 := hid (bk_on K5_6.out hB7)
  have B11_7 := hid (bk_on B11_6.out hB7)
  have B15_7 := hid (bk_on B15_6.out hB7)
  unfold fndV
  have dK57 := K5_7.out.cell
  have fK57 := K5_7.out.free
  have lK57 := K5_7.out.lt
  have dB117 := B11_7.out.cell
  have fB117 := B11_7.out.free
  have lB117 := B11_7.out.lt
  go_wp2_with (go_at_call 24; refine Hid.out ?_)
  refine hid ?_
  refine (PR.out _ HB7.out).mono ?_
  rintro e w8 ⟨v8, rfl, hO8, hB8⟩
  have HB8 := hid (btr HB7.out hB8)
  have K5_8 := hid (bk_on K5_7.out hB8)
  have B11_8 := hid (bk_on B11_7.out hB8)
  have B15_8 := hid (bk_on B15_7.out hB8)
  obtain ⟨a8, c8, rfl⟩ := own_shape hO8.own
  obtain ⟨a8', c8', e8, t8⟩ := hO8.ts
  injection e8 with e8a e8b e8c
  subst e8a e8c
  clear e8b
  have TP := hid (t8)
  have dK58 := K5_8.out.cell
  have fK58 := K5_8.out.free
  have lK58 := K5_8.out.lt
  have dB118 := B11_8.out.cell
  have fB118 := B11_8.out.free
  have lB118 := B11_8.out.lt
  have hw2 : w.heap.size ≤ w2.heap.size := (btr HB1.out hB2).size
  have HBS := hid (bset (bset HB8.out w2.heap.size 0 (.int .i64 0) hw2) w2.heap.size 1 (.slice a8 0 c8) hw2)
  go_wp2
  go_ret
  exact ⟨rfl, HBS.out⟩
end Go.Proofs.Ytoddbaljnlhhaaa
namespace Go.Proofs.Ytoddbaljnlhhaaa
open Go.RowKit Go.Sort
open PL (pv PS bt cgk cgT cgB)

set_option maxHeartbeats 2000000 in
set_option maxRecDepth 100000 in
theorem back_CF0 (t : Tb) (a : Option Addr) (c : Nat) (s : ByteArray) (q : Nat → Int) (aq : Option Addr) (m cq : Nat) (Q bit : Int) (w : World) (H : TS w a c t.rows) (HQ : BL.Row aq q m w) (hm : m ≤ cq) (hc : cq ≤ 9223372036854775807) (hR : Rt t) (hE : gE t.n s q m = 0) (hC1 : (fndT t Q).2.2 = 0) (hC2 : (fndT t Q).2.1 = false) (hbit : bit = 0) :
    Calls Try.prog 7 #[t.v a c, .string s, .slice aq m cq, .int .i64 Q, .int .i64 bit] w fun e w' => e = .returned (.bool true) ∧ Below w.heap.size w w' := by
  subst hbit
  have AW := hid (fun w' => awake_any w')
  obtain ⟨g, hg, rfl, hmk, hPl, hql⟩ := gE_ok hR.n1 hE
  subst hmk
  have hkB := (PL.cgk_is g hg).2.2.1
  have AP := hid (fun w' (h' : Below w.heap.size w w') => apply_yes t a c g hg q aq cq w' (H.below h') hR (HQ.below h') hm hc hE hPl hql)
  have hRU := hR.turn hg hPl hql
  have hE2 := gE_inv hg hE
  have A2 := hid (fun a2 c2 w' (h' : Below w.heap.size w w') (h2 : TS w' a2 c2 (t.rows.map (trR g q))) => apply_yes ⟨t.n, t.rows.map (trR g q)⟩ a2 c2 (cgB g) (PL.cgk_is g hg).2.1 q aq cq w' h2 hRU (by rw [hkB]; exact HQ.below h') (by rw [hkB]; exact hm) hc hE2 (by rw [hkB]; exact hPl) (by rw [hkB]; exact hql))
  have hTB := turn_back hR hg hPl
  rw [show (⟨t.n, t.rows.map (trR g q)⟩ : Tb).rows.map (trR (cgB g) q) = t.rows from hTB, hkB] at A2
  have IV := hid (fun w' => inverse_any (cgN g) w')
  rw [(gE_names g hg).2.2.1, (gE_names g hg).2.2.2] at IV
  have EQ := hid (fun a2 c2 w' (h' : Below w.heap.size w w') (h2 : TS w' a2 c2 t.rows) => requal_any t t a2 a c2 c w' h2 (H.below h') true (fun _ => rfl) (fun h => absurd rfl h))
  have CU := hid (fun a2 c2 w' (h2 : TS w' a2 c2 (t.rows.map (trR g q))) => rcheck_all ⟨t.n, t.rows.map (trR g q)⟩ a2 c2 w' h2 0 (fun _ => rfl) (fun h => absurd hRU h))
  have CE := hid (fun w' (h' : Below w.heap.size w w') => certain_t t a c Q w' (H.below h') hR)
  have PR := hid (fun w' (h' : Below w.heap.size w w') => project_t t a c Q 0 w' (H.below h') hR)
  obtain ⟨Q', N, i, p, rfl, hCh, hP⟩ := chs_of hR hC1 hC2 (show (0 : Int) = 0 ∨ (0 : Int) = 1 by decide)
  obtain ⟨⟨fo, fis, fe⟩, hfr⟩ : ∃ r, r = fndT t (Q' : Nat) := ⟨_, rfl⟩
  rw [← hfr] at hC1 hC2 CE
  have hC1 : fe = 0 := hC1
  have hC2 : fis = false := hC2
  subst hC1 hC2
  rw [hP] at PR
  have hRV := hCh.rt
  have hfo := hCh.found
  have hag := hCh.again
  have hot := hCh.other
  obtain ⟨RV, hRVd⟩ : ∃ RV, RV = chR t.rows N Q' 0 i p := ⟨_, rfl⟩
  rw [← hRVd] at PR hRV hfo hag hot
  have CV := hid (fun a2 c2 w' (h2 : TS w' a2 c2 RV) => rcheck_all ⟨t.n, RV⟩ a2 c2 w' h2 0 (fun _ => rfl) (fun h => absurd hRV h))
  have CE2 := hid (fun a2 c2 w' (h2 : TS w' a2 c2 RV) => certain_t ⟨t.n, RV⟩ a2 c2 (Q' : Nat) w' h2 hRV)
  rw [hfo] at CE2
  have PR2 := hid (fun a2 c2 w' (h2 : TS w' a2 c2 RV) => project_t ⟨t.n, RV⟩ a2 c2 (Q' : Nat) 0 w' h2 hRV)
  rw [hag] at PR2
  have PR3 := hid (fun a2 c2 w' (h2 : TS w' a2 c2 RV) => project_t ⟨t.n, RV⟩ a2 c2 (Q' : Nat) 1 w' h2 hRV)
  rw [show prjT ⟨t.n, RV⟩ (Q' : Nat) 1 = (⟨0, []⟩, 131) from hot] at PR3
  have EQ2 := hid (fun a2 c2 a3 c3 w' (h2 : TS w' a2 c2 RV) (h3 : TS w' a3 c3 RV) => requal_any ⟨t.n, RV⟩ ⟨t.n, RV⟩ a2 a3 c2 c3 w' h2 h3 true (fun _ => rfl) (fun h => absurd rfl h))
  clear hRV hfo hag hot hRVd hCh hP hfr
  generalize t.rows.map (trR g q) = RU at *
  generalize cgN (cgB g) = s2 at *
  generalize cgN g = s at *
  generalize cgk g = m at *
  have HB0 := hid (bal (Below.refl w.heap.size w) (.cells #[.int .i64 t.n, .slice a t.rows.length c] 24))
  have K5 := hid (bk_new w #[.int .i64 t.n, .slice a t.rows.length c] 24)
  clear H HQ hR hE hRU hE2 hTB hPl hql hkB
  obtain ⟨n, rs⟩ := t
  simp only at *
  go_enter Try.func7, Try.ntmps7
  go_wp2_with (go_at_call 9; refine Hid.out ?_)
  refine hid ?_
  refine (AW.out _).mono ?_
  rintro e w1 ⟨rfl, hB1⟩
  have HB1 := hid (btr HB0.out hB1)
  have K5_1 := hid (bk_on K5.out hB1)
  have dK51 := K5_1.out.cell
  have fK51 := K5_1.out.free
  have lK51 := K5_1.out.lt
  go_wp2_with (go_at_call 22; refine Hid.out ?_)
  refine hid ?_
  refine (AP.out _ HB1.out).mono ?_
  rintro e w2 ⟨v2, rfl, hO2, hB2⟩
  have HB2 := hid (btr HB1.out hB2)
  have K5_2 := hid (bk_on K5_1.out hB2)
  obtain ⟨a2, c2, rfl⟩ := own_shape hO2.own
  obtain ⟨a2', c2', e2, t2⟩ := hO2.ts
  injection e2 with e2a e2b e2c
  subst e2a e2c
  clear e2b
  have TU := hid (t2)
  have B11_0 := hid (bk_new w2 #[.int .i64 n, .slice a2 RU.length c2] 24)
  have HAB11 := hid (bal HB2.out (.cells #[.int .i64 n, .slice a2 RU.length c2] 24))
  have hstepB11 := bal (Below.refl w2.heap.size w2) (.cells #[.int .i64 n, .slice a2 RU.length c2] 24)
  have K5_aB11 := hid ((K5_2.out).alloc (.cells #[.int .i64 n, .slice a2 RU.length c2] 24))
  have dK52 := K5_aB11.out.cell
  have fK52 := K5_aB11.out.free
  have lK52 := K5_aB11.out.lt
  have dB112 := B11_0.out.cell
  have fB112 := B11_0.out.free
  have lB112 := B11_0.out.lt
  have TU0 := hid (t2.below hstepB11)
  go_wp2_with (go_at_call 31; refine Hid.out ?_)
  refine hid ?_
  refine (IV.out _).mono ?_
  rintro e w3 ⟨rfl, hB3⟩
  have HB3 := hid (btr HAB11.out hB3)
  have K5_3 := hid (bk_on K5_aB11.out hB3)
  have B11_3 := hid (bk_on B11_0.out hB3)
  have TU1 := hid (TU0.out.below hB3)
  have dK53 := K5_3.out.cell
  have fK53 := K5_3.out.free
  have lK53 := K5_3.out.lt
  have dB113 := B11_3.out.cell
  have fB113 := B11_3.out.free
  have lB113 := B11_3.out.lt
  go_wp2_with (go_at_call 22; refine Hid.out ?_)
  refine hid ?_
  refine (A2.out a2 c2 _ HB3.out TU1.out).mono ?_
  rintro e w4 ⟨v4, rfl, hO4, hB4⟩
  have HB4 := hid (btr HB3.out hB4)
  have K5_4 := hid (bk_on K5_3.out hB4)
  have B11_4 := hid (bk_on B11_3.out hB4)
  obtain ⟨a4, c4, rfl⟩ := own_shape hO4.own
  obtain ⟨a4', c4', e4, t4⟩ := hO4.ts
  injection e4 with e4a e4b e4c
  subst e4a e4c
  clear e4b
  have TV := hid (t4)
  have TU2 := hid (TU1.out.below hB4)
  have B15_0 := hid (bk_new w4 #[.int .i64 n, .slice a4 rs.length c4] 24)
  have HAB15 := hid (bal HB4.out (.cells #[.int .i64 n, .slice a4 rs.length c4] 24))
  have hstepB15 := bal (Below.refl w4.heap.size w4) (.cells #[.int .i64 n, .slice a4 rs.length c4] 24)
  have K5_aB15 := hid ((K5_4.out).alloc (.cells #[.int .i64 n, .slice a4 rs.length c4] 24))
  have B11_aB15 := hid ((B11_4.out).alloc (.cells #[.int .i64 n, .slice a4 rs.length c4] 24))
  have dK54 := K5_aB15.out.cell
  have fK54 := K5_aB15.out.free
  have lK54 := K5_aB15.out.lt
  have dB114 := B11_aB15.out.cell
  have fB114 := B11_aB15.out.free
  have lB114 := B11_aB15.out.lt
  have dB154 := B15_0.out.cell
  have fB154 := B15_0.out.free
  have lB154 := B15_0.out.lt
  have TU3 := hid (TU2.out.below hstepB15)
  have TV0 := hid (t4.below hstepB15)
  go_wp2_with (go_at_call 20; refine Hid.out ?_)
  refine hid ?_
  refine (EQ.out a4 c4 _ HAB15.out TV0.out).mono ?_
  rintro e w5 ⟨rfl, hB5⟩
  have HB5 := hid (btr HAB15.out hB5)
  have K5_5 := hid (bk_on K5_aB15.out hB5)
  have B11_5 := hid (bk_on B11_aB15.out hB5)
  have B15_5 := hid (bk_on B15_0.out hB5)
  have TU4 := hid (TU3.out.below hB5)
  have dK55 := K5_5.out.cell
  have fK55 := K5_5.out.free
  have lK55 := K5_5.out.lt
  have dB115 := B11_5.out.cell
  have fB115 := B11_5.out.free
  have lB115 := B11_5.out.lt
  have dB155 := B15_5.out.cell
  have fB155 := B15_5.out.free
  have lB155 := B15_5.out.lt
  go_wp2_with (go_at_call 19; refine Hid.out ?_)
  refine hid ?_
  refine (CU.out a2 c2 _ TU4.out).mono ?_
  rintro e w6 ⟨rfl, hB6⟩
  have HB6 := hid (btr HB5.out hB6)
  have K5_6 := hid (bk_on K5_5.out hB6)
  have B11_6 := hid (bk_on B11_5.out hB6)
  have B15_6 := hid (bk_on B15_5.out hB6)
  have dK56 := K5_6.out.cell
  have fK56 := K5_6.out.free
  have lK56 := K5_6.out.lt
  have dB116 := B11_6.out.cell
  have fB116 := B11_6.out.free
  have lB116 := B11_6.out.lt
  go_wp2_with (go_at_call 15; refine Hid.out ?_)
  refine hid ?_
  refine (CE.out _ HB6.out).mono ?_
  rintro e w7 ⟨rfl, hB7⟩
  have HB7 := hid (btr HB6.out hB7)
  have K5_7 := hid (bk_on K5_6.out hB7)
  have B11_7 := hid (bk_on B11_6.out hB7)
  have B15_7 := hid (bk_on B15_6.out hB7)
  unfold fndV
  have dK57 := K5_7.out.cell
  have fK57 := K5_7.out.free
  have lK57 := K5_7.out.lt
  have dB117 := B11_7.out.cell
  have fB117 := B11_7.out.free
  have lB117 := B11_7.out.lt
  go_wp2_with (go_at_call 24; refine Hid.out ?_)
  refine hid ?_
  refine (PR.out _ HB7.out).mono ?_
  rintro e w8 ⟨v8, rfl, hO8, hB8⟩
  have HB8 := hid (btr HB7.out hB8)
  have K5_8 := hid (bk_on K5_7.out hB8)
  have B11_8 := hid (bk_on B11_7.out hB8)
  have B15_8 := hid (bk_on B15_7.out hB8)
  obtain ⟨a8, c8, rfl⟩ := own_shape hO8.own
  obtain ⟨a8', c8', e8, t8⟩ := hO8.ts
  injection e8 with e8a e8b e8c
  subst e8a e8c
  clear e8b
  have TP := hid (t8)
  have dK58 := K5_8.out.cell
  have fK58 := K5_8.out.free
  have lK58 := K5_8.out.lt
  have dB118 := B11_8.out.cell
  have fB118 := B11_8.out.free
  have lB118 := B11_8.out.lt
  have hw2 : w.heap.size ≤ w2.heap.size := (btr HB1.out hB2).size
  have HBS := hid (bset (bset HB8.out w2.heap.size 0 (.int .i64 n) hw2) w2.heap.size 1 (.slice a8 RV.length c8) hw2)
  have B11S := hid ((B11_8.out.set 0 (.int .i64 n)).set 1 (.slice a8 RV.length c8))
  have hne5 : w2.heap.size ≠ w.heap.size := fun e => by have h1 := K5_1.out.lt; have h2 := hB2.size; omega
  have K5S := hid ((K5_8.out.far hne5 0 (.int .i64 n)).far hne5 1 (.slice a8 RV.length c8))
  have hOS := (hO8.put B11_8.out (by decide) 0 (.int .i64 n)).put (B11_8.out.set 0 (.int .i64 n)) (by decide) 1 (.slice a8 RV.length c8)
  obtain ⟨aS, cS, eS, tS⟩ := hOS.ts
  injection eS with eSa eSb eSc
  subst eSa eSc
  clear eSb
  have TS0 := hid tS
  have dK5S := K5S.out.cell
  have lK5S := K5S.out.lt
  have dB11S := B11S.out.cell
  have fB11S := B11S.out.free
  have lB11S := B11S.out.lt
  go_wp2_with (go_at_call 19; refine Hid.out ?_)
  refine hid ?_
  refine (CV.out a8 c8 _ TS0.out).mono ?_
  rintro e w9 ⟨rfl, hB9⟩
  have HB9 := hid (btr HBS.out hB9)
  have K5_9 := hid (bk_on K5S.out hB9)
  have B11_9 := hid (bk_on B11S.out hB9)
  have TS1 := hid (TS0.out.below hB9)
  have dB119 := B11_9.out.cell
  have fB119 := B11_9.out.free
  have lB119 := B11_9.out.lt
  go_wp2_with (go_at_call 15; refine Hid.out ?_)
  refine hid ?_
  refine (CE2.out a8 c8 _ TS1.out).mono ?_
  rintro e w10 ⟨rfl, hB10⟩
  have HB10 := hid (btr HB9.out hB10)
  have K5_10 := hid (bk_on K5_9.out hB10)
  have B11_10 := hid (bk_on B11_9.out hB10)
  unfold fndV
  have TS2 := hid (TS1.out.below hB10)
  have dB1110 := B11_10.out.cell
  have fB1110 := B11_10.out.free
  have lB1110 := B11_10.out.lt
  go_wp2_with (go_at_call 24; refine Hid.out ?_)
  refine hid ?_
  refine (PR2.out a8 c8 _ TS2.out).mono ?_
  rintro e w11 ⟨v11, rfl, hO11, hB11⟩
  have HB11 := hid (btr HB10.out hB11)
  have K5_11 := hid (bk_on K5_10.out hB11)
  have B11_11 := hid (bk_on B11_10.out hB11)
  obtain ⟨a11, c11, rfl⟩ := own_shape hO11.own
  obtain ⟨a11', c11', e11, t11⟩ := hO11.ts
  injection e11 with e11a e11b e11c
  subst e11a e11c
  clear e11b
  have TW := hid (t11)
  have TS3 := hid (TS2.out.below hB11)
  have B23_0 := hid (bk_new w11 #[.int .i64 n, .slice a11 RV.length c11] 24)
  have HAB23 := hid (bal HB11.out (.cells #[.int .i64 n, .slice a11 RV.length c11] 24))
  have hstepB23 := bal (Below.refl w11.heap.size w11) (.cells #[.int .i64 n, .slice a11 RV.length c11] 24)
  have K5_aB23 := hid ((K5_11.out).alloc (.cells #[.int .i64 n, .slice a11 RV.length c11] 24))
  have B11_aB23 := hid ((B11_11.out).alloc (.cells #[.int .i64 n, .slice a11 RV.length c11] 24))
  have dB1111 := B11_aB23.out.cell
  have fB1111 := B11_aB23.out.free
  have lB1111 := B11_aB23.out.lt
  have dB2311 := B23_0.out.cell
  have fB2311 := B23_0.out.free
  have lB2311 := B23_0.out.lt
  have TS4 := hid (TS3.out.below hstepB23)
  have TW0 := hid (t11.below hstepB23)
  go_wp2_with (go_at_call 24; refine Hid.out ?_)
  refine hid ?_
  refine (PR3.out a8 c8 _ TS4.out).mono ?_
  rintro e w12 ⟨v12, rfl, hO12, hB12⟩
  have HB12 := hid (btr HAB23.out hB12)
  have K5_12 := hid (bk_on K5_aB23.out hB12)
  have B11_12 := hid (bk_on B11_aB23.out hB12)
  have B23_12 := hid (bk_on B23_0.out hB12)
  obtain ⟨a12, c12, rfl⟩ := own_shape hO12.own
  obtain ⟨a12', c12', e12, t12⟩ := hO12.ts
  injection e12 with e12a e12b e12c
  subst e12a e12c
  clear e12b
  have TX := hid (t12)
  have TS5 := hid (TS4.out.below hB12)
  have TW1 := hid (TW0.out.below hB12)
  have B25_0 := hid (bk_new w12 #[.int .i64 0, .slice a12 0 c12] 24)
  have HAB25 := hid (bal HB12.out (.cells #[.int .i64 0, .slice a12 0 c12] 24))
  have hstepB25 := bal (Below.refl w12.heap.size w12) (.cells #[.int .i64 0, .slice a12 0 c12] 24)
  have K5_aB25 := hid ((K5_12.out).alloc (.cells #[.int .i64 0, .slice a12 0 c12] 24))
  have B11_aB25 := hid ((B11_12.out).alloc (.cells #[.int .i64 0, .slice a12 0 c12] 24))
  have B23_aB25 := hid ((B23_12.out).alloc (.cells #[.int .i64 0, .slice a12 0 c12] 24))
  have dB1112 := B11_aB25.out.cell
  have fB1112 := B11_aB25.out.free
  have lB1112 := B11_aB25.out.lt
  have dB2312 := B23_aB25.out.cell
  have fB2312 := B23_aB25.out.free
  have lB2312 := B23_aB25.out.lt
  have TS6 := hid (TS5.out.below hstepB25)
  have TW2 := hid (TW1.out.below hstepB25)
  go_wp2_with (go_at_call 20; refine Hid.out ?_)
  refine hid ?_
  refine (EQ2.out a11 c11 a8 c8 _ TW2.out TS6.out).mono ?_
  rintro e w13 ⟨rfl, hB13⟩
  have HB13 := hid (btr HAB25.out hB13)
  have K5_13 := hid (bk_on K5_aB25.out hB13)
  have B11_13 := hid (bk_on B11_aB25.out hB13)
  have B23_13 := hid (bk_on B23_aB25.out hB13)
  have B25_13 := hid (bk_on B25_0.out hB13)
  go_wp2
  go_ret
  exact ⟨rfl, HB13.out⟩
set_option maxHeartbeats 2000000 in
set_option maxRecDepth 100000 in
theorem back_CF1 (t : Tb) (a : Option Addr) (c : Nat) (s : ByteArray) (q : Nat → Int) (aq : Option Addr) (m cq : Nat) (Q bit : Int) (w : World) (H : TS w a c t.rows) (HQ : BL.Row aq q m w) (hm : m ≤ cq) (hc : cq ≤ 9223372036854775807) (hR : Rt t) (hE : gE t.n s q m = 0) (hC1 : (fndT t Q).2.2 = 0) (hC2 : (fndT t Q).2.1 = false) (hbit : bit = 1) :
    Calls Try.prog 7 #[t.v a c, .string s, .slice aq m cq, .int .i64 Q, .int .i64 bit] w fun e w' => e = .returned (.bool true) ∧ Below w.heap.size w w' := by
  subst hbit
  have AW := hid (fun w' => awake_any w')
  obtain ⟨g, hg, rfl, hmk, hPl, hql⟩ := gE_ok hR.n1 hE
  subst hmk
  have hkB := (PL.cgk_is g hg).2.2.1
  have AP := hid (fun w' (h' : Below w.heap.size w w') => apply_yes t a c g hg q aq cq w' (H.below h') hR (HQ.below h') hm hc hE hPl hql)
  have hRU := hR.turn hg hPl hql
  have hE2 := gE_inv hg hE
  have A2 := hid (fun a2 c2 w' (h' : Below w.heap.size w w') (h2 : TS w' a2 c2 (t.rows.map (trR g q))) => apply_yes ⟨t.n, t.rows.map (trR g q)⟩ a2 c2 (cgB g) (PL.cgk_is g hg).2.1 q aq cq w' h2 hRU (by rw [hkB]; exact HQ.below h') (by rw [hkB]; exact hm) hc hE2 (by rw [hkB]; exact hPl) (by rw [hkB]; exact hql))
  have hTB := turn_back hR hg hPl
  rw [show (⟨t.n, t.rows.map (trR g q)⟩ : Tb).rows.map (trR (cgB g) q) = t.rows from hTB, hkB] at A2
  have IV := hid (fun w' => inverse_any (cgN g) w')
  rw [(gE_names g hg).2.2.1, (gE_names g hg).2.2.2] at IV
  have EQ := hid (fun a2 c2 w' (h' : Below w.heap.size w w') (h2 : TS w' a2 c2 t.rows) => requal_any t t a2 a c2 c w' h2 (H.below h') true (fun _ => rfl) (fun h => absurd rfl h))
  have CU := hid (fun a2 c2 w' (h2 : TS w' a2 c2 (t.rows.map (trR g q))) => rcheck_all ⟨t.n, t.rows.map (trR g q)⟩ a2 c2 w' h2 0 (fun _ => rfl) (fun h => absurd hRU h))
  have CE := hid (fun w' (h' : Below w.heap.size w w') => certain_t t a c Q w' (H.below h') hR)
  have PR := hid (fun w' (h' : Below w.heap.size w w') => project_t t a c Q 1 w' (H.below h') hR)
  obtain ⟨Q', N, i, p, rfl, hCh, hP⟩ := chs_of hR hC1 hC2 (show (1 : Int) = 0 ∨ (1 : Int) = 1 by decide)
  obtain ⟨⟨fo, fis, fe⟩, hfr⟩ : ∃ r, r = fndT t (Q' : Nat) := ⟨_, rfl⟩
  rw [← hfr] at hC1 hC2 CE
  have hC1 : fe = 0 := hC1
  have hC2 : fis = false := hC2
  subst hC1 hC2
  rw [hP] at PR
  have hRV := hCh.rt
  have hfo := hCh.found
  have hag := hCh.again
  have hot := hCh.other
  obtain ⟨RV, hRVd⟩ : ∃ RV, RV = chR t.rows N Q' 1 i p := ⟨_, rfl⟩
  rw [← hRVd] at PR hRV hfo hag hot
  have CV := hid (fun a2 c2 w' (h2 : TS w' a2 c2 RV) => rcheck_all ⟨t.n, RV⟩ a2 c2 w' h2 0 (fun _ => rfl) (fun h => absurd hRV h))
  have CE2 := hid (fun a2 c2 w' (h2 : TS w' a2 c2 RV) => certain_t ⟨t.n, RV⟩ a2 c2 (Q' : Nat) w' h2 hRV)
  rw [hfo] at CE2
  have PR2 := hid (fun a2 c2 w' (h2 : TS w' a2 c2 RV) => project_t ⟨t.n, RV⟩ a2 c2 (Q' : Nat) 1 w' h2 hRV)
  rw [hag] at PR2
  have PR3 := hid (fun a2 c2 w' (h2 : TS w' a2 c2 RV) => project_t ⟨t.n, RV⟩ a2 c2 (Q' : Nat) 0 w' h2 hRV)
  rw [show prjT ⟨t.n, RV⟩ (Q' : Nat) 0 = (⟨0, []⟩, 131) from hot] at PR3
  have EQ2 := hid (fun a2 c2 a3 c3 w' (h2 : TS w' a2 c2 RV) (h3 : TS w' a3 c3 RV) => requal_any ⟨t.n, RV⟩ ⟨t.n, RV⟩ a2 a3 c2 c3 w' h2 h3 true (fun _ => rfl) (fun h => absurd rfl h))
  clear hRV hfo hag hot hRVd hCh hP hfr
  generalize t.rows.map (trR g q) = RU at *
  generalize cgN (cgB g) = s2 at *
  generalize cgN g = s at *
  generalize cgk g = m at *
  have HB0 := hid (bal (Below.refl w.heap.size w) (.cells #[.int .i64 t.n, .slice a t.rows.length c] 24))
  have K5 := hid (bk_new w #[.int .i64 t.n, .slice a t.rows.length c] 24)
  clear H HQ hR hE hRU hE2 hTB hPl hql hkB
  obtain ⟨n, rs⟩ := t
  simp only at *
  go_enter Try.func7, Try.ntmps7
  go_wp2_with (go_at_call 9; refine Hid.out ?_)
  refine hid ?_
  refine (AW.out _).mono ?_
  rintro e w1 ⟨rfl, hB1⟩
  have HB1 := hid (btr HB0.out hB1)
  have K5_1 := hid (bk_on K5.out hB1)
  have dK51 := K5_1.out.cell
  have fK51 := K5_1.out.free
  have lK51 := K5_1.out.lt
  go_wp2_with (go_at_call 22; refine Hid.out ?_)
  refine hid ?_
  refine (AP.out _ HB1.out).mono ?_
  rintro e w2 ⟨v2, rfl, hO2, hB2⟩
  have HB2 := hid (btr HB1.out hB2)
  have K5_2 := hid (bk_on K5_1.out hB2)
  obtain ⟨a2, c2, rfl⟩ := own_shape hO2.own
  obtain ⟨a2', c2', e2, t2⟩ := hO2.ts
  injection e2 with e2a e2b e2c
  subst e2a e2c
  clear e2b
  have TU := hid (t2)
  have B11_0 := hid (bk_new w2 #[.int .i64 n, .slice a2 RU.length c2] 24)
  have HAB11 := hid (bal HB2.out (.cells #[.int .i64 n, .slice a2 RU.length c2] 24))
  have hstepB11 := bal (Below.refl w2.heap.size w2) (.cells #[.int .i64 n, .slice a2 RU.length c2] 24)
  have K5_aB11 := hid ((K5_2.out).alloc (.cells #[.int .i64 n, .slice a2 RU.length c2] 24))
  have dK52 := K5_aB11.out.cell
  have fK52 := K5_aB11.out.free
  have lK52 := K5_aB11.out.lt
  have dB112 := B11_0.out.cell
  have fB112 := B11_0.out.free
  have lB112 := B11_0.out.lt
  have TU0 := hid (t2.below hstepB11)
  go_wp2_with (go_at_call 31; refine Hid.out ?_)
  refine hid ?_
  refine (IV.out _).mono ?_
  rintro e w3 ⟨rfl, hB3⟩
  have HB3 := hid (btr HAB11.out hB3)
  have K5_3 := hid (bk_on K5_aB11.out hB3)
  have B11_3 := hid (bk_on B11_0.out hB3)
  have TU1 := hid (TU0.out.below hB3)
  have dK53 := K5_3.out.cell
  have fK53 := K5_3.out.free
  have lK53 := K5_3.out.lt
  have dB113 := B11_3.out.cell
  have fB113 := B11_3.out.free
  have lB113 := B11_3.out.lt
  go_wp2_with (go_at_call 22; refine Hid.out ?_)
  refine hid ?_
  refine (A2.out a2 c2 _ HB3.out TU1.out).mono ?_
  rintro e w4 ⟨v4, rfl, hO4, hB4⟩
  have HB4 := hid (btr HB3.out hB4)
  have K5_4 := hid (bk_on K5_3.out hB4)
  have B11_4 := hid (bk_on B11_3.out hB4)
  obtain ⟨a4, c4, rfl⟩ := own_shape hO4.own
  obtain ⟨a4', c4', e4, t4⟩ := hO4.ts
  injection e4 with e4a e4b e4c
  subst e4a e4c
  clear e4b
  have TV := hid (t4)
  have TU2 := hid (TU1.out.below hB4)
  have B15_0 := hid (bk_new w4 #[.int .i64 n, .slice a4 rs.length c4] 24)
  have HAB15 := hid (bal HB4.out (.cells #[.int .i64 n, .slice a4 rs.length c4] 24))
  have hstepB15 := bal (Below.refl w4.heap.size w4) (.cells #[.int .i64 n, .slice a4 rs.length c4] 24)
  have K5_aB15 := hid ((K5_4.out).alloc (.cells #[.int .i64 n, .slice a4 rs.length c4] 24))
  have B11_aB15 := hid ((B11_4.out).alloc (.cells #[.int .i64 n, .slice a4 rs.length c4] 24))
  have dK54 := K5_aB15.out.cell
  have fK54 := K5_aB15.out.free
  have lK54 := K5_aB15.out.lt
  have dB114 := B11_aB15.out.cell
  have fB114 := B11_aB15.out.free
  have lB114 := B11_aB15.out.lt
  have dB154 := B15_0.out.cell
  have fB154 := B15_0.out.free
  have lB154 := B15_0.out.lt
  have TU3 := hid (TU2.out.below hstepB15)
  have TV0 := hid (t4.below hstepB15)
  go_wp2_with (go_at_call 20; refine Hid.out ?_)
  refine hid ?_
  refine (EQ.out a4 c4 _ HAB15.out TV0.out).mono ?_
  rintro e w5 ⟨rfl, hB5⟩
  have HB5 := hid (btr HAB15.out hB5)
  have K5_5 := hid (bk_on K5_aB15.out hB5)
  have B11_5 := hid (bk_on B11_aB15.out hB5)
  have B15_5 := hid (bk_on B15_0.out hB5)
  have TU4 := hid (TU3.out.below hB5)
  have dK55 := K5_5.out.cell
  have fK55 := K5_5.out.free
  have lK55 := K5_5.out.lt
  have dB115 := B11_5.out.cell
  have fB115 := B11_5.out.free
  have lB115 := B11_5.out.lt
  have dB155 := B15_5.out.cell
  have fB155 := B15_5.out.free
  have lB155 := B15_5.out.lt
  go_wp2_with (go_at_call 19; refine Hid.out ?_)
  refine hid ?_
  refine (CU.out a2 c2 _ TU4.out).mono ?_
  rintro e w6 ⟨rfl, hB6⟩
  have HB6 := hid (btr HB5.out hB6)
  have K5_6 := hid (bk_on K5_5.out hB6)
  have B11_6 := hid (bk_on B11_5.out hB6)
  have B15_6 := hid (bk_on B15_5.out hB6)
  have dK56 := K5_6.out.cell
  have fK56 := K5_6.out.free
  have lK56 := K5_6.out.lt
  have dB116 := B11_6.out.cell
  have fB116 := B11_6.out.free
  have lB116 := B11_6.out.lt
  go_wp2_with (go_at_call 15; refine Hid.out ?_)
  refine hid ?_
  refine (CE.out _ HB6.out).mono ?_
  rintro e w7 ⟨rfl, hB7⟩
  have HB7 := hid (btr HB6.out hB7)
  have K5_7 := hid (bk_on K5_6.out hB7)
  have B11_7 := hid (bk_on B11_6.out hB7)
  have B15_7 := hid (bk_on B15_6.out hB7)
  unfold fndV
  have dK57 := K5_7.out.cell
  have fK57 := K5_7.out.free
  have lK57 := K5_7.out.lt
  have dB117 := B11_7.out.cell
  have fB117 := B11_7.out.free
  have lB117 := B11_7.out.lt
  go_wp2_with (go_at_call 24; refine Hid.out ?_)
  refine hid ?_
  refine (PR.out _ HB7.out).mono ?_
  rintro e w8 ⟨v8, rfl, hO8, hB8⟩
  have HB8 := hid (btr HB7.out hB8)
  have K5_8 := hid (bk_on K5_7.out hB8)
  have B11_8 := hid (bk_on B11_7.out hB8)
  have B15_8 := hid (bk_on B15_7.out hB8)
  obtain ⟨a8, c8, rfl⟩ := own_shape hO8.own
  obtain ⟨a8', c8', e8, t8⟩ := hO8.ts
  injection e8 with e8a e8b e8c
  subst e8a e8c
  clear e8b
  have TP := hid (t8)
  have dK58 := K5_8.out.cell
  have fK58 := K5_8.out.free
  have lK58 := K5_8.out.lt
  have dB118 := B11_8.out.cell
  have fB118 := B11_8.out.free
  have lB118 := B11_8.out.lt
  have hw2 : w.heap.size ≤ w2.heap.size := (btr HB1.out hB2).size
  have HBS := hid (bset (bset HB8.out w2.heap.size 0 (.int .i64 n) hw2) w2.heap.size 1 (.slice a8 RV.length c8) hw2)
  have B11S := hid ((B11_8.out.set 0 (.int .i64 n)).set 1 (.slice a8 RV.length c8))
  have hne5 : w2.heap.size ≠ w.heap.size := fun e => by have h1 := K5_1.out.lt; have h2 := hB2.size; omega
  have K5S := hid ((K5_8.out.far hne5 0 (.int .i64 n)).far hne5 1 (.slice a8 RV.length c8))
  have hOS := (hO8.put B11_8.out (by decide) 0 (.int .i64 n)).put (B11_8.out.set 0 (.int .i64 n)) (by decide) 1 (.slice a8 RV.length c8)
  obtain ⟨aS, cS, eS, tS⟩ := hOS.ts
  injection eS with eSa eSb eSc
  subst eSa eSc
  clear eSb
  have TS0 := hid tS
  have dK5S := K5S.out.cell
  have lK5S := K5S.out.lt
  have dB11S := B11S.out.cell
  have fB11S := B11S.out.free
  have lB11S := B11S.out.lt
  go_wp2_with (go_at_call 19; refine Hid.out ?_)
  refine hid ?_
  refine (CV.out a8 c8 _ TS0.out).mono ?_
  rintro e w9 ⟨rfl, hB9⟩
  have HB9 := hid (btr HBS.out hB9)
  have K5_9 := hid (bk_on K5S.out hB9)
  have B11_9 := hid (bk_on B11S.out hB9)
  have TS1 := hid (TS0.out.below hB9)
  have dB119 := B11_9.out.cell
  have fB119 := B11_9.out.free
  have lB119 := B11_9.out.lt
  go_wp2_with (go_at_call 15; refine Hid.out ?_)
  refine hid ?_
  refine (CE2.out a8 c8 _ TS1.out).mono ?_
  rintro e w10 ⟨rfl, hB10⟩
  have HB10 := hid (btr HB9.out hB10)
  have K5_10 := hid (bk_on K5_9.out hB10)
  have B11_10 := hid (bk_on B11_9.out hB10)
  unfold fndV
  have TS2 := hid (TS1.out.below hB10)
  have dB1110 := B11_10.out.cell
  have fB1110 := B11_10.out.free
  have lB1110 := B11_10.out.lt
  go_wp2_with (go_at_call 24; refine Hid.out ?_)
  refine hid ?_
  refine (PR2.out a8 c8 _ TS2.out).mono ?_
  rintro e w11 ⟨v11, rfl, hO11, hB11⟩
  have HB11 := hid (btr HB10.out hB11)
  have K5_11 := hid (bk_on K5_10.out hB11)
  have B11_11 := hid (bk_on B11_10.out hB11)
  obtain ⟨a11, c11, rfl⟩ := own_shape hO11.own
  obtain ⟨a11', c11', e11, t11⟩ := hO11.ts
  injection e11 with e11a e11b e11c
  subst e11a e11c
  clear e11b
  have TW := hid (t11)
  have TS3 := hid (TS2.out.below hB11)
  have B23_0 := hid (bk_new w11 #[.int .i64 n, .slice a11 RV.length c11] 24)
  have HAB23 := hid (bal HB11.out (.cells #[.int .i64 n, .slice a11 RV.length c11] 24))
  have hstepB23 := bal (Below.refl w11.heap.size w11) (.cells #[.int .i64 n, .slice a11 RV.length c11] 24)
  have K5_aB23 := hid ((K5_11.out).alloc (.cells #[.int .i64 n, .slice a11 RV.length c11] 24))
  have B11_aB23 := hid ((B11_11.out).alloc (.cells #[.int .i64 n, .slice a11 RV.length c11] 24))
  have dB1111 := B11_aB23.out.cell
  have fB1111 := B11_aB23.out.free
  have lB1111 := B11_aB23.out.lt
  have dB2311 := B23_0.out.cell
  have fB2311 := B23_0.out.free
  have lB2311 := B23_0.out.lt
  have TS4 := hid (TS3.out.below hstepB23)
  have TW0 := hid (t11.below hstepB23)
  go_wp2_with (go_at_call 24; refine Hid.out ?_)
  refine hid ?_
  refine (PR3.out a8 c8 _ TS4.out).mono ?_
  rintro e w12 ⟨v12, rfl, hO12, hB12⟩
  have HB12 := hid (btr HAB23.out hB12)
  have K5_12 := hid (bk_on K5_aB23.out hB12)
  have B11_12 := hid (bk_on B11_aB23.out hB12)
  have B23_12 := hid (bk_on B23_0.out hB12)
  obtain ⟨a12, c12, rfl⟩ := own_shape hO12.own
  obtain ⟨a12', c12', e12, t12⟩ := hO12.ts
  injection e12 with e12a e12b e12c
  subst e12a e12c
  clear e12b
  have TX := hid (t12)
  have TS5 := hid (TS4.out.below hB12)
  have TW1 := hid (TW0.out.below hB12)
  have B25_0 := hid (bk_new w12 #[.int .i64 0, .slice a12 0 c12] 24)
  have HAB25 := hid (bal HB12.out (.cells #[.int .i64 0, .slice a12 0 c12] 24))
  have hstepB25 := bal (Below.refl w12.heap.size w12) (.cells #[.int .i64 0, .slice a12 0 c12] 24)
  have K5_aB25 := hid ((K5_12.out).alloc (.cells #[.int .i64 0, .slice a12 0 c12] 24))
  have B11_aB25 := hid ((B11_12.out).alloc (.cells #[.int .i64 0, .slice a12 0 c12] 24))
  have B23_aB25 := hid ((B23_12.out).alloc (.cells #[.int .i64 0, .slice a12 0 c12] 24))
  have dB1112 := B11_aB25.out.cell
  have fB1112 := B11_aB25.out.free
  have lB1112 := B11_aB25.out.lt
  have dB2312 := B23_aB25.out.cell
  have fB2312 := B23_aB25.out.free
  have lB2312 := B23_aB25.out.lt
  have TS6 := hid (TS5.out.below hstepB25)
  have TW2 := hid (TW1.out.below hstepB25)
  go_wp2_with (go_at_call 20; refine Hid.out ?_)
  refine hid ?_
  refine (EQ2.out a11 c11 a8 c8 _ TW2.out TS6.out).mono ?_
  rintro e w13 ⟨rfl, hB13⟩
  have HB13 := hid (btr HAB25.out hB13)
  have K5_13 := hid (bk_on K5_aB25.out hB13)
  have B11_13 := hid (bk_on B11_aB25.out hB13)
  have B23_13 := hid (bk_on B23_aB25.out hB13)
  have B25_13 := hid (bk_on B25_0.out hB13)
  go_wp2
  go_ret
  exact ⟨rfl, HB13.out⟩
end Go.Proofs.Ytoddbaljnlhhaaa
