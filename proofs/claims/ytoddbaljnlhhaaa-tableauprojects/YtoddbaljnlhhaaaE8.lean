/-
  tableau: Apply.
-/
import Derived.Test.YtoddbaljnlhhaaaE7
namespace Go.Proofs.Ytoddbaljnlhhaaa
open Go.RowKit Go.Sort
open PL (pv PS bt cgk cgT)

/-- The boxes of a tableau and of an answer. -/
theorem ta_boxes (w : World) (n : Int) (v : Value) : Below w.heap.size w ((w.alloc (.cells #[.int .i64 n, v] 24)).alloc (.cells #[.int .i64 0, .slice none 0 0] 24)) ∧ BK ((w.alloc (.cells #[.int .i64 n, v] 24)).alloc (.cells #[.int .i64 0, .slice none 0 0] 24)) w.heap.size #[.int .i64 n, v] 24 ∧ BK ((w.alloc (.cells #[.int .i64 n, v] 24)).alloc (.cells #[.int .i64 0, .slice none 0 0] 24)) (w.heap.size + 1) #[.int .i64 0, .slice none 0 0] 24 := by
  refine ⟨bal (bal (Below.refl _ _) _) _, (bk_new w _ _).alloc _, ?_⟩
  have h := bk_new (w.alloc (.cells #[.int .i64 n, v] 24)) #[.int .i64 0, .slice none 0 0] 24
  rwa [PL.alz] at h
set_option maxHeartbeats 1000000 in
set_option maxRecDepth 100000 in
theorem apply_bad (t : Tb) (a : Option Addr) (c : Nat) (s : ByteArray) (aq : Option Addr) (m cq : Nat) (w : World) (H : TS w a c t.rows) (h : ¬ Rt t) :
    Calls Try.prog 22 #[t.v a c, .string s, .slice aq m cq] w fun e w' => e = .returned (.tuple #[.agg #[.int .i64 0, .slice none 0 0], .int .i64 180]) ∧ Below w.heap.size w w' := by
  have CK := fun w' (h' : Below w.heap.size w w') => check_f t a c w' (H.below h') h
  obtain ⟨hB0, hK0, hK1⟩ := ta_boxes w t.n (.slice a t.rows.length c)
  clear H h
  obtain ⟨n, rs⟩ := t
  simp only at *
  go_enter Try.func22, Try.ntmps22
  go_wp2_with (go_at_call 18; (with_reducible refine (CK _ hB0).mono ?_); rintro e w1 ⟨rfl, hB1⟩; (have k1 := bk_on hK1 hB1); (have d1 := k1.cell); (have f1 := k1.free); have l1 := k1.lt)
  have r1 := (k1.set 0 (.int .i64 0)).set 1 (.slice none 0 0)
  have hBf := bset (bset (btr hB0 hB1) (w.heap.size + 1) 0 (.int .i64 0) (by omega)) (w.heap.size + 1) 1 (.slice none 0 0) (by omega)
  have q0' : ((w1.setCell ⟨w.heap.size + 1, 0, none⟩ (.int .i64 0)).setCell ⟨w.heap.size + 1, 1, none⟩ (.slice none 0 0)).cell? ⟨w.heap.size + 1, 0, none⟩ = some (.int .i64 0) := r1.cell 0
  have q1' : ((w1.setCell ⟨w.heap.size + 1, 0, none⟩ (.int .i64 0)).setCell ⟨w.heap.size + 1, 1, none⟩ (.slice none 0 0)).cell? ⟨w.heap.size + 1, 1, none⟩ = some (.slice none 0 0) := r1.cell 1
  exact bodyPost_ret (v := .tuple #[.agg #[.int .i64 0, .slice none 0 0], .int .i64 180]) (by simp [results, Try.results22, go_sem, q0', q1']) rfl ⟨rfl, hBf⟩
set_option maxHeartbeats 1000000 in
set_option maxRecDepth 100000 in
theorem apply_no (t : Tb) (a : Option Addr) (c : Nat) (s : ByteArray) (q : Nat → Int) (aq : Option Addr) (m cq : Nat) (w : World) (H : TS w a c t.rows) (h : Rt t) (HQ : BL.Row aq q m w) (hm : m ≤ cq) (hc : cq ≤ 9223372036854775807) (hE : gE t.n s q m ≠ 0) :
    Calls Try.prog 22 #[t.v a c, .string s, .slice aq m cq] w fun e w' => e = .returned (.tuple #[.agg #[.int .i64 0, .slice none 0 0], .int .i64 (gE t.n s q m)]) ∧ Below w.heap.size w w' := by
  have CK := fun w' (h' : Below w.heap.size w w') => check_t t a c w' (H.below h') h
  have AP := fun w' (h' : Below w.heap.size w w') => applied_no t a c s q aq m cq w' (HQ.below h') hm hc hE
  obtain ⟨hB0, hK0, hK1⟩ := ta_boxes w t.n (.slice a t.rows.length c)
  clear H h HQ hE
  generalize gE t.n s q m = E at *
  obtain ⟨n, rs⟩ := t
  simp only at *
  go_enter Try.func22, Try.ntmps22
  go_wp2_with (first
    | (go_at_call 18; (with_reducible refine (CK _ hB0).mono ?_); rintro e w1 ⟨rfl, hB1⟩; (have k0 := bk_on hK0 hB1); (have d0 := k0.cell); have l0 := k0.lt)
    | (go_at_call 51; (with_reducible refine (AP _ (btr hB0 hB1)).mono ?_); rintro e w2 ⟨rfl, hB2⟩; (have k1 := bk_on (bk_on hK1 hB1) hB2); (have d1 := k1.cell); (have f1 := k1.free); have l1 := k1.lt))
  have r1 := (k1.set 0 (.int .i64 0)).set 1 (.slice none 0 0)
  have hBf := bset (bset (btr (btr hB0 hB1) hB2) (w.heap.size + 1) 0 (.int .i64 0) (by omega)) (w.heap.size + 1) 1 (.slice none 0 0) (by omega)
  have q0' : ((w2.setCell ⟨w.heap.size + 1, 0, none⟩ (.int .i64 0)).setCell ⟨w.heap.size + 1, 1, none⟩ (.slice none 0 0)).cell? ⟨w.heap.size + 1, 0, none⟩ = some (.int .i64 0) := r1.cell 0
  have q1' : ((w2.setCell ⟨w.heap.size + 1, 0, none⟩ (.int .i64 0)).setCell ⟨w.heap.size + 1, 1, none⟩ (.slice none 0 0)).cell? ⟨w.heap.size + 1, 1, none⟩ = some (.slice none 0 0) := r1.cell 1
  exact bodyPost_ret (v := .tuple #[.agg #[.int .i64 0, .slice none 0 0], .int .i64 E]) (by simp [results, Try.results22, go_sem, q0', q1']) rfl ⟨rfl, hBf⟩
set_option maxHeartbeats 1000000 in
set_option maxRecDepth 100000 in
theorem apply_yes (t : Tb) (a : Option Addr) (c : Nat) (i : Nat) (hi : i < 17) (q : Nat → Int) (aq : Option Addr) (cq : Nat) (w : World) (H : TS w a c t.rows) (hR : Rt t) (HQ : BL.Row aq q (cgk i) w) (hm : cgk i ≤ cq) (hc : cq ≤ 9223372036854775807) (hE : gE t.n (cgN i) q (cgk i) = 0) (hP : BL.Plc q (cgk i)) (hq : ∀ j, j < cgk i → q j < t.n) :
    Calls Try.prog 22 #[t.v a c, .string (cgN i), .slice aq (cgk i : Nat) cq] w fun e w' => ∃ v, e = .returned (.tuple #[.agg #[.int .i64 t.n, v], .int .i64 0]) ∧ OT w' w.heap.size v (t.rows.map (trR i q)) ∧ Below w.heap.size w w' := by
  have CK := fun w' (h' : Below w.heap.size w w') => check_t t a c w' (H.below h') hR
  have AP := fun w' (h' : Below w.heap.size w w') => applied_yes t a c i hi q aq cq w' (H.below h') hR (HQ.below h') hm hc hE hP hq
  obtain ⟨hB0, hK0, hK1⟩ := ta_boxes w t.n (.slice a t.rows.length c)
  clear H hR HQ hE hP hq
  generalize t.rows.map (trR i q) = RS at *
  generalize cgN i = s at *
  generalize cgk i = m at *
  obtain ⟨n, rs⟩ := t
  simp only at *
  go_enter Try.func22, Try.ntmps22
  go_wp2_with (first
    | (go_at_call 18; (with_reducible refine (CK _ hB0).mono ?_); rintro e w1 ⟨rfl, hB1⟩; (have k0 := bk_on hK0 hB1); (have d0 := k0.cell); have l0 := k0.lt)
    | (go_at_call 51; (with_reducible refine (AP _ (btr hB0 hB1)).mono ?_); rintro e w2 ⟨v2, rfl, hO2, hB2⟩; (obtain ⟨a2, c2, rfl⟩ := own_shape hO2.own); (have k1 := bk_on (bk_on hK1 hB1) hB2); (have d1 := k1.cell); (have f1 := k1.free); have l1 := k1.lt))
  have r0 := k1.set 0 (.int .i64 n)
  have r1 := r0.set 1 (.slice a2 RS.length c2)
  have hO3 := ((hO2.put k1 (by decide) 0 (.int .i64 n)).put r0 (by decide) 1 (.slice a2 RS.length c2)).mono (show w.heap.size ≤ w1.heap.size from (btr hB0 hB1).size)
  have hBf := bset (bset (btr (btr hB0 hB1) hB2) (w.heap.size + 1) 0 (.int .i64 n) (by omega)) (w.heap.size + 1) 1 (.slice a2 RS.length c2) (by omega)
  have q0' : ((w2.setCell ⟨w.heap.size + 1, 0, none⟩ (.int .i64 n)).setCell ⟨w.heap.size + 1, 1, none⟩ (.slice a2 RS.length c2)).cell? ⟨w.heap.size + 1, 0, none⟩ = some (.int .i64 n) := r1.cell 0
  have q1' : ((w2.setCell ⟨w.heap.size + 1, 0, none⟩ (.int .i64 n)).setCell ⟨w.heap.size + 1, 1, none⟩ (.slice a2 RS.length c2)).cell? ⟨w.heap.size + 1, 1, none⟩ = some (.slice a2 RS.length c2) := r1.cell 1
  exact bodyPost_ret (v := .tuple #[.agg #[.int .i64 n, .slice a2 RS.length c2], .int .i64 0]) (by simp [results, Try.results22, go_sem, q0', q1']) rfl ⟨_, rfl, hO3, hBf⟩
end Go.Proofs.Ytoddbaljnlhhaaa
