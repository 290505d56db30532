/-
  Put together of: E5 E6.
-/
import Derived.Test.YtoddbaljnlhhaabXW
namespace Go.Proofs.Ytoddbaljnlhhaab
open Go.RowKit Go.Sort
open PL (pv PS bt cgk cgT)

theorem prz_set (rs : List Pr) (j : Nat) (r : Pr) : prz (rs.set j r) = if j < rs.length then ((((prz rs).set (j * 4) (.int .i64 r.n)).set (j * 4 + 1) (.int .u64 (r.x : Int))).set (j * 4 + 2) (.int .u64 (r.z : Int))).set (j * 4 + 3) (.int .i64 r.f) else prz rs := by
  induction rs generalizing j with
  | nil => rfl
  | cons s rs ih =>
    cases j with
    | zero => rw [if_pos (by simp)]; rfl
    | succ j =>
      have h := ih j
      have e : prz ((s :: rs).set (j + 1) r) = s.cs ++ prz (rs.set j r) := rfl
      rw [e, h]
      by_cases hj : j < rs.length
      · rw [if_pos hj, if_pos (by rw [List.length_cons]; omega), Nat.succ_mul]
        rfl
      · rw [if_neg hj, if_neg (by rw [List.length_cons]; omega)]
        rfl
theorem OT.set {W : World} {B g c : Nat} {rs : List Pr} (h : OT W B (.slice (some ⟨g, 0, none⟩) rs.length c) rs) {j : Nat} (hj : j < rs.length) (r : Pr) (hr : r.w64) :
    OT ((((W.setCell ⟨g, j * 4, none⟩ (.int .i64 r.n)).setCell ⟨g, j * 4 + 1, none⟩ (.int .u64 (r.x : Int))).setCell ⟨g, j * 4 + 2, none⟩ (.int .u64 (r.z : Int))).setCell ⟨g, j * 4 + 3, none⟩ (.int .i64 r.f)) B (.slice (some ⟨g, 0, none⟩) rs.length c) (rs.set j r) := by
  refine ⟨?_, ?_, by rw [List.length_set]; exact h.l⟩
  · rw [List.length_set, prz_set, if_pos hj]
    exact own_setc (own_setc (own_setc (own_setc h.own (by omega) _) (by omega) _) (by omega) _) (by omega) _
  · intro k hk
    rw [List.length_set] at hk
    by_cases e : j = k
    · subst e; rw [List.getElem_set_self]; exact hr
    · rw [List.getElem_set_ne e]; exact h.w64 k hk
/-- The first j rows turned. -/
def mixR (f : Pr → Pr) (rs : List Pr) (j : Nat) : List Pr := (rs.take j).map f ++ rs.drop j
theorem mixR_len (f : Pr → Pr) (rs : List Pr) (j : Nat) : (mixR f rs j).length = rs.length := by unfold mixR; simp; omega
theorem mixR_zero (f : Pr → Pr) (rs : List Pr) : mixR f rs 0 = rs := rfl
theorem mixR_all (f : Pr → Pr) (rs : List Pr) : mixR f rs rs.length = rs.map f := by unfold mixR; simp
theorem mixR_at (f : Pr → Pr) (rs : List Pr) (j : Nat) (h : j < rs.length) : (mixR f rs j)[j]? = some rs[j] := by
  unfold mixR
  rw [List.getElem?_append_right (by simp; omega)]
  simp [Nat.min_eq_left (Nat.le_of_lt h), h]
theorem mixR_set (f : Pr → Pr) (rs : List Pr) (j : Nat) (h : j < rs.length) : (mixR f rs j).set j (f rs[j]) = mixR f rs (j + 1) := by
  have e : rs.take (j + 1) = rs.take j ++ [rs[j]] := by rw [List.take_succ_eq_append_getElem h]
  have e2 : rs.drop j = rs[j] :: rs.drop (j + 1) := List.drop_eq_getElem_cons h
  unfold mixR
  rw [e, e2, List.map_append, List.append_assoc, List.set_append_right _ _ (by simp; omega), List.length_map, List.length_take, Nat.min_eq_left (Nat.le_of_lt h), Nat.sub_self]
  rfl
/-- A row turned. -/
def trR (i : Nat) (q : Nat → Int) (r : Pr) : Pr := ⟨(trP i q r.ps).n, (trP i q r.ps).x, (trP i q r.ps).z, (trP i q r.ps).f⟩
theorem plc_lt {q : Nat → Int} {k n : Nat} (hP : BL.Plc q k) (hn : ∀ j, j < k → q j < (n : Int)) : ∀ j, j < k → (q j).toNat < n := fun j hj => by have h1 := hn j hj; have h2 := (hP j hj).1; omega
theorem lt_4 {i : Nat} (hi : i < 17) {x z f : Nat} (hx : x < 2 ^ cgk i) (hz : z < 2 ^ cgk i) : (PL.lt (cgT i) (cgk i) x z f).1 < 2 ^ cgk i ∧ (PL.lt (cgT i) (cgk i) x z f).2.1 < 2 ^ cgk i ∧ (PL.lt (cgT i) (cgk i) x z f).2.2 < 4 := by
  rw [PL.lt_f]
  have h := (PL.cg_hom i hi).lo x z hx hz
  exact ⟨h.1, h.2.1, Nat.mod_lt _ (by decide)⟩
theorem trP_ok {i : Nat} (hi : i < 17) {q : Nat → Int} {p : PS} (hp : p.ok) (hP : BL.Plc q (cgk i)) (hn : ∀ j, j < cgk i → q j < (p.n : Int)) : (trP i q p).ok := by
  have hq := plc_lt hP hn
  exact ⟨hp.n1, PL.put_ltn hq hp.x1, PL.put_ltn hq hp.z1, (lt_4 hi (BL.pickN_low _ _ _) (BL.pickN_low _ _ _)).2.2⟩
end Go.Proofs.Ytoddbaljnlhhaab
namespace Go.Proofs.Ytoddbaljnlhhaab
open Go.RowKit Go.Sort
open PL (pv PS bt cgk cgT)

set_option maxHeartbeats 2000000 in
set_option maxRecDepth 100000 in
theorem applied_no (t : Tb) (a : Option Addr) (c : Nat) (s : ByteArray) (q : Nat → Int) (aq : Option Addr) (m cq : Nat) (w : World) (HQ : BL.Row aq q m w) (hm : m ≤ cq) (hc : cq ≤ 9223372036854775807) (hE : gE t.n s q m ≠ 0) :
    Calls Try.prog 14 #[t.v a c, .string s, .slice aq m cq] w fun e w' => e = .returned (.tuple #[.agg #[.int .i64 0, .slice none 0 0], .int .i64 (gE t.n s q m)]) ∧ Below w.heap.size w w' := by
  have CG := fun w' (h : Below w.heap.size w w') => checkGate_any t a c s q aq m cq w' (HQ.below h) hm hc
  have hE' : (gE t.n s q m != 0) = true := bne_iff_ne.2 hE
  clear HQ hE
  generalize gE t.n s q m = E at *
  have hB0 : Below w.heap.size w ((w.alloc (.cells #[.int .i64 t.n, .slice a t.rows.length c] 24)).alloc (.cells #[.int .i64 0, .slice none 0 0] 24)) := bal (bal (Below.refl _ _) _) _
  have hK1 : BK ((w.alloc (.cells #[.int .i64 t.n, .slice a t.rows.length c] 24)).alloc (.cells #[.int .i64 0, .slice none 0 0] 24)) (w.heap.size + 1) #[.int .i64 0, .slice none 0 0] 24 := by
    have h := bk_new (w.alloc (.cells #[.int .i64 t.n, .slice a t.rows.length c] 24)) #[.int .i64 0, .slice none 0 0] 24
    rwa [PL.alz] at h
  obtain ⟨n, rs⟩ := t
  simp only at *
  go_enter Try.func14, Try.ntmps14
  go_wp2_with (go_at_call 30; (with_reducible refine (CG _ hB0).mono ?_); rintro e w1 ⟨rfl, hB1⟩; (have k1 := bk_on hK1 hB1); (have d1 := k1.cell); (have f1 := k1.free); have l1 := k1.lt)
  have r1 := (k1.set 0 (.int .i64 0)).set 1 (.slice none 0 0)
  have q0 := r1.cell 0
  have q1 := r1.cell 1
  have hBf := bset (bset (btr hB0 hB1) (w.heap.size + 1) 0 (.int .i64 0) (by omega)) (w.heap.size + 1) 1 (.slice none 0 0) (by omega)
  have q0' : ((w1.setCell ⟨w.heap.size + 1, 0, none⟩ (.int .i64 0)).setCell ⟨w.heap.size + 1, 1, none⟩ (.slice none 0 0)).cell? ⟨w.heap.size + 1, 0, none⟩ = some (.int .i64 0) := r1.cell 0
  have q1' : ((w1.setCell ⟨w.heap.size + 1, 0, none⟩ (.int .i64 0)).setCell ⟨w.heap.size + 1, 1, none⟩ (.slice none 0 0)).cell? ⟨w.heap.size + 1, 1, none⟩ = some (.slice none 0 0) := r1.cell 1
  exact bodyPost_ret (v := .tuple #[.agg #[.int .i64 0, .slice none 0 0], .int .i64 E]) (by simp [results, Try.results14, go_sem, q0', q1']) rfl ⟨rfl, hBf⟩
theorem gE_zero {n : Int} {s : ByteArray} {q : Nat → Int} {m : Nat} (h : gE n s q m = 0) : gar s ≠ 0 ∧ m = gar s ∧ outQ n q m = false ∧ dupQ q m = false ∧ gcl s = true := by
  unfold gE at h
  by_cases h0 : gar s = 0
  · rw [if_pos h0] at h; cases h
  rw [if_neg h0] at h
  by_cases h1 : m = gar s
  case neg => rw [if_pos h1] at h; cases h
  rw [if_neg (by omega)] at h
  cases h2 : outQ n q m with
  | true => rw [if_pos h2] at h; cases h
  | false =>
    rw [if_neg (by rw [h2]; decide)] at h
    cases h3 : dupQ q m with
    | true => rw [if_pos h3] at h; cases h
    | false =>
      rw [if_neg (by rw [h3]; decide)] at h
      cases h4 : gcl s with
      | true => exact ⟨h0, h1, rfl, rfl, rfl⟩
      | false => rw [if_neg (by rw [h4]; decide)] at h; cases h
theorem outQ_in {n : Int} {q : Nat → Int} : ∀ m, outQ n q m = false → ∀ j, j < m → 0 ≤ q j ∧ q j < n
  | 0, _, _, h => absurd h (Nat.not_lt_zero _)
  | m + 1, h, j, hj => by
    unfold outQ at h
    rw [Bool.or_eq_false_iff] at h
    by_cases e : j = m
    · subst e
      have := h.2
      by_cases g : 0 ≤ q j ∧ q j < n
      · exact g
      · rw [decide_eq_false g] at this; cases this
    · exact outQ_in m h.1 j (by omega)
theorem hasV_no {q : Nat → Int} {v : Int} : ∀ m, hasV q v m = false → ∀ j, j < m → q j ≠ v
  | 0, _, _, h => absurd h (Nat.not_lt_zero _)
  | m + 1, h, j, hj => by
    unfold hasV at h
    rw [Bool.or_eq_false_iff] at h
    by_cases e : j = m
    · subst e
      exact beq_eq_false_iff_ne.1 h.2
    · exact hasV_no m h.1 j (by omega)
theorem dupQ_no {q : Nat → Int} : ∀ m, dupQ q m = false → ∀ i, i < m → ∀ j, j < i → q j ≠ q i
  | 0, _, _, h => absurd h (Nat.not_lt_zero _)
  | m + 1, h, i, hi => by
    unfold dupQ at h
    rw [Bool.or_eq_false_iff] at h
    by_cases e : i = m
    · subst e
      exact hasV_no i h.2
    · exact dupQ_no m h.1 i (by omega)
theorem gate_is {s : ByteArray} (h : gar s ≠ 0) (hc : gcl s = true) : ∃ i, i < 17 ∧ s = cgN i ∧ gar s = cgk i := by
  have hs := gar_nms s h
  simp only [nms, List.mem_cons, List.not_mem_nil, or_false] at hs
  clear h
  rcases hs with rfl | rfl | rfl | rfl | rfl | rfl | rfl | rfl | rfl | rfl | rfl | rfl | rfl | rfl | rfl | rfl | rfl | rfl | rfl | rfl | rfl | rfl | rfl | rfl | rfl
  · exact ⟨0, by decide, by kernel_rfl, by decide +kernel⟩
  · exact ⟨3, by decide, by kernel_rfl, by decide +kernel⟩
  · exact ⟨4, by decide, by kernel_rfl, by decide +kernel⟩
  · exact ⟨5, by decide, by kernel_rfl, by decide +kernel⟩
  · exact ⟨6, by decide, by kernel_rfl, by decide +kernel⟩
  · exact ⟨7, by decide, by kernel_rfl, by decide +kernel⟩
  · exact ⟨8, by decide, by kernel_rfl, by decide +kernel⟩
  · exact absurd hc (by decide +kernel)
  · exact absurd hc (by decide +kernel)
  · exact ⟨9, by decide, by kernel_rfl, by decide +kernel⟩
  · exact ⟨10, by decide, by kernel_rfl, by decide +kernel⟩
  · exact ⟨1, by decide, by kernel_rfl, by decide +kernel⟩
  · exact ⟨2, by decide, by kernel_rfl, by decide +kernel⟩
  · exact ⟨11, by decide, by kernel_rfl, by decide +kernel⟩
  · exact ⟨12, by decide, by kernel_rfl, by decide +kernel⟩
  · exact ⟨13, by decide, by kernel_rfl, by decide +kernel⟩
  · exact absurd hc (by decide +kernel)
  · exact absurd hc (by decide +kernel)
  · exact absurd hc (by decide +kernel)
  · exact ⟨14, by decide, by kernel_rfl, by decide +kernel⟩
  · exact ⟨15, by decide, by kernel_rfl, by decide +kernel⟩
  · exact ⟨16, by decide, by kernel_rfl, by decide +kernel⟩
  · exact absurd hc (by decide +kernel)
  · exact absurd hc (by decide +kernel)
  · exact absurd hc (by decide +kernel)
/-- A gate that may stand there is one of Clifford's, on places of its own. -/
theorem gE_ok {n : Int} {s : ByteArray} {q : Nat → Int} {m : Nat} (hn : n ≤ 64) (h : gE n s q m = 0) : ∃ i, i < 17 ∧ s = cgN i ∧ m = cgk i ∧ BL.Plc q m ∧ ∀ j, j < m → q j < n := by
  obtain ⟨h0, h1, h2, h3, h4⟩ := gE_zero h
  obtain ⟨i, hi, e1, e2⟩ := gate_is h0 h4
  refine ⟨i, hi, e1, h1.trans e2, fun j hj => ?_, fun j hj => (outQ_in m h2 j hj).2⟩
  have h5 := outQ_in m h2 j hj
  exact ⟨h5.1, by omega, dupQ_no m h3 j hj⟩
theorem gE_names (i : Nat) (hi : i < 17) : gar (cgN i) = cgk i ∧ gcl (cgN i) = true ∧ giv (cgN i) = cgN (PL.cgB i) ∧ gerr (cgN i) = 0 := by
  rcases (show i = 0 ∨ i = 1 ∨ i = 2 ∨ i = 3 ∨ i = 4 ∨ i = 5 ∨ i = 6 ∨ i = 7 ∨ i = 8 ∨ i = 9 ∨ i = 10 ∨ i = 11 ∨ i = 12 ∨ i = 13 ∨ i = 14 ∨ i = 15 ∨ i = 16 by omega) with rfl | rfl | rfl | rfl | rfl | rfl | rfl | rfl | rfl | rfl | rfl | rfl | rfl | rfl | rfl | rfl | rfl
  all_goals exact ⟨by decide +kernel, by decide +kernel, by kernel_rfl, by decide +kernel⟩
end Go.Proofs.Ytoddbaljnlhhaab
