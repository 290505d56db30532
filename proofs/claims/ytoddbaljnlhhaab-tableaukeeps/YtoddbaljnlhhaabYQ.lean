/-
  Put together of: F1.
-/
import Derived.Test.YtoddbaljnlhhaabYP
namespace Go.Proofs.Ytoddbaljnlhhaab
open Go.RowKit Go.Sort
open PL (pv PS bt)

/-- What Project tells of a right tableau: the tableau, and the error. -/
def prjT (t : Tb) (q bit : Int) : Tb × Int :=
  if (fndT t q).2.2 ≠ 0 then (⟨0, []⟩, (fndT t q).2.2) else if ¬ (bit = 0 ∨ bit = 1) then (⟨0, []⟩, 2)
  else if (fndT t q).2.1 = false then (⟨t.n, chR t.rows t.n.toNat q.toNat bit (ffN q.toNat (t.rows.drop t.n.toNat)) (t.rows.getD (t.n.toNat + ffN q.toNat (t.rows.drop t.n.toNat)) ⟨0, 0, 0, 0⟩)⟩, 0)
  else if (fndT t q).1 ≠ bit then (⟨0, []⟩, 131) else (t, 0)
set_option maxHeartbeats 1000000 in
set_option maxRecDepth 100000 in
theorem proj_zero (t : Tb) (a : Option Addr) (c : Nat) (q bit E : Int) (w : World) (H : TS w a c t.rows) (hR : Rt t)
    (h : ((fndT t q).2.2 ≠ 0 ∧ E = (fndT t q).2.2) ∨ ((fndT t q).2.2 = 0 ∧ ¬ (bit = 0 ∨ bit = 1) ∧ E = 2) ∨ ((fndT t q).2.2 = 0 ∧ (bit = 0 ∨ bit = 1) ∧ (fndT t q).2.1 = true ∧ (fndT t q).1 ≠ bit ∧ E = 131)) :
    Calls Try.prog 15 #[t.v a c, .int .i64 q, .int .i64 bit] w fun e w' => e = .returned (.tuple #[.agg #[.int .i64 0, .slice none 0 0], .int .i64 E]) ∧ Below w.heap.size w w' := by
  have FO := hid (fun w' (h : Below w.heap.size w w') => found_any t a c q w' (H.below h) hR)
  obtain ⟨hB0, hK0, hK1⟩ := ta_boxes w t.n (.slice a t.rows.length c)
  clear H hR
  generalize fndT t q = r at *
  obtain ⟨r1, r2, r3⟩ := r
  obtain ⟨n, rs⟩ := t
  simp only at *
  have FIN : ∀ w1, Below ((w.alloc (.cells #[.int .i64 n, .slice a rs.length c] 24)).alloc (.cells #[.int .i64 0, .slice none 0 0] 24)).heap.size ((w.alloc (.cells #[.int .i64 n, .slice a rs.length c] 24)).alloc (.cells #[.int .i64 0, .slice none 0 0] 24)) w1 → (∀ k, w1.cell? ⟨w.heap.size + 1, k, none⟩ = #[Value.int .i64 0, .slice none 0 0][k]?) ∧ (∀ k, w1.frozen? ⟨w.heap.size + 1, k, none⟩ = false) ∧ w.heap.size + 1 < w1.heap.size ∧ Below w.heap.size w ((w1.setCell ⟨w.heap.size + 1, 0, none⟩ (.int .i64 0)).setCell ⟨w.heap.size + 1, 1, none⟩ (.slice none 0 0)) ∧ ((w1.setCell ⟨w.heap.size + 1, 0, none⟩ (.int .i64 0)).setCell ⟨w.heap.size + 1, 1, none⟩ (.slice none 0 0)).cell? ⟨w.heap.size + 1, 0, none⟩ = some (.int .i64 0) ∧ ((w1.setCell ⟨w.heap.size + 1, 0, none⟩ (.int .i64 0)).setCell ⟨w.heap.size + 1, 1, none⟩ (.slice none 0 0)).cell? ⟨w.heap.size + 1, 1, none⟩ = some (.slice none 0 0) := fun w1 hB1 => by
    have k1 := bk_on hK1 hB1
    have r1 := (k1.set 0 (.int .i64 0)).set 1 (.slice none 0 0)
    exact ⟨k1.cell, k1.free, k1.lt, bset (bset (btr hB0 hB1) (w.heap.size + 1) 0 (.int .i64 0) (by omega)) (w.heap.size + 1) 1 (.slice none 0 0) (by omega), r1.cell 0, r1.cell 1⟩
  have HF := hid FIN
  clear FIN hK1
  rcases h with ⟨h1, rfl⟩ | ⟨rfl, h2, rfl⟩ | ⟨rfl, h2, rfl, h3, rfl⟩
  · have h1' : (E != 0) = true := bne_iff_ne.2 h1
    go_enter Try.func15, Try.ntmps15
    go_wp2_with (go_at_call 28; refine Hid.out ?_)
    refine hid ?_
    refine (FO.out _ hB0).mono ?_
    rintro e w1 ⟨rfl, hB1⟩
    obtain ⟨d1, f1, l1, hBf, q0, q1⟩ := HF.out w1 hB1
    unfold fndV
    go_wp2
    exact bodyPost_ret (v := .tuple #[.agg #[.int .i64 0, .slice none 0 0], .int .i64 E]) (by simp [results, Try.results15, go_sem, q0, q1]) rfl ⟨rfl, hBf⟩
  · have h3 : (bit != 0) = true := bne_iff_ne.2 (fun e => h2 (.inl e))
    have h4 : (bit != 1) = true := bne_iff_ne.2 (fun e => h2 (.inr e))
    have h5 : ¬ bit = 0 := fun e => h2 (.inl e)
    have h6 : ¬ bit = 1 := fun e => h2 (.inr e)
    clear h2
    go_enter Try.func15, Try.ntmps15
    go_wp2_with (go_at_call 28; refine Hid.out ?_)
    refine hid ?_
    refine (FO.out _ hB0).mono ?_
    rintro e w1 ⟨rfl, hB1⟩
    obtain ⟨d1, f1, l1, hBf, q0, q1⟩ := HF.out w1 hB1
    unfold fndV
    go_wp2
    exact bodyPost_ret (v := .tuple #[.agg #[.int .i64 0, .slice none 0 0], .int .i64 2]) (by simp [results, Try.results15, go_sem, q0, q1]) rfl ⟨rfl, hBf⟩
  · rcases h2 with rfl | rfl
    all_goals
      have h5 : (r1 != _) = true := bne_iff_ne.2 h3
      go_enter Try.func15, Try.ntmps15
      go_wp2_with (go_at_call 28; refine Hid.out ?_)
      refine hid ?_
      refine (FO.out _ hB0).mono ?_
      rintro e w1 ⟨rfl, hB1⟩
      obtain ⟨d1, f1, l1, hBf, q0, q1⟩ := HF.out w1 hB1
      unfold fndV
      go_wp2
      exact bodyPost_ret (v := .tuple #[.agg #[.int .i64 0, .slice none 0 0], .int .i64 131]) (by simp [results, Try.results15, go_sem, q0, q1]) rfl ⟨rfl, hBf⟩
set_option maxHeartbeats 1000000 in
set_option maxRecDepth 100000 in
theorem proj_copy (t : Tb) (a : Option Addr) (c : Nat) (q bit : Int) (w : World) (H : TS w a c t.rows) (hR : Rt t) (hb : bit = 0 ∨ bit = 1) (h : fndT t q = (bit, true, 0)) :
    Calls Try.prog 15 #[t.v a c, .int .i64 q, .int .i64 bit] w fun e w' => ∃ v, e = .returned (.tuple #[.agg #[.int .i64 t.n, v], .int .i64 0]) ∧ OT w' w.heap.size v t.rows ∧ Below w.heap.size w w' := by
  have FO := hid (fun w' (h : Below w.heap.size w w') => found_any t a c q w' (H.below h) hR)
  have hl : t.rows.length ≤ 1000 := by have := hR.len; have := hR.n1; omega
  have CO := hid (fun w' (h : Below w.heap.size w w') => copied_any t a c w' (H.below h) hl)
  obtain ⟨hB0, hK0, hK1⟩ := ta_boxes w t.n (.slice a t.rows.length c)
  rw [h] at FO
  clear H hR h hl
  obtain ⟨n, rs⟩ := t
  simp only at *
  rcases hb with rfl | rfl
  all_goals
    go_enter Try.func15, Try.ntmps15
    go_wp2_with (go_at_call 28; refine Hid.out ?_)
    refine hid ?_
    refine (FO.out _ hB0).mono ?_
    rintro e w1 ⟨rfl, hB1⟩
    have k0 := bk_on hK0 hB1
    have d0 := k0.cell
    have l0 := k0.lt
    unfold fndV
    go_wp2_with (go_at_call 32; refine Hid.out ?_)
    refine hid ?_
    refine (CO.out _ (btr hB0 hB1)).mono ?_
    rintro e w2 ⟨v2, rfl, hO2, hB2⟩
    obtain ⟨a2, c2, rfl⟩ := own_shape hO2.own
    have k1 := bk_on (bk_on hK1 hB1) hB2
    have d1 := k1.cell
    have f1 := k1.free
    have l1 := k1.lt
    have r0 := k1.set 0 (.int .i64 n)
    have r1 := r0.set 1 (.slice a2 rs.length c2)
    have hO3 := ((hO2.put k1 (by decide) 0 (.int .i64 n)).put r0 (by decide) 1 (.slice a2 rs.length c2)).mono (show w.heap.size ≤ w1.heap.size from (btr hB0 hB1).size)
    have hBf := bset (bset (btr (btr hB0 hB1) hB2) (w.heap.size + 1) 0 (.int .i64 n) (by omega)) (w.heap.size + 1) 1 (.slice a2 rs.length c2) (by omega)
    have q0 : ((w2.setCell ⟨w.heap.size + 1, 0, none⟩ (.int .i64 n)).setCell ⟨w.heap.size + 1, 1, none⟩ (.slice a2 rs.length c2)).cell? ⟨w.heap.size + 1, 0, none⟩ = some (.int .i64 n) := r1.cell 0
    have q1 : ((w2.setCell ⟨w.heap.size + 1, 0, none⟩ (.int .i64 n)).setCell ⟨w.heap.size + 1, 1, none⟩ (.slice a2 rs.length c2)).cell? ⟨w.heap.size + 1, 1, none⟩ = some (.slice a2 rs.length c2) := r1.cell 1
    go_wp2
    exact bodyPost_ret (v := .tuple #[.agg #[.int .i64 n, .slice a2 rs.length c2], .int .i64 0]) (by simp [results, Try.results15, go_sem, q0, q1]) rfl ⟨_, rfl, hO3, hBf⟩
set_option maxHeartbeats 1000000 in
set_option maxRecDepth 100000 in
theorem proj_ch (N : Nat) (rs : List Pr) (a : Option Addr) (c : Nat) (q : Nat) (bit : Int) (w : World) (H : TS w a c rs) (hR : Rt ⟨(N : Nat), rs⟩) (hq : q < N) (hb : bit = 0 ∨ bit = 1) (i : Nat) (hi : i = ffN q (rs.drop N)) (hiN : i < N) (p : Pr) (hp : rs[N + i]? = some p) :
    Calls Try.prog 15 #[Tb.v ⟨(N : Nat), rs⟩ a c, .int .i64 (q : Nat), .int .i64 bit] w fun e w' => ∃ v, e = .returned (.tuple #[.agg #[.int .i64 (N : Nat), v], .int .i64 0]) ∧ OT w' w.heap.size v (chR rs N q bit i p) ∧ Below w.heap.size w w' := by
  have hl : rs.length = 2 * N := by have h : ((rs.length : Nat) : Int) = 2 * (N : Nat) := hR.len; omega
  have hfnd : fndT ⟨(N : Nat), rs⟩ (q : Nat) = (0, false, 0) := by
    unfold fndT
    show (if 0 ≤ ((q : Nat) : Int) ∧ ((q : Nat) : Int) < ((N : Nat) : Int) then _ else _) = _
    rw [if_pos (by omega)]
    show (if 0 ≤ ffI ((q : Nat) : Int).toNat (rs.drop ((N : Nat) : Int).toNat) then _ else _) = _
    rw [Int.toNat_natCast, Int.toNat_natCast]
    unfold ffI
    rw [← hi, if_pos (show i < (rs.drop N).length by rw [List.length_drop]; omega), if_pos (by omega)]
  have FO := hid (fun w' (h : Below w.heap.size w w') => found_any ⟨(N : Nat), rs⟩ a c (q : Nat) w' (H.below h) hR)
  rw [hfnd] at FO
  have CH := hid (fun w' (h : Below w.heap.size w w') => chosen_any N rs a c q bit w' (H.below h) hR hq hb i hi hiN p hp)
  have hlc := chR_len rs N q i bit p
  obtain ⟨hB0, hK0, hK1⟩ := ta_boxes w (N : Nat) (.slice a rs.length c)
  clear H hR hfnd hl hi hp hlc
  generalize chR rs N q bit i p = RS at *
  have hbb : 0 ≤ bit ∧ bit ≤ 1 := by omega
  rcases hb with rfl | rfl
  all_goals
    go_enter Try.func15, Try.ntmps15
    go_wp2_with (go_at_call 28; refine Hid.out ?_)
    refine hid ?_
    refine (FO.out _ hB0).mono ?_
    rintro e w1 ⟨rfl, hB1⟩
    have k0 := bk_on hK0 hB1
    have d0 := k0.cell
    have l0 := k0.lt
    unfold fndV
    go_wp2_with (go_at_call 34; refine Hid.out ?_)
    refine hid ?_
    refine (CH.out _ (btr hB0 hB1)).mono ?_
    rintro e w2 ⟨v2, rfl, hO2, hB2⟩
    obtain ⟨a2, c2, rfl⟩ := own_shape hO2.own
    have k1 := bk_on (bk_on hK1 hB1) hB2
    have d1 := k1.cell
    have f1 := k1.free
    have l1 := k1.lt
    have r0 := k1.set 0 (.int .i64 (N : Nat))
    have r1 := r0.set 1 (.slice a2 RS.length c2)
    have hO3 := ((hO2.put k1 (by decide) 0 (.int .i64 (N : Nat))).put r0 (by decide) 1 (.slice a2 RS.length c2)).mono (show w.heap.size ≤ w1.heap.size from (btr hB0 hB1).size)
    have hBf := bset (bset (btr (btr hB0 hB1) hB2) (w.heap.size + 1) 0 (.int .i64 (N : Nat)) (by omega)) (w.heap.size + 1) 1 (.slice a2 RS.length c2) (by omega)
    have q0 : ((w2.setCell ⟨w.heap.size + 1, 0, none⟩ (.int .i64 (N : Nat))).setCell ⟨w.heap.size + 1, 1, none⟩ (.slice a2 RS.length c2)).cell? ⟨w.heap.size + 1, 0, none⟩ = some (.int .i64 (N : Nat)) := r1.cell 0
    have q1 : ((w2.setCell ⟨w.heap.size + 1, 0, none⟩ (.int .i64 (N : Nat))).setCell ⟨w.heap.size + 1, 1, none⟩ (.slice a2 RS.length c2)).cell? ⟨w.heap.size + 1, 1, none⟩ = some (.slice a2 RS.length c2) := r1.cell 1
    go_wp2
    exact bodyPost_ret (v := .tuple #[.agg #[.int .i64 (N : Nat), .slice a2 RS.length c2], .int .i64 0]) (by simp [results, Try.results15, go_sem, q0, q1]) rfl ⟨_, rfl, hO3, hBf⟩
theorem fnd_free {t : Tb} {q : Int} (hR : Rt t) (h1 : (fndT t q).2.2 = 0) (h2 : (fndT t q).2.1 = false) : ∃ (q' N : Nat), q = (q' : Int) ∧ t.n = (N : Int) ∧ q' < N ∧ ffN q' (t.rows.drop N) < N := by
  unfold fndT at h1 h2
  by_cases hq : 0 ≤ q ∧ q < t.n
  case neg => rw [if_neg hq] at h1; cases h1
  rw [if_pos hq] at h2
  obtain ⟨q', rfl⟩ := Int.eq_ofNat_of_zero_le hq.1
  obtain ⟨N, hN⟩ := Int.eq_ofNat_of_zero_le hR.n0
  have hl := hR.len
  rw [hN, Int.toNat_natCast, Int.toNat_natCast] at h2
  refine ⟨q', N, rfl, hN, by omega, ?_⟩
  by_cases g : 0 ≤ ffI q' (t.rows.drop N)
  · unfold ffI at g
    by_cases g2 : ffN q' (t.rows.drop N) < (t.rows.drop N).length
    · rw [List.length_drop] at g2
      omega
    · rw [if_neg g2] at g
      omega
  · rw [if_neg g] at h2
    split at h2 <;> cases h2
/-- Where projected stands, by cases. -/
theorem projected_any (t : Tb) (a : Option Addr) (c : Nat) (q bit : Int) (w : World) (H : TS w a c t.rows) (hR : Rt t) :
    Calls Try.prog 15 #[t.v a c, .int .i64 q, .int .i64 bit] w fun e w' => ∃ v, e = .returned (.tuple #[.agg #[.int .i64 (prjT t q bit).1.n, v], .int .i64 (prjT t q bit).2]) ∧ OT w' w.heap.size v (prjT t q bit).1.rows ∧ Below w.heap.size w w' := by
  have Z : ∀ E, prjT t q bit = (⟨0, []⟩, E) → (((fndT t q).2.2 ≠ 0 ∧ E = (fndT t q).2.2) ∨ ((fndT t q).2.2 = 0 ∧ ¬ (bit = 0 ∨ bit = 1) ∧ E = 2) ∨ ((fndT t q).2.2 = 0 ∧ (bit = 0 ∨ bit = 1) ∧ (fndT t q).2.1 = true ∧ (fndT t q).1 ≠ bit ∧ E = 131)) → Calls Try.prog 15 #[t.v a c, .int .i64 q, .int .i64 bit] w fun e w' => ∃ v, e = .returned (.tuple #[.agg #[.int .i64 (prjT t q bit).1.n, v], .int .i64 (prjT t q bit).2]) ∧ OT w' w.heap.size v (prjT t q bit).1.rows ∧ Below w.heap.size w w' := fun E e h => by
    rw [e]
    refine (proj_zero t a c q bit E w H hR h).mono ?_
    rintro e w' ⟨rfl, hB⟩
    exact ⟨_, rfl, OT.nil _ _, hB⟩
  by_cases h1 : (fndT t q).2.2 ≠ 0
  · exact Z (fndT t q).2.2 (by unfold prjT; rw [if_pos h1]) (.inl ⟨h1, rfl⟩)
  have h1' : (fndT t q).2.2 = 0 := Classical.not_not.1 h1
  by_cases h2 : bit = 0 ∨ bit = 1
  case neg => exact Z 2 (by unfold prjT; rw [if_neg h1, if_pos h2]) (.inr (.inl ⟨h1', h2, rfl⟩))
  by_cases h3 : (fndT t q).2.1 = false
  · have e : prjT t q bit = (⟨t.n, chR t.rows t.n.toNat q.toNat bit (ffN q.toNat (t.rows.drop t.n.toNat)) (t.rows.getD (t.n.toNat + ffN q.toNat (t.rows.drop t.n.toNat)) ⟨0, 0, 0, 0⟩)⟩, 0) := by
      unfold prjT; rw [if_neg h1, if_neg (fun h => h h2), if_pos h3]
    rw [e]
    obtain ⟨q', N, hq, hN, hqN, hff⟩ := fnd_free hR h1' h3
    obtain ⟨n, rs⟩ := t
    have hN : n = (N : Int) := hN
    subst hN
    subst hq
    have hl : rs.length = 2 * N := by have h : ((rs.length : Nat) : Int) = 2 * (N : Nat) := hR.len; omega
    have hff : ffN q' (rs.drop N) < N := hff
    exact proj_ch N rs a c q' bit w H hR hqN h2 _ rfl hff _ (by
      show rs[N + ffN q' (rs.drop N)]? = some (rs.getD (N + ffN q' (rs.drop N)) ⟨0, 0, 0, 0⟩)
      rw [List.getD_eq_getElem?_getD, List.getElem?_eq_getElem (by omega)]
      rfl)
  have h3' : (fndT t q).2.1 = true := by cases h : (fndT t q).2.1 with
    | true => rfl
    | false => exact absurd h h3
  by_cases h4 : (fndT t q).1 = bit
  · have e : prjT t q bit = (t, 0) := by unfold prjT; rw [if_neg h1, if_neg (fun h => h h2), if_neg h3, if_neg (fun h => h h4)]
    rw [e]
    exact proj_copy t a c q bit w H hR h2 (Prod.ext h4 (Prod.ext h3' h1'))
  · exact Z 131 (by unfold prjT; rw [if_neg h1, if_neg (fun h => h h2), if_neg h3, if_pos h4]) (.inr (.inr ⟨h1', h2, h3', h4, rfl⟩))
set_option maxHeartbeats 1000000 in
set_option maxRecDepth 100000 in
theorem project_f (t : Tb) (a : Option Addr) (c : Nat) (q bit : Int) (w : World) (H : TS w a c t.rows) (h : ¬ Rt t) :
    Calls Try.prog 6 #[t.v a c, .int .i64 q, .int .i64 bit] w fun e w' => e = .returned (.tuple #[.agg #[.int .i64 0, .slice none 0 0], .int .i64 180]) ∧ Below w.heap.size w w' := by
  have CK := fun w' (h' : Below w.heap.size w w') => check_f t a c w' (H.below h') h
  obtain ⟨hB0, hK0, hK1⟩ := ta_boxes w t.n (.slice a t.rows.length c)
  clear H h
  obtain ⟨n, rs⟩ := t
  simp only at *
  go_enter Try.func6, Try.ntmps6
  go_wp2_with (go_at_call 13; (with_reducible refine (CK _ hB0).mono ?_); rintro e w1 ⟨rfl, hB1⟩; (have k1 := bk_on hK1 hB1); (have d1 := k1.cell); (have f1 := k1.free); have l1 := k1.lt)
  have r1 := (k1.set 0 (.int .i64 0)).set 1 (.slice none 0 0)
  have hBf := bset (bset (btr hB0 hB1) (w.heap.size + 1) 0 (.int .i64 0) (by omega)) (w.heap.size + 1) 1 (.slice none 0 0) (by omega)
  have q0' : ((w1.setCell ⟨w.heap.size + 1, 0, none⟩ (.int .i64 0)).setCell ⟨w.heap.size + 1, 1, none⟩ (.slice none 0 0)).cell? ⟨w.heap.size + 1, 0, none⟩ = some (.int .i64 0) := r1.cell 0
  have q1' : ((w1.setCell ⟨w.heap.size + 1, 0, none⟩ (.int .i64 0)).setCell ⟨w.heap.size + 1, 1, none⟩ (.slice none 0 0)).cell? ⟨w.heap.size + 1, 1, none⟩ = some (.slice none 0 0) := r1.cell 1
  exact bodyPost_ret (v := .tuple #[.agg #[.int .i64 0, .slice none 0 0], .int .i64 180]) (by simp [results, Try.results6, go_sem, q0', q1']) rfl ⟨rfl, hBf⟩
set_option maxHeartbeats 1000000 in
set_option maxRecDepth 100000 in
theorem project_t (t : Tb) (a : Option Addr) (c : Nat) (q bit : Int) (w : World) (H : TS w a c t.rows) (hR : Rt t) :
    Calls Try.prog 6 #[t.v a c, .int .i64 q, .int .i64 bit] w fun e w' => ∃ v, e = .returned (.tuple #[.agg #[.int .i64 (prjT t q bit).1.n, v], .int .i64 (prjT t q bit).2]) ∧ OT w' w.heap.size v (prjT t q bit).1.rows ∧ Below w.heap.size w w' := by
  have CK := fun w' (h' : Below w.heap.size w w') => check_t t a c w' (H.below h') hR
  have AP := fun w' (h' : Below w.heap.size w w') => projected_any t a c q bit w' (H.below h') hR
  obtain ⟨hB0, hK0, hK1⟩ := ta_boxes w t.n (.slice a t.rows.length c)
  clear H hR
  generalize prjT t q bit = P at *
  obtain ⟨⟨pn, RS⟩, pe⟩ := P
  obtain ⟨n, rs⟩ := t
  simp only at *
  go_enter Try.func6, Try.ntmps6
  go_wp2_with (first
    | (go_at_call 13; (with_reducible refine (CK _ hB0).mono ?_); rintro e w1 ⟨rfl, hB1⟩; (have k0 := bk_on hK0 hB1); (have d0 := k0.cell); have l0 := k0.lt)
    | (go_at_call 15; (with_reducible refine (AP _ (btr hB0 hB1)).mono ?_); rintro e w2 ⟨v2, rfl, hO2, hB2⟩; (obtain ⟨a2, c2, rfl⟩ := own_shape hO2.own); (have k1 := bk_on (bk_on hK1 hB1) hB2); (have d1 := k1.cell); (have f1 := k1.free); have l1 := k1.lt))
  have r0 := k1.set 0 (.int .i64 pn)
  have r1 := r0.set 1 (.slice a2 RS.length c2)
  have hO3 := ((hO2.put k1 (by decide) 0 (.int .i64 pn)).put r0 (by decide) 1 (.slice a2 RS.length c2)).mono (show w.heap.size ≤ w1.heap.size from (btr hB0 hB1).size)
  have hBf := bset (bset (btr (btr hB0 hB1) hB2) (w.heap.size + 1) 0 (.int .i64 pn) (by omega)) (w.heap.size + 1) 1 (.slice a2 RS.length c2) (by omega)
  have q0' : ((w2.setCell ⟨w.heap.size + 1, 0, none⟩ (.int .i64 pn)).setCell ⟨w.heap.size + 1, 1, none⟩ (.slice a2 RS.length c2)).cell? ⟨w.heap.size + 1, 0, none⟩ = some (.int .i64 pn) := r1.cell 0
  have q1' : ((w2.setCell ⟨w.heap.size + 1, 0, none⟩ (.int .i64 pn)).setCell ⟨w.heap.size + 1, 1, none⟩ (.slice a2 RS.length c2)).cell? ⟨w.heap.size + 1, 1, none⟩ = some (.slice a2 RS.length c2) := r1.cell 1
  exact bodyPost_ret (v := .tuple #[.agg #[.int .i64 pn, .slice a2 RS.length c2], .int .i64 pe]) (by simp [results, Try.results6, go_sem, q0', q1']) rfl ⟨_, rfl, hO3, hBf⟩
end Go.Proofs.Ytoddbaljnlhhaab
