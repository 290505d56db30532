/-
  Circuits back and back again: what Check, Inverse and Then tell of them.
-/
import Derived.Test.YtfaoegiignalkaaJ4
import Derived.Test.YtfaoegiignalkaaE3
namespace Go.Proofs.Ytfaoegiignalkaa
open Go.RowKit Go.Shelf

theorem lkF_oks {q : Int} {b : Nat} : ∀ (l : List Oq) (k h : Nat), (∀ o ∈ l, opE o q b (opN o) = 0) → h ≤ 36 → (lkF q b l k h).2 = if 36 < h + hsum l then (0, 116) else (h + hsum l, 0)
  | [], _, h, _, hh => by
    show (h, 0) = _
    rw [if_neg (by show ¬ 36 < h + 0; omega)]
    rfl
  | o :: l, k, h, hs, hh => by
    unfold lkF
    rw [if_neg (by rw [hs o (List.mem_cons_self ..)]; simp), hsum_cons]
    by_cases h2 : 36 < h + opH o
    · rw [if_pos h2, if_pos (by omega)]
    · rw [if_neg h2, lkF_oks l (k + 1) (h + opH o) (fun o' ho => hs o' (List.mem_cons_of_mem _ ho)) (by omega), Nat.add_assoc]
theorem lk_oks {c : Ci} (hb : ¬ badB c = true) (h : ∀ o ∈ c.ops, opE o c.q c.b.toNat (opN o) = 0) : (lk c).2 = if 4096 < c.ops.length then (0, 115) else if 36 < hsum c.ops then (0, 116) else (hsum c.ops, 0) := by
  unfold lk
  rw [if_neg hb]
  by_cases h1 : 4096 < c.ops.length
  · rw [if_pos h1, if_pos h1]
  · rw [if_neg h1, if_neg h1, lkF_oks c.ops 0 0 h (by omega), Nat.zero_add]
theorem lk_all {c : Ci} (h : (lk c).2.2 = 0) : ¬ badB c = true ∧ c.ops.length ≤ 4096 ∧ (∀ o ∈ c.ops, opE o c.q c.b.toNat (opN o) = 0) ∧ hsum c.ops ≤ 36 ∧ (lk c).2 = (hsum c.ops, 0) := by
  have hb : ¬ badB c = true := fun hb => by unfold lk at h; rw [if_pos hb] at h; cases h
  have hn : ¬ 4096 < c.ops.length := fun hn => by unfold lk at h; rw [if_neg hb, if_pos hn] at h; cases h
  have h3 : (lkF c.q c.b.toNat c.ops 0 0).2.2 = 0 := by unfold lk at h; rw [if_neg hb, if_neg hn] at h; exact h
  have ho : ∀ o ∈ c.ops, opE o c.q c.b.toNat (opN o) = 0 := fun o hm => by
    obtain ⟨j, hj, e⟩ := List.getElem_of_mem hm
    rw [← e]
    exact lkF_all _ _ _ h3 j hj
  have hl := lk_oks hb ho
  rw [if_neg hn] at hl
  by_cases h4 : 36 < hsum c.ops
  · rw [if_pos h4] at hl; rw [hl] at h; cases h
  · rw [if_neg h4] at hl; exact ⟨hb, by omega, ho, by omega, hl⟩
theorem opH_inv {o : Oq} {q : Int} {b : Nat} (h : opE o q b (opN o) = 0) (hk : o.k = 1) : opH (invO o) = opH o ∧ opE (invO o) q b (opN (invO o)) = 0 ∧ invO (invO o) = o := by
  obtain ⟨hm, _, _, _⟩ := op_gate h hk
  obtain ⟨_, _, _, g1, g2, _, g4⟩ := gates_ok o.n hm
  obtain ⟨h1, h2, h3, h4, h5, h6⟩ := opE_ok h
  have e1 : opN (invO o) = opN o := by unfold opN; rw [if_pos hk, if_pos hk]; exact g1
  have e2 : opH (invO o) = opH o := by unfold opH; rw [if_pos hk, if_pos hk]; exact g2
  have r1 : rfB (invO o) = true := by
    unfold rfB at h1 ⊢
    rw [if_pos (by simpa using hk)] at h1 ⊢
    exact h1
  have r2 : rcB (invO o) b = true := h2
  have r5 : rnB (invO o) q b = true := h5
  refine ⟨e2, ?_, by show (⟨o.k, giv (giv o.n), o.qs, o.b, o.f, o.m, o.v⟩ : Oq) = o; rw [g4]⟩
  unfold opE
  rw [e1, r1, r2, r5, if_neg (by simp), if_neg h3, if_neg (by show ¬ o.qs.length ≠ opN o; rw [h4]; simp), if_neg (by simp), if_neg (by show ¬ dupB o.qs = true; rw [h6]; simp)]
theorem inv_facts {c : Ci} (h : invE c = 0) : (lk c).2.2 = 0 ∧ (∀ o ∈ c.ops, o.k = 1) ∧ invR c = ⟨c.q, c.b, c.ops.reverse.map invO⟩ := by
  have h' := h
  unfold invE at h
  by_cases h1 : (lk c).2.2 = 0
  · rw [if_neg (by rw [h1]; simp)] at h
    by_cases h2 : (c.ops.all fun o => o.k == 1) = true
    · refine ⟨h1, fun o hm => ?_, by unfold invR; rw [if_pos h']⟩
      have := List.all_eq_true.1 h2 o hm
      simpa using this
    · rw [if_neg h2] at h; cases h
  · rw [if_pos h1] at h; exact absurd h h1
theorem inv_of {c : Ci} (h1 : (lk c).2.2 = 0) (h2 : ∀ o ∈ c.ops, o.k = 1) : invE c = 0 := by
  unfold invE
  rw [if_neg (by rw [h1]; simp), if_pos (List.all_eq_true.2 fun o hm => by simpa using h2 o hm)]
theorem hsum_inv {q : Int} {b : Nat} : ∀ (l : List Oq), (∀ o ∈ l, opE o q b (opN o) = 0) → (∀ o ∈ l, o.k = 1) → hsum (l.reverse.map invO) = hsum l ∧ (∀ o ∈ l.reverse.map invO, opE o q b (opN o) = 0 ∧ o.k = 1) ∧ (l.reverse.map invO).reverse.map invO = l
  | [], _, _ => ⟨rfl, fun o h => absurd h (by simp), rfl⟩
  | o :: l, h, hk => by
    obtain ⟨i1, i2, i3⟩ := hsum_inv l (fun o' ho => h o' (List.mem_cons_of_mem _ ho)) (fun o' ho => hk o' (List.mem_cons_of_mem _ ho))
    have ho := h o (List.mem_cons_self ..)
    have hko := hk o (List.mem_cons_self ..)
    obtain ⟨g1, g2, g3⟩ := opH_inv ho hko
    have e : (o :: l).reverse.map invO = l.reverse.map invO ++ [invO o] := by rw [List.reverse_cons, List.map_append]; rfl
    rw [e]
    refine ⟨by rw [hsum_snoc, hsum_cons, i1, g1]; omega, fun o' hm => ?_, ?_⟩
    · rcases List.mem_append.1 hm with hm | hm
      · exact i2 o' hm
      · rw [List.mem_singleton.1 hm]; exact ⟨g2, hko⟩
    · rw [List.reverse_append, List.map_append, i3]
      show [invO (invO o)] ++ l = o :: l
      rw [g3]; rfl
theorem bad_same {c d : Ci} (h1 : c.q = d.q) (h2 : c.b = d.b) : badB c = badB d := by unfold badB; rw [h1, h2]
/-- Back, and back again. -/
theorem back1 {c : Ci} (h : invE c = 0) : invE (invR c) = 0 ∧ invR (invR c) = c ∧ (lk (invR c)).2 = (lk c).2 := by
  obtain ⟨h1, h2, h3⟩ := inv_facts h
  obtain ⟨g1, g2, g3, g4, g5⟩ := lk_all h1
  obtain ⟨s1, s2, s3⟩ := hsum_inv c.ops g3 h2
  have hl : (lk (invR c)).2 = (lk c).2 := by
    rw [h3, g5, lk_oks (c := ⟨c.q, c.b, c.ops.reverse.map invO⟩) g1 (fun o hm => (s2 o hm).1), if_neg (by simp; omega), if_neg (by rw [s1]; omega)]
    show (hsum (c.ops.reverse.map invO), 0) = _
    rw [s1]
  have hE : invE (invR c) = 0 := inv_of (by rw [hl]; exact h1) (by rw [h3]; exact fun o hm => (s2 o hm).2)
  refine ⟨hE, ?_, hl⟩
  rw [(inv_facts hE).2.2, h3]
  show (⟨c.q, c.b, (c.ops.reverse.map invO).reverse.map invO⟩ : Ci) = c
  rw [s3]
theorem both_lk {c d : Ci} (hc : (lk c).2.2 = 0) (hd : (lk d).2.2 = 0) (hq : c.q = d.q) (hb : c.b = d.b) : (lk (both c d)).2 = if 4096 < c.ops.length + d.ops.length then (0, 115) else if 36 < hsum c.ops + hsum d.ops then (0, 116) else (hsum c.ops + hsum d.ops, 0) := by
  obtain ⟨g1, g2, g3, g4, g5⟩ := lk_all hc
  obtain ⟨k1, k2, k3, k4, k5⟩ := lk_all hd
  rw [lk_oks (c := both c d) g1 (fun o hm => by
    rcases List.mem_append.1 hm with hm | hm
    · exact g3 o hm
    · show opE o c.q c.b.toNat (opN o) = 0; rw [hq, hb]; exact k3 o hm)]
  show (if 4096 < (c.ops ++ d.ops).length then _ else if 36 < hsum (c.ops ++ d.ops) then _ else (hsum (c.ops ++ d.ops), 0)) = _
  rw [List.length_append, hsum_app]
theorem the_is {c d : Ci} (hc : (lk c).2.2 = 0) (hd : (lk d).2.2 = 0) : thE c d = if c.q ≠ d.q ∨ c.b ≠ d.b then 2 else if 4096 < c.ops.length + d.ops.length then 115 else if 36 < hsum c.ops + hsum d.ops then 116 else 0 := by
  unfold thE
  rw [if_neg (by rw [hc]; simp), if_neg (by rw [hd]; simp)]
  by_cases h : c.q ≠ d.q ∨ c.b ≠ d.b
  · rw [if_pos h, if_pos h]
  · rw [if_neg h, if_neg h]
    simp only [not_or, Decidable.not_not] at h
    rw [both_lk hc hd h.1 h.2]
    split
    · rfl
    · split <;> rfl
/-- A circuit of two goes back the other way round. -/
theorem back2 {c d : Ci} (hc : invE c = 0) (hd : invE d = 0) : thE (invR d) (invR c) = thE c d := by
  obtain ⟨c1, c2, c3⟩ := inv_facts hc
  obtain ⟨d1, d2, d3⟩ := inv_facts hd
  obtain ⟨_, _, cl⟩ := back1 hc
  obtain ⟨_, _, dl⟩ := back1 hd
  rw [the_is c1 d1, the_is (by rw [dl]; exact d1) (by rw [cl]; exact c1), c3, d3]
  obtain ⟨_, _, g3, _, _⟩ := lk_all c1
  obtain ⟨_, _, k3, _, _⟩ := lk_all d1
  obtain ⟨s1, _, _⟩ := hsum_inv c.ops g3 c2
  obtain ⟨t1, _, _⟩ := hsum_inv d.ops k3 d2
  simp only [List.length_map, List.length_reverse, s1, t1]
  rw [Nat.add_comm d.ops.length, Nat.add_comm (hsum d.ops)]
  have e1 : (d.q ≠ c.q ∨ d.b ≠ c.b) = (c.q ≠ d.q ∨ c.b ≠ d.b) := by rw [ne_comm, ne_comm (a := d.b)]
  simp only [e1]
theorem back3 {c d : Ci} (hc : invE c = 0) (hd : invE d = 0) (ht : thE c d = 0) : invE (thR c d) = 0 ∧ invR (thR c d) = thR (invR d) (invR c) ∧ (lk (thR c d)).2 = ((lk c).2.1 + (lk d).2.1, 0) := by
  obtain ⟨c1, c2, c3⟩ := inv_facts hc
  obtain ⟨d1, d2, d3⟩ := inv_facts hd
  obtain ⟨_, _, _, _, g5⟩ := lk_all c1
  obtain ⟨_, _, _, _, k5⟩ := lk_all d1
  have e1 : thR c d = both c d := by unfold thR; rw [if_pos ht]
  have e2 : thR (invR d) (invR c) = both (invR d) (invR c) := by unfold thR; rw [if_pos (by rw [back2 hc hd]; exact ht)]
  rw [the_is c1 d1] at ht
  by_cases h : c.q ≠ d.q ∨ c.b ≠ d.b
  · rw [if_pos h] at ht; cases ht
  rw [if_neg h] at ht
  simp only [not_or, Decidable.not_not] at h
  have hl := both_lk c1 d1 h.1 h.2
  by_cases h2 : 4096 < c.ops.length + d.ops.length
  · rw [if_pos h2] at ht; cases ht
  rw [if_neg h2] at ht hl
  by_cases h3 : 36 < hsum c.ops + hsum d.ops
  · rw [if_pos h3] at ht; cases ht
  rw [if_neg h3] at hl
  have hE : invE (both c d) = 0 := inv_of (by rw [hl]) (fun o hm => by
    rcases List.mem_append.1 hm with hm | hm
    · exact c2 o hm
    · exact d2 o hm)
  rw [e1, e2]
  refine ⟨hE, ?_, by rw [hl, g5, k5]⟩
  rw [(inv_facts hE).2.2, c3, d3]
  show (⟨c.q, c.b, (c.ops ++ d.ops).reverse.map invO⟩ : Ci) = ⟨d.q, d.b, d.ops.reverse.map invO ++ c.ops.reverse.map invO⟩
  rw [List.reverse_append, List.map_append, h.1, h.2]
theorem inv_no {c : Ci} (h : invE c ≠ 0) : invR c = noCi := by unfold invR; rw [if_neg h]
theorem thr_no {c d : Ci} (h : thE c d ≠ 0) : thR c d = noCi := by unfold thR; rw [if_neg h]
theorem os_none (W : World) (A : Nat → Option Addr) (C : Nat → Nat) : OS W none 0 noCi.ops A C := by
  exact ⟨Nat.le_refl _, fun k h => absurd h (Nat.not_lt_zero _), fun k h => absurd h (Nat.not_lt_zero _), fun k h => absurd h (Nat.not_lt_zero _), Nat.zero_le _⟩
end Go.Proofs.Ytfaoegiignalkaa
