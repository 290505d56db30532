/-
  Put together of: HM HN.
-/
import Derived.Test.YtdjfpghgklkejaaGreatDoorYF
import Derived.Test.YtdjfpghgklkejaaGreatDoorYQ
import Derived.Test.YtdjfpghgklkejaaGreatDoorXC
import Derived.ProofKit
import Derived.OpenShut
import Derived.Carry
import Derived.ChangeMaps5
import Derived.Deep.Strs
import Derived.Deep.Fields
namespace Go.Proofs.YtdjfpghgklkejaaGreatDoor
open Go.RowKit Go.Sort
theorem fl_det {rs : List Rw} {c c' : Ci} {p p' : Int} {e' : Nat} (h : FlS rs c p 0) (h' : FlS rs c' p' e') : c' = c ∧ e' = 0 := by
 unfold FlS at h h'
 split at h
 ·rename_i x hx
  exact absurd h.2.2.symm (lookB_no _ _ _ _ _ hx)
 ·rename_i en L hx
  rw [hx] at h'
  simp only at h'
  split at h
  ·exact absurd h.2.1 (by omega)
  ·rename_i h1
   rw [if_neg h1] at h'
   split at h
   ·rename_i h2
    rw [if_pos h2] at h'
    exact ⟨h'.1.trans h.1.symm, h'.2.2⟩
   ·rename_i h2
    exact absurd h.2.1.symm h2
set_option maxHeartbeats 2000000 in
set_option maxRecDepth 100000 in
theorem back_any (c : Ci) (oa : Option Addr) (oc : Nat) (A : Nat → Option Addr) (C : Nat → Nat) (w : World) (H : OS w oa oc c.ops A C) (hv : VR w) :
  Calls Tryz.prog 6 #[civ c oa oc] w fun e w' => e = .returned (.bool true) ∧ Below w.heap.size w w' := by
 have HO := hid H
 have HV : Hid (∀ w', Below w.heap.size w w' → VR w') := fun w' h => hv.below h
 clear H hv
 go_enter Tryz.func6, Tryz.ntmps6
 go_wp2_with (first
  | (go_at_call 9; (with_reducible refine (alive_any _ (HV.out _ (bal (Below.refl _ _) _))).mono ?_); rintro x w1 ⟨rfl, hB1⟩; (have hA1 := btr (bal (Below.refl w.heap.size w) _) hB1); (have b1 := bk_on (bk_new w _ 27) hB1); (have d1 := b1.cell); (have l1 := b1.lt))
  | (go_at_call 17; refine Hid.out ?_))
 refine hid ?_
 refine (flatShow_any c oa oc A C _ (HO.out.below hA1) (HV.out _ hA1)).mono ?_
 rintro x w2 ⟨⟨s, er, rfl, hso⟩, hB2⟩
 have hA2 := btr hA1 hB2
 have b2 := bk_on b1 hB2
 have d2 := b2.cell
 have l2 := b2.lt
 have HB2 := hid b2
 clear d1 l1 b1 b2
 rcases hso with ⟨h0, rfl⟩ | ⟨rfl, hs6, rs, hPO, hFl⟩
 ·have hne : ¬ ((er : Nat) : Int) = 0 := by omega
  go_wp2
  go_ret
  exact ⟨rfl, hA2⟩
 ·go_wp2_with (go_at_call 15; refine Hid.out ?_)
  refine hid ?_
  refine (read_any _ s rs 0 0 hPO (by omega) (HV.out _ hA2)).mono ?_
  rintro x w3 ⟨hB3, c3, p3, er3, hRd, hc3⟩
  rcases hRd with ⟨h0, _⟩ | ⟨_, hF3⟩
  ·exact absurd rfl h0
  obtain ⟨rfl, rfl⟩ := fl_det hFl hF3
  rcases hc3 with ⟨h0, _⟩ | ⟨_, oa3, ok3, vs3, hOM, rfl⟩
  ·exact absurd rfl h0
  obtain ⟨a3', c3', e, hOS⟩ := hOM.read
  cases e
  have hA3 := btr hA2 hB3
  have b3 := bk_on HB2.out hB3
  have d3 := b3.cell
  have l3 := b3.lt
  clear d2 l2 HB2 hPO hFl hF3 hOM
  go_wp2_with (go_at_call 13; refine Hid.out ?_)
  refine hid ?_
  refine (sameC_any c3 oa oa3 oc ok3 _ _ _ _ _ ((HO.out.below hA3).below (bal (Below.refl _ _) _)) (hOS.below (bal (Below.refl _ _) _))).mono ?_
  rintro x w5 ⟨rfl, hB5⟩
  go_wp2
  go_ret
  exact ⟨rfl, btr (bal hA3 _) hB5⟩
end Go.Proofs.YtdjfpghgklkejaaGreatDoor
namespace Go.Proofs.YtdjfpghgklkejaaGreatDoor
open Go.ChangeShapes Go.WideShapes Go.ChangeAt Go.ChangeMaps Go.RowKit Go.Sort
theorem Tryz.cellsH49 : Tryz.prog.cellsOf 49 = 7 := by kernel_rfl
theorem Tryz.cellsH27 : Tryz.prog.cellsOf 27 = 3 := by kernel_rfl
theorem Tryz.cellsH3 : Tryz.prog.cellsOf 3 = 1 := by kernel_rfl
theorem wf_u64 {x : Int} (h : (Lit.int .u64 x).wf = true) : 0 ≤ x ∧ x ≤ 18446744073709551615 := by
 have h2 : (decide (IntKind.u64.min ≤ x) && decide (x ≤ IntKind.u64.max)) = true := h
 rw [show IntKind.u64.min = 0 by decide, show IntKind.u64.max = 18446744073709551615 by decide, Bool.and_eq_true, decide_eq_true_iff, decide_eq_true_iff] at h2
 exact h2
section
variable {H : Type} {enc : TypeId × Value → H} {W : World}
theorem trod_fields3 {ts : TypeId} {fs : Array Field} {fuel : Nat} {cs : List Value} {x : DataW H × List MemPlace} (hs : Tryz.prog.underlying ts = some (.struct fs))
  (hone : ∀ (i : Nat) (f : Field), fs[i]? = some f → f.offset = i ∧ Tryz.prog.cellsOf f.type = 1) (hC : Tryz.prog.cellsOf ts = fs.size) (h : DataW.trod enc Tryz.prog W 0 (fun _ => true) true fuel ts cs = some x) :
  cs.length = fs.size ∧ ∃ (n : Nat) (Y : Nat → DataW H × List MemPlace), ∀ (i : Nat) (f : Field), fs[i]? = some f → DataW.trod enc Tryz.prog W 0 (fun _ => true) true n f.type [cs.getD i undef] = some (Y i) := by
 obtain ⟨xs, n, _, rfl, hlen, hxl, hf⟩ := DataW.trod_struct hs h
 rw [hC] at hlen
 refine ⟨hlen, n, fun i => xs.getD i (.nil, []), fun i f hi => ?_⟩
 have hlt : i < fs.size := (Array.getElem?_eq_some_iff.1 hi).1
 obtain ⟨ho, hc1⟩ := hone i f hi
 have g := hf i f hi
 rw [ho, hc1, Go.Deep.take1_drop cs i undef (by omega), List.getElem?_eq_getElem (by omega)] at g
 rw [g]
 simp [List.getD, List.getElem?_eq_getElem (show i < xs.length by omega)]
theorem ints_of_trod {fuel : Nat} {cs : List Value} {x : DataW H × List MemPlace} (h : DataW.trod enc Tryz.prog W 0 (fun _ => true) true fuel 46 cs = some x) :
  ∃ (a : Option Addr) (c : Nat) (l : List Int), cs = [.slice a l.length c] ∧ QS W a c l ∧ l.length ≤ 9223372036854775807 := by
 rcases open_ints Tryz.underlying46 Tryz.underlying3 Tryz.cellsH3 h with ⟨rfl, _⟩ | ⟨a, len, cap, zs, rfl, _, hl, hm, hz, _, hc, _⟩
 ·exact ⟨none, 0, [], rfl, ⟨Nat.le_refl _, fun k hk => absurd hk (Nat.not_lt_zero _)⟩, Nat.zero_le _⟩
 ·simp only [if_true] at hz
  unfold maxLen at hm
  have hlen : (zs.take len).length = len := by rw [List.length_take]; omega
  refine ⟨some a, cap, zs.take len, by rw [hlen], ⟨by omega, fun k hk => ?_⟩, by omega⟩
  obtain ⟨b, off, spot⟩ := a
  have hspot : spot = none := by simpa [Addr.add] using World.cell?_spot (hc 0 (by omega))
  subst hspot
  refine ⟨b, off, rfl, fun j hj => ?_, ?_⟩
  ·have := hc j (by omega)
   rw [add_plain] at this
   rw [this, List.getElem_take]
   simp [List.getD, List.getElem?_eq_getElem (show j < zs.length by omega)]
  ·have := World.block_lt_of_cell? W _ (hc 0 (by omega))
   rw [add_plain] at this
   exact this
theorem op_of_trod {fuel : Nat} {cs : List Value} {x : DataW H × List MemPlace} (h : DataW.trod enc Tryz.prog W 0 (fun _ => true) true fuel 49 cs = some x) :
  ∃ t : Oq × Option Addr × Nat, cs = opc t.1 t.2.1 t.2.2 ∧ QS W t.2.1 t.2.2 t.1.qs ∧ Fit t.1 := by
 obtain ⟨hlen, n, Y, hY⟩ := trod_fields3 Tryz.underlying49 (Go.Deep.hone_of (by kernel_rfl)) Tryz.cellsH49 h
 match cs, hlen with
 | [v0, v1, v2, v3, v4, v5, v6], _ =>
  obtain ⟨x0, e0, _, _⟩ := DataW.trod_int Tryz.underlying3 (hY 0 _ rfl)
  obtain ⟨x1, e1, _, _⟩ := DataW.trod_string Tryz.underlying9 (hY 1 _ rfl)
  obtain ⟨a, c, l, e2, hq, hl⟩ := ints_of_trod (hY 2 _ rfl)
  obtain ⟨x3, e3, _, _⟩ := DataW.trod_int Tryz.underlying3 (hY 3 _ rfl)
  obtain ⟨x4, e4, _⟩ := DataW.trod_bool Tryz.underlying4 (hY 4 _ rfl)
  obtain ⟨x5, e5, _, w5⟩ := DataW.trod_int Tryz.underlying47 (hY 5 _ rfl)
  obtain ⟨x6, e6, _, w6⟩ := DataW.trod_int Tryz.underlying47 (hY 6 _ rfl)
  simp at e0 e1 e2 e3 e4 e5 e6
  subst e0 e1 e2 e3 e4 e5 e6
  exact ⟨⟨⟨x0, x1, l, x3, x4, x5, x6⟩, a, c⟩, rfl, hq, (wf_u64 w5).1, (wf_u64 w5).2, (wf_u64 w6).1, (wf_u64 w6).2, hl⟩
theorem ops_of_trod {fuel : Nat} {cs : List Value} {x : DataW H × List MemPlace} (h : DataW.trod enc Tryz.prog W 0 (fun _ => true) true fuel 25 cs = some x) :
  ∃ (a : Option Addr) (c : Nat) (os : List Oq) (A : Nat → Option Addr) (C : Nat → Nat), cs = [.slice a os.length c] ∧ OS W a c os A C := by
 rcases Go.Deep.open_slice Tryz.underlying25 h with ⟨rfl, _⟩ | ⟨a, len, cap, m, n, D, Pl, rfl, _, hl, hm, hmm, hx, hcell⟩
 ·exact ⟨none, 0, [], fun _ => none, fun _ => 0, rfl, Nat.le_refl _, fun k hk => absurd hk (Nat.not_lt_zero _), fun k hk => absurd hk (Nat.not_lt_zero _), fun k hk => absurd hk (Nat.not_lt_zero _), Nat.zero_le _⟩
 ·simp only [if_true] at hmm
  unfold maxLen at hm
  rw [Tryz.cellsH49] at hcell
  have each : ∀ i, i < len → ∃ t : Oq × Option Addr × Nat, (∀ j, j < 7 → W.cell? (a.add (i * 7 + j)) = (opc t.1 t.2.1 t.2.2)[j]?) ∧ QS W t.2.1 t.2.2 t.1.qs ∧ Fit t.1 := by
   intro i hi
   obtain ⟨cs', h1, h2⟩ := hcell i (by omega)
   obtain ⟨_, hlen, hc⟩ := World.cells?_some h1
   obtain ⟨t, rfl, hq, hf⟩ := op_of_trod h2
   refine ⟨t, fun j hj => ?_, hq, hf⟩
   have e0 := hc j hj
   rw [Go.Deep.add_add] at e0
   exact e0
  haveI : Inhabited (Oq × Option Addr × Nat) := ⟨⟨⟨0, ⟨#[]⟩, [], 0, false, 0, 0⟩, none, 0⟩⟩
  obtain ⟨T, hT⟩ := Go.Deep.choose_lt each
  have hln : ((List.range len).map fun i => (T i).1).length = len := by simp
  refine ⟨some a, cap, (List.range len).map fun i => (T i).1, fun i => (T i).2.1, fun i => (T i).2.2, by rw [hln], by omega, fun k hk => ?_, fun k hk => ?_, fun k hk => ?_, by omega⟩
  ·rw [hln] at hk
   simpa using (hT k hk).2.1
  ·rw [hln] at hk
   obtain ⟨b, off, spot⟩ := a
   have h00 := (hT 0 (by omega)).1 0 (by omega)
   have hspot : spot = none := by simpa [Addr.add] using World.cell?_spot h00
   subst hspot
   have get : ∀ j d, j < len → d < 7 → W.cell? ⟨b, off + (j * 7 + d), none⟩ = (opc (T j).1 (T j).2.1 (T j).2.2)[d]? := fun j d hj hd => by
    have := (hT j hj).1 d hd
    rwa [add_plain] at this
   refine ⟨b, off, rfl, fun j hj => ?_, fun j hj => ?_, fun j hj => ?_, fun j hj => ?_, fun j hj => ?_, fun j hj => ?_, fun j hj => ?_, ?_⟩
   ·rw [hln] at hj; have := get j 0 hj (by omega); simpa [Nat.add_assoc] using this
   ·rw [hln] at hj; have := get j 1 hj (by omega); simpa [Nat.add_assoc] using this
   ·rw [hln] at hj; have := get j 2 hj (by omega); simpa [Nat.add_assoc] using this
   ·rw [hln] at hj; have := get j 3 hj (by omega); simpa [Nat.add_assoc] using this
   ·rw [hln] at hj; have := get j 4 hj (by omega); simpa [Nat.add_assoc] using this
   ·rw [hln] at hj; have := get j 5 hj (by omega); simpa [Nat.add_assoc] using this
   ·rw [hln] at hj; have := get j 6 hj (by omega); simpa [Nat.add_assoc] using this
   ·have := World.block_lt_of_cell? W _ (get 0 0 (by omega) (by omega))
    exact this
  ·rw [hln] at hk
   simpa using (hT k hk).2.2
set_option maxRecDepth 100000 in
theorem circ_of_trod {base : Nat} {v : Value} {d : DataW H} {p : List MemPlace} (hval : Value.okWide Tryz.prog W .any base 27 v) (h : DataW.Trod enc Tryz.prog W 0 (fun _ => true) true 27 v d p) :
  ∃ (c : Ci) (a : Option Addr) (cp : Nat) (A : Nat → Option Addr) (C : Nat → Nat), v = civ c a cp ∧ OS W a cp c.ops A C := by
 obtain ⟨cs, rfl, hsz⟩ := okWide_struct Tryz.underlying27 hval
 obtain ⟨fuel, hf⟩ := h
 obtain ⟨hlen, n, Y, hY⟩ := trod_fields3 Tryz.underlying27 (Go.Deep.hone_of (by kernel_rfl)) Tryz.cellsH27 hf
 obtain ⟨cs⟩ := cs
 match cs, hlen with
 | [v0, v1, v2], _ =>
  obtain ⟨x0, e0, _, _⟩ := DataW.trod_int Tryz.underlying3 (hY 0 _ rfl)
  obtain ⟨x1, e1, _, _⟩ := DataW.trod_int Tryz.underlying3 (hY 1 _ rfl)
  obtain ⟨a, c, os, A, C, e2, hO⟩ := ops_of_trod (hY 2 _ rfl)
  simp [Value.cells] at e0 e1 e2
  subst e0 e1 e2
  exact ⟨⟨x0, x1, os⟩, a, c, A, C, rfl, hO⟩
end
end Go.Proofs.YtdjfpghgklkejaaGreatDoor
