/-
  A circuit looked at: look, Check, Halves.
-/
import Derived.Test.YtinkdonaedoojaaCD1
namespace Go.Proofs.Ytinkdonaedoojaa.CL
open Go.RowKit Go.Sort

/-- The first operation at fault, the halvings, the error. -/
def lkF (q : Int) (b : Nat) : List Oq → Nat → Nat → Nat × Nat × Nat
  | [], _, h => (0, h, 0)
  | o :: l, k, h => if opE o q b (opN o) ≠ 0 then (k, 0, opE o q b (opN o)) else if 36 < h + opH o then (k, 0, 116) else lkF q b l (k + 1) (h + opH o)
def badC (c : Ci) : Prop := c.q < 0 ∨ 64 < c.q ∨ c.b < 0 ∨ 64 < c.b
def badB (c : Ci) : Bool := decide (c.q < 0 ∨ 64 < c.q ∨ c.b < 0 ∨ 64 < c.b)
theorem bad_iff (c : Ci) : badB c = true ↔ badC c := by unfold badB badC; simp
def lk (c : Ci) : Nat × Nat × Nat := if badB c = true then (0, 0, 2) else if 4096 < c.ops.length then (0, 0, 115) else lkF c.q c.b.toNat c.ops 0 0
theorem opE_le (o : Oq) (q : Int) (b n : Nat) : opE o q b n ≤ 120 := by
  unfold opE
  repeat' split
  all_goals omega
theorem opH_le (o : Oq) : opH o ≤ 1 := by
  unfold opH
  have := ghv_le o.n
  split <;> omega
theorem lk_drop {q : Int} {b : Nat} {l : List Oq} {k h : Nat} (hk : k < l.length) : lkF q b (l.drop k) k h = if opE l[k] q b (opN l[k]) ≠ 0 then (k, 0, opE l[k] q b (opN l[k])) else if 36 < h + opH l[k] then (k, 0, 116) else lkF q b (l.drop (k + 1)) (k + 1) (h + opH l[k]) := by
  rw [List.drop_eq_getElem_cons hk]
  rfl
/-- look's own: the circuit's box, the map. -/
structure LW (w W : World) (c : Ci) (a : Option Addr) (k : Nat) : Prop where
  below : Below w.heap.size w W
  box : BK W w.heap.size (cic c a k) 50
  map : KM W (w.heap.size + 1)
theorem LW.on {w W W' : World} {c : Ci} {a : Option Addr} {k : Nat} (h : LW w W c a k) (hb : Below W.heap.size W W') : LW w W' c a k :=
  ⟨btr h.below hb, (hb.block _ h.box.lt).trans h.box, h.map.keep hb⟩
theorem LW.gb {w W W' : World} {c : Ci} {a : Option Addr} {k : Nat} (h : LW w W c a k) (hg : GB W W' (w.heap.size + 1)) (hk : KM W' (w.heap.size + 1)) : LW w W' c a k :=
  ⟨h.below.grown hg h.below.size (fun k e => by cases e; omega), gb_bk hg h.box (by omega), hk⟩
set_option maxHeartbeats 4000000 in
set_option maxRecDepth 100000 in
theorem look_any (c : Ci) (a : Option Addr) (cp : Nat) (A : Nat → Option Addr) (C : Nat → Nat) (w : World) (H : OS w a cp c.ops A C) :
    Calls Try.prog 45 #[civ c a cp] w fun e w' => e = .returned (.tuple #[.int .i64 ((lk c).1 : Nat), .int .i64 ((lk c).2.1 : Nat), .int .i64 ((lk c).2.2 : Nat)]) ∧ Below w.heap.size w w' := by
  by_cases hbad : badC c
  · have e : lk c = (0, 0, 2) := by unfold lk; rw [if_pos ((bad_iff c).2 hbad)]
    rw [e]
    have hw : c.q < 0 ∨ (¬ c.q < 0 ∧ 64 < c.q) ∨ (¬ c.q < 0 ∧ ¬ 64 < c.q ∧ c.b < 0) ∨ (¬ c.q < 0 ∧ ¬ 64 < c.q ∧ ¬ c.b < 0 ∧ 64 < c.b) := by unfold badC at hbad; omega
    clear e hbad H
    rcases hw with h1 | ⟨h1, h2⟩ | ⟨h1, h2, h3⟩ | ⟨h1, h2, h3, h4⟩
    all_goals
      go_enter Try.func45, Try.ntmps45
      go_wp2
      go_ret3
      exact ⟨rfl, bal (Below.refl _ _) _⟩
  obtain ⟨q, b, os⟩ := c
  simp only at H
  unfold badC at hbad
  simp only at hbad
  have h1 : ¬ q < 0 := by omega
  have h2 : ¬ 64 < q := by omega
  have h3 : ¬ b < 0 := by omega
  have h4 : ¬ 64 < b := by omega
  have hl := H.l
  by_cases hm : 4096 < os.length
  · have e : lk ⟨q, b, os⟩ = (0, 0, 115) := by unfold lk; rw [if_neg (by rw [bad_iff]; unfold badC; exact hbad), if_pos hm]
    rw [e]
    have hm2 : (4096 : Int) < (os.length : Int) := by omega
    clear e hbad H
    go_enter Try.func45, Try.ntmps45
    go_wp2
    go_ret3
    exact ⟨rfl, bal (Below.refl _ _) _⟩
  have hm2 : ¬ (4096 : Int) < (os.length : Int) := by omega
  obtain ⟨bn, hbn⟩ : ∃ bn : Nat, b = (bn : Int) := ⟨b.toNat, by omega⟩
  subst hbn
  have hb64 : bn ≤ 64 := by omega
  have HLK : Hid (lk ⟨q, bn, os⟩ = lkF q bn os 0 0) := by
    show _ = _
    unfold lk
    rw [if_neg (by rw [bad_iff]; unfold badC; exact hbad), if_neg hm]
    rfl
  generalize lk ⟨q, bn, os⟩ = R at *
  have HO : Hid (OS w a cp os A C) := H
  have hcap := H.cap
  have hmm := @run_makeMap Try.prog
  have HLW : Hid (LW w ((w.alloc (.cells (cic ⟨q, bn, os⟩ a cp) 50)).alloc (.map #[] 0)) ⟨q, bn, os⟩ a cp) :=
    ⟨bal (bal (Below.refl _ _) _) _, (bk_new w _ 50).alloc _, by
      have := (MapKept.heap_alloc (w.alloc (.cells (cic ⟨q, bn, os⟩ a cp) 50)) (.map #[] 0)).1
      rw [show (w.alloc (.cells (cic ⟨q, bn, os⟩ a cp) 50)).heap.size = w.heap.size + 1 by simp] at this
      exact ⟨_, _, this, fun e he => by simp at he⟩⟩
  clear hbad H hm
  go_enter Try.func45, Try.ntmps45
  go_wp2
  go_loopw [6, 37] (fun v6 v37 wr => ∃ k h : Nat, k ≤ os.length ∧ h ≤ 36 ∧ v6 = .int .i64 h ∧ v37 = .int .i64 k ∧ Hid (LW w wr ⟨q, bn, os⟩ a cp) ∧ Hid (R = lkF q bn (os.drop k) k h)) (fun _ v37 _ => os.length - (intOf v37).toNat)
  case atStart => exact ⟨0, 0, Nat.zero_le _, Nat.zero_le _, rfl, rfl, HLW, HLK⟩
  case round =>
    clear HLW HLK hmm
    obtain ⟨k, h, hk, hh, rfl, rfl, hL, hR⟩ := hrel
    by_cases hlt : k < os.length
    case neg =>
      obtain rfl : k = os.length := by omega
      obtain rfl : R = (0, h, 0) := by rw [hR.out, List.drop_of_length_le (Nat.le_refl _)]; rfl
      go_wp2
      go_ret3
      exact ⟨rfl, hL.out.below⟩
    have hO := HO.out.below hL.out.below
    obtain ⟨b', o', rfl, r⟩ := hO.at_ k hlt
    have hQ := HO.out.qs k hlt
    have hF := HO.out.fit k hlt
    have m0 := r.c0 k hlt
    have m1 := r.c1 k hlt
    have m2 := r.c2 k hlt
    have m3 := r.c3 k hlt
    have m4 := r.c4 k hlt
    have m5 := r.c5 k hlt
    have m6 := r.c6 k hlt
    have hbl := r.lt
    have hR2 := hR.out
    rw [lk_drop hlt] at hR2
    clear r hO hR
    generalize os[k] = o at *
    generalize A k = ak at *
    generalize C k = ck at *
    have hE3 := opE_le o q bn (opN o)
    have hH := opH_le o
    have HQ : Hid (QS w ak ck o.qs) := hQ
    have HF : Hid (Fit o) := hF
    have NE := fun w1 h => need_any o ak ck (w.heap.size + 1) w1 h
    have CK := fun w1 h => checkOp_any o ak ck q bn (opN o) (some ⟨b', o', none⟩) os.length cp w1 HF.out h hb64
    clear hQ hF
    generalize opE o q bn (opN o) = E at *
    generalize opN o = n at *
    generalize opH o = hv at *
    have hBz := hL.out.below.size
    have hXz : w.heap.size + 1 < wr.heap.size := hL.out.map.lt
    have HR2 : Hid (R = if E ≠ 0 then (k, 0, E) else if 36 < h + hv then (k, 0, 116) else lkF q bn (os.drop (k + 1)) (k + 1) (h + hv)) := hR2
    clear hR2
    have hcases : (E ≠ 0) ∨ (E = 0 ∧ 36 < h + hv) ∨ (E = 0 ∧ ¬ 36 < h + hv) := by omega
    rcases hcases with hE | ⟨rfl, hE⟩ | ⟨rfl, hE⟩
    · obtain rfl : R = (k, 0, E) := by rw [HR2.out, if_pos hE]
      have hE1 : ((E : Int) != 0) = true := bne_iff_ne.2 (by omega)
      clear HR2 hE
      go_wp2_with (first
        | (go_at_call 52; (with_reducible refine (NE _ (hL.out.map.keep (bal (Below.refl _ _) _))).mono ?_); rintro e w1 ⟨rfl, hK1, hG1⟩; have hL1 := (hL.out.on (bal (Below.refl _ _) _)).gb hG1 hK1; have bO := gb_bk hG1 (bk_new wr (opc o ak ck).toArray 58) (by omega); have qO : ∀ j, w1.cell? ⟨wr.heap.size, j, none⟩ = _ := bO.cell; have zO := bO.lt; have qC : ∀ j, w1.cell? ⟨w.heap.size, j, none⟩ = _ := hL1.box.cell; have zC := hL1.box.lt; clear bO hK1 hG1)
        | (go_at_call 53; (with_reducible refine (CK _ (HQ.out.below (hL1.on (bal (Below.refl _ _) _)).below)).mono ?_); rintro e w2 ⟨rfl, hB2⟩))
      go_ret3
      exact ⟨rfl, (hL1.on (btr (bal (Below.refl _ _) _) hB2)).below⟩
    · obtain rfl : R = (k, 0, 116) := by rw [HR2.out, if_neg (by simp), if_pos hE]
      have hE2 : (36 : Int) < (h : Int) + (hv : Int) := by omega
      clear HR2 hE
      go_wp2_with (first
        | (go_at_call 52; (with_reducible refine (NE _ (hL.out.map.keep (bal (Below.refl _ _) _))).mono ?_); rintro e w1 ⟨rfl, hK1, hG1⟩; have hL1 := (hL.out.on (bal (Below.refl _ _) _)).gb hG1 hK1; have bO := gb_bk hG1 (bk_new wr (opc o ak ck).toArray 58) (by omega); have qO : ∀ j, w1.cell? ⟨wr.heap.size, j, none⟩ = _ := bO.cell; have zO := bO.lt; have qC : ∀ j, w1.cell? ⟨w.heap.size, j, none⟩ = _ := hL1.box.cell; have zC := hL1.box.lt; clear bO hK1 hG1)
        | (go_at_call 53; (with_reducible refine (CK _ (HQ.out.below (hL1.on (bal (Below.refl _ _) _)).below)).mono ?_); rintro e w2 ⟨rfl, hB2⟩; have bN := one_box hB2; have qN : ∀ j, w2.cell? ⟨w1.heap.size, j, none⟩ = _ := bN.cell; have zN := bN.lt; clear bN))
      go_ret3
      exact ⟨rfl, (hL1.on (btr (bal (Below.refl _ _) _) hB2)).below⟩
    · have HR3 : Hid (R = lkF q bn (os.drop (k + 1)) (k + 1) (h + hv)) := by show _ = _; rw [HR2.out, if_neg (by simp), if_neg hE]
      have hE2 : ¬ (36 : Int) < (h : Int) + (hv : Int) := by omega
      clear HR2
      go_wp2_with (first
        | (go_at_call 52; (with_reducible refine (NE _ (hL.out.map.keep (bal (Below.refl _ _) _))).mono ?_); rintro e w1 ⟨rfl, hK1, hG1⟩; have hL1 := (hL.out.on (bal (Below.refl _ _) _)).gb hG1 hK1; have bO := gb_bk hG1 (bk_new wr (opc o ak ck).toArray 58) (by omega); have qO : ∀ j, w1.cell? ⟨wr.heap.size, j, none⟩ = _ := bO.cell; have zO := bO.lt; have qC : ∀ j, w1.cell? ⟨w.heap.size, j, none⟩ = _ := hL1.box.cell; have zC := hL1.box.lt; clear bO hK1 hG1)
        | (go_at_call 53; (with_reducible refine (CK _ (HQ.out.below (hL1.on (bal (Below.refl _ _) _)).below)).mono ?_); rintro e w2 ⟨rfl, hB2⟩; have bN := one_box hB2; have qN : ∀ j, w2.cell? ⟨w1.heap.size, j, none⟩ = _ := bN.cell; have zN := bN.lt; clear bN))
      go_roundw
      case rel => exact ⟨k + 1, h + hv, by omega, by omega, by go_num, by go_num, hL1.on (btr (bal (Below.refl _ _) _) hB2), HR3⟩
      case measure => simp [intOf]; omega
set_option maxHeartbeats 400000 in
theorem check_any (c : Ci) (a : Option Addr) (cp : Nat) (A : Nat → Option Addr) (C : Nat → Nat) (w : World) (H : OS w a cp c.ops A C) :
    Calls Try.prog 35 #[civ c a cp] w fun e w' => e = .returned (.tuple #[.int .i64 ((lk c).1 : Nat), .int .i64 ((lk c).2.2 : Nat)]) ∧ Below w.heap.size w w' := by
  have L := fun w1 h => look_any c a cp A C w1 h
  have HO : Hid (OS w a cp c.ops A C) := H
  clear H
  go_enter Try.func35, Try.ntmps35
  go_wp2_with (go_at_call 45; (with_reducible refine (L _ (HO.out.below (bal (Below.refl _ _) _))).mono ?_); rintro e w1 ⟨rfl, hB⟩)
  go_ret2
  exact ⟨rfl, btr (bal (Below.refl _ _) _) hB⟩
end Go.Proofs.Ytinkdonaedoojaa.CL
