/-
  The reference's Check, Halves, Clean, Clifford.
-/
import Derived.Test.YtinkdonaedoojaaCD3
namespace Go.Proofs.Ytinkdonaedoojaa.CL
open Go.RowKit Go.Sort

/-- A circuit's box. -/
structure CB (w W : World) (c : Ci) (a : Option Addr) (k : Nat) : Prop where
  below : Below w.heap.size w W
  box : BK W w.heap.size (cic c a k) 50
theorem CB.on {w W W' : World} {c : Ci} {a : Option Addr} {k : Nat} (h : CB w W c a k) (hb : Below W.heap.size W W') : CB w W' c a k :=
  ⟨btr h.below hb, (hb.block _ h.box.lt).trans h.box⟩
theorem CB.new (w : World) (c : Ci) (a : Option Addr) (k : Nat) : CB w (w.alloc (.cells (cic c a k) 50)) c a k := ⟨bal (Below.refl _ _) _, bk_new w _ 50⟩
/-- What a region reads of the circuit's box and of one operation. -/
abbrev OC (V W : World) (h : Nat) (a : Option Addr) (n cp : Nat) (q : Int) (bn : Nat) (b' k o' : Nat) (o : Oq) (ak : Option Addr) (ck : Nat) : Prop :=
  Below V.heap.size V W ∧ W.cell? ⟨h, 0, none⟩ = some (.int .i64 q) ∧ W.cell? ⟨h, 1, none⟩ = some (.int .i64 (bn : Nat)) ∧ W.cell? ⟨h, 2, none⟩ = some (.slice a n cp) ∧
  W.cell? ⟨b', o' + k * 7, none⟩ = some (.int .i64 o.k) ∧ W.cell? ⟨b', o' + k * 7 + 1, none⟩ = some (.string o.n) ∧ W.cell? ⟨b', o' + k * 7 + 2, none⟩ = some (.slice ak o.qs.length ck) ∧ W.cell? ⟨b', o' + k * 7 + 3, none⟩ = some (.int .i64 o.b) ∧
  W.cell? ⟨b', o' + k * 7 + 4, none⟩ = some (.bool o.f) ∧ W.cell? ⟨b', o' + k * 7 + 5, none⟩ = some (.int .u64 o.m) ∧ W.cell? ⟨b', o' + k * 7 + 6, none⟩ = some (.int .u64 o.v)
theorem oc_keep {V W : World} {h : Nat} {a : Option Addr} {n cp : Nat} {q : Int} {bn b' k o' : Nat} {o : Oq} {ak : Option Addr} {ck : Nat} (H : OC V V h a n cp q bn b' k o' o ak ck) (h1 : h < V.heap.size) (h2 : b' < V.heap.size) (hb : Below V.heap.size V W) : OC V W h a n cp q bn b' k o' o ak ck := by
  obtain ⟨_, c0, c1, c2, e0, e1, e2, e3, e4, e5, e6⟩ := H
  have g : ∀ x y, x < V.heap.size → W.cell? ⟨x, y, none⟩ = V.cell? ⟨x, y, none⟩ := fun x y hx => hb.cell (p := ⟨x, y, none⟩) hx
  exact ⟨hb, (g _ _ h1).trans c0, (g _ _ h1).trans c1, (g _ _ h1).trans c2, (g _ _ h2).trans e0, (g _ _ h2).trans e1, (g _ _ h2).trans e2, (g _ _ h2).trans e3, (g _ _ h2).trans e4, (g _ _ h2).trans e5, (g _ _ h2).trans e6⟩
set_option maxHeartbeats 4000000 in
set_option maxRecDepth 100000 in
theorem rcheck_any (c : Ci) (a : Option Addr) (cp : Nat) (A : Nat → Option Addr) (C : Nat → Nat) (w : World) (H : OS w a cp c.ops A C) :
    Calls Try.prog 37 #[civ c a cp] w fun e w' => e = .returned (.tuple #[.int .i64 ((lk c).1 : Nat), .int .i64 ((lk c).2.2 : Nat)]) ∧ Below w.heap.size w w' := by
  by_cases hbad : badC c
  · have e : lk c = (0, 0, 2) := by unfold lk; rw [if_pos ((bad_iff c).2 hbad)]
    rw [e]
    have hw : c.q < 0 ∨ (¬ c.q < 0 ∧ 64 < c.q) ∨ (¬ c.q < 0 ∧ ¬ 64 < c.q ∧ c.b < 0) ∨ (¬ c.q < 0 ∧ ¬ 64 < c.q ∧ ¬ c.b < 0 ∧ 64 < c.b) := by unfold badC at hbad; omega
    clear e hbad H
    rcases hw with h1 | ⟨h1, h2⟩ | ⟨h1, h2, h3⟩ | ⟨h1, h2, h3, h4⟩
    all_goals
      go_enter Try.func37, Try.ntmps37
      go_wp2
      go_ret2
      exact ⟨rfl, bal (Below.refl _ _) _⟩
  obtain ⟨q, b, os⟩ := c
  simp only at H
  unfold badC at hbad
  simp only at hbad
  have h1 : ¬ q < 0 := by omega
  have h2 : ¬ 64 < q := by omega
  have h3 : ¬ b < 0 := by omega
  have h4 : ¬ 64 < b := by omega
  have hl := H.l
  by_cases hm : 4096 < os.length
  · have e : lk ⟨q, b, os⟩ = (0, 0, 115) := by unfold lk; rw [if_neg (by rw [bad_iff]; unfold badC; exact hbad), if_pos hm]
    rw [e]
    have hm2 : (4096 : Int) < (os.length : Int) := by omega
    clear e hbad H
    go_enter Try.func37, Try.ntmps37
    go_wp2
    go_ret2
    exact ⟨rfl, bal (Below.refl _ _) _⟩
  have hm2 : ¬ (4096 : Int) < (os.length : Int) := by omega
  obtain ⟨bn, hbn⟩ : ∃ bn : Nat, b = (bn : Int) := ⟨b.toNat, by omega⟩
  subst hbn
  have hb64 : bn ≤ 64 := by omega
  have HLK : Hid (lk ⟨q, bn, os⟩ = lkF q bn os 0 0) := by
    show _ = _
    unfold lk
    rw [if_neg (by rw [bad_iff]; unfold badC; exact hbad), if_neg hm]
    rfl
  generalize lk ⟨q, bn, os⟩ = R at *
  have HO : Hid (OS w a cp os A C) := H
  have hcap := H.cap
  have HCB : Hid (CB w (w.alloc (.cells (cic ⟨q, bn, os⟩ a cp) 50)) ⟨q, bn, os⟩ a cp) := CB.new _ _ _ _
  clear hbad H hm
  go_enter Try.func37, Try.ntmps37
  go_wp2
  go_loopw [4, 5] (fun v4 v5 wr => ∃ k h : Nat, k ≤ os.length ∧ h ≤ 36 ∧ v4 = .int .i64 h ∧ v5 = .int .i64 k ∧ Hid (CB w wr ⟨q, bn, os⟩ a cp) ∧ Hid (R = lkF q bn (os.drop k) k h)) (fun _ v5 _ => os.length - (intOf v5).toNat)
  case atStart => exact ⟨0, 0, Nat.zero_le _, Nat.zero_le _, rfl, rfl, HCB, HLK⟩
  case round =>
    clear HCB HLK
    obtain ⟨k, h, hk, hh, rfl, rfl, hL, hR⟩ := hrel
    have d2 : wr.cell? ⟨w.heap.size, 2, none⟩ = some (.slice a os.length cp) := hL.out.box.cell 2
    have d1 : wr.cell? ⟨w.heap.size, 1, none⟩ = some (.int .i64 (bn : Nat)) := hL.out.box.cell 1
    have d0 : wr.cell? ⟨w.heap.size, 0, none⟩ = some (.int .i64 q) := hL.out.box.cell 0
    have dz := hL.out.box.lt
    by_cases hlt : k < os.length
    case neg =>
      obtain rfl : k = os.length := by omega
      obtain rfl : R = (0, h, 0) := by rw [hR.out, List.drop_of_length_le (Nat.le_refl _)]; rfl
      go_wp2
      go_ret2
      exact ⟨rfl, hL.out.below⟩
    have hO := HO.out.below hL.out.below
    obtain ⟨b', o', rfl, r⟩ := hO.at_ k hlt
    have hQ := HO.out.qs k hlt
    have hF := HO.out.fit k hlt
    have m0 := r.c0 k hlt
    have m1 := r.c1 k hlt
    have m2 := r.c2 k hlt
    have m3 := r.c3 k hlt
    have m4 := r.c4 k hlt
    have m5 := r.c5 k hlt
    have m6 := r.c6 k hlt
    have hbl := r.lt
    have hR2 := hR.out
    rw [lk_drop hlt] at hR2
    clear r hO hR
    generalize os[k] = o at *
    generalize A k = ak at *
    generalize C k = ck at *
    have hE3 := opE_le o q bn (opN o)
    have hH := opH_le o
    have HQ : Hid (QS w ak ck o.qs) := hQ
    have HF : Hid (Fit o) := hF
    have FA := fun w1 h => fault_any o ak ck q bn w1 HF.out h hb64
    have HA := fun w1 => rhalvesOp_any o ak ck w1
    clear hQ hF
    generalize opE o q bn (opN o) = E at *
    generalize opH o = hv at *
    have HR2 : Hid (R = if E ≠ 0 then (k, 0, E) else if 36 < h + hv then (k, 0, 116) else lkF q bn (os.drop (k + 1)) (k + 1) (h + hv)) := hR2
    clear hR2
    have hOC : Hid (OC wr wr w.heap.size (some ⟨b', o', none⟩) os.length cp q bn b' k o' o ak ck) := ⟨Below.refl _ _, d0, d1, d2, m0, m1, m2, m3, m4, m5, m6⟩
    have hV := Below.refl wr.heap.size wr
    clear d0 d1 m0 m1 m2 m3 m4 m5 m6
    have hcases : (E ≠ 0) ∨ (E = 0 ∧ 36 < h + hv) ∨ (E = 0 ∧ ¬ 36 < h + hv) := by omega
    rcases hcases with hE | ⟨rfl, hE⟩ | ⟨rfl, hE⟩
    · obtain rfl : R = (k, 0, E) := by rw [HR2.out, if_pos hE]
      have hE1 : ((E : Int) != 0) = true := bne_iff_ne.2 (by omega)
      clear HR2 hE
      go_upto_region 9 with (fail)
      go_region_held3 (fun w' => OC wr w' w.heap.size (some ⟨b', o', none⟩) os.length cp q bn b' k o' o ak ck)
        ((refine oc_keep hOC.out dz hbl ?_; first | exact below_drew hV | exact btr (And.left (by assumption)) hN))
        (first | (go_at_call 46; (with_reducible refine (FA _ (HQ.out.below (hL.out.on (And.left (by assumption))).below)).mono ?_); rintro e w1 ⟨rfl, hN⟩))
      obtain ⟨hb1, s0, s1, s2, e0, e1, e2, e3, e4, e5, e6⟩ : OC wr w1 w.heap.size (some ⟨b', o', none⟩) os.length cp q bn b' k o' o ak ck := oc_keep hOC.out dz hbl (by first | exact And.left (by assumption) | exact btr (below_drew hV) hN)
      have z1 := Nat.lt_of_lt_of_le dz hb1.size
      have z2 := Nat.lt_of_lt_of_le hbl hb1.size
      go_wp2
      go_ret2
      exact ⟨rfl, (hL.out.on hb1).below⟩
    · obtain rfl : R = (k, 0, 116) := by rw [HR2.out, if_neg (by simp), if_pos hE]
      have hE2 : (36 : Int) < (h : Int) + (hv : Int) := by omega
      clear HR2 hE
      go_upto_region 9 with (fail)
      go_region_held3 (fun w' => OC wr w' w.heap.size (some ⟨b', o', none⟩) os.length cp q bn b' k o' o ak ck)
        ((refine oc_keep hOC.out dz hbl ?_; first | exact below_drew hV | exact btr (And.left (by assumption)) hN))
        (first | (go_at_call 46; (with_reducible refine (FA _ (HQ.out.below (hL.out.on (And.left (by assumption))).below)).mono ?_); rintro e w1 ⟨rfl, hN⟩))
      obtain ⟨hb1, s0, s1, s2, e0, e1, e2, e3, e4, e5, e6⟩ : OC wr w1 w.heap.size (some ⟨b', o', none⟩) os.length cp q bn b' k o' o ak ck := oc_keep hOC.out dz hbl (by first | exact And.left (by assumption) | exact btr (below_drew hV) hN)
      have z1 := Nat.lt_of_lt_of_le dz hb1.size
      have z2 := Nat.lt_of_lt_of_le hbl hb1.size
      go_wp2_with (go_at_call 47; (with_reducible refine (HA _).mono ?_); rintro e w2 ⟨rfl, hN2⟩)
      go_ret2
      exact ⟨rfl, (hL.out.on (btr hb1 hN2)).below⟩
    · have HR3 : Hid (R = lkF q bn (os.drop (k + 1)) (k + 1) (h + hv)) := by show _ = _; rw [HR2.out, if_neg (by simp), if_neg hE]
      have hE2 : ¬ (36 : Int) < (h : Int) + (hv : Int) := by omega
      clear HR2
      go_upto_region 9 with (fail)
      go_region_held3 (fun w' => OC wr w' w.heap.size (some ⟨b', o', none⟩) os.length cp q bn b' k o' o ak ck)
        ((refine oc_keep hOC.out dz hbl ?_; first | exact below_drew hV | exact btr (And.left (by assumption)) hN))
        (first | (go_at_call 46; (with_reducible refine (FA _ (HQ.out.below (hL.out.on (And.left (by assumption))).below)).mono ?_); rintro e w1 ⟨rfl, hN⟩))
      obtain ⟨hb1, s0, s1, s2, e0, e1, e2, e3, e4, e5, e6⟩ : OC wr w1 w.heap.size (some ⟨b', o', none⟩) os.length cp q bn b' k o' o ak ck := oc_keep hOC.out dz hbl (by first | exact And.left (by assumption) | exact btr (below_drew hV) hN)
      have z1 := Nat.lt_of_lt_of_le dz hb1.size
      have z2 := Nat.lt_of_lt_of_le hbl hb1.size
      go_wp2_with (go_at_call 47; (with_reducible refine (HA _).mono ?_); rintro e w2 ⟨rfl, hN2⟩)
      go_roundw
      case rel => exact ⟨k + 1, h + hv, by omega, by omega, by go_num, by go_num, hL.out.on (btr hb1 hN2), HR3⟩
      case measure => simp [intOf]; omega
/-- The halvings of a list. -/
def hsum (l : List Oq) : Nat := (l.map opH).foldl (· + ·) 0
theorem hsum_snoc (l : List Oq) (o : Oq) : hsum (l ++ [o]) = hsum l + opH o := by
  unfold hsum
  rw [List.map_append, List.foldl_append]
  rfl
theorem hsum_cons (o : Oq) (l : List Oq) : hsum (o :: l) = opH o + hsum l := by
  have gen : ∀ (l : List Nat) (a : Nat), l.foldl (· + ·) a = a + l.foldl (· + ·) 0 := by
    intro l
    induction l with
    | nil => intro a; simp
    | cons x l ih => intro a; rw [List.foldl_cons, List.foldl_cons, ih, ih (0 + x)]; omega
  unfold hsum
  rw [List.map_cons, List.foldl_cons, gen]
  omega
theorem hsum_app (a b : List Oq) : hsum (a ++ b) = hsum a + hsum b := by
  induction a with
  | nil => show hsum b = 0 + hsum b; omega
  | cons o a ih => rw [List.cons_append, hsum_cons, hsum_cons, ih]; omega
theorem lkF_sum {q : Int} {b : Nat} : ∀ (l : List Oq) (k h : Nat), (lkF q b l k h).2.2 = 0 → (lkF q b l k h).1 = 0 ∧ (lkF q b l k h).2.1 = h + hsum l
  | [], k, h, _ => ⟨rfl, rfl⟩
  | o :: l, k, h, e => by
    unfold lkF at e ⊢
    by_cases h1 : opE o q b (opN o) ≠ 0
    · rw [if_pos h1] at e; exact absurd e h1
    · rw [if_neg h1] at e ⊢
      by_cases h2 : 36 < h + opH o
      · rw [if_pos h2] at e; cases e
      · rw [if_neg h2] at e ⊢
        obtain ⟨h3, h4⟩ := lkF_sum l _ _ e
        exact ⟨h3, by rw [h4, hsum_cons]; omega⟩
theorem lkF_no {q : Int} {b : Nat} : ∀ (l : List Oq) (k h : Nat), (lkF q b l k h).2.2 ≠ 0 → (lkF q b l k h).2.1 = 0
  | [], k, h, e => absurd rfl e
  | o :: l, k, h, e => by
    unfold lkF at e ⊢
    by_cases h1 : opE o q b (opN o) ≠ 0
    · rw [if_pos h1]
    · rw [if_neg h1] at e ⊢
      by_cases h2 : 36 < h + opH o
      · rw [if_pos h2]
      · rw [if_neg h2] at e ⊢
        exact lkF_no l _ _ e
theorem lk_ok {c : Ci} (h : (lk c).2.2 = 0) : badC c = False ∧ c.ops.length ≤ 4096 ∧ (lk c).1 = 0 ∧ (lk c).2.1 = hsum c.ops := by
  unfold lk at h ⊢
  by_cases h1 : badB c = true
  · rw [if_pos h1] at h; cases h
  · rw [if_neg h1] at h ⊢
    by_cases h2 : 4096 < c.ops.length
    · rw [if_pos h2] at h; cases h
    · rw [if_neg h2] at h ⊢
      obtain ⟨h3, h4⟩ := lkF_sum _ _ _ h
      exact ⟨by rw [← bad_iff]; simpa using h1, by omega, h3, by rw [h4]; omega⟩
theorem lk_no {c : Ci} (h : (lk c).2.2 ≠ 0) : (lk c).2.1 = 0 := by
  unfold lk at h ⊢
  by_cases h1 : badB c = true
  · rw [if_pos h1]
  · rw [if_neg h1] at h ⊢
    by_cases h2 : 4096 < c.ops.length
    · rw [if_pos h2]
    · rw [if_neg h2] at h ⊢
      exact lkF_no _ _ _ h
end Go.Proofs.Ytinkdonaedoojaa.CL
