/-
  Put together of: FW.
-/
import Derived.Test.YtdjfpghgklkejaaGreatDoorXS
import Derived.Test.YtdjfpghgklkejaaGreatDoorYH
namespace Go.Proofs.YtdjfpghgklkejaaGreatDoor
open Go.RowKit Go.Sort
abbrev ciz : Array Value := #[.int .i64 0, .int .i64 0, .slice none 0 0]
def LdO (W W' : World) (L : List TO) (q b : Nat) (e : Ending) : Prop :=
 Below W.heap.size W W' ∧ ∃ c p er, LdS L q b c p er ∧ ((er ≠ 0 ∧ e = .returned (.tuple #[civ noCi none 0, .int .i64 p, .int .i64 (er : Nat)])) ∨ (er = 0 ∧ ∃ a k vs, OM W' W.heap.size (.slice a c.ops.length k) c.ops vs ∧ e = .returned (.tuple #[civ c a k, .int .i64 0, .int .i64 0])))
abbrev idF (k : Nat) : Nat → Value := fun i => .int .i64 (if i < k then (i : Int) else 0)
theorem id_next {W : World} {g n k : Nat} (h : W.rowIs g 3 n (idF k)) : (W.setCell ⟨g, k, none⟩ (.int .i64 (k : Nat))).rowIs g 3 n (idF (k + 1)) := by
 refine (h.set k (.int .i64 (k : Nat))).congr fun i _ => ?_
 show (if i = k then Value.int .i64 (k : Nat) else .int .i64 (if i < k then (i : Int) else 0)) = .int .i64 (if i < k + 1 then (i : Int) else 0)
 by_cases e : i = k
 ·rw [if_pos e, if_pos (by omega), e]
 ·rw [if_neg e]
  by_cases e2 : i < k
  ·rw [if_pos e2, if_pos (by omega)]
  ·rw [if_neg e2, if_neg (by omega)]
theorem lkF_in {q : Int} {b : Nat} : ∀ (l : List Oq) (k h : Nat), (lkF q b l k h).2.2 ≠ 0 → k ≤ (lkF q b l k h).1 ∧ (lkF q b l k h).1 < k + l.length
 | [], _, _, e => absurd rfl e
 | o :: l, k, h, e => by
  unfold lkF at e ⊢
  rw [List.length_cons]
  split at e
  ·rename_i h1; rw [if_pos h1]; exact ⟨Nat.le_refl _, by show k < _; omega⟩
  ·rename_i h1
   rw [if_neg h1]
   split at e
   ·rename_i h2; rw [if_pos h2]; exact ⟨Nat.le_refl _, by show k < _; omega⟩
   ·rename_i h2
    rw [if_neg h2]
    have := lkF_in l _ _ e
    omega
theorem lk_in {c : Ci} (h : (lk c).2.2 ≠ 0) (hq : 0 ≤ c.q ∧ c.q ≤ 64) (hb : 0 ≤ c.b ∧ c.b ≤ 64) (hl : c.ops.length ≤ 4096) : (lk c).1 < c.ops.length := by
 have hb' : ¬ badB c = true := fun e => by
  have := (bad_iff c).1 e
  unfold badC at this
  omega
 unfold lk at h ⊢
 rw [if_neg hb', if_neg (by omega)] at h ⊢
 have := lkF_in _ _ _ h
 omega
structure LB (W wr : World) (q k : Nat) : Prop where
 below : Below W.heap.size W wr
 row : wr.rowIs (W.heap.size + 1) 3 q (idF k)
 box : BK wr W.heap.size ciz 27
 size : wr.heap.size = W.heap.size + 1 + 1
set_option maxHeartbeats 1000000 in
set_option maxRecDepth 100000 in
theorem laid_any (W : World) (hi : HG) (v : Value) (L : List TO) (q b : Nat) (hP : PL W hi q v L) (hq : q ≤ 64) (hb : b ≤ 64) :
  Calls Tryz.prog 26 #[v, .int .i64 (q : Nat), .int .i64 (b : Nat)] W fun e W' => LdO W W' L q b e := by
 obtain ⟨va, vn, vc, rfl, _⟩ := hP.shape
 obtain ⟨d, hP⟩ := hP
 have HP := hid hP
 have mk := made_ints q (by omega)
 have HB0 : Hid (LB W ((W.alloc (.cells ciz 27)).alloc (.cells (madeCells #[.int .i64 0] q) 3)) q 0) := ⟨bal (bal (Below.refl _ _) _) _, by
  have h := World.rowIs_made (W.alloc (.cells ciz 27)) (.int .i64 0) q 3
  have e : (W.alloc (.cells ciz 27)).heap.size = W.heap.size + 1 := by simp
  rw [e] at h
  exact h.congr fun i _ => by simp, (bk_new W _ _).alloc _, by simp⟩
 clear hP
 generalize hQ : (fun e W' => LdO W W' L q b e) = QQ
 have HQ := hid hQ
 clear hQ
 go_enter Tryz.func26, Tryz.ntmps26
 go_wp2
 obtain ⟨W1, hW1⟩ : ∃ W1, W1 = (W.alloc (.cells ciz 27)).alloc (.cells (madeCells #[.int .i64 0] q) 3) := ⟨_, rfl⟩
 rw [← hW1] at HB0 ⊢
 clear hW1 mk
 go_loopw [19] (fun s wr => ∃ k : Nat, k ≤ q ∧ s = .int .i64 (k : Nat) ∧ Hid (LB W wr q k)) (fun s _ => q - (intOf s).toNat)
 case atStart => exact ⟨0, Nat.zero_le _, rfl, HB0⟩
 case round =>
  obtain ⟨k, hk, rfl, hB⟩ := hrel
  clear HB0
  by_cases hlt : k < q
  ·have c0 := hB.out.row.cell hlt
   have f0 := hB.out.row.frozen k
   have l0 := hB.out.row.lt
   go_wp2
   go_round
   case rel => exact ⟨k + 1, by omega, by go_num, bset hB.out.below _ _ _ (by omega), id_next hB.out.row, hB.out.box.far (by omega) _ _, by simpa [World.setCell] using hB.out.size⟩
   case measure => simp [intOf]; omega
  ·obtain rfl : k = q := by omega
   have LA := fun (w2 : World) (h1 : Below wr.heap.size wr w2) (h2 : BK w2 wr.heap.size mk0 117) => lay_any d w2 W.heap.size wr.heap.size ⟨hi.h, fun b => hi.G b ∧ b < W.heap.size, fun b h => hi.le b h.1⟩ k _ L (some ⟨W.heap.size + 1, 0, none⟩) k (idQ k) _ _ [] [] [] sd0 (PLn.far (lo' := 0) (hi' := 0) (fr_of_below (btr hB.out.below h1)) (fun _ _ => .inr (Nat.zero_le _)) _ _ _ _ (PLn.wide (hi2 := ⟨hi.h, fun b => hi.G b ∧ b < W.heap.size, fun b h => hi.le b h.1⟩) (fun b hb hg => ⟨hg, hb⟩) _ _ _ _ HP.out)) (fun b h => h.2) ⟨(id_qs (hB.out.row.of_block (h1.block _ hB.out.row.lt)) (fun i hi => by show Value.int .i64 (if i < k then (i : Int) else 0) = _; rw [if_pos hi])), fun b o e => by cases e; exact ⟨by have := hB.out.size; omega, fun e => (by cases e), fun e => (by cases e), fun _ => by have := hB.out.row.lt; have := h1.size; omega⟩⟩ (fun b o e => by cases e; have := hB.out.row.lt; have := h1.size; omega) (idQ_len k) (mk_new h2 (Nat.le_trans hB.out.below.size h1.size) hB.out.below.size) (by show 0 ≤ 4096; omega)
   rw [idQ_len] at LA
   go_wp2_with (go_at_call 56; refine Hid.out ?_)
   refine hid ?_
   refine (LA _ (bal (Below.refl _ _) _) (bk_new wr _ _)).mono ?_
   rintro e w3 ⟨ov3, pv3, hK3, hc⟩
   have M0 := hid (mk_new (bk_new wr mk0 117) (Nat.le_trans hB.out.below.size (by simp)) hB.out.below.size)
   have B3 : Hid (Below W.heap.size W w3) := below_fr (bal hB.out.below _) (hK3.fr M0.out) (Nat.le_refl _)
   have R3 : BK w3 W.heap.size ciz 27 := by
    have h := hB.out.box.alloc (.cells mk0 117)
    have hne : W.heap.size ≠ wr.heap.size := by have := hB.out.row.lt; omega
    exact (hK3.block _ h.lt hne (fun e => by cases e) (fun e => by cases e)).trans h
   have r0 : ∀ j, w3.cell? ⟨W.heap.size, j, none⟩ = ciz[j]? := R3.cell
   have r1 : ∀ j, w3.frozen? ⟨W.heap.size, j, none⟩ = false := R3.free
   have r2 := R3.lt
   have n1 : ¬ W.heap.size = wr.heap.size := by have := hB.out.row.lt; omega
   have n2 : ¬ wr.heap.size = W.heap.size := fun e => n1 e.symm
   clear LA M0 hK3
   rcases hc with ⟨hle, rfl, vs, f', hM, hFA⟩ | ⟨hlt, rfl, t, ht, hcell, hsz⟩
   ·have hfit := PLn.fits _ _ _ _ HP.out
    rw [List.nil_append, List.nil_append, ops_id hfit] at hM
    have hll : L.length ≤ 4096 := by simpa using hle
    obtain ⟨oa, oc, rfl, hOS⟩ := hM.ops.read
    have CK : ∀ w, OS w oa oc (L.map opT) (vA vs) (vC vs) → Calls Tryz.prog 18 #[.agg #[.int .i64 (k : Nat), .int .i64 (b : Nat), .slice oa (L.map opT).length oc]] w fun e w' => e = .returned (.tuple #[.int .i64 ((lk ⟨(k : Nat), (b : Nat), L.map opT⟩).1 : Nat), .int .i64 ((lk ⟨(k : Nat), (b : Nat), L.map opT⟩).2.2 : Nat)]) ∧ Below w.heap.size w w' := fun w h => check_any ⟨(k : Nat), (b : Nat), L.map opT⟩ oa oc (vA vs) (vC vs) w h
    have LI : (lk ⟨(k : Nat), (b : Nat), L.map opT⟩).2.2 ≠ 0 → (lk ⟨(k : Nat), (b : Nat), L.map opT⟩).1 < (L.map opT).length := fun h => lk_in h ⟨by show (0 : Int) ≤ (k : Nat); omega, by show ((k : Nat) : Int) ≤ 64; omega⟩ ⟨by show (0 : Int) ≤ (b : Nat); omega, by show ((b : Nat) : Int) ≤ 64; omega⟩ (by show (L.map opT).length ≤ 4096; rw [List.length_map]; exact hll)
    have HM := hid hM
    have HO := hid hOS
    have q0 : w3.cell? ⟨wr.heap.size, 0, none⟩ = some (.slice oa (L.map opT).length oc) := hM.box.cell 0
    have q1 : w3.cell? ⟨wr.heap.size, 1, none⟩ = some pv3 := hM.box.cell 1
    have q2 := hM.box.lt
    have HL : Hid (L.length ≤ 4096) := hll
    have HR := hid R3
    clear hM hOS hFA hle hll hfit R3 r0
    have hlen : Hid ((L.map opT).length = (L.map opT).length) := rfl
    have HZ : Hid (lk ⟨(k : Nat), (b : Nat), L.map opT⟩ = lk ⟨(k : Nat), (b : Nat), L.map opT⟩) := rfl
    generalize hl2 : (L.map opT).length = n at q0 CK LI
    generalize hz : lk ⟨(k : Nat), (b : Nat), L.map opT⟩ = z at CK LI
    clear hlen HZ
    have HLN := hid hl2
    have HZ := hid hz
    clear hl2 hz
    obtain ⟨at_, z1, er⟩ := z
    dsimp only at CK LI
    go_wp2_with (go_at_call 18; refine Hid.out ?_)
    refine hid ?_
    refine (CK _ (HO.out.below (bal (Below.refl _ _) _))).mono ?_
    rintro e w4 ⟨rfl, hB4⟩
    have b4 := btr (bal (Below.refl w3.heap.size w3) _) hB4
    have c4 := one_box hB4
    have x0 : w4.cell? ⟨w3.heap.size, 0, none⟩ = some (.int .i64 (k : Nat)) := c4.cell 0
    have x1 : w4.cell? ⟨w3.heap.size, 1, none⟩ = some (.int .i64 (b : Nat)) := c4.cell 1
    have x2 : w4.cell? ⟨w3.heap.size, 2, none⟩ = some (.slice oa n oc) := c4.cell 2
    have x3 := c4.lt
    have y1 : w4.cell? ⟨wr.heap.size, 1, none⟩ = some pv3 := (b4.cell (p := ⟨wr.heap.size, 1, none⟩) q2).trans q1
    have y2 : wr.heap.size < w4.heap.size := Nat.lt_of_lt_of_le q2 b4.size
    have HM4 := hid (HM.out.below b4)
    have R4 : BK w4 W.heap.size ciz 27 := (b4.block _ r2).trans HR.out
    have r0 : ∀ j, w4.cell? ⟨W.heap.size, j, none⟩ = ciz[j]? := R4.cell
    have f1 : ∀ j, w4.frozen? ⟨W.heap.size, j, none⟩ = false := R4.free
    have f2 := R4.lt
    have B4 := hid (btr B3.out b4)
    have n3 : ¬ w3.heap.size = W.heap.size := by omega
    have n4 : ¬ W.heap.size = w3.heap.size := by omega
    clear CK hB4 b4 c4 q0 q1 q2 r1 HM HO B3 HR
    by_cases her : er = 0
    ·subst her
     have e1 : ((0 : Nat) : Int) = 0 := rfl
     go_wp2
     have K := ((R4.set 0 (.int .i64 (k : Nat))).set 1 (.int .i64 (b : Nat))).set 2 (.slice oa n oc)
     have BF : Below W.heap.size W (((w4.setCell ⟨W.heap.size, 0, none⟩ (.int .i64 (k : Nat))).setCell ⟨W.heap.size, 1, none⟩ (.int .i64 (b : Nat))).setCell ⟨W.heap.size, 2, none⟩ (.slice oa n oc)) := bset (bset (bset B4.out _ _ _ (Nat.le_refl _)) _ _ _ (Nat.le_refl _)) _ _ _ (Nat.le_refl _)
     obtain ⟨gs, _⟩ := fr_sets W.heap.size [.int .i64 (k : Nat), .int .i64 (b : Nat), .slice oa n oc] 0 w4
     have hg : w4.grownBy (((w4.setCell ⟨W.heap.size, 0, none⟩ (.int .i64 (k : Nat))).setCell ⟨W.heap.size, 1, none⟩ (.int .i64 (b : Nat))).setCell ⟨W.heap.size, 2, none⟩ (.slice oa n oc)) (some W.heap.size) := ⟨gs.os, gs.tape, gs.output, gs.size, fun k hk hne => gs.block k hk (by have : k ≠ W.heap.size := fun e => hne (by rw [e]); omega)⟩
     have OF := HM4.out.ops.kept hg (own_ne HM4.out.ops.own R4 (by decide)) (fun k hk g e => by
      have hqk := HM4.out.ops.qs k (by rw [HM4.out.ops.len]; exact hk) hk
      rw [e] at hqk
      exact own_ne hqk R4 (by decide) g rfl)
     clear gs hg
     generalize ((w4.setCell ⟨W.heap.size, 0, none⟩ (.int .i64 (k : Nat))).setCell ⟨W.heap.size, 1, none⟩ (.int .i64 (b : Nat))).setCell ⟨W.heap.size, 2, none⟩ (.slice oa n oc) = WF at *
     have m0 : WF.cell? ⟨W.heap.size, 0, none⟩ = some (.int .i64 (k : Nat)) := K.cell 0
     have m1 : WF.cell? ⟨W.heap.size, 1, none⟩ = some (.int .i64 (b : Nat)) := K.cell 1
     have m2 : WF.cell? ⟨W.heap.size, 2, none⟩ = some (.slice oa n oc) := K.cell 2
     rw [← HQ.out]
     refine bodyPost_ret (v := .tuple #[.agg #[.int .i64 (k : Nat), .int .i64 (b : Nat), .slice oa n oc], .int .i64 0, .int .i64 0]) (by simp [results, Tryz.results26, go_sem, m0, m1, m2]) rfl ⟨BF, ⟨(k : Nat), (b : Nat), L.map opT⟩, 0, 0, ?_, .inr ⟨rfl, oa, oc, vs, OF, ?_⟩⟩
     ·unfold LdS
      rw [if_neg (by have := HL.out; omega), HZ.out]
      exact ⟨rfl, rfl, rfl⟩
     ·rw [← HLN.out]
    ·have hat := LI her
     have e1 : ¬ ((er : Nat) : Int) = 0 := by omega
     have hn : n = L.length := by rw [← HLN.out, List.length_map]
     obtain ⟨g, cap, rfl, hcap, hfz, hcl, hge, hgl⟩ := own_at HM4.out.pl (by rw [List.length_map]; omega)
     have hg1 : ¬ g = W.heap.size := fun e => own_ne HM4.out.pl R4 (by decide) g rfl (by rw [e])
     have hg2 : ¬ W.heap.size = g := fun e => hg1 e.symm
     have hin : at_ < L.length := by omega
     have hcc : w4.cell? ⟨g, at_, none⟩ = some (.int .i64 (plL sd0 L[at_])) := by
      have := hcl at_ (by simp [zl]; exact hin)
      rw [this]
      simp [zl]
     generalize hpp : plL sd0 L[at_] = pp at hcc
     have HPP := hid hpp
     have e2 : (at_ : Int) < (L.length : Nat) := by omega
     rw [List.length_map] at y1 hcap
     have HI : Hid (at_ < L.length) := hin
     clear hpp hfz hcl
     go_wp2
     go_region
     go_wp2
     have K := (((R4.set 0 (.int .i64 0)).set 1 (.int .i64 0)).set 2 (.slice none 0 0)).drew
     have BF : Below W.heap.size W (((w4.setCell ⟨W.heap.size, 0, none⟩ (.int .i64 0)).setCell ⟨W.heap.size, 1, none⟩ (.int .i64 0)).setCell ⟨W.heap.size, 2, none⟩ (.slice none 0 0)).drew := below_drew (bset (bset (bset B4.out _ _ _ (Nat.le_refl _)) _ _ _ (Nat.le_refl _)) _ _ _ (Nat.le_refl _))
     generalize (((w4.setCell ⟨W.heap.size, 0, none⟩ (.int .i64 0)).setCell ⟨W.heap.size, 1, none⟩ (.int .i64 0)).setCell ⟨W.heap.size, 2, none⟩ (.slice none 0 0)).drew = WF at *
     have m0 : WF.cell? ⟨W.heap.size, 0, none⟩ = some (.int .i64 0) := K.cell 0
     have m1 : WF.cell? ⟨W.heap.size, 1, none⟩ = some (.int .i64 0) := K.cell 1
     have m2 : WF.cell? ⟨W.heap.size, 2, none⟩ = some (.slice none 0 0) := K.cell 2
     rw [← HQ.out]
     refine bodyPost_ret (v := .tuple #[civ noCi none 0, .int .i64 pp, .int .i64 (er : Nat)]) (by simp [results, Tryz.results26, go_sem, m0, m1, m2]) rfl ⟨BF, noCi, pp, er, ?_, .inl ⟨her, rfl⟩⟩
     unfold LdS
     rw [if_neg (by have := HL.out; omega), HZ.out, if_neg her]
     exact ⟨rfl, rfl, L[at_]'HI.out, List.getElem?_eq_getElem HI.out, by rw [← HPP.out]; rfl⟩
   ·go_wp2
    go_region
    go_wp2
    have K := (((R3.set 0 (.int .i64 0)).set 1 (.int .i64 0)).set 2 (.slice none 0 0)).drew
    have BF : Below W.heap.size W (((w3.setCell ⟨W.heap.size, 0, none⟩ (.int .i64 0)).setCell ⟨W.heap.size, 1, none⟩ (.int .i64 0)).setCell ⟨W.heap.size, 2, none⟩ (.slice none 0 0)).drew := below_drew (bset (bset (bset B3.out _ _ _ (Nat.le_refl _)) _ _ _ (Nat.le_refl _)) _ _ _ (Nat.le_refl _))
    generalize (((w3.setCell ⟨W.heap.size, 0, none⟩ (.int .i64 0)).setCell ⟨W.heap.size, 1, none⟩ (.int .i64 0)).setCell ⟨W.heap.size, 2, none⟩ (.slice none 0 0)).drew = WF at *
    have m0 : WF.cell? ⟨W.heap.size, 0, none⟩ = some (.int .i64 0) := K.cell 0
    have m1 : WF.cell? ⟨W.heap.size, 1, none⟩ = some (.int .i64 0) := K.cell 1
    have m2 : WF.cell? ⟨W.heap.size, 2, none⟩ = some (.slice none 0 0) := K.cell 2
    rw [← HQ.out]
    refine bodyPost_ret (v := .tuple #[civ noCi none 0, .int .i64 (plL sd0 t), .int .i64 115]) (by simp [results, Tryz.results26, go_sem, m0, m1, m2]) rfl ⟨BF, noCi, plL sd0 t, 115, ?_, .inl ⟨by decide, rfl⟩⟩
    unfold LdS
    rw [if_pos (by simpa using hlt)]
    exact ⟨rfl, rfl, t, by simpa using ht, pl_id t⟩
end Go.Proofs.YtdjfpghgklkejaaGreatDoor
