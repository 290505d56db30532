/-
  Put together of: HK.
-/
import Derived.Test.YtdjfpghgklkejaaGreatDoorXW
import Derived.Test.YtdjfpghgklkejaaGreatDoorXX
namespace Go.Proofs.YtdjfpghgklkejaaGreatDoor
open Go.RowKit Go.Sort
def xeN (m : Nat) : Nat := m ^^^ (m * 2 % 18446744073709551616)
def edN (l : List Oq) : Nat := l.foldl (fun s o => s ||| xeN o.m.toNat) 0
theorem xe_lt {m : Nat} (h : m < 18446744073709551616) : xeN m < 18446744073709551616 := by
 unfold xeN
 exact Nat.xor_lt_two_pow (n := 64) h (Nat.mod_lt _ (by decide))
theorem xe_bit {m i : Nat} (hi : 0 < i) (h64 : i < 64) : (xeN m).testBit i = (m.testBit i ^^ m.testBit (i - 1)) := by
 unfold xeN
 rw [Nat.testBit_xor, show (18446744073709551616 : Nat) = 2 ^ 64 by decide, Nat.testBit_mod_two_pow, decide_eq_true h64, Bool.true_and, show m * 2 = m <<< 1 by rw [Nat.shiftLeft_eq, Nat.pow_one], Nat.testBit_shiftLeft, decide_eq_true (show i ≥ 1 by omega), Bool.true_and]
theorem ed_foldl (l : List Oq) : ∀ s, l.foldl (fun s o => s ||| xeN o.m.toNat) s = s ||| edN l := by
 induction l with
 | nil => intro s; show s = s ||| 0; rw [Nat.or_zero]
 | cons o l ih =>
  intro s
  show l.foldl _ (s ||| xeN o.m.toNat) = s ||| l.foldl _ (0 ||| xeN o.m.toNat)
  rw [ih, ih (0 ||| xeN o.m.toNat), Nat.zero_or, Nat.or_assoc]
theorem ed_put (l : List Oq) (o : Oq) : edN (l ++ [o]) = edN l ||| xeN o.m.toNat := by
 unfold edN
 rw [List.foldl_append]
 rfl
theorem ed_has {l : List Oq} {o : Oq} (h : o ∈ l) (i : Nat) (hb : (xeN o.m.toNat).testBit i = true) : (edN l).testBit i = true := by
 induction l with
 | nil => cases h
 | cons x l ih =>
  have e : edN (x :: l) = xeN x.m.toNat ||| edN l := by
   show l.foldl _ (0 ||| xeN x.m.toNat) = _
   rw [ed_foldl, Nat.zero_or]
  rw [e, Nat.testBit_or]
  rcases List.mem_cons.1 h with rfl | h
  ·rw [hb, Bool.true_or]
  ·rw [ih h, Bool.or_true]
theorem ed_lt : ∀ {l : List Oq}, (∀ o ∈ l, o.m.toNat < 18446744073709551616) → edN l < 18446744073709551616
 | [], _ => by decide
 | x :: l, h => by
  have e : edN (x :: l) = xeN x.m.toNat ||| edN l := by
   show l.foldl _ (0 ||| xeN x.m.toNat) = _
   rw [ed_foldl, Nat.zero_or]
  rw [e]
  exact Nat.or_lt_two_pow (n := 64) (xe_lt (h x List.mem_cons_self)) (ed_lt (fun o ho => h o (List.mem_cons_of_mem _ ho)))
def regL (c : Ci) : List (Nat × Nat) := cutR (fun i => (edN c.ops).testBit i) c.b.toNat
theorem reg_whl {c : Ci} (hb : c.b.toNat ≤ 64) {o : Oq} (ho : o ∈ c.ops) : ∀ r ∈ regL c, Whl o.m.toNat r := fun r hr => by
 obtain ⟨h1, h2, _⟩ := cut_ok (fun i => (edN c.ops).testBit i) c.b.toNat
 have hm := seg_mem _ _ _ h1 r hr
 refine whl_of (fun i hi hi2 => ?_)
 have hE : (edN c.ops).testBit i = false := h2 r hr i hi hi2
 have hx := xe_bit (m := o.m.toNat) (i := i) (by omega) (by omega)
 cases e : (xeN o.m.toNat).testBit i with
 | true => rw [ed_has ho i e] at hE; cases hE
 | false =>
  rw [e] at hx
  clear hE e
  revert hx
  generalize o.m.toNat.testBit i = p
  generalize o.m.toNat.testBit (i - 1) = q
  intro hx
  cases p <;> cases q <;> first | rfl | cases hx
theorem zip_put (l : List (Nat × Nat)) (x : Nat × Nat) : (l ++ [x]).zipIdx = l.zipIdx ++ [(x, l.length)] := by rw [List.zipIdx_append]; simp
theorem last_set (d : List (Nat × Nat)) (r x : Nat × Nat) : (d ++ [x]).zipIdx = (d ++ [r]).zipIdx.set d.length (x, d.length) := by
 rw [zip_put, zip_put, List.set_append_right _ _ (by rw [List.length_zipIdx]; exact Nat.le_refl _), List.length_zipIdx, Nat.sub_self]
 rfl
theorem rgs_set (R : List Rg) (j : Nat) (h : j < R.length) (z : Nat) : (rgs R).set (j * 3 + 2) (.int .i64 (z : Nat)) = rgs (R.set j ((R[j].1.1, z), R[j].2)) := by
 induction R generalizing j with
 | nil => exact absurd h (Nat.not_lt_zero _)
 | cons x R ih =>
  cases j with
  | zero => rfl
  | succ j =>
   have hj : j < R.length := by rw [List.length_cons] at h; omega
   have := ih j hj
   show (rgc x ++ rgs R).set ((j + 1) * 3 + 2) _ = rgc x ++ rgs (R.set j ((R[j].1.1, z), R[j].2))
   rw [← this, show (j + 1) * 3 + 2 = 3 + (j * 3 + 2) by omega]
   exact List.set_append_right (s := rgc x) (t := rgs R) (3 + (j * 3 + 2)) _ (by show 3 ≤ _; omega) |>.trans (by rw [show (rgc x).length = 3 from rfl, Nat.add_sub_cancel_left])
theorem nm_cat (j : Nat) : (⟨#[99]⟩ : ByteArray) ++ numT (j : Int) = nmC j := by
 apply ByteArray.ext
 rw [ByteArray.data_append]
 apply Array.ext'
 rw [Array.toList_append]
 rfl
theorem shr_bit (x k : Nat) (hx : x < 18446744073709551616) : bits .and .u64 ((x : Int) / 2 ^ k) 1 = (if x.testBit k = true then 1 else 0) := by
 have h1 : ((x : Int) / 2 ^ k) = ((x / 2 ^ k : Nat) : Int) := by rw [Int.natCast_ediv]; simp
 have h2 : x / 2 ^ k < 18446744073709551616 := Nat.lt_of_le_of_lt (Nat.div_le_self _ _) hx
 rw [h1, show (1 : Int) = ((1 : Nat) : Int) from rfl, u64_and_nat _ _ h2 (by decide), Nat.and_one_is_mod, Nat.testBit_eq_decide_div_mod_eq]
 have : x / 2 ^ k % 2 = 0 ∨ x / 2 ^ k % 2 = 1 := by omega
 rcases this with h | h <;> rw [h] <;> rfl
set_option maxHeartbeats 2000000 in
set_option maxRecDepth 100000 in
theorem cut_any (c : Ci) (oa : Option Addr) (oc : Nat) (A : Nat → Option Addr) (C : Nat → Nat) (w : World) (H : OS w oa oc c.ops A C) (hb : 0 ≤ c.b ∧ c.b ≤ 64) (hol : c.ops.length ≤ 4096) (hv : VR w) :
  Calls Tryz.prog 33 #[civ c oa oc] w fun e w' => ∃ v', e = .returned v' ∧ w'.ownsRow w.heap.size 138 3 v' (regL c).zipIdx.length (rgs (regL c).zipIdx) ∧ Below w.heap.size w w' := by
 obtain ⟨i7, hi7, hz7, hs7, hb7⟩ := info_parts Tryz.info138
 have HI7 := hid hi7
 clear hi7
 have HO := hid H
 have HV := hid hv
 have hcap := H.cap
 have HEL : Hid (edN c.ops < 18446744073709551616) := ed_lt (fun o ho => by
  obtain ⟨j, hj, rfl⟩ := List.getElem_of_mem ho
  have h1 := (H.fit j hj).m0
  have h2 := (H.fit j hj).m1
  omega)
 clear H hv
 obtain ⟨q, b, os⟩ := c
 simp only at *
 obtain ⟨bb, rfl⟩ := Int.eq_ofNat_of_zero_le hb.1
 have hRL : regL ⟨q, (bb : Int), os⟩ = cutR (fun i => (edN os).testBit i) bb := rfl
 rw [hRL]
 clear hRL
 obtain ⟨E0, hE0⟩ : ∃ E, edN os = E := ⟨_, rfl⟩
 rw [hE0] at HEL
 rw [hE0]
 have HE0 := hid hE0
 clear hE0
 go_enter Tryz.func33, Tryz.ntmps33
 go_wp2
 go_loopw [3, 12] (fun s3 s12 wx => ∃ k : Nat, k ≤ os.length ∧ s12 = .int .i64 (k : Nat) ∧ s3 = .int .u64 (edN (os.take k) : Nat) ∧ BK wx w.heap.size #[.int .i64 q, .int .i64 (bb : Int), .slice oa os.length oc] 27 ∧ Below w.heap.size w wx) (fun _ s12 _ => os.length - (intOf s12).toNat)
 case atStart => exact ⟨0, Nat.zero_le _, rfl, rfl, bk_new _ _ _, bal (Below.refl _ _) _⟩
 case round =>
  obtain ⟨k, hk, rfl, rfl, hbk, hB⟩ := hrel
  have d1 := hbk.cell
  have l1 := hbk.lt
  have HBK := hid hbk
  by_cases hlt : k < os.length
  ·obtain ⟨b', o', rfl, r⟩ := (HO.out.below hB).at_ k hlt
   have m0 := r.c0 k hlt
   have m1 := r.c1 k hlt
   have m2 := r.c2 k hlt
   have m3 := r.c3 k hlt
   have m4 := r.c4 k hlt
   have m5 := r.c5 k hlt
   have m6 := r.c6 k hlt
   have hbl := r.lt
   have hfit := HO.out.fit k hlt
   have f0 := hfit.m0
   have f1 := hfit.m1
   have HTK : Hid (edN (os.take (k + 1)) = edN (os.take k) ||| xeN os[k].m.toNat) := by
    show _ = _
    rw [List.take_succ_eq_append_getElem hlt, ed_put]
   have hel : edN (os.take k) < 18446744073709551616 := ed_lt (fun o ho => by
    obtain ⟨j, hj, rfl⟩ := List.getElem_of_mem (List.mem_of_mem_take ho)
    have h1 := (HO.out.fit j hj).m0
    have h2 := (HO.out.fit j hj).m1
    omega)
   clear r hfit hbk
   generalize os[k] = o at *
   obtain ⟨ok, on, oq, ob, of, om, ov⟩ := o
   simp only at *
   obtain ⟨mm, rfl⟩ := Int.eq_ofNat_of_zero_le f0
   rw [Int.toNat_natCast] at HTK
   generalize edN (os.take k) = E at *
   have e1 : IntKind.u64.wrap ((mm : Int) * 2) = ((mm * 2 % 18446744073709551616 : Nat) : Int) := by rw [IntKind.wrap_u64]; omega
   have e2 : bits .xor .u64 (mm : Int) ((mm * 2 % 18446744073709551616 : Nat) : Int) = ((xeN mm : Nat) : Int) := u64_xor_nat _ _ (by omega) (Nat.mod_lt _ (by decide))
   have e3 : bits .or .u64 (E : Int) ((xeN mm : Nat) : Int) = ((E ||| xeN mm : Nat) : Int) := u64_or_nat _ _ hel (xe_lt (by omega))
   go_wp2
   refine ⟨⟨k + 1, by omega, rfl, ?_, HBK.out.alloc _, bal hB _⟩, by simp only [intOf]; omega⟩
   rw [HTK.out, show ((mm : Int) * 2 % 18446744073709551616) = ((mm * 2 % 18446744073709551616 : Nat) : Int) by omega, e2, e3]
  ·obtain rfl : k = os.length := by omega
   rw [List.take_length, HE0.out]
   have hel := HEL.out
   clear hbk
   go_wp2
   go_loopw [6, 27] (fun s6 s27 wx => ∃ k : Nat, k ≤ bb ∧ s27 = .int .i64 (k : Nat) ∧ wx.ownsRow w.heap.size 138 3 s6 (cutR (fun i => E0.testBit i) k).zipIdx.length (rgs (cutR (fun i => E0.testBit i) k).zipIdx) ∧ BK wx w.heap.size #[.int .i64 q, .int .i64 (bb : Int), .slice oa os.length oc] 27 ∧ Below w.heap.size w wx) (fun _ s27 _ => bb - (intOf s27).toNat)
   case atStart => exact ⟨0, Nat.zero_le _, rfl, World.ownsRow_nil _ _ _ _, HBK.out, hB⟩
   case round =>
    obtain ⟨k, hk, rfl, hown, hbk, hB⟩ := hrel
    have d2 := hbk.cell
    have l2 := hbk.lt
    obtain ⟨a', c', rfl⟩ := own_shape hown
    by_cases hlt : k < bb
    case neg =>
     obtain rfl : k = bb := by omega
     go_wp2
     go_ret
     exact ⟨_, rfl, hown, hB⟩
    obtain ⟨s1, s2, s3⟩ := cut_ok (fun i => E0.testBit i) k
    have hlen := seg_len _ _ _ s1
    have hsh := shr_bit E0 k hel
    have HBK2 := hid hbk
    clear hbk d1 l1 HBK
    rcases Nat.eq_zero_or_pos k with h0 | h0
    ·subst h0
     have hcu : cutR (fun i => E0.testBit i) (0 + 1) = [(0, 1)] := rfl
     have HIT := hid (itoa_any 0 wr (by omega) (by omega) (HV.out.below hB))
     have hc0 : cutR (fun i => E0.testBit i) 0 = [] := rfl
     rw [hc0] at hown
     rw [hc0]
     have HOW := hid hown
     clear hown hsh s1 s2 s3 hlen hc0
     show Code.wp _ _ _ _ _
     simp only [List.zipIdx_nil, List.length_nil]
     have hcat : (⟨#[99]⟩ : ByteArray) ++ numT 0 = nmC 0 := nm_cat 0
     have hns : (Lib.itoa 0).length ≤ 21 := Lib.itoa_length_le 0 (by omega) (by omega)
     go_wp2_with (first
      | (go_at_call 65; (with_reducible refine HIT.out.mono ?_); rintro e w1 ⟨rfl, hB1⟩)
      | (at_builtin; refine Hid.out ?_))
     refine hid ?_
     have hO1 := own_below (own_below HOW.out hB1) (bal (Below.refl _ _) (.cells #[.string (nmC 0), .int .i64 ((0 : Nat) : Int), .int .i64 ((1 : Nat) : Int)] 138))
     have hBw := btr hB hB1
     refine wpList_append_own_at _ rfl _ _ 84 rfl w.heap.size 138 i7 _ 3 32 Tryz.underlying84 HI7.out hz7 hs7 hb7 rfl (by decide) _ _ _ rfl hO1 ⟨_, 0, none⟩ 1 1 (rgs [((0, 1), 0)]) rfl rfl (new_rg w1 ((0, 1), 0)) (rgs_one _) (by unfold maxLen; simp) (by simp) (bal hBw _).size ?_
     intro v8 w8 hown8 hgrow8 hnil8 hloc8
     have hB8 := below_own (bal hBw _) hO1 hgrow8
     have h2 := (bk_on HBK2.out hB1).alloc (.cells #[.string (nmC 0), .int .i64 ((0 : Nat) : Int), .int .i64 ((1 : Nat) : Int)] 138)
     have h28 : BK w8 w.heap.size _ 27 := (hgrow8.block _ h2.lt (fun e => own_ne hO1 h2 (by decide) _ e.symm rfl)).trans h2
     clear hgrow8 hnil8 hloc8
     go_wp2
     exact ⟨⟨1, by omega, rfl, hown8, h28, hB8⟩, by simp only [intOf]; omega⟩
    ·obtain ⟨d, r, hdr⟩ : ∃ d r, cutR (fun i => E0.testBit i) k = d ++ [r] := by
      cases hlast : (cutR (fun i => E0.testBit i) k).getLast? with
      | none => exact absurd hlast (s3 h0)
      | some r => exact ⟨_, r, last_split hlast⟩
     have HNX : Hid (cutR (fun i => E0.testBit i) (k + 1) = if (E0.testBit k || decide (r.2 = 32)) = true then (d ++ [r]) ++ [(k, 1)] else d ++ [(r.1, r.2 + 1)]) := by
      show cutR (fun i => E0.testBit i) (k + 1) = _
      conv => lhs; unfold cutR
      rw [hdr, List.getLast?_concat, List.dropLast_concat]
     rw [hdr] at hown s1 hlen
     have hrr := seg_mem _ _ _ s1 r (List.mem_append_right _ (List.mem_singleton.2 rfl))
     rw [List.length_append, List.length_singleton] at hlen
     have hRl : ((d ++ [r]).zipIdx).length = d.length + 1 := by rw [List.length_zipIdx, List.length_append, List.length_singleton]
     have hRa : (d ++ [r]).zipIdx[d.length]'(by omega) = (r, d.length) := by simp
     obtain ⟨g, cap, e1, hcap, hgl, hgB, m0, m1, m2, hfz⟩ := rg_cells hown (k := d.length) (by omega)
     rw [hRa] at m0 m1 m2
     injection e1 with e1 e2 e3
     subst e1
     subst e3
     have HOW := hid hown
     rw [hdr]
     clear hown s1 s2 s3 hdr e2 hRa
     generalize hR : (d ++ [r]).zipIdx = R at *
     have HR := hid hR
     clear hR
     have HIT := hid (itoa_any ((d.length : Int) + 1) wr (by omega) (by omega) (HV.out.below hB))
     have hcat : (⟨#[99]⟩ : ByteArray) ++ numT ((d.length : Int) + 1) = nmC (d.length + 1) := nm_cat (d.length + 1)
     have hns : (Lib.itoa ((d.length : Int) + 1)).length ≤ 21 := Lib.itoa_length_le _ (by omega) (by omega)
     by_cases ht : (E0.testBit k || decide (r.2 = 32)) = true
     ·have HT := hid ht
      cases htb : E0.testBit k with
      | true =>
       rw [htb, if_pos rfl] at hsh
       go_wp2_with (first
        | (go_at_call 65; (with_reducible refine HIT.out.mono ?_); rintro e w1 ⟨rfl, hB1⟩)
        | (at_builtin; refine Hid.out ?_))
       refine hid ?_
       have hOa := own_below HOW.out hB1
       rw [hRl] at hOa
       have hO1 := own_below hOa (bal (Below.refl _ _) (.cells #[.string (nmC (d.length + 1)), .int .i64 (k : Nat), .int .i64 ((1 : Nat) : Int)] 138))
       have hBw := btr hB hB1
       refine wpList_append_own_at _ rfl _ _ 84 rfl w.heap.size 138 i7 _ 3 32 Tryz.underlying84 HI7.out hz7 hs7 hb7 rfl (by decide) _ _ _ rfl hO1 ⟨_, 0, none⟩ 1 1 (rgs [((k, 1), d.length + 1)]) rfl rfl (new_rg w1 ((k, 1), d.length + 1)) (rgs_one _) (by unfold maxLen; omega) (by omega) (bal hBw _).size ?_
       intro v8 w8 hown8 hgrow8 hnil8 hloc8
       have hB8 := below_own (bal hBw _) hO1 hgrow8
       have h2 := (bk_on HBK2.out hB1).alloc (.cells #[.string (nmC (d.length + 1)), .int .i64 (k : Nat), .int .i64 ((1 : Nat) : Int)] 138)
       have h28 : BK w8 w.heap.size _ 27 := (hgrow8.block _ h2.lt (fun e => own_ne hO1 h2 (by decide) _ e.symm rfl)).trans h2
       have hN := HNX.out
       rw [if_pos HT.out] at hN
       have hz : ((d ++ [r]) ++ [(k, 1)]).zipIdx = R ++ [((k, 1), d.length + 1)] := by rw [zip_put, HR.out, List.length_append, List.length_singleton]
       clear hgrow8 hnil8 hloc8
       go_wp2
       refine ⟨⟨k + 1, by omega, rfl, ?_, h28, hB8⟩, by simp only [intOf]; omega⟩
       rw [hN, hz, List.length_append, hRl, rgs_app]
       exact hown8
      | false =>
       rw [htb, if_neg (by decide)] at hsh
       rw [htb, Bool.false_or, decide_eq_true_eq] at ht
       go_wp2_with (first
        | (go_at_call 65; (with_reducible refine HIT.out.mono ?_); rintro e w1 ⟨rfl, hB1⟩)
        | (at_builtin; refine Hid.out ?_))
       refine hid ?_
       have hOa := own_below HOW.out hB1
       rw [hRl] at hOa
       have hO1 := own_below hOa (bal (Below.refl _ _) (.cells #[.string (nmC (d.length + 1)), .int .i64 (k : Nat), .int .i64 ((1 : Nat) : Int)] 138))
       have hBw := btr hB hB1
       refine wpList_append_own_at _ rfl _ _ 84 rfl w.heap.size 138 i7 _ 3 32 Tryz.underlying84 HI7.out hz7 hs7 hb7 rfl (by decide) _ _ _ rfl hO1 ⟨_, 0, none⟩ 1 1 (rgs [((k, 1), d.length + 1)]) rfl rfl (new_rg w1 ((k, 1), d.length + 1)) (rgs_one _) (by unfold maxLen; omega) (by omega) (bal hBw _).size ?_
       intro v8 w8 hown8 hgrow8 hnil8 hloc8
       have hB8 := below_own (bal hBw _) hO1 hgrow8
       have h2 := (bk_on HBK2.out hB1).alloc (.cells #[.string (nmC (d.length + 1)), .int .i64 (k : Nat), .int .i64 ((1 : Nat) : Int)] 138)
       have h28 : BK w8 w.heap.size _ 27 := (hgrow8.block _ h2.lt (fun e => own_ne hO1 h2 (by decide) _ e.symm rfl)).trans h2
       have hN := HNX.out
       rw [if_pos HT.out] at hN
       have hz : ((d ++ [r]) ++ [(k, 1)]).zipIdx = R ++ [((k, 1), d.length + 1)] := by rw [zip_put, HR.out, List.length_append, List.length_singleton]
       clear hgrow8 hnil8 hloc8
       go_wp2
       refine ⟨⟨k + 1, by omega, rfl, ?_, h28, hB8⟩, by simp only [intOf]; omega⟩
       rw [hN, hz, List.length_append, hRl, rgs_app]
       exact hown8
     ·rw [Bool.or_eq_true, not_or, decide_eq_true_eq] at ht
      rw [if_neg ht.1] at hsh
      have ht2 := ht.2
      have h32 : (((r.2 : Nat) : Int) == 32) = false := by rw [beq_eq_false_iff_ne]; omega
      go_wp2
      have hRa : R[d.length]'(by omega) = (r, d.length) := by simp only [← HR.out]; simp
      have hO9 := own_setc HOW.out (k := d.length * 3 + 2) (by omega) (.int .i64 ((r.2 + 1 : Nat) : Int))
      rw [rgs_set R d.length (by omega) (r.2 + 1), hRa] at hO9
      have hN := HNX.out
      rw [if_neg (by rw [Bool.or_eq_true, not_or, decide_eq_true_eq]; exact ht)] at hN
      have hz : (d ++ [(r.1, r.2 + 1)]).zipIdx = R.set d.length ((r.1, r.2 + 1), d.length) := by rw [last_set d r, HR.out]
      have hne : some g ≠ some w.heap.size := own_ne HOW.out HBK2.out (by decide) g rfl
      refine ⟨⟨k + 1, by omega, rfl, ?_, HBK2.out.far (fun e => hne (by rw [e])) _ _, bset hB _ _ _ hgB⟩, by simp only [intOf]; omega⟩
      rw [hN, hz, List.length_set, hRl]
      rw [hRl] at hO9
      exact hO9
end Go.Proofs.YtdjfpghgklkejaaGreatDoor
