/-
  Put together of: HI HJ.
-/
import Derived.Test.YtdjfpghgklkejaaGreatDoorXV
namespace Go.Proofs.YtdjfpghgklkejaaGreatDoor
open Go.RowKit Go.Sort
def bIdx (b : Nat) : List Rg → Nat
 | [] => 0
 | x :: l => if b < x.1.1 + x.1.2 then 0 else bIdx b l + 1
theorem bIdx_not (b : Nat) : ∀ (R : List Rg) (j : Nat) (h : j < R.length), j < bIdx b R → ¬ b < R[j].1.1 + R[j].1.2
 | [], j, h, _ => absurd h (Nat.not_lt_zero _)
 | x :: R, j, h, hj => by
  unfold bIdx at hj
  split at hj
  ·exact absurd hj (Nat.not_lt_zero _)
  ·rename_i hx
   cases j with
   | zero => exact hx
   | succ j => exact bIdx_not b R j (by rw [List.length_cons] at h; omega) (by omega)
theorem bIdx_at (b : Nat) : ∀ (R : List Rg) (h : bIdx b R < R.length), b < R[bIdx b R].1.1 + R[bIdx b R].1.2 ∧ bArg b R = ⟨nmC R[bIdx b R].2, (b : Int) - R[bIdx b R].1.1⟩
 | [], h => absurd h (Nat.not_lt_zero _)
 | x :: R, h => by
  by_cases hx : b < x.1.1 + x.1.2
  ·have e : bIdx b (x :: R) = 0 := by unfold bIdx; rw [if_pos hx]
   have e2 : bArg b (x :: R) = ⟨nmC x.2, (b : Int) - x.1.1⟩ := by unfold bArg; rw [if_pos hx]
   simp only [e, List.getElem_cons_zero]
   exact ⟨hx, e2⟩
  ·have e : bIdx b (x :: R) = bIdx b R + 1 := by conv => lhs; unfold bIdx; rw [if_neg hx]
   have e2 : bArg b (x :: R) = bArg b R := by conv => lhs; unfold bArg; rw [if_neg hx]
   have h' : bIdx b R < R.length := by rw [e, List.length_cons] at h; omega
   have := bIdx_at b R h'
   simp only [e, List.getElem_cons_succ]
   rw [e2]
   exact this
theorem bIdx_lt {b n : Nat} {R : List Rg} (hR : Seg 0 (R.map Prod.fst) n) (hb : b < n) : bIdx b R < R.length := by
 obtain ⟨x, hx, _, _, h2⟩ := bArg_at R 0 n b hR (Nat.zero_le _) hb
 obtain ⟨j, hj, rfl⟩ := List.getElem_of_mem hx
 rcases Nat.lt_or_ge (bIdx b R) R.length with h | h
 ·exact h
 ·exact absurd h2 (bIdx_not b R j hj (by omega))
set_option maxHeartbeats 1000000 in
set_option maxRecDepth 100000 in
theorem argIs_any (x : Rg) (b pb : Nat) (w : World) (hc : w.cell? ⟨pb, 0, none⟩ = some (.int .i64 (b : Nat))) (hp : pb < w.heap.size) (hx : x.1.1 + x.1.2 ≤ 64) :
  Calls Tryz.prog 117 #[rgv x, .pointer (some ⟨pb, 0, none⟩)] w fun e w' => e = .returned (.bool (decide (b < x.1.1 + x.1.2))) ∧ Below w.heap.size w w' := by
 have hd : decide ((b : Int) < (x.1.1 : Int) + (x.1.2 : Int)) = decide (b < x.1.1 + x.1.2) := decide_eq_decide.2 (by omega)
 go_enter Tryz.func117, Tryz.ntmps117
 go_wp2
 go_ret
 exact ⟨rfl, bal (Below.refl _ _) _⟩
set_option maxHeartbeats 1000000 in
set_option maxRecDepth 100000 in
theorem indexFunc_any (b pb : Nat) (R : List Rg) (v : Value) (B : Nat) (w : World) (ho : w.ownsRow B 138 3 v R.length (rgs R)) (hR : ∀ x ∈ R, x.1.1 + x.1.2 ≤ 64) (hl : R.length ≤ 64) (hi : bIdx b R < R.length) (hc : w.cell? ⟨pb, 0, none⟩ = some (.int .i64 (b : Nat))) (hp : pb < w.heap.size) :
  Calls Tryz.prog 116 #[v, .func (.func 117) #[] #[.pointer (some ⟨pb, 0, none⟩)]] w fun e w' => e = .returned (.int .i64 (bIdx b R : Nat)) ∧ Below w.heap.size w w' := by
 have HO := hid ho
 have HR := hid hR
 obtain ⟨a, c, rfl⟩ := own_shape ho
 clear ho hR
 go_enter Tryz.func116, Tryz.ntmps116
 go_wp2
 go_loopw [8] (fun s8 wx => ∃ k : Nat, k ≤ bIdx b R ∧ s8 = .int .i64 (k : Nat) ∧ Below w.heap.size w wx) (fun s8 _ => R.length - (intOf s8).toNat)
 case atStart => exact ⟨0, Nat.zero_le _, rfl, Below.refl _ _⟩
 case round =>
  obtain ⟨k, hk, rfl, hB⟩ := hrel
  have hlt : k < R.length := by omega
  obtain ⟨g, cap, e1, hcap, hgl, hgB, m0, m1, m2, _⟩ := rg_cells (own_below HO.out hB) hlt
  cases e1
  have HAI := hid (argIs_any R[k] b pb wr ((hB.cell (p := ⟨pb, 0, none⟩) hp).trans hc) (Nat.lt_of_lt_of_le hp hB.size) (HR.out _ (List.getElem_mem hlt)))
  have HN := hid (bIdx_not b R k hlt)
  have HY : Hid (k = bIdx b R → b < R[k].1.1 + R[k].1.2) := fun e => by subst e; exact (bIdx_at b R hi).1
  generalize R[k] = x at *
  by_cases hke : k = bIdx b R
  ·have hy := HY.out hke
   rw [decide_eq_true hy] at HAI
   have HKE := hid hke
   clear hke
   go_wp2_with (go_at_call 117; (with_reducible refine HAI.out.mono ?_); rintro e w1 ⟨rfl, hB1⟩)
   go_ret
   exact ⟨by rw [← HKE.out]; rfl, btr hB hB1⟩
  ·have hn := HN.out (by omega)
   rw [decide_eq_false hn] at HAI
   go_wp2_with (go_at_call 117; (with_reducible refine HAI.out.mono ?_); rintro e w1 ⟨rfl, hB1⟩)
   exact ⟨⟨k + 1, by omega, rfl, btr hB hB1⟩, by simp only [intOf]; omega⟩
set_option maxHeartbeats 1000000 in
set_option maxRecDepth 100000 in
theorem argument_any (b : Nat) (R : List Rg) (v : Value) (B : Nat) (w : World) (ho : w.ownsRow B 138 3 v R.length (rgs R)) (hR : ∀ x ∈ R, x.1.1 + x.1.2 ≤ 64) (hl : R.length ≤ 64) (hi : bIdx b R < R.length) (hb : b < 64) :
  Calls Tryz.prog 67 #[.int .i64 (b : Nat), v] w fun e w' => e = .returned (.agg #[.string (bArg b R).n, .int .i64 (bArg b R).x]) ∧ Below w.heap.size w w' := by
 have hat := bIdx_at b R hi
 have hxb := hR _ (List.getElem_mem hi)
 obtain ⟨a, c, rfl⟩ := own_shape ho
 have HIF : Hid (∀ w', Below w.heap.size w w' → w'.cell? ⟨w.heap.size, 0, none⟩ = some (.int .i64 (b : Nat)) → w.heap.size < w'.heap.size → _) := fun w' hB hc hp => indexFunc_any b w.heap.size R _ B w' (own_below ho hB) hR hl hi hc hp
 have HO := hid ho
 clear ho hR
 obtain ⟨x, hx⟩ : ∃ x, R[bIdx b R] = x := ⟨_, rfl⟩
 rw [hx] at hat hxb
 rw [hat.2]
 go_enter Tryz.func67, Tryz.ntmps67
 go_wp2_with (go_at_call 116; refine Hid.out ?_)
 refine hid ?_
 have hb0 : BK ((w.alloc (.cells #[.int .i64 (b : Nat)] 3)).alloc (.cells #[.string ⟨#[]⟩, .int .i64 0] 100)) w.heap.size #[.int .i64 (b : Nat)] 3 := (bk_new _ _ _).alloc _
 refine (HIF.out _ (bal (bal (Below.refl _ _) _) _) (hb0.cell 0) hb0.lt).mono ?_
 rintro e w1 ⟨rfl, hB1⟩
 have hBw : Below w.heap.size w w1 := btr (bal (bal (Below.refl _ _) _) _) hB1
 obtain ⟨b1, b2⟩ := two_bk w _ _ _ _ hB1
 have d1 := b1.cell
 have l1 := b1.lt
 have d2 := b2.cell
 have f2 := b2.free
 have l2 := b2.lt
 obtain ⟨g, cap, e1, hcap, hgl, hgB, m0, m1, m2, _⟩ := rg_cells (own_below HO.out hBw) hi
 cases e1
 have HB2 := hid b2
 have HBW := hid hBw
 clear b1 b2 HIF hb0 hB1 hBw
 rw [hx] at m0 m1 m2
 have hx2 := hat.1
 clear hat hx
 generalize bIdx b R = i at *
 go_wp2
 have b9 := ((HB2.out.set 0 (.string (nmC x.2))).set 1 (.int .i64 ((b : Int) - (x.1.1 : Int)))).alloc (.cells #[.string (nmC x.2), .int .i64 (x.1.1 : Nat), .int .i64 (x.1.2 : Nat)] 138)
 have c9 := b9.cell
 exact bodyPost_ret (v := .agg #[.string (nmC x.2), .int .i64 ((b : Int) - (x.1.1 : Int))]) (by simp [results, Tryz.results67, go_sem, c9]) rfl ⟨rfl, bal (bset (bset HBW.out _ _ _ (by omega)) _ _ _ (by omega)) _⟩
end Go.Proofs.YtdjfpghgklkejaaGreatDoor
namespace Go.Proofs.YtdjfpghgklkejaaGreatDoor
open Go.RowKit Go.Sort
theorem qArgs_take (l : List Int) (k : Nat) (h : k < l.length) : qArgs (l.take (k + 1)) = qArgs (l.take k) ++ [⟨nmQ, l[k]⟩] := by
 unfold qArgs
 rw [List.take_succ_eq_append_getElem h, List.map_append]
 rfl
theorem qArgs_len (l : List Int) : (qArgs l).length = l.length := List.length_map _
abbrev set6 (W : World) (b : Nat) (k n : ByteArray) (av : Value) : World := (((((W.setCell ⟨b, 0, none⟩ (.string k)).setCell ⟨b, 1, none⟩ (.string n)).setCell ⟨b, 2, none⟩ av).setCell ⟨b, 3, none⟩ (.int .i64 0)).setCell ⟨b, 4, none⟩ (.int .i64 0)).setCell ⟨b, 5, none⟩ (.int .i64 0)
theorem st_done {w W : World} {k n : ByteArray} {av : Value} {l : List Ar} (h : BK W (w.heap.size + 1) #[.string ⟨#[]⟩, .string ⟨#[]⟩, .slice none 0 0, .int .i64 0, .int .i64 0, .int .i64 0] 79) (ho : W.ownsRow w.heap.size 100 2 av l.length (ars l)) (hB : Below w.heap.size w W) :
  BK (set6 W (w.heap.size + 1) k n av) (w.heap.size + 1) #[.string k, .string n, av, .int .i64 0, .int .i64 0, .int .i64 0] 79 ∧ (set6 W (w.heap.size + 1) k n av).ownsRow w.heap.size 100 2 av l.length (ars l) ∧ Below w.heap.size w (set6 W (w.heap.size + 1) k n av) := by
 refine ⟨(((((h.set 0 (.string k)).set 1 (.string n)).set 2 av).set 3 (.int .i64 0)).set 4 (.int .i64 0)).set 5 (.int .i64 0), ?_, ?_⟩
 ·have g : GB W (set6 W (w.heap.size + 1) k n av) (w.heap.size + 1) := gb_set (gb_set (gb_set (gb_set (gb_set (gb_set (gb_refl W _) _ _ _ (.inl rfl)) _ _ _ (.inl rfl)) _ _ _ (.inl rfl)) _ _ _ (.inl rfl)) _ _ _ (.inl rfl)) _ _ _ (.inl rfl)
  exact own_kept ho g (own_ne ho h (by decide))
 ·exact bset (bset (bset (bset (bset (bset hB _ _ _ (by omega)) _ _ _ (by omega)) _ _ _ (by omega)) _ _ _ (by omega)) _ _ _ (by omega)) _ _ _ (by omega)
set_option maxHeartbeats 2000000 in
set_option maxRecDepth 100000 in
theorem statement_any (o : Oq) (oa : Option Addr) (oc : Nat) (R : List Rg) (v : Value) (B : Nat) (w : World) (hq : QS w oa oc o.qs) (hql : o.qs.length ≤ 100) (ho : w.ownsRow B 138 3 v R.length (rgs R)) (hR : ∀ x ∈ R, x.1.1 + x.1.2 ≤ 64) (hl : R.length ≤ 64) (hk2 : o.k = 2 → 0 ≤ o.b ∧ o.b < 64 ∧ bIdx o.b.toNat R < R.length) :
  Calls Tryz.prog 37 #[opv o oa oc, v] w fun e w' => ∃ av, e = .returned (.agg #[.string (stRow o R).kind, .string (stRow o R).name, av, .int .i64 0, .int .i64 0, .int .i64 0]) ∧ w'.ownsRow w.heap.size 100 2 av (stRow o R).args.length (ars (stRow o R).args) ∧ Below w.heap.size w w' := by
 obtain ⟨i7, hi7, hz7, hs7, hb7⟩ := info_parts Tryz.info100
 have HI7 := hid hi7
 clear hi7
 have HO := hid ho
 have HR := hid hR
 have HQ := hid hq
 have HK2 := hid hk2
 have hcq := hq.cap
 obtain ⟨a, c, rfl⟩ := own_shape ho
 clear ho hR hq hk2
 obtain ⟨ok, on, oq, ob, of, om, ov⟩ := o
 simp only at *
 generalize hr : stRow ⟨ok, on, oq, ob, of, om, ov⟩ R = r
 have HRR := hid hr
 clear hr
 go_enter Tryz.func37, Tryz.ntmps37
 go_wp2
 go_loopw [5, 11] (fun s5 s11 wx => ∃ k : Nat, k ≤ oq.length ∧ s11 = .int .i64 (k : Nat) ∧ wx.ownsRow w.heap.size 100 2 s5 (qArgs (oq.take k)).length (ars (qArgs (oq.take k))) ∧ BK wx w.heap.size #[.int .i64 ok, .string on, .slice oa oq.length oc, .int .i64 ob, .bool of, .int .u64 om, .int .u64 ov] 49 ∧ BK wx (w.heap.size + 1) #[.string ⟨#[]⟩, .string ⟨#[]⟩, .slice none 0 0, .int .i64 0, .int .i64 0, .int .i64 0] 79 ∧ Below w.heap.size w wx) (fun _ s11 _ => oq.length - (intOf s11).toNat)
 case atStart =>
  have e1 : (w.alloc (.cells #[.int .i64 ok, .string on, .slice oa oq.length oc, .int .i64 ob, .bool of, .int .u64 om, .int .u64 ov] 49)).heap.size = w.heap.size + 1 := by simp
  have b2 := bk_new (w.alloc (.cells #[.int .i64 ok, .string on, .slice oa oq.length oc, .int .i64 ob, .bool of, .int .u64 om, .int .u64 ov] 49)) #[.string ⟨#[]⟩, .string ⟨#[]⟩, .slice none 0 0, .int .i64 0, .int .i64 0, .int .i64 0] 79
  rw [e1] at b2
  exact ⟨0, Nat.zero_le _, rfl, World.ownsRow_nil _ _ _ _, (bk_new _ _ _).alloc _, b2, bal (bal (Below.refl _ _) _) _⟩
 case round =>
  obtain ⟨k, hk, rfl, hown, hb1, hb2, hB⟩ := hrel
  have d1 := hb1.cell
  have l1 := hb1.lt
  have d2 := hb2.cell
  have f2 := hb2.free
  have l2 := hb2.lt
  have HB1 := hid hb1
  have HB2 := hid hb2
  obtain ⟨a', c', rfl⟩ := own_shape hown
  by_cases hlt : k < oq.length
  ·obtain ⟨bq, off, rfl, r⟩ := (HQ.out.below hB).at_ k hlt
   have m0 := r.c k hlt
   have hbl := r.lt
   have HTK := hid (qArgs_take oq k hlt)
   have hLE : (qArgs (oq.take k)).length ≤ 100 := by rw [qArgs_len, List.length_take]; omega
   have HOW := hid hown
   clear hown r hb1 hb2
   generalize oq[k] = q at *
   generalize qArgs (oq.take k) = T at *
   go_wp2_with (at_builtin; refine Hid.out ?_)
   refine hid ?_
   have hO1 := own_below HOW.out (bal (Below.refl _ _) (.cells #[.string nmQ, .int .i64 q] 100))
   refine wpList_append_own_at _ rfl _ _ 77 rfl w.heap.size 100 i7 _ 2 24 Tryz.underlying77 HI7.out hz7 hs7 hb7 rfl (by decide) _ _ _ rfl hO1 ⟨_, 0, none⟩ 1 1 (arc ⟨nmQ, q⟩) rfl rfl (new_arg wr ⟨nmQ, q⟩) (one_arg _) (by unfold maxLen; omega) (by omega) (bal hB _).size ?_
   intro v8 w8 hown8 hgrow8 hnil8 hloc8
   have hB8 := below_own (bal hB _) hO1 hgrow8
   have h1 := HB1.out.alloc (.cells #[.string nmQ, .int .i64 q] 100)
   have h2 := HB2.out.alloc (.cells #[.string nmQ, .int .i64 q] 100)
   have h18 := (hgrow8.block _ h1.lt (fun e => own_ne hO1 h1 (by decide) _ e.symm rfl)).trans h1
   have h28 := (hgrow8.block _ h2.lt (fun e => own_ne hO1 h2 (by decide) _ e.symm rfl)).trans h2
   clear hgrow8 hnil8 hloc8
   go_wp2
   refine ⟨⟨k + 1, by omega, rfl, ?_, h18, h28, hB8⟩, by simp only [intOf]; omega⟩
   rw [HTK.out, ars_put, List.length_append]
   exact hown8
  ·obtain rfl : k = oq.length := by omega
   rw [List.take_length] at hown
   have hLE : (qArgs oq).length ≤ 100 := by rw [qArgs_len]; omega
   have HOW := hid hown
   clear hown hb1 hb2
   by_cases h2 : ok = 2
   ·obtain ⟨g1, g2, g3⟩ := HK2.out h2
    obtain ⟨bb, rfl⟩ := Int.eq_ofNat_of_zero_le g1
    rw [Int.toNat_natCast] at g3
    have HAR : Hid (∀ w', Below w.heap.size w w' → _) := fun w' hb => argument_any bb R _ B w' (own_below HO.out hb) HR.out hl g3 (by omega)
    have HST : Hid (r = ⟨wMeasure, ⟨#[]⟩, qArgs oq ++ [bArg bb R], 0, 0, 0⟩) := by show r = _; rw [← HRR.out]; unfold stRow; rw [if_pos h2]; rfl
    clear HRR
    subst h2
    go_wp2_with (first
     | (go_at_call 67; (with_reducible refine (HAR.out _ hB).mono ?_); rintro e w1 ⟨rfl, hB1⟩; (have hc1 := bk_on HB1.out hB1); (have hc2 := bk_on HB2.out hB1); (have d1' := hc1.cell); (have l1' := hc1.lt); (have d2' := hc2.cell); (have f2' := hc2.free); (have l2' := hc2.lt); (have HC2 := hid hc2); clear d1 l1 d2 f2 l2 hc1 hc2)
     | (at_builtin; refine Hid.out ?_))
    refine hid ?_
    have hO1 := own_below (own_below HOW.out hB1) (bal (Below.refl _ _) (.cells #[.string (bArg bb R).n, .int .i64 (bArg bb R).x] 100))
    have hBw := btr hB hB1
    refine wpList_append_own_at _ rfl _ _ 77 rfl w.heap.size 100 i7 _ 2 24 Tryz.underlying77 HI7.out hz7 hs7 hb7 rfl (by decide) _ _ _ rfl hO1 ⟨_, 0, none⟩ 1 1 (arc (bArg bb R)) rfl rfl (new_arg w1 (bArg bb R)) (one_arg _) (by unfold maxLen; omega) (by omega) (bal hBw _).size ?_
    intro v8 w8 hown8 hgrow8 hnil8 hloc8
    have hB8 := below_own (bal hBw _) hO1 hgrow8
    have h2 := HC2.out.alloc (.cells #[.string (bArg bb R).n, .int .i64 (bArg bb R).x] 100)
    have h28 : BK w8 (w.heap.size + 1) _ 79 := (hgrow8.block _ h2.lt (fun e => own_ne hO1 h2 (by decide) _ e.symm rfl)).trans h2
    have hO8 : w8.ownsRow w.heap.size 100 2 v8 (qArgs oq ++ [bArg bb R]).length (ars (qArgs oq ++ [bArg bb R])) := by rw [ars_put, List.length_append]; exact hown8
    clear hgrow8 hnil8 hloc8 d1' l1' d2' f2' l2' hown8
    have d28 := h28.cell
    have f28 := h28.free
    have l28 := h28.lt
    generalize qArgs oq ++ [bArg bb R] = L at hO8 HST
    obtain ⟨a8, c8, rfl⟩ := own_shape hO8
    have HO8 := hid hO8
    clear hO8
    go_wp2
    have hD := st_done (k := wMeasure) (n := ⟨#[]⟩) h28 HO8.out hB8
    obtain ⟨q1, q2, q3⟩ := hD
    have c9 := q1.cell
    refine bodyPost_ret (v := .agg #[.string wMeasure, .string ⟨#[]⟩, (.slice a8 L.length c8), .int .i64 0, .int .i64 0, .int .i64 0]) (by simp [results, Tryz.results37, go_sem, c9]) rfl ⟨_, by rw [HST.out], ?_, q3⟩
    rw [HST.out]
    exact q2
   ·by_cases h3 : ok = 3
    ·have HST : Hid (r = ⟨wReset, ⟨#[]⟩, qArgs oq, 0, 0, 0⟩) := by show r = _; rw [← HRR.out]; unfold stRow; rw [if_neg h2, if_pos h3]
     clear HRR
     subst h3
     go_wp2
     have hD := st_done (k := wReset) (n := ⟨#[]⟩) HB2.out HOW.out hB
     obtain ⟨q1, q2, q3⟩ := hD
     have c9 := q1.cell
     refine bodyPost_ret (v := .agg #[.string wReset, .string ⟨#[]⟩, (.slice a' (qArgs oq).length c'), .int .i64 0, .int .i64 0, .int .i64 0]) (by simp [results, Tryz.results37, go_sem, c9]) rfl ⟨_, by rw [HST.out], ?_, q3⟩
     rw [HST.out]
     exact q2
    ·have HST : Hid (r = ⟨wUse, on, qArgs oq, 0, 0, 0⟩) := by show r = _; rw [← HRR.out]; unfold stRow; rw [if_neg h2, if_neg h3]
     clear HRR
     go_wp2
     have hD := st_done (k := wUse) (n := on) HB2.out HOW.out hB
     obtain ⟨q1, q2, q3⟩ := hD
     have c9 := q1.cell
     refine bodyPost_ret (v := .agg #[.string wUse, .string on, (.slice a' (qArgs oq).length c'), .int .i64 0, .int .i64 0, .int .i64 0]) (by simp [results, Tryz.results37, go_sem, c9]) rfl ⟨_, by rw [HST.out], ?_, q3⟩
     rw [HST.out]
     exact q2
end Go.Proofs.YtdjfpghgklkejaaGreatDoor
