/-
  Put together of: HU HV.
-/
import Derived.Test.YtdjfpghgklkejaaGreatDoorXY
import Derived.Test.YtdjfpghgklkejaaGreatDoorYG
import Derived.Test.YtdjfpghgklkejaaGreatDoorYM
import Derived.Test.YtdjfpghgklkejaaGreatDoorYK
import Derived.Test.YtdjfpghgklkejaaGreatDoorYI
namespace Go.Proofs.YtdjfpghgklkejaaGreatDoor
open Go.RowKit Go.Sort
theorem bIdx_iff (b n:Nat):∀(R:List Rg) (a:Nat),Seg a (R.map Prod.fst) n→a≤b→∀j (hj:j<R.length),(R[j].1.1≤b∧b<R[j].1.1+R[j].1.2)↔j=bIdx b R
 | [],_,_,_,j,hj=>absurd hj (Nat.not_lt_zero _)
 | x::R,a,hS,hab,j,hj=>by
  obtain ⟨e1,e2,e3,e4⟩:x.1.1=a∧1≤x.1.2∧x.1.2≤32∧Seg (a+x.1.2) (R.map Prod.fst) n:=hS
  by_cases hx:b<x.1.1+x.1.2
  ·have e:bIdx b (x::R)=0:=by unfold bIdx;rw [if_pos hx]
   rw [e]
   cases j with
   | zero=>exact ⟨fun _=>rfl,fun _=>⟨by show x.1.1≤b;omega,hx⟩⟩
   | succ j=>
    have hj':j<R.length:=by rw [List.length_cons] at hj;omega
    have hm:=seg_mem _ _ _ e4 R[j].1 (List.mem_map.2 ⟨_,List.getElem_mem hj',rfl⟩)
    refine ⟨fun h=>?_,fun h=>absurd h (Nat.succ_ne_zero j)⟩
    have h1:R[j].1.1≤b:=h.1
    omega
  ·have e:bIdx b (x::R)=bIdx b R+1:=by conv=>lhs;unfold bIdx;rw [if_neg hx]
   rw [e]
   cases j with
   | zero=>exact ⟨fun h=>absurd h.2 hx,fun h=>absurd h.symm (Nat.succ_ne_zero _)⟩
   | succ j=>
    have hj':j<R.length:=by rw [List.length_cons] at hj;omega
    have ih:=bIdx_iff b n R _ e4 (by omega) j hj'
    refine ⟨fun h=>?_,fun h=>ih.2 (by omega)⟩
    have:=ih.1 h
    omega
theorem op_one {o:Oq} {q:Int} {n:Nat} (h:opE o q n (opN o)=0) (h2:o.k=2):o.qs.length=1:=by
 obtain ⟨_,_,_,g4,_,_⟩:=opE_ok h
 rw [g4]
 unfold opN
 rw [if_neg (by omega)]
theorem TR.keepU {W W':World} {B B' U c n:Nat} {v x:Value} {T:RVs} {xs:List Value} (h:TR W B v T) (g:W.grownBy W' v.ownBlock) (ho:W.ownsRow B' U c x n xs) (hU:U≠79):W'.ownsRow B' U c x n xs:=own_kept ho g (fun b e e2=>by
 obtain ⟨cs,hb⟩:=own_ty h.own e2.symm
 exact own_ne ho (b:=b) hb hU b e rfl)
theorem take_bits (q:Int) (R:List Rg) (k:Nat) (h:k<R.length):(qRows q++(R.take (k+1)).map bitRow).map n0=(qRows q++(R.take k).map bitRow).map n0++[n0 (bitRow R[k])]:=by
 rw [List.take_succ_eq_append_getElem h,List.map_append (f:=bitRow),←List.append_assoc,List.map_append]
 rfl
set_option maxHeartbeats 4000000 in
set_option maxRecDepth 100000 in
theorem flatRShow_all (c:Ci) (oa:Option Addr) (oc:Nat) (A:Nat→Option Addr) (C:Nat→Nat) (w:World) (H:OS w oa oc c.ops A C) :
  Calls Tryz.prog 16 #[civ c oa oc] w fun e w'=>(∃(s:ByteArray) (er:Nat),e=.returned (.tuple #[.string s,.int .i64 (er:Nat)])∧ShA c (regL c).zipIdx s er)∧Below w.heap.size w w':=by
 have CHK:Hid (∀w',Below w.heap.size w w'→_):=fun w' h=>rcheck_any c oa oc A C w' (H.below h)
 by_cases hlk:(lk c).2.2=0
 case neg=>
  have hne:((((lk c).2.2:Nat):Int) != 0)=true:=bne_iff_ne.2 (by omega)
  have HSA:Hid (ShA c (regL c).zipIdx ⟨#[]⟩ (lk c).2.2):=.inl ⟨hlk,rfl,rfl⟩
  generalize (lk c).2.2=er at *
  generalize (lk c).1=pl at *
  go_enter Tryz.func16,Tryz.ntmps16
  go_wp2_with (go_at_call 23;(with_reducible refine (CHK.out _ (bal (Below.refl _ _) _)).mono ?_);rintro e w1 ⟨rfl,hB1⟩)
  exact bodyPost_ret (v:=.tuple #[.string ⟨#[]⟩,.int .i64 (er:Nat)]) (by simp [results,Tryz.results16,go_sem]) rfl ⟨⟨_,er,rfl,HSA.out⟩,btr (bal (Below.refl _ _) _) hB1⟩
 rw [hlk] at CHK
 obtain ⟨p1,p2,p3,p4,p5,p6⟩:=lk_parts hlk
 have hseg:Seg 0 (regL c) c.b.toNat:=(cut_ok _ _).1
 have hfst:(regL c).zipIdx.map Prod.fst=regL c:=List.zipIdx_map_fst 0 _
 have hmem:∀x∈(regL c).zipIdx,x.1∈regL c:=fun x hx=>by
  have:x.1∈(regL c).zipIdx.map Prod.fst:=List.mem_map.2 ⟨x,hx,rfl⟩
  rwa [hfst] at this
 have hRb:∀x∈(regL c).zipIdx,x.1.1+x.1.2≤64∧x.1.2≤32∧1≤x.1.2:=fun x hx=>by
  have:=seg_mem _ _ _ hseg x.1 (hmem x hx)
  omega
 have hRl:(regL c).zipIdx.length≤64:=by
  rw [List.length_zipIdx]
  have:=seg_len _ _ _ hseg
  omega
 have hRi:∀x∈(regL c).zipIdx,x.2≤100∧x.1.2≤32:=fun x hx=>by
  have:=List.snd_lt_of_mem_zipIdx hx
  rw [List.length_zipIdx] at hRl
  have:=hRb x hx
  omega
 have HWH:Hid (∀o∈c.ops,∀x∈(regL c).zipIdx,Whl o.m.toNat x.1):=fun o ho x hx=>reg_whl (by omega) ho x.1 (hmem x hx)
 have CUT:Hid (∀w',Below w.heap.size w w'→_):=fun w' h=>cuts_any c oa oc A C w' (H.below h) ⟨p3,p4⟩ p5
 have HSH:Hid (∀T:RVs,T.map Prod.fst=shRows c (regL c).zipIdx→(∀o∈c.ops,(askR o.m.toNat (regL c).zipIdx).length≤32)→∀(w':World) (v:Value) (B:Nat),TR w' B v T→T.length≤135233→Calls Tryz.prog 32 #[v] w' fun e w''=>(∃(s:ByteArray) (er:Nat),e=.returned (.tuple #[.string s,.int .i64 (er:Nat)])∧ShA c (regL c).zipIdx s er∧((er=1∧s=⟨#[]⟩)∨(er=0∧s.size≤65536)∨er=100))∧Below w'.heap.size w' w''):=fun T hT hask w' v B hTR hlen=>by
  obtain ⟨s,er,hS⟩:=sout_ex (shRows c (regL c).zipIdx)
  have hsr:=hTR.sr
  rw [hT] at hsr
  have hll:(shRows c (regL c).zipIdx).length≤135233:=by rw [←hT,List.length_map];omega
  have hrw:=show_rws (c:=c) (R:=(regL c).zipIdx) (n:=c.b.toNat) (by rw [hfst];exact hseg) (by omega) p2 hRi p6
  have hbl:(bodyB (shRows c (regL c).zipIdx).length 0 (shRows c (regL c).zipIdx)).length≤1099511627776:=by
   have h1:=bodyB_le (shRows c (regL c).zipIdx).length (shRows c (regL c).zipIdx).length 0 (shRows c (regL c).zipIdx) (by omega) hrw
   have h2:(shRows c (regL c).zipIdx).length*(4*(shRows c (regL c).zipIdx).length+2000)≤135233*(4*135233+2000):=Nat.mul_le_mul hll (by omega)
   omega
  have hkind:(er=1∧s=⟨#[]⟩)∨(er=0∧s.size≤65536)∨er=100:=by
   rcases hS with ⟨_,_,h⟩ | ⟨_,_,h,h'⟩ | ⟨_,h0,h,h'⟩
   ·exact .inr (.inr h)
   ·exact .inl ⟨h',h⟩
   ·refine .inr (.inl ⟨h',?_⟩)
    rw [h]
    show (List.toArray _).size≤65536
    rw [List.size_toArray]
    exact h0
  refine (rshow_any _ v s er w' w' hsr (Below.refl _ _) (by omega) (RwS.szb hrw) (fun _=>hbl) hS).mono ?_
  rintro e w2 ⟨rfl,hB2⟩
  exact ⟨⟨s,er,rfl,.inr (.inr ⟨hlk,hask,hS⟩),hkind⟩,hB2⟩
 have HO:=hid H
 have HP6:=hid p6
 have HRB:=hid hRb
 have HSEG:Hid (Seg 0 ((regL c).zipIdx.map Prod.fst) c.b.toNat):=by rw [hfst];exact hseg
 have hcap:=H.cap
 obtain ⟨i8,hi8,hz8,hs8,hb8⟩:=info_parts Tryz.info79
 have HI8:=hid hi8
 clear H hRb hRi hseg hfst p6 hmem hi8
 generalize (regL c).zipIdx=R at *
 obtain ⟨q,b,os⟩:=c
 simp only at *
 go_enter Tryz.func16,Tryz.ntmps16
 go_upto_if 25 with (first
  | (go_at_call 23;(with_reducible refine (CHK.out _ (bal (Below.refl _ _) _)).mono ?_);rintro e w1 ⟨rfl,hB1⟩;(have hA1:=btr (bal (Below.refl w.heap.size w) _) hB1);(have b1:=bk_on (bk_new w _ 27) hB1);(have d1:=b1.cell);(have l1:=b1.lt))
  | (go_at_call 30;(with_reducible refine (CUT.out _ hA1).mono ?_);rintro e w2 ⟨v2,rfl,ho2,hB2⟩;(have hA2:=btr hA1 hB2);(have b2:=bk_on b1 hB2);(have d2:=b2.cell);(have l2:=b2.lt)))
 have hO2:w2.ownsRow w.heap.size 81 3 v2 R.length (rgs R):=own_mono ho2 hA1.size
 have HO2:=hid hO2
 have HBK:=hid b2
 have HA2:=hid hA2
 clear hB1 hB2 hA1 hA2 b1 b2 d1 l1 ho2 hO2 CHK CUT
 obtain ⟨ra,rc,rfl⟩:=own_shape HO2.out
 go_cut [7] from 25 to 31 (fun v7 W=>Hid (TR W w.heap.size v7 ((qRows q).map n0))∧Hid (W.ownsRow w.heap.size 81 3 (.slice ra R.length rc) R.length (rgs R))∧Hid (BK W w.heap.size #[.int .i64 q,.int .i64 b,.slice oa os.length oc] 27)∧Hid (Below w.heap.size w W))
 case first=>
  by_cases hq:0<q
  ·have hqr:qRows q=[⟨wQubits,nmQ,[],q,0,0⟩]:=by unfold qRows;rw [if_pos hq]
   have HQR:=hid hqr
   clear hqr
   go_wp2_with (at_builtin;refine Hid.out ?_)
   refine hid ?_
   have h1:=tr_one (w:=w2) (B:=w.heap.size) (r:=⟨wQubits,nmQ,[],q,0,0⟩) (av:=.slice none 0 0) (World.ownsRow_nil _ _ _ _) HA2.out.size
   have hT0:=TR.nil (w2.alloc (.cells #[.string wQubits,.string nmQ,.slice none 0 0,.int .i64 q,.int .i64 0,.int .i64 0] 79)) w.heap.size
   have hB7:=bal HA2.out (.cells #[.string wQubits,.string nmQ,.slice none 0 0,.int .i64 q,.int .i64 0,.int .i64 0] 79)
   have hO7:=own_below HO2.out (bal (Below.refl _ _) (.cells #[.string wQubits,.string nmQ,.slice none 0 0,.int .i64 q,.int .i64 0,.int .i64 0] 79))
   refine wpList_app_rows1 (N:=[(⟨wQubits,nmQ,[],q,0,0⟩,.slice none 0 0)]) rfl _ _ rfl hT0 Nat.one_pos rfl h1 rfl (by show 0+1≤1000000;omega) hB7.size ?_
   intro v9 w9 hT9 hG9
   have hB9:=below_own hB7 hT0.own hG9
   have hO9:=hT0.keepU hG9 hO7 (by decide)
   have hK9:=hT0.keepB hG9 (HBK.out.alloc _) (by decide)
   clear hG9 hT0 hB7 h1 hO7 d2 l2
   go_wp2
   go_meet
   case rel=>exact ⟨by rw [HQR.out];exact hT9,hO9,hK9,hB9⟩
  ·have hqr:qRows q=[]:=by unfold qRows;rw [if_neg hq]
   have HQR:=hid hqr
   clear hqr
   go_wp2
   go_meet
   case rel=>exact ⟨by rw [HQR.out];exact TR.nil _ _,HO2,HBK,HA2⟩
 case rest=>
  clear HO2 HBK HA2 d2 l2
  obtain ⟨HT,HO2,HBK,HA2⟩:=hcut
  go_wp2
  go_loopw [7,8] (fun s7 s8 wx=>∃k:Nat,k≤R.length∧s8=.int .i64 (k:Nat)∧Hid (TR wx w.heap.size s7 ((qRows q++(R.take k).map bitRow).map n0))∧Hid (wx.ownsRow w.heap.size 81 3 (.slice ra R.length rc) R.length (rgs R))∧Hid (BK wx w.heap.size #[.int .i64 q,.int .i64 b,.slice oa os.length oc] 27)∧Hid (Below w.heap.size w wx)) (fun _ s8 _=>R.length-(intOf s8).toNat)
  case atStart=>exact ⟨0,Nat.zero_le _,rfl,by rw [List.take_zero,List.map_nil,List.append_nil];exact HT,HO2,HBK,HA2⟩
  case round=>
   clear HT HO2 HBK HA2
   obtain ⟨k,hk,rfl,HT,HO2,HBK,HA2⟩:=hrel
   by_cases hlt:k<R.length
   case pos=>
    obtain ⟨g,cap,e1,hcap1,hgl,hgB,m0,m1,m2,_⟩:=rg_cells2 HO2.out hlt
    cases e1
    have HTK:=hid (take_bits q R k hlt)
    have hTl:((qRows q++(R.take k).map bitRow).map n0).length≤65:=by
     rw [List.length_map,List.length_append,List.length_map,List.length_take]
     have:(qRows q).length≤1:=by unfold qRows;split;exact Nat.le_refl _;exact Nat.zero_le _
     omega
    generalize (qRows q++(R.take k).map bitRow).map n0=T at *
    generalize R[k]=x at *
    obtain ⟨a7,c7,rfl⟩:=HT.out.shape
    have KEY:Hid (∀(P W':World) (v':Value),P.grownBy W' (Value.slice a7 T.length c7).ownBlock→Below wr.heap.size wr P→W'.ownsRow w.heap.size 79 6 v' (T.length+1) (rz T++rz [n0 (bitRow x)])→Hid (TR W' w.heap.size v' (T++[n0 (bitRow x)]))∧Hid (W'.ownsRow w.heap.size 81 3 (.slice (some ⟨g,0,none⟩) R.length rc) R.length (rgs R))∧Hid (BK W' w.heap.size #[.int .i64 q,.int .i64 b,.slice oa os.length oc] 27)∧Hid (Below w.heap.size w W')):=fun P W' v' hg hb ho=>
     have hT:=HT.out.below hb
     ⟨hT.app hg rfl rfl ho (n0_own (rs:=[bitRow x]) (fun r hr=>by rw [List.mem_singleton] at hr;subst hr;rfl) _ _),hT.keepU hg (own_below HO2.out hb) (by decide),hT.keepB hg (bk_on HBK.out hb) (by decide),below_own (btr HA2.out hb) hT.own hg⟩
    go_wp2
    go_region_law
     ((refine step_own rfl _ _ 22 (by rfl) w.heap.size 79 i8 zRow 6 80 Tryz.underlying22 HI8.out hz8 hs8 hb8 rfl (by decide) _ T.length (rz T) (by rfl) (own_below HT.out.own (by first | exact below_drew (bal (Below.refl _ _) _) | exact bal (below_drew (Below.refl _ _)) _ | exact bal (Below.refl _ _) _)) ⟨_,0,none⟩ 1 1 (rz [n0 (bitRow x)]) (by rfl) rfl (rz_news _ _ (by rfl) (bitRow x) (.slice none 0 0)) (rz_one _ (fun t ht=>by rw [List.mem_singleton] at ht;subst ht;exact ⟨_,_,_,rfl⟩)) (by unfold maxLen;omega) (by omega) (by have:=HA2.out.size;simp;omega) ?_;intro v7 w7 hown7 hgrow7 hloc7;obtain ⟨a7',k7',rfl⟩:=own_shape hown7))
    all_goals
     obtain ⟨k1,k2,k3,k4⟩:=KEY.out _ _ _ hgrow7 (by first | exact below_drew (bal (Below.refl _ _) _) | exact bal (below_drew (Below.refl _ _)) _ | exact bal (Below.refl _ _) _) hown7
     rw [←HTK.out] at k1
     clear hown7 hgrow7 hloc7 KEY
     go_wp2
     exact ⟨⟨k+1,by omega,rfl,k1,k2,k3,k4⟩,by simp only [intOf];omega⟩
   obtain rfl:k=R.length:=by omega
   rw [List.take_length] at HT
   have hdl:((declRows q R).map n0).length≤65:=by
    unfold declRows
    rw [List.length_map,List.length_append,List.length_map]
    split
    ·show 1+_≤_;omega
    ·show 0+_≤_;omega
   have d1:=HBK.out.cell
   have l1:=HBK.out.lt
   go_wp2
   go_loopw [7,9] (fun s7 s9 wx=>∃k:Nat,k≤os.length∧s9=.int .i64 (k:Nat)∧(∃T:RVs,Hid (TR wx w.heap.size s7 T)∧Hid (T.map Prod.fst=declRows q R++(os.take k).flatMap (opRows R))∧T.length≤65+33*k)∧Hid (∀o∈os.take k,(askR o.m.toNat R).length≤32)∧Hid (wx.ownsRow w.heap.size 81 3 (.slice ra R.length rc) R.length (rgs R))∧Hid (BK wx w.heap.size #[.int .i64 q,.int .i64 b,.slice oa os.length oc] 27)∧Hid (Below w.heap.size w wx)) (fun _ s9 _=>os.length-(intOf s9).toNat)
   case atStart=>exact ⟨0,Nat.zero_le _,rfl,⟨(declRows q R).map n0,HT,by rw [List.map_map,List.take_zero,List.flatMap_nil,List.append_nil];exact List.map_id _,by omega⟩,fun o ho=>absurd ho List.not_mem_nil,HO2,HBK,HA2⟩
   case round=>
    clear HO2 HBK HA2 HT d1 l1
    obtain ⟨k,hk,rfl,⟨T,HT,HTM,hTl⟩,HASK,HO2,HBK,HA2⟩:=hrel
    have d1:=HBK.out.cell
    have l1:=HBK.out.lt
    by_cases hlt:k<os.length
    case neg=>
     obtain rfl:k=os.length:=by omega
     have HC:=hid (HSH.out T (by have h:=HTM.out;rw [List.take_length] at h;exact h) (by have h:=HASK.out;rw [List.take_length] at h;exact h) wr _ w.heap.size HT.out (by omega))
     clear HSH
     go_upto_region 20 with (go_at_call 32;(with_reducible refine HC.out.mono ?_);rintro e w4 ⟨⟨s,er,rfl,hso,hkind⟩,hB4⟩)
     have HSO:=hid hso
     rcases hkind with ⟨rfl,rfl⟩ | ⟨rfl,hsz⟩ | rfl
     ·go_wp2
      exact bodyPost_ret (v:=.tuple #[.string ⟨#[]⟩,.int .i64 ((1:Nat):Int)]) (by simp [results,Tryz.results16,go_sem]) rfl ⟨⟨_,1,rfl,HSO.out⟩,btr HA2.out hB4⟩
     ·have hsz2:decide ((65536:Int)<(s.size:Int))=false:=decide_eq_false (by omega)
      go_wp2
      exact bodyPost_ret (v:=.tuple #[.string s,.int .i64 ((0:Nat):Int)]) (by simp [results,Tryz.results16,go_sem]) rfl ⟨⟨_,0,rfl,HSO.out⟩,btr HA2.out hB4⟩
     ·go_wp2
      exact bodyPost_ret (v:=.tuple #[.string s,.int .i64 ((100:Nat):Int)]) (by simp [results,Tryz.results16,go_sem]) rfl ⟨⟨_,100,rfl,HSO.out⟩,btr HA2.out hB4⟩
    obtain ⟨b',o',rfl,r⟩:=(HO.out.below HA2.out).at_ k hlt
    have m0:=r.c0 k hlt
    have m1:=r.c1 k hlt
    have m2:=r.c2 k hlt
    have m3:=r.c3 k hlt
    have m4:=r.c4 k hlt
    have m5:=r.c5 k hlt
    have m6:=r.c6 k hlt
    have hbl:=r.lt
    have HFIT:=hid (HO.out.fit k hlt)
    have HQS:Hid (QS wr (A k) (C k) os[k].qs):=(HO.out.below HA2.out).qs k hlt
    have HOE:=hid (HP6.out _ (List.getElem_mem hlt))
    have HMEM:=hid (List.getElem_mem hlt)
    have HWO:=hid (HWH.out _ (List.getElem_mem hlt))
    have HTK:Hid ((os.take (k+1)).flatMap (opRows R)=(os.take k).flatMap (opRows R)++opRows R os[k]∧∀P:Oq→Prop,(∀o∈os.take k,P o)→P os[k]→∀o∈os.take (k+1),P o):=by
     rw [List.take_succ_eq_append_getElem hlt]
     refine ⟨by rw [List.flatMap_append];show _++(opRows R os[k]++[])=_;rw [List.append_nil],fun P h1 h2 o ho=>?_⟩
     rcases List.mem_append.1 ho with ho | ho
     ·exact h1 o ho
     ·rw [List.mem_singleton] at ho
      subst ho
      exact h2
    clear r
    generalize A k=qa at *
    generalize C k=qc at *
    generalize os[k]=o at *
    have SHN:Hid (Calls Tryz.prog 31 #[opv o qa qc,.slice ra R.length rc] wr fun e w'=>∃(v':Value) (N:RVs),e=.returned v'∧TR w' wr.heap.size v' N∧Hid (N.map Prod.fst=opRows R o)∧Below wr.heap.size wr w'):=by
     refine (rshown_any o qa qc R (.slice ra R.length rc) w.heap.size wr HQS.out (by have:=(ops_q HOE.out).2;omega) HO2.out HRB.out hRl HFIT.out HWO.out (fun h2=>?_)).mono ?_
     ·obtain ⟨h3,h4⟩:=op_bit HOE.out h2
      obtain ⟨bb,hbb⟩:=Int.eq_ofNat_of_zero_le h3
      rw [hbb] at h4
      have hb64:bb<b.toNat:=by omega
      exact ⟨bb,hbb,by omega,bIdx_lt HSEG.out hb64,fun j hj=>bIdx_iff bb _ R 0 HSEG.out (Nat.zero_le _) j hj,op_one HOE.out h2⟩
     ·rintro e w' ⟨v',av,rfl,hT,hB⟩
      refine ⟨v',_,rfl,hT,?_,hB⟩
      show List.map Prod.fst _=_
      rw [List.map_append,List.map_map]
      show List.map id _++[stRow o R]=_
      rw [List.map_id]
      rfl
    obtain ⟨ok,on,oq,ob,of,om,ov⟩:=o
    simp only at *
    obtain ⟨a7,c7,rfl⟩:=HT.out.shape
    go_upto_region 16 with (go_at_call 31;(with_reducible refine SHN.out.mono ?_);rintro e w4 ⟨v4,N,rfl,hT4,hNM,hB4⟩;obtain ⟨a4,c4,rfl⟩:=hT4.shape)
    have hNL:N.length=(askR om.toNat R).length+1:=by
     have h:=congrArg List.length hNM.out
     rw [List.length_map] at h
     rw [h]
     show (ifRows _ (askR om.toNat R)++[_]).length=_
     rw [List.length_append,ifRows_len,List.length_singleton]
    have HNL:=hid hNL
    clear hNL
    by_cases hdeep:(askR om.toNat R).length≤32
    case neg=>
     have hgt:decide ((32:Int)<(N.length:Int)-1)=true:=decide_eq_true (by rw [HNL.out];omega)
     have hNb:N.length≤65:=by
      rw [HNL.out]
      have:(askR om.toNat R).length≤R.length:=List.length_filter_le _ _
      omega
     go_wp2
     exact bodyPost_ret (v:=.tuple #[.string ⟨#[]⟩,.int .i64 ((102:Nat):Int)]) (by simp [results,Tryz.results16,go_sem]) rfl ⟨⟨_,102,rfl,.inr (.inl ⟨hlk,⟨_,HMEM.out,Nat.lt_of_not_le hdeep⟩,rfl,rfl⟩)⟩,btr HA2.out hB4⟩
    have hNb:1≤N.length∧N.length≤33:=by rw [HNL.out];omega
    have hgt:decide ((32:Int)<(N.length:Int)-1)=false:=decide_eq_false (by omega)
    have hA4:=btr HA2.out hB4
    have hT5:=HT.out.below hB4
    have hN5:=hT4.mono HA2.out.size
    have HASK2:=hid (HTK.out.2 (fun o=>(askR o.m.toNat R).length≤32) HASK.out hdeep)
    go_wp2_with (at_builtin;refine Hid.out ?_)
    refine hid ?_
    refine wpList_app_rows1 (N:=N) rfl _ _ rfl hT5 (by omega) rfl hN5 rfl (by omega) hA4.size ?_
    intro v6 w6 hT6 hG6
    have hO6:=hT5.keepU hG6 (own_below HO2.out hB4) (by decide)
    have hK6:=hT5.keepB hG6 (bk_on HBK.out hB4) (by decide)
    have hA6:=below_own hA4 hT5.own hG6
    have hM6:(T++N).map Prod.fst=declRows q R++(os.take (k+1)).flatMap (opRows R):=by
     rw [List.map_append,HTM.out,hNM.out,HTK.out.1,List.append_assoc]
    have hL6:(T++N).length≤65+33*(k+1):=by rw [List.length_append];omega
    clear hT5 hN5 hG6 d1 l1
    go_wp2
    exact ⟨⟨k+1,by omega,rfl,⟨_,hT6,hM6,hL6⟩,HASK2,hO6,hK6,hA6⟩,by simp only [intOf];omega⟩
end Go.Proofs.YtdjfpghgklkejaaGreatDoor
namespace Go.Proofs.YtdjfpghgklkejaaGreatDoor
open Go.RowKit Go.Sort
set_option maxHeartbeats 1000000 in
set_option maxRecDepth 100000 in
theorem shows_any (c:Ci) (oa:Option Addr) (oc:Nat) (A:Nat→Option Addr) (C:Nat→Nat) (w:World) (H:OS w oa oc c.ops A C) (hv:VR w) :
  Calls Tryz.prog 5 #[civ c oa oc] w fun e w'=>e=.returned (.bool true)∧Below w.heap.size w w':=by
 have HO:=hid H
 have HV:Hid (∀w',Below w.heap.size w w'→VR w'):=fun w' h=>hv.below h
 clear H hv
 go_enter Tryz.func5,Tryz.ntmps5
 go_wp2_with (first
  | (go_at_call 9;(with_reducible refine (alive_any _ (HV.out _ (bal (Below.refl _ _) _))).mono ?_);rintro x w1 ⟨rfl,hB1⟩;(have hA1:=btr (bal (Below.refl w.heap.size w) _) hB1);(have b1:=bk_on (bk_new w _ 27) hB1);(have d1:=b1.cell);(have l1:=b1.lt))
  | (go_at_call 16;refine Hid.out ?_))
 refine hid ?_
 refine (flatRShow_all c oa oc A C _ (HO.out.below hA1)).mono ?_
 rintro x w2 ⟨⟨s,er,rfl,hso⟩,hB2⟩
 have hA2:=btr hA1 hB2
 have b2:=bk_on b1 hB2
 have d2:=b2.cell
 have l2:=b2.lt
 have HSO:=hid hso
 clear d1 l1 b1 b2 hso
 go_wp2_with (go_at_call 17;refine Hid.out ?_)
 refine hid ?_
 refine (flatShow_all c oa oc A C _ (HO.out.below hA2) (HV.out _ hA2)).mono ?_
 rintro x w3 ⟨⟨s',er',rfl,hso'⟩,hB3⟩
 obtain ⟨rfl,rfl⟩:=sha_det HSO.out hso'
 clear d2 l2 HSO hso'
 go_wp2
 go_ret
 exact ⟨rfl,btr hA2 hB3⟩
end Go.Proofs.YtdjfpghgklkejaaGreatDoor
