/-
  Put together of: FV.
-/
import Derived.Test.YtdjfpghgklkejaaGreatDoorYO
import Derived.Test.YtdjfpghgklkejaaGreatDoorXV
namespace Go.Proofs.YtdjfpghgklkejaaGreatDoor
open Go.RowKit Go.Sort
theorem km_bk {W W':World} {B mk:Nat} {ov pv ov' pv':Value} {os:List Oq} {vs:List (Option Addr × Nat)} {pls:List Int} {f:Sd} {b:Nat} {cs:Array Value} (h:KMk W W' mk ov pv ov' pv') (H:MK W B mk ov pv os vs pls f) (hb:BK W b cs 113):BK W' b cs 113:=by
 have hne:b≠mk:=fun e=>by
  have h1:=hb
  rw [e] at h1
  have h2:=h1.symm.trans H.box
  injection h2 with h2
  injection h2 with _ h3
  cases h3
 exact (h.block b hb.lt hne (fun e=>own_ne H.ops.own hb (by decide) b e.symm rfl) (fun e=>own_ne H.pl hb (by decide) b e.symm rfl)).trans hb
structure IS (W w:World) (B mk:Nat) (ov pv:Value) (os:List Oq) (pls:List Int) (f:Sd) (Q:List Int) (P:List TO) (ovj pvj:Value) (vsj:List (Option Addr × Nat)) (fj:Sd) (na:Option Addr) (nc:Nat) (on:List Int) (bx:Nat) (cs:Array Value) (f1:Sd) (Lb:List TO) (j:Nat):Prop where
 ls:LS W w B mk ov pv os pls f Q P ovj pvj vsj fj
 qn:QN w mk ovj pvj na nc on
 lt:∀b o,na=some ⟨b,o,none⟩→b<w.heap.size
 bk:BK w bx cs 113
 fa:FA f1 fj Lb
 z:j=0→fj=f1
theorem on_len (Q qs:List Int):(onP Q qs).length=nbq Q.length qs:=by
 unfold onP nbq onQ
 split
 ·rfl
 ·simp
set_option maxHeartbeats 1500000 in
set_option maxRecDepth 100000 in
theorem lay_step {d:Nat} (IH:FLay d):FLay (d+1):=by
 intro W B mk hi n v L qa qc Q ov pv os vs pls f hP hG hQ hQlt hQl H hos
 obtain ⟨a,c,ps,Ls,rfl,hc,h4097,hLs,hcell,hpart,hL,hU⟩:=hP
 have HIH:=hid IH
 have HH:=hid H
 have HQN:=hid hQ
 have HQLT:=hid hQlt
 have HQL:=hid hQl
 have HG:=hid hG
 have HLS:=hid hLs
 have HCELL:=hid hcell
 have HPART:=hid hpart
 have HLE:=hid hL
 have HU:=hid hU
 have HS0:Hid (LS W W B mk ov pv os pls f Q (pre ps Ls 0) ov pv vs f):=⟨by rw [pre_zero];simpa using H,KMk.refl _ _ _ _,by rw [pre_zero];simpa using hos⟩
 clear IH H hQ hQlt hQl hG hLs hcell hpart hL hU hos
 generalize hQQ:(fun e W'=>LayO W W' B mk ov pv os pls f Q L e)=QQ
 have HQQ:=hid hQQ
 clear hQQ
 go_enter Tryz.func56,Tryz.ntmps56
 go_wp2
 go_loopw [12] (fun s wr=>∃(i:Nat) (ovi pvi:Value) (vsi:List (Option Addr × Nat)) (fi:Sd),i≤ps.length∧s=.int .i64 (i:Nat)∧Hid (LS W wr B mk ov pv os pls f Q (pre ps Ls i) ovi pvi vsi fi)∧Hid (FA f fi (pre ps Ls i))) (fun s _=>ps.length-(intOf s).toNat)
 case atStart=>exact ⟨0,ov,pv,vs,f,Nat.zero_le _,rfl,HS0,fun _=>rfl⟩
 case round=>
  obtain ⟨i,ovi,pvi,vsi,fi,hi',rfl,hS,hFA⟩:=hrel
  clear HS0
  by_cases hlt:i<ps.length
  case neg=>
   obtain rfl:i=ps.length:=by omega
   have hs:=hS.out
   have hf:=hFA.out
   rw [pre_all HLS.out,←HLE.out] at hs hf
   have HF:Hid (LayO W wr B mk ov pv os pls f Q L (.returned (.bool true))):=⟨ovi,pvi,hs.km,.inl ⟨hs.len,rfl,vsi,fi,hs.mk_,hf⟩⟩
   clear hs hf
   go_wp2
   rw [←HQQ.out]
   exact HF.out
  have hiL:i<Ls.length:=by rw [HLS.out];exact hlt
  obtain ⟨b,o,ea,hgb,hbl,hcl⟩:=HCELL.out i hlt
  obtain ⟨q1,q2,q3,q4⟩:=HPART.out i hlt hiL
  have HPRE:=hid (pre_succ hlt hiL)
  have HLR0:Hid (∃R,L=pre ps Ls (i+1)++R):=by obtain ⟨R,hR⟩:=pre_cut ps Ls (i+1);exact ⟨R,HLE.out.trans hR⟩
  have FRW:=hS.out.km.fr HH.out
  have hbB:=HG.out b hgb
  have cl:∀j,j<14→wr.cell? ⟨b,o+i*14+j,none⟩=(ppc ps[i])[j]?:=fun j hj=>(FRW.cell hbl (.inl hbB)).trans (hcl i hlt j hj)
  have hbw:b<wr.heap.size:=Nat.lt_of_lt_of_le hbl FRW.size
  have HQ1:=hid q1
  have HQ2:=hid q2
  have HMN:=hid q3
  have HPQ:=hid q4
  have HLT:=hid hlt
  have HI4:Hid (i<4097):=by show i<4097;omega
  subst ea
  clear hcl q1 q2 q3 q4 FRW hgb hbl hbB
  generalize ps[i]=p at *
  generalize Ls[i]=Lb at *
  obtain ⟨⟨sp,sn,sg,sm,sv⟩,pk,pn,pqs,pqa,pqc,pb,pt,pba,pbn,pbc⟩:=p
  have k0:wr.cell? ⟨b,o+i*14,none⟩=some (.int .i64 sp):=cl 0 (by decide)
  have k1:wr.cell? ⟨b,o+i*14+1,none⟩=some (.int .i64 (sn:Nat)):=cl 1 (by decide)
  have k2:wr.cell? ⟨b,o+i*14+2,none⟩=some (.bool sg):=cl 2 (by decide)
  have k3:wr.cell? ⟨b,o+i*14+3,none⟩=some (.int .u64 (sm:Nat)):=cl 3 (by decide)
  have k4:wr.cell? ⟨b,o+i*14+4,none⟩=some (.int .u64 (sv:Nat)):=cl 4 (by decide)
  have k5:wr.cell? ⟨b,o+i*14+5,none⟩=some (.int .i64 pk):=cl 5 (by decide)
  have k6:wr.cell? ⟨b,o+i*14+6,none⟩=some (.string pn):=cl 6 (by decide)
  have k7:wr.cell? ⟨b,o+i*14+7,none⟩=some (.slice pqa pqs.length pqc):=cl 7 (by decide)
  have k8:wr.cell? ⟨b,o+i*14+8,none⟩=some (.int .i64 pb):=cl 8 (by decide)
  have k9:wr.cell? ⟨b,o+i*14+9,none⟩=some (.bool false):=cl 9 (by decide)
  have k10:wr.cell? ⟨b,o+i*14+10,none⟩=some (.int .u64 0):=cl 10 (by decide)
  have k11:wr.cell? ⟨b,o+i*14+11,none⟩=some (.int .u64 0):=cl 11 (by decide)
  have k12:wr.cell? ⟨b,o+i*14+12,none⟩=some (.int .i64 pt):=cl 12 (by decide)
  have k13:wr.cell? ⟨b,o+i*14+13,none⟩=some (.slice pba pbn pbc):=cl 13 (by decide)
  have HPT:Hid (pt≤9223372036854775807):=HPQ.out.2.2.1
  have m1:=hS.out.mk_.box.cell
  have m2:=hS.out.mk_.box.free
  have m3:=hS.out.mk_.box.lt
  clear cl
  cases sg with
  | false=>
   go_upto_region 7 with (fail)
   obtain ⟨bx,hbx⟩:∃bx,bx=wr.heap.size:=⟨_,rfl⟩
   obtain ⟨W1,hW1⟩:∃W1,W1=(wr.setCells mk 2 [.int .i64 sp,.int .i64 (sn:Nat),.bool false,.int .u64 (sm:Nat),.int .u64 (sv:Nat)]).alloc (.cells #[.int .i64 sp,.int .i64 (sn:Nat),.bool false,.int .u64 (sm:Nat),.int .u64 (sv:Nat),.int .i64 pk,.string pn,.slice pqa pqs.length pqc,.int .i64 pb,.bool false,.int .u64 0,.int .u64 0,.int .i64 pt,.slice pba pbn pbc] 113):=⟨_,rfl⟩
   have HS1:Hid (LS W W1 B mk ov pv os pls f Q (pre ps Ls i) ovi pvi vsi ⟨sp,sn,false,sm,sv⟩):=by rw [hW1];exact (hS.out.from_ ⟨sp,sn,false,sm,sv⟩ HPQ.out.2.2.2.2.1).on (bal (Below.refl _ _) _)
   have HBX:Hid (BK W1 bx (ppc ⟨⟨sp,sn,false,sm,sv⟩,pk,pn,pqs,pqa,pqc,pb,pt,pba,pbn,pbc⟩).toArray 113):=by rw [hW1,hbx];exact bk_at _ _ (fr_sets mk _ 2 wr).2.symm
   rw [show (((((wr.setCell ⟨mk,2,none⟩ (.int .i64 sp)).setCell ⟨mk,3,none⟩ (.int .i64 (sn:Nat))).setCell ⟨mk,4,none⟩ (.bool false)).setCell ⟨mk,5,none⟩ (.int .u64 (sm:Nat))).setCell ⟨mk,6,none⟩ (.int .u64 (sv:Nat))).alloc (.cells #[.int .i64 sp,.int .i64 (sn:Nat),.bool false,.int .u64 (sm:Nat),.int .u64 (sv:Nat),.int .i64 pk,.string pn,.slice pqa pqs.length pqc,.int .i64 pb,.bool false,.int .u64 0,.int .u64 0,.int .i64 pt,.slice pba pbn pbc] 113)=W1 from hW1.symm,←hbx]
   clear hW1 hbx k0 k1 k2 k3 k4 k5 k6 k7 k8 k9 k10 k11 k12 k13 m1 m2 m3 hbw
   obtain ⟨f1,hf1⟩:∃f1:Sd,f1=⟨sp,sn,false,sm,sv⟩:=⟨_,rfl⟩
   rw [←hf1] at HS1
   have HF1:Hid (f1=frP fi ⟨⟨sp,sn,false,sm,sv⟩,pk,pn,pqs,pqa,pqc,pb,pt,pba,pbn,pbc⟩):=by rw [hf1];exact rfl
   clear hf1
   have HLR:Hid (∃R2,L=((pre ps Ls i++ownL ⟨⟨sp,sn,false,sm,sv⟩,pk,pn,pqs,pqa,pqc,pb,pt,pba,pbn,pbc⟩)++(List.replicate pt.toNat (Lb.map (subT pqs (stO ⟨sp,sn,false,sm,sv⟩)))).flatten)++R2):=by obtain ⟨R,hR⟩:=HLR0.out;exact ⟨R,by rw [hR,HPRE.out,mean_own]⟩
   have HPN:Hid (pre ps Ls (i+1)=(pre ps Ls i++ownL ⟨⟨sp,sn,false,sm,sv⟩,pk,pn,pqs,pqa,pqc,pb,pt,pba,pbn,pbc⟩)++(List.replicate pt.toNat (Lb.map (subT pqs (stO ⟨sp,sn,false,sm,sv⟩)))).flatten):=HPRE.out.trans (mean_own _ _ _)
   have HFN:Hid (∀fj,FA f1 fj Lb→(pt.toNat=0→fj=f1)→FA f fj (pre ps Ls (i+1))):=fun fj h hz=>by rw [HPRE.out];exact part_fn (p:=⟨⟨sp,sn,false,sm,sv⟩,pk,pn,pqs,pqa,pqc,pb,pt,pba,pbn,pbc⟩) HF1.out hFA.out HMN.out h hz
   have HBE0:Hid (∀on,on=onP Q pqs→∀fj,FA f1 fj Lb→0<pt→Lb.map (opL on fj)=(Lb.map (subT pqs (stO ⟨sp,sn,false,sm,sv⟩))).map (opL Q f)∧Lb.map (plL fj)=(Lb.map (subT pqs (stO ⟨sp,sn,false,sm,sv⟩))).map (plL f)):=fun on hon fj h ht=>by
    obtain ⟨R,hR⟩:=HLR0.out
    rw [HPRE.out] at hR
    rw [hon]
    exact part_be (p:=⟨⟨sp,sn,false,sm,sv⟩,pk,pn,pqs,pqa,pqc,pb,pt,pba,pbn,pbc⟩) (n:=n) HF1.out HU.out hR hFA.out (PLn.fits _ _ _ _ HQ2.out) (PLn.uns HQ2.out) h ht
   have IHX0:Hid (∀(na:Option Addr) (nc:Nat) (on:List Int),on=onP Q pqs→∀(wj:World) (ovj pvj:Value) (vsj:List (Option Addr × Nat)) (fj:Sd) (P':List TO),LS W wj B mk ov pv os pls f Q P' ovj pvj vsj fj→QN wj mk ovj pvj na nc on→(∀b o,na=some ⟨b,o,none⟩→b<wj.heap.size)→Calls Tryz.prog 56 #[.pointer (some ⟨mk,0,none⟩),.slice pba pbn pbc,.slice na on.length nc] wj fun e W'=>LayO wj W' B mk ovj pvj (os++P'.map (opL Q f)) (pls++P'.map (plL f)) fj on Lb e):=fun na nc on hon wj ovj pvj vsj fj P' hl hq hlt=>HIH.out wj B mk hi (nbq n pqs) _ Lb na nc on ovj pvj _ vsj _ fj (PLn.far (hl.km.fr HH.out) (fun b hb=>.inl (HG.out b hb)) _ _ _ _ HQ2.out) HG.out hq hlt (by rw [hon,on_len,HQL.out]) hl.mk_ (by have:=hl.len;simpa using this)
   have HOPX:Hid (pk≠0→sdF f ⟨pk,pn,pqs,pb,stO ⟨sp,sn,false,sm,sv⟩⟩=f1):=fun hk=>by obtain ⟨R,hR⟩:=HLR0.out;rw [HPRE.out] at hR;exact part_op (p:=⟨⟨sp,sn,false,sm,sv⟩,pk,pn,pqs,pqa,pqc,pb,pt,pba,pbn,pbc⟩) HF1.out HU.out hR hFA.out hk
   have HQW:=hid (HQN.out.km HS1.out.km HQLT.out)
   have HQX:Hid (∀b o,qa=some ⟨b,o,none⟩→b<W1.heap.size):=fun b o e=>Nat.lt_of_lt_of_le (HQLT.out b o e) HS1.out.km.size
   have e13:=HBX.out.cell
   have l13:=HBX.out.lt
   clear hS hFA HU HLR0 HPRE HIH HLE HCELL HPART
   by_cases hq:pqs=[]
   ·have hk0:pk=0:=Classical.byContradiction fun h=>(HPQ.out.2.2.2.1 h) hq
    have hpk:(pk != 0)=false:=by rw [hk0];rfl
    have hql:¬(0:Int)<(pqs.length:Int):=by rw [hq];decide
    have hon:Q=onP Q pqs:=by rw [hq];rfl
    have IHX:=hid (IHX0.out qa qc Q hon)
    have HBE:=hid (HBE0.out Q hon)
    have HI0:Hid (IS W W1 B mk ov pv os pls f Q ((pre ps Ls i++ownL ⟨⟨sp,sn,false,sm,sv⟩,pk,pn,pqs,pqa,pqc,pb,pt,pba,pbn,pbc⟩)++(List.replicate 0 (Lb.map (subT pqs (stO ⟨sp,sn,false,sm,sv⟩)))).flatten) ovi pvi vsi f1 qa qc Q bx (ppc ⟨⟨sp,sn,false,sm,sv⟩,pk,pn,pqs,pqa,pqc,pb,pt,pba,pbn,pbc⟩).toArray f1 Lb 0):=⟨by rw [show ownL ⟨⟨sp,sn,false,sm,sv⟩,pk,pn,pqs,pqa,pqc,pb,pt,pba,pbn,pbc⟩=[] from if_neg (by simpa using hk0)];simpa using HS1.out,HQW.out,HQX.out,HBX.out,fun _=>rfl,fun _=>rfl⟩
    clear hq hk0 hon IHX0 HBE0 HS1 HQW HQX HBX
    go_wp2
    go_loopw [50] (fun s wj=>∃(j:Nat) (ovj pvj:Value) (vsj:List (Option Addr × Nat)) (fj:Sd),j≤pt.toNat∧s=.int .i64 (j:Nat)∧Hid (IS W wj B mk ov pv os pls f Q ((pre ps Ls i++ownL ⟨⟨sp,sn,false,sm,sv⟩,pk,pn,pqs,pqa,pqc,pb,pt,pba,pbn,pbc⟩)++(List.replicate j (Lb.map (subT pqs (stO ⟨sp,sn,false,sm,sv⟩)))).flatten) ovj pvj vsj fj qa qc Q bx (ppc ⟨⟨sp,sn,false,sm,sv⟩,pk,pn,pqs,pqa,pqc,pb,pt,pba,pbn,pbc⟩).toArray f1 Lb j)) (fun s _=>pt.toNat-(intOf s).toNat)
    case atStart=>exact ⟨0,ovi,pvi,vsi,f1,Nat.zero_le _,rfl,HI0⟩
    case round=>
     obtain ⟨j,ovj,pvj,vsj,fj,hjt,rfl,hI⟩:=hrel
     clear HI0
     have e13:=hI.out.bk.cell
     have l13:=hI.out.bk.lt
     by_cases hj:j<pt.toNat
     ·have hji:(j:Int)<pt:=by omega
      have hjb:(j:Int)+1≤9223372036854775807:=by have:=HPT.out;omega
      have CB:=IHX.out _ _ _ _ _ _ hI.out.ls hI.out.qn hI.out.lt
      have HHJ:=hid hj
      clear hj
      go_wp2_with (go_at_call 56;refine Hid.out ?_)
      refine hid ?_
      refine CB.mono ?_
      rintro e w9 hlay
      have heq:=HBE.out fj hI.out.fa (by have:=HHJ.out;omega)
      rcases hI.out.ls.body heq hlay with ⟨rfl,ov9,pv9,vs9,f9,h1,h2,h3⟩ | ⟨rfl,h1⟩
      ·have HI9:Hid (IS W w9 B mk ov pv os pls f Q ((pre ps Ls i++ownL ⟨⟨sp,sn,false,sm,sv⟩,pk,pn,pqs,pqa,pqc,pb,pt,pba,pbn,pbc⟩)++(List.replicate (j+1) (Lb.map (subT pqs (stO ⟨sp,sn,false,sm,sv⟩)))).flatten) ov9 pv9 vs9 f9 qa qc Q bx (ppc ⟨⟨sp,sn,false,sm,sv⟩,pk,pn,pqs,pqa,pqc,pb,pt,pba,pbn,pbc⟩).toArray f1 Lb (j+1)):=⟨by rw [rep_succ,←List.append_assoc];exact h1,hI.out.qn.km h3 hI.out.lt,fun b o e=>Nat.lt_of_lt_of_le (hI.out.lt b o e) h3.size,km_bk h3 hI.out.ls.mk_ hI.out.bk,fun h=>(h2 h).trans (hI.out.fa h),fun h=>by cases h⟩
       clear h1 h2 h3 hlay heq CB hI
       go_wp2
       go_round
       case rel=>exact ⟨j+1,ov9,pv9,vs9,f9,by have:=HHJ.out;omega,by go_num,HI9⟩
       case measure=>simp [intOf];have:=HHJ.out;omega
      ·have HF9:Hid (LayO W w9 B mk ov pv os pls f Q L (.returned (.bool false))):=by
        obtain ⟨R1,hR1⟩:=rep_cut (Lb.map (subT pqs (stO ⟨sp,sn,false,sm,sv⟩))) pt.toNat j HHJ.out
        obtain ⟨R2,hR2⟩:=HLR.out
        refine h1 L (R1++R2) ?_
        rw [hR2,hR1]
        simp only [List.append_assoc]
       clear h1 hlay heq CB hI
       go_wp2
       rw [←HQQ.out]
       exact HF9.out
     ·have hji:¬(j:Int)<pt:=by omega
      obtain rfl:j=pt.toNat:=by omega
      have hs2:=hI.out.ls
      rw [show (pre ps Ls i++ownL ⟨⟨sp,sn,false,sm,sv⟩,pk,pn,pqs,pqa,pqc,pb,pt,pba,pbn,pbc⟩)++(List.replicate pt.toNat (Lb.map (subT pqs (stO ⟨sp,sn,false,sm,sv⟩)))).flatten=pre ps Ls (i+1) from HPN.out.symm] at hs2
      have HS2:Hid (LS W wr B mk ov pv os pls f Q (pre ps Ls (i+1)) ovj pvj vsj fj):=hs2
      have HFA2:Hid (FA f fj (pre ps Ls (i+1))):=HFN.out fj hI.out.fa hI.out.z
      clear hs2 hI
      go_wp2
      go_round
      case rel=>exact ⟨i+1,ovj,pvj,vsj,fj,by have:=HLT.out;omega,by go_num,HS2,HFA2⟩
      case measure=>simp [intOf];have:=HLT.out;omega
   ·have hql:(0:Int)<(pqs.length:Int):=by have:=List.length_pos_iff.2 hq;omega
    have hlon:(onQ Q pqs).length=pqs.length:=by unfold onQ;simp
    have hon:onQ Q pqs=onP Q pqs:=by unfold onP;rw [if_neg hq]
    have CH:=chosen_any Q pqs qa pqa qc pqc W1 HQW.out.qs (HQ1.out.far (HS1.out.km.fr HH.out) (fun b hb=>.inl (HG.out b hb))).1 HPQ.out.1 (fun j h=>by have:=HPQ.out.2.2.2.2.2 pqs[j] (List.getElem_mem h);rw [HQL.out];exact this)
    have HW1B:Hid (B≤W1.heap.size):=HS1.out.mk_.hB
    have HQ0:=hid hq
    clear hq
    go_wp2_with (go_at_call 91;(with_reducible refine CH.mono ?_);rintro e w2 ⟨rfl,hB2,hown2⟩;(have HB2:=hid hB2);(have HOW2:=hid (own_mono hown2 HW1B.out));(have HS3:=hid (HS1.out.on hB2));(have HBX2:=hid (bbk HBX.out hB2));(have e14:=HBX2.out.cell);(have l14:=HBX2.out.lt);clear hB2 hown2 e13 l13;refine Hid.out ?_)
    refine hid ?_
    obtain ⟨lbx,hlbx⟩:∃lbx,lbx=W1.heap.size:=⟨_,rfl⟩
    rw [←hlbx] at HOW2 ⊢
    rw [chN_on,←hlon] at HOW2
    have HLO:=hid hlon
    have HQN2:Hid (QN w2 mk ovi pvi (some ⟨lbx,0,none⟩) pqs.length (onQ Q pqs)):=by
     refine ⟨?_,fun b o e=>?_⟩
     ·obtain ⟨a5,c5,e5,h5⟩:=own_qs HOW2.out
      rw [HLO.out] at e5
      cases e5
      exact h5
     ·cases e
      have g1:=HS1.out.mk_.box.lt
      refine ⟨by rw [hlbx];omega,fun e=>?_,fun e=>?_,fun _=>by have:=(HOW2.out.lt lbx rfl).2;exact this⟩
      ·have:=(HS1.out.mk_.ops.own.lt _ e.symm).2;omega
      ·have:=(HS1.out.mk_.pl.lt _ e.symm).2;omega
    have HLX2:Hid (∀b o,(some ⟨lbx,0,none⟩:Option Addr)=some ⟨b,o,none⟩→b<w2.heap.size):=fun b o e=>by cases e;exact (HOW2.out.lt lbx rfl).2
    have IHX:Hid (∀(wj:World) (ovj pvj:Value) (vsj:List (Option Addr × Nat)) (fj:Sd) (P':List TO),LS W wj B mk ov pv os pls f Q P' ovj pvj vsj fj→QN wj mk ovj pvj (some ⟨lbx,0,none⟩) pqs.length (onQ Q pqs)→(∀b o,(some ⟨lbx,0,none⟩:Option Addr)=some ⟨b,o,none⟩→b<wj.heap.size)→Calls Tryz.prog 56 #[.pointer (some ⟨mk,0,none⟩),.slice pba pbn pbc,.slice (some ⟨lbx,0,none⟩) pqs.length pqs.length] wj fun e W'=>LayO wj W' B mk ovj pvj (os++P'.map (opL Q f)) (pls++P'.map (plL f)) fj (onQ Q pqs) Lb e):=by
     have h:=IHX0.out (some ⟨lbx,0,none⟩) pqs.length (onQ Q pqs) hon
     rw [HLO.out] at h
     exact h
    have HBE:=hid (HBE0.out (onQ Q pqs) hon)
    clear hon hlon IHX0 HBE0 CH HQW HQX
    by_cases hk:pk=0
    ·have hpk:(pk != 0)=false:=by rw [hk];rfl
     have HI0:Hid (IS W w2 B mk ov pv os pls f Q ((pre ps Ls i++ownL ⟨⟨sp,sn,false,sm,sv⟩,pk,pn,pqs,pqa,pqc,pb,pt,pba,pbn,pbc⟩)++(List.replicate 0 (Lb.map (subT pqs (stO ⟨sp,sn,false,sm,sv⟩)))).flatten) ovi pvi vsi f1 (some ⟨lbx,0,none⟩) pqs.length (onQ Q pqs) bx (ppc ⟨⟨sp,sn,false,sm,sv⟩,pk,pn,pqs,pqa,pqc,pb,pt,pba,pbn,pbc⟩).toArray f1 Lb 0):=⟨by rw [show ownL ⟨⟨sp,sn,false,sm,sv⟩,pk,pn,pqs,pqa,pqc,pb,pt,pba,pbn,pbc⟩=[] from if_neg (by simpa using hk)];simpa using HS3.out,HQN2.out,HLX2.out,HBX2.out,fun _=>rfl,fun _=>rfl⟩
     clear hk hlbx HS1 HBX
     go_wp2
     go_loopw [50] (fun s wj=>∃(j:Nat) (ovj pvj:Value) (vsj:List (Option Addr × Nat)) (fj:Sd),j≤pt.toNat∧s=.int .i64 (j:Nat)∧Hid (IS W wj B mk ov pv os pls f Q ((pre ps Ls i++ownL ⟨⟨sp,sn,false,sm,sv⟩,pk,pn,pqs,pqa,pqc,pb,pt,pba,pbn,pbc⟩)++(List.replicate j (Lb.map (subT pqs (stO ⟨sp,sn,false,sm,sv⟩)))).flatten) ovj pvj vsj fj (some ⟨lbx,0,none⟩) pqs.length (onQ Q pqs) bx (ppc ⟨⟨sp,sn,false,sm,sv⟩,pk,pn,pqs,pqa,pqc,pb,pt,pba,pbn,pbc⟩).toArray f1 Lb j)) (fun s _=>pt.toNat-(intOf s).toNat)
     case atStart=>exact ⟨0,ovi,pvi,vsi,f1,Nat.zero_le _,rfl,HI0⟩
     case round=>
      obtain ⟨j,ovj,pvj,vsj,fj,hjt,rfl,hI⟩:=hrel
      clear HI0
      have e13:=hI.out.bk.cell
      have l13:=hI.out.bk.lt
      by_cases hj:j<pt.toNat
      ·have hji:(j:Int)<pt:=by omega
       have hjb:(j:Int)+1≤9223372036854775807:=by have:=HPT.out;omega
       have CB:=IHX.out _ _ _ _ _ _ hI.out.ls hI.out.qn hI.out.lt
       have HHJ:=hid hj
       clear hj
       go_wp2_with (go_at_call 56;refine Hid.out ?_)
       refine hid ?_
       refine CB.mono ?_
       rintro e w9 hlay
       have heq:=HBE.out fj hI.out.fa (by have:=HHJ.out;omega)
       rcases hI.out.ls.body heq hlay with ⟨rfl,ov9,pv9,vs9,f9,h1,h2,h3⟩ | ⟨rfl,h1⟩
       ·have HI9:Hid (IS W w9 B mk ov pv os pls f Q ((pre ps Ls i++ownL ⟨⟨sp,sn,false,sm,sv⟩,pk,pn,pqs,pqa,pqc,pb,pt,pba,pbn,pbc⟩)++(List.replicate (j+1) (Lb.map (subT pqs (stO ⟨sp,sn,false,sm,sv⟩)))).flatten) ov9 pv9 vs9 f9 (some ⟨lbx,0,none⟩) pqs.length (onQ Q pqs) bx (ppc ⟨⟨sp,sn,false,sm,sv⟩,pk,pn,pqs,pqa,pqc,pb,pt,pba,pbn,pbc⟩).toArray f1 Lb (j+1)):=⟨by rw [rep_succ,←List.append_assoc];exact h1,hI.out.qn.km h3 hI.out.lt,fun b o e=>Nat.lt_of_lt_of_le (hI.out.lt b o e) h3.size,km_bk h3 hI.out.ls.mk_ hI.out.bk,fun h=>(h2 h).trans (hI.out.fa h),fun h=>by cases h⟩
        clear h1 h2 h3 hlay heq CB hI
        go_wp2
        go_round
        case rel=>exact ⟨j+1,ov9,pv9,vs9,f9,by have:=HHJ.out;omega,by go_num,HI9⟩
        case measure=>simp [intOf];have:=HHJ.out;omega
       ·have HF9:Hid (LayO W w9 B mk ov pv os pls f Q L (.returned (.bool false))):=by
         obtain ⟨R1,hR1⟩:=rep_cut (Lb.map (subT pqs (stO ⟨sp,sn,false,sm,sv⟩))) pt.toNat j HHJ.out
         obtain ⟨R2,hR2⟩:=HLR.out
         refine h1 L (R1++R2) ?_
         rw [hR2,hR1]
         simp only [List.append_assoc]
        clear h1 hlay heq CB hI
        go_wp2
        rw [←HQQ.out]
        exact HF9.out
      ·have hji:¬(j:Int)<pt:=by omega
       obtain rfl:j=pt.toNat:=by omega
       have hs2:=hI.out.ls
       rw [show (pre ps Ls i++ownL ⟨⟨sp,sn,false,sm,sv⟩,pk,pn,pqs,pqa,pqc,pb,pt,pba,pbn,pbc⟩)++(List.replicate pt.toNat (Lb.map (subT pqs (stO ⟨sp,sn,false,sm,sv⟩)))).flatten=pre ps Ls (i+1) from HPN.out.symm] at hs2
       have HS2:Hid (LS W wr B mk ov pv os pls f Q (pre ps Ls (i+1)) ovj pvj vsj fj):=hs2
       have HFA2:Hid (FA f fj (pre ps Ls (i+1))):=HFN.out fj hI.out.fa hI.out.z
       clear hs2 hI
       go_wp2
       go_round
       case rel=>exact ⟨i+1,ovj,pvj,vsj,fj,by have:=HLT.out;omega,by go_num,HS2,HFA2⟩
       case measure=>simp [intOf];have:=HLT.out;omega
    ·have hpk:(pk != 0)=true:=bne_iff_ne.2 hk
     have HOPY:=hid (HOPX.out hk)
     have HOWN:Hid (ownL ⟨⟨sp,sn,false,sm,sv⟩,pk,pn,pqs,pqa,pqc,pb,pt,pba,pbn,pbc⟩=[⟨pk,pn,pqs,pb,stO ⟨sp,sn,false,sm,sv⟩⟩]):=if_pos hk
     have hosl:(os++(pre ps Ls i).map (opL Q f)).length=os.length+(pre ps Ls i).length:=by simp
     have AD:=add_any HS3.out.mk_ pk pn pb pqa pqs.length pqc lbx (onQ Q pqs) _ HOW2.out (fun k h e=>by have hq:=HS1.out.mk_.ops.qs k (by rw [HS1.out.mk_.ops.len];exact h) h;rw [e] at hq;have:=(hq.lt lbx rfl).2;omega) (fun e=>by have:=(HS1.out.mk_.pl.lt _ e.symm).2;omega) HPQ.out.2.1 (by rw [HLO.out];exact HPQ.out.1) (by rw [hosl];exact HS1.out.len)
     rw [HLO.out,hosl] at AD
     clear hlbx hk hosl HS1 HBX HOPX
     by_cases hfull:os.length+(pre ps Ls i).length+1≤4096
     ·rw [decide_eq_true hfull] at AD
      go_wp2_with (go_at_call 92;(with_reducible refine AD.mono ?_);rintro e w3 ⟨rfl,ov3,pv3,hM3,hK3⟩;(have HM3:=hid hM3);(have HK3:=hid hK3);(have HBX3:=hid (km_bk hK3 HS3.out.mk_ HBX2.out));(have e15:=HBX3.out.cell);(have l15:=HBX3.out.lt);clear hM3 hK3 e14 l14;refine Hid.out ?_)
      refine hid ?_
      have HI0:Hid (IS W w3 B mk ov pv os pls f Q ((pre ps Ls i++ownL ⟨⟨sp,sn,false,sm,sv⟩,pk,pn,pqs,pqa,pqc,pb,pt,pba,pbn,pbc⟩)++(List.replicate 0 (Lb.map (subT pqs (stO ⟨sp,sn,false,sm,sv⟩)))).flatten) ov3 pv3 (vsi++[((some ⟨lbx,0,none⟩:Option Addr),pqs.length)]) f1 (some ⟨lbx,0,none⟩) pqs.length (onQ Q pqs) bx (ppc ⟨⟨sp,sn,false,sm,sv⟩,pk,pn,pqs,pqa,pqc,pb,pt,pba,pbn,pbc⟩).toArray f1 Lb 0):=⟨by
       rw [HOWN.out]
       have h:=LS.op (t:=⟨pk,pn,pqs,pb,stO ⟨sp,sn,false,sm,sv⟩⟩) HS3.out HOPY.out HM3.out HK3.out (by rw [List.length_append,List.length_singleton];omega)
       simpa using h,HQN2.out.km HK3.out HLX2.out,fun b o e=>Nat.lt_of_lt_of_le (HLX2.out b o e) HK3.out.size,HBX3.out,fun _=>rfl,fun _=>rfl⟩
      clear hfull AD HS3 HM3 HK3 HQN2 HLX2 HOWN HOPY
      go_wp2
      go_loopw [50] (fun s wj=>∃(j:Nat) (ovj pvj:Value) (vsj:List (Option Addr × Nat)) (fj:Sd),j≤pt.toNat∧s=.int .i64 (j:Nat)∧Hid (IS W wj B mk ov pv os pls f Q ((pre ps Ls i++ownL ⟨⟨sp,sn,false,sm,sv⟩,pk,pn,pqs,pqa,pqc,pb,pt,pba,pbn,pbc⟩)++(List.replicate j (Lb.map (subT pqs (stO ⟨sp,sn,false,sm,sv⟩)))).flatten) ovj pvj vsj fj (some ⟨lbx,0,none⟩) pqs.length (onQ Q pqs) bx (ppc ⟨⟨sp,sn,false,sm,sv⟩,pk,pn,pqs,pqa,pqc,pb,pt,pba,pbn,pbc⟩).toArray f1 Lb j)) (fun s _=>pt.toNat-(intOf s).toNat)
      case atStart=>exact ⟨0,ov3,pv3,(vsi++[((some ⟨lbx,0,none⟩:Option Addr),pqs.length)]),f1,Nat.zero_le _,rfl,HI0⟩
      case round=>
       obtain ⟨j,ovj,pvj,vsj,fj,hjt,rfl,hI⟩:=hrel
       clear HI0
       have e13:=hI.out.bk.cell
       have l13:=hI.out.bk.lt
       by_cases hj:j<pt.toNat
       ·have hji:(j:Int)<pt:=by omega
        have hjb:(j:Int)+1≤9223372036854775807:=by have:=HPT.out;omega
        have CB:=IHX.out _ _ _ _ _ _ hI.out.ls hI.out.qn hI.out.lt
        have HHJ:=hid hj
        clear hj
        go_wp2_with (go_at_call 56;refine Hid.out ?_)
        refine hid ?_
        refine CB.mono ?_
        rintro e w9 hlay
        have heq:=HBE.out fj hI.out.fa (by have:=HHJ.out;omega)
        rcases hI.out.ls.body heq hlay with ⟨rfl,ov9,pv9,vs9,f9,h1,h2,h3⟩ | ⟨rfl,h1⟩
        ·have HI9:Hid (IS W w9 B mk ov pv os pls f Q ((pre ps Ls i++ownL ⟨⟨sp,sn,false,sm,sv⟩,pk,pn,pqs,pqa,pqc,pb,pt,pba,pbn,pbc⟩)++(List.replicate (j+1) (Lb.map (subT pqs (stO ⟨sp,sn,false,sm,sv⟩)))).flatten) ov9 pv9 vs9 f9 (some ⟨lbx,0,none⟩) pqs.length (onQ Q pqs) bx (ppc ⟨⟨sp,sn,false,sm,sv⟩,pk,pn,pqs,pqa,pqc,pb,pt,pba,pbn,pbc⟩).toArray f1 Lb (j+1)):=⟨by rw [rep_succ,←List.append_assoc];exact h1,hI.out.qn.km h3 hI.out.lt,fun b o e=>Nat.lt_of_lt_of_le (hI.out.lt b o e) h3.size,km_bk h3 hI.out.ls.mk_ hI.out.bk,fun h=>(h2 h).trans (hI.out.fa h),fun h=>by cases h⟩
         clear h1 h2 h3 hlay heq CB hI
         go_wp2
         go_round
         case rel=>exact ⟨j+1,ov9,pv9,vs9,f9,by have:=HHJ.out;omega,by go_num,HI9⟩
         case measure=>simp [intOf];have:=HHJ.out;omega
        ·have HF9:Hid (LayO W w9 B mk ov pv os pls f Q L (.returned (.bool false))):=by
          obtain ⟨R1,hR1⟩:=rep_cut (Lb.map (subT pqs (stO ⟨sp,sn,false,sm,sv⟩))) pt.toNat j HHJ.out
          obtain ⟨R2,hR2⟩:=HLR.out
          refine h1 L (R1++R2) ?_
          rw [hR2,hR1]
          simp only [List.append_assoc]
         clear h1 hlay heq CB hI
         go_wp2
         rw [←HQQ.out]
         exact HF9.out
       ·have hji:¬(j:Int)<pt:=by omega
        obtain rfl:j=pt.toNat:=by omega
        have hs2:=hI.out.ls
        rw [show (pre ps Ls i++ownL ⟨⟨sp,sn,false,sm,sv⟩,pk,pn,pqs,pqa,pqc,pb,pt,pba,pbn,pbc⟩)++(List.replicate pt.toNat (Lb.map (subT pqs (stO ⟨sp,sn,false,sm,sv⟩)))).flatten=pre ps Ls (i+1) from HPN.out.symm] at hs2
        have HS2:Hid (LS W wr B mk ov pv os pls f Q (pre ps Ls (i+1)) ovj pvj vsj fj):=hs2
        have HFA2:Hid (FA f fj (pre ps Ls (i+1))):=HFN.out fj hI.out.fa hI.out.z
        clear hs2 hI
        go_wp2
        go_round
        case rel=>exact ⟨i+1,ovj,pvj,vsj,fj,by have:=HLT.out;omega,by go_num,HS2,HFA2⟩
        case measure=>simp [intOf];have:=HLT.out;omega
     ·rw [decide_eq_false hfull] at AD
      go_wp2_with (go_at_call 92;(with_reducible refine AD.mono ?_);rintro e w3 ⟨rfl,ov3,pv3,hM3,hK3⟩;(have HM3:=hid hM3);(have HK3:=hid hK3);clear hM3 hK3 e14 l14)
      rw [←HQQ.out]
      obtain ⟨R2,hR2⟩:=HLR.out
      rw [HOWN.out] at hR2
      exact LS.many (t:=⟨pk,pn,pqs,pb,stO ⟨sp,sn,false,sm,sv⟩⟩) (R:=(List.replicate pt.toNat (Lb.map (subT pqs (stO ⟨sp,sn,false,sm,sv⟩)))).flatten++R2) HS3.out HOPY.out HM3.out HK3.out (by rw [List.length_append,List.length_singleton];omega) (by rw [hR2,List.append_assoc (_++_)])
  | true=>
   go_upto_region 7 with (fail)
   obtain ⟨bx,hbx⟩:∃bx,bx=wr.heap.size:=⟨_,rfl⟩
   obtain ⟨W1,hW1⟩:∃W1,W1=wr.alloc (.cells #[.int .i64 sp,.int .i64 (sn:Nat),.bool true,.int .u64 (sm:Nat),.int .u64 (sv:Nat),.int .i64 pk,.string pn,.slice pqa pqs.length pqc,.int .i64 pb,.bool false,.int .u64 0,.int .u64 0,.int .i64 pt,.slice pba pbn pbc] 113):=⟨_,rfl⟩
   have HS1:Hid (LS W W1 B mk ov pv os pls f Q (pre ps Ls i) ovi pvi vsi fi):=by rw [hW1];exact hS.out.on (bal (Below.refl _ _) _)
   have HBX:Hid (BK W1 bx (ppc ⟨⟨sp,sn,true,sm,sv⟩,pk,pn,pqs,pqa,pqc,pb,pt,pba,pbn,pbc⟩).toArray 113):=by rw [hW1,hbx];exact bk_new _ _ _
   rw [show wr.alloc (.cells #[.int .i64 sp,.int .i64 (sn:Nat),.bool true,.int .u64 (sm:Nat),.int .u64 (sv:Nat),.int .i64 pk,.string pn,.slice pqa pqs.length pqc,.int .i64 pb,.bool false,.int .u64 0,.int .u64 0,.int .i64 pt,.slice pba pbn pbc] 113)=W1 from hW1.symm,←hbx]
   clear hW1 hbx k0 k1 k2 k3 k4 k5 k6 k7 k8 k9 k10 k11 k12 k13 m1 m2 m3 hbw
   obtain ⟨f1,hf1⟩:∃f1:Sd,f1=fi:=⟨_,rfl⟩
   rw [←hf1] at HS1
   have HF1:Hid (f1=frP fi ⟨⟨sp,sn,true,sm,sv⟩,pk,pn,pqs,pqa,pqc,pb,pt,pba,pbn,pbc⟩):=by rw [hf1];exact rfl
   clear hf1
   have HLR:Hid (∃R2,L=((pre ps Ls i++ownL ⟨⟨sp,sn,true,sm,sv⟩,pk,pn,pqs,pqa,pqc,pb,pt,pba,pbn,pbc⟩)++(List.replicate pt.toNat (Lb.map (subT pqs (stO ⟨sp,sn,true,sm,sv⟩)))).flatten)++R2):=by obtain ⟨R,hR⟩:=HLR0.out;exact ⟨R,by rw [hR,HPRE.out,mean_own]⟩
   have HPN:Hid (pre ps Ls (i+1)=(pre ps Ls i++ownL ⟨⟨sp,sn,true,sm,sv⟩,pk,pn,pqs,pqa,pqc,pb,pt,pba,pbn,pbc⟩)++(List.replicate pt.toNat (Lb.map (subT pqs (stO ⟨sp,sn,true,sm,sv⟩)))).flatten):=HPRE.out.trans (mean_own _ _ _)
   have HFN:Hid (∀fj,FA f1 fj Lb→(pt.toNat=0→fj=f1)→FA f fj (pre ps Ls (i+1))):=fun fj h hz=>by rw [HPRE.out];exact part_fn (p:=⟨⟨sp,sn,true,sm,sv⟩,pk,pn,pqs,pqa,pqc,pb,pt,pba,pbn,pbc⟩) HF1.out hFA.out HMN.out h hz
   have HBE0:Hid (∀on,on=onP Q pqs→∀fj,FA f1 fj Lb→0<pt→Lb.map (opL on fj)=(Lb.map (subT pqs (stO ⟨sp,sn,true,sm,sv⟩))).map (opL Q f)∧Lb.map (plL fj)=(Lb.map (subT pqs (stO ⟨sp,sn,true,sm,sv⟩))).map (plL f)):=fun on hon fj h ht=>by
    obtain ⟨R,hR⟩:=HLR0.out
    rw [HPRE.out] at hR
    rw [hon]
    exact part_be (p:=⟨⟨sp,sn,true,sm,sv⟩,pk,pn,pqs,pqa,pqc,pb,pt,pba,pbn,pbc⟩) (n:=n) HF1.out HU.out hR hFA.out (PLn.fits _ _ _ _ HQ2.out) (PLn.uns HQ2.out) h ht
   have IHX0:Hid (∀(na:Option Addr) (nc:Nat) (on:List Int),on=onP Q pqs→∀(wj:World) (ovj pvj:Value) (vsj:List (Option Addr × Nat)) (fj:Sd) (P':List TO),LS W wj B mk ov pv os pls f Q P' ovj pvj vsj fj→QN wj mk ovj pvj na nc on→(∀b o,na=some ⟨b,o,none⟩→b<wj.heap.size)→Calls Tryz.prog 56 #[.pointer (some ⟨mk,0,none⟩),.slice pba pbn pbc,.slice na on.length nc] wj fun e W'=>LayO wj W' B mk ovj pvj (os++P'.map (opL Q f)) (pls++P'.map (plL f)) fj on Lb e):=fun na nc on hon wj ovj pvj vsj fj P' hl hq hlt=>HIH.out wj B mk hi (nbq n pqs) _ Lb na nc on ovj pvj _ vsj _ fj (PLn.far (hl.km.fr HH.out) (fun b hb=>.inl (HG.out b hb)) _ _ _ _ HQ2.out) HG.out hq hlt (by rw [hon,on_len,HQL.out]) hl.mk_ (by have:=hl.len;simpa using this)
   have HOPX:Hid (pk≠0→sdF f ⟨pk,pn,pqs,pb,stO ⟨sp,sn,true,sm,sv⟩⟩=f1):=fun hk=>by obtain ⟨R,hR⟩:=HLR0.out;rw [HPRE.out] at hR;exact part_op (p:=⟨⟨sp,sn,true,sm,sv⟩,pk,pn,pqs,pqa,pqc,pb,pt,pba,pbn,pbc⟩) HF1.out HU.out hR hFA.out hk
   have HQW:=hid (HQN.out.km HS1.out.km HQLT.out)
   have HQX:Hid (∀b o,qa=some ⟨b,o,none⟩→b<W1.heap.size):=fun b o e=>Nat.lt_of_lt_of_le (HQLT.out b o e) HS1.out.km.size
   have e13:=HBX.out.cell
   have l13:=HBX.out.lt
   clear hS hFA HU HLR0 HPRE HIH HLE HCELL HPART
   by_cases hq:pqs=[]
   ·have hk0:pk=0:=Classical.byContradiction fun h=>(HPQ.out.2.2.2.1 h) hq
    have hpk:(pk != 0)=false:=by rw [hk0];rfl
    have hql:¬(0:Int)<(pqs.length:Int):=by rw [hq];decide
    have hon:Q=onP Q pqs:=by rw [hq];rfl
    have IHX:=hid (IHX0.out qa qc Q hon)
    have HBE:=hid (HBE0.out Q hon)
    have HI0:Hid (IS W W1 B mk ov pv os pls f Q ((pre ps Ls i++ownL ⟨⟨sp,sn,true,sm,sv⟩,pk,pn,pqs,pqa,pqc,pb,pt,pba,pbn,pbc⟩)++(List.replicate 0 (Lb.map (subT pqs (stO ⟨sp,sn,true,sm,sv⟩)))).flatten) ovi pvi vsi f1 qa qc Q bx (ppc ⟨⟨sp,sn,true,sm,sv⟩,pk,pn,pqs,pqa,pqc,pb,pt,pba,pbn,pbc⟩).toArray f1 Lb 0):=⟨by rw [show ownL ⟨⟨sp,sn,true,sm,sv⟩,pk,pn,pqs,pqa,pqc,pb,pt,pba,pbn,pbc⟩=[] from if_neg (by simpa using hk0)];simpa using HS1.out,HQW.out,HQX.out,HBX.out,fun _=>rfl,fun _=>rfl⟩
    clear hq hk0 hon IHX0 HBE0 HS1 HQW HQX HBX
    go_wp2
    go_loopw [50] (fun s wj=>∃(j:Nat) (ovj pvj:Value) (vsj:List (Option Addr × Nat)) (fj:Sd),j≤pt.toNat∧s=.int .i64 (j:Nat)∧Hid (IS W wj B mk ov pv os pls f Q ((pre ps Ls i++ownL ⟨⟨sp,sn,true,sm,sv⟩,pk,pn,pqs,pqa,pqc,pb,pt,pba,pbn,pbc⟩)++(List.replicate j (Lb.map (subT pqs (stO ⟨sp,sn,true,sm,sv⟩)))).flatten) ovj pvj vsj fj qa qc Q bx (ppc ⟨⟨sp,sn,true,sm,sv⟩,pk,pn,pqs,pqa,pqc,pb,pt,pba,pbn,pbc⟩).toArray f1 Lb j)) (fun s _=>pt.toNat-(intOf s).toNat)
    case atStart=>exact ⟨0,ovi,pvi,vsi,f1,Nat.zero_le _,rfl,HI0⟩
    case round=>
     obtain ⟨j,ovj,pvj,vsj,fj,hjt,rfl,hI⟩:=hrel
     clear HI0
     have e13:=hI.out.bk.cell
     have l13:=hI.out.bk.lt
     by_cases hj:j<pt.toNat
     ·have hji:(j:Int)<pt:=by omega
      have hjb:(j:Int)+1≤9223372036854775807:=by have:=HPT.out;omega
      have CB:=IHX.out _ _ _ _ _ _ hI.out.ls hI.out.qn hI.out.lt
      have HHJ:=hid hj
      clear hj
      go_wp2_with (go_at_call 56;refine Hid.out ?_)
      refine hid ?_
      refine CB.mono ?_
      rintro e w9 hlay
      have heq:=HBE.out fj hI.out.fa (by have:=HHJ.out;omega)
      rcases hI.out.ls.body heq hlay with ⟨rfl,ov9,pv9,vs9,f9,h1,h2,h3⟩ | ⟨rfl,h1⟩
      ·have HI9:Hid (IS W w9 B mk ov pv os pls f Q ((pre ps Ls i++ownL ⟨⟨sp,sn,true,sm,sv⟩,pk,pn,pqs,pqa,pqc,pb,pt,pba,pbn,pbc⟩)++(List.replicate (j+1) (Lb.map (subT pqs (stO ⟨sp,sn,true,sm,sv⟩)))).flatten) ov9 pv9 vs9 f9 qa qc Q bx (ppc ⟨⟨sp,sn,true,sm,sv⟩,pk,pn,pqs,pqa,pqc,pb,pt,pba,pbn,pbc⟩).toArray f1 Lb (j+1)):=⟨by rw [rep_succ,←List.append_assoc];exact h1,hI.out.qn.km h3 hI.out.lt,fun b o e=>Nat.lt_of_lt_of_le (hI.out.lt b o e) h3.size,km_bk h3 hI.out.ls.mk_ hI.out.bk,fun h=>(h2 h).trans (hI.out.fa h),fun h=>by cases h⟩
       clear h1 h2 h3 hlay heq CB hI
       go_wp2
       go_round
       case rel=>exact ⟨j+1,ov9,pv9,vs9,f9,by have:=HHJ.out;omega,by go_num,HI9⟩
       case measure=>simp [intOf];have:=HHJ.out;omega
      ·have HF9:Hid (LayO W w9 B mk ov pv os pls f Q L (.returned (.bool false))):=by
        obtain ⟨R1,hR1⟩:=rep_cut (Lb.map (subT pqs (stO ⟨sp,sn,true,sm,sv⟩))) pt.toNat j HHJ.out
        obtain ⟨R2,hR2⟩:=HLR.out
        refine h1 L (R1++R2) ?_
        rw [hR2,hR1]
        simp only [List.append_assoc]
       clear h1 hlay heq CB hI
       go_wp2
       rw [←HQQ.out]
       exact HF9.out
     ·have hji:¬(j:Int)<pt:=by omega
      obtain rfl:j=pt.toNat:=by omega
      have hs2:=hI.out.ls
      rw [show (pre ps Ls i++ownL ⟨⟨sp,sn,true,sm,sv⟩,pk,pn,pqs,pqa,pqc,pb,pt,pba,pbn,pbc⟩)++(List.replicate pt.toNat (Lb.map (subT pqs (stO ⟨sp,sn,true,sm,sv⟩)))).flatten=pre ps Ls (i+1) from HPN.out.symm] at hs2
      have HS2:Hid (LS W wr B mk ov pv os pls f Q (pre ps Ls (i+1)) ovj pvj vsj fj):=hs2
      have HFA2:Hid (FA f fj (pre ps Ls (i+1))):=HFN.out fj hI.out.fa hI.out.z
      clear hs2 hI
      go_wp2
      go_round
      case rel=>exact ⟨i+1,ovj,pvj,vsj,fj,by have:=HLT.out;omega,by go_num,HS2,HFA2⟩
      case measure=>simp [intOf];have:=HLT.out;omega
   ·have hql:(0:Int)<(pqs.length:Int):=by have:=List.length_pos_iff.2 hq;omega
    have hlon:(onQ Q pqs).length=pqs.length:=by unfold onQ;simp
    have hon:onQ Q pqs=onP Q pqs:=by unfold onP;rw [if_neg hq]
    have CH:=chosen_any Q pqs qa pqa qc pqc W1 HQW.out.qs (HQ1.out.far (HS1.out.km.fr HH.out) (fun b hb=>.inl (HG.out b hb))).1 HPQ.out.1 (fun j h=>by have:=HPQ.out.2.2.2.2.2 pqs[j] (List.getElem_mem h);rw [HQL.out];exact this)
    have HW1B:Hid (B≤W1.heap.size):=HS1.out.mk_.hB
    have HQ0:=hid hq
    clear hq
    go_wp2_with (go_at_call 91;(with_reducible refine CH.mono ?_);rintro e w2 ⟨rfl,hB2,hown2⟩;(have HB2:=hid hB2);(have HOW2:=hid (own_mono hown2 HW1B.out));(have HS3:=hid (HS1.out.on hB2));(have HBX2:=hid (bbk HBX.out hB2));(have e14:=HBX2.out.cell);(have l14:=HBX2.out.lt);clear hB2 hown2 e13 l13;refine Hid.out ?_)
    refine hid ?_
    obtain ⟨lbx,hlbx⟩:∃lbx,lbx=W1.heap.size:=⟨_,rfl⟩
    rw [←hlbx] at HOW2 ⊢
    rw [chN_on,←hlon] at HOW2
    have HLO:=hid hlon
    have HQN2:Hid (QN w2 mk ovi pvi (some ⟨lbx,0,none⟩) pqs.length (onQ Q pqs)):=by
     refine ⟨?_,fun b o e=>?_⟩
     ·obtain ⟨a5,c5,e5,h5⟩:=own_qs HOW2.out
      rw [HLO.out] at e5
      cases e5
      exact h5
     ·cases e
      have g1:=HS1.out.mk_.box.lt
      refine ⟨by rw [hlbx];omega,fun e=>?_,fun e=>?_,fun _=>by have:=(HOW2.out.lt lbx rfl).2;exact this⟩
      ·have:=(HS1.out.mk_.ops.own.lt _ e.symm).2;omega
      ·have:=(HS1.out.mk_.pl.lt _ e.symm).2;omega
    have HLX2:Hid (∀b o,(some ⟨lbx,0,none⟩:Option Addr)=some ⟨b,o,none⟩→b<w2.heap.size):=fun b o e=>by cases e;exact (HOW2.out.lt lbx rfl).2
    have IHX:Hid (∀(wj:World) (ovj pvj:Value) (vsj:List (Option Addr × Nat)) (fj:Sd) (P':List TO),LS W wj B mk ov pv os pls f Q P' ovj pvj vsj fj→QN wj mk ovj pvj (some ⟨lbx,0,none⟩) pqs.length (onQ Q pqs)→(∀b o,(some ⟨lbx,0,none⟩:Option Addr)=some ⟨b,o,none⟩→b<wj.heap.size)→Calls Tryz.prog 56 #[.pointer (some ⟨mk,0,none⟩),.slice pba pbn pbc,.slice (some ⟨lbx,0,none⟩) pqs.length pqs.length] wj fun e W'=>LayO wj W' B mk ovj pvj (os++P'.map (opL Q f)) (pls++P'.map (plL f)) fj (onQ Q pqs) Lb e):=by
     have h:=IHX0.out (some ⟨lbx,0,none⟩) pqs.length (onQ Q pqs) hon
     rw [HLO.out] at h
     exact h
    have HBE:=hid (HBE0.out (onQ Q pqs) hon)
    clear hon hlon IHX0 HBE0 CH HQW HQX
    by_cases hk:pk=0
    ·have hpk:(pk != 0)=false:=by rw [hk];rfl
     have HI0:Hid (IS W w2 B mk ov pv os pls f Q ((pre ps Ls i++ownL ⟨⟨sp,sn,true,sm,sv⟩,pk,pn,pqs,pqa,pqc,pb,pt,pba,pbn,pbc⟩)++(List.replicate 0 (Lb.map (subT pqs (stO ⟨sp,sn,true,sm,sv⟩)))).flatten) ovi pvi vsi f1 (some ⟨lbx,0,none⟩) pqs.length (onQ Q pqs) bx (ppc ⟨⟨sp,sn,true,sm,sv⟩,pk,pn,pqs,pqa,pqc,pb,pt,pba,pbn,pbc⟩).toArray f1 Lb 0):=⟨by rw [show ownL ⟨⟨sp,sn,true,sm,sv⟩,pk,pn,pqs,pqa,pqc,pb,pt,pba,pbn,pbc⟩=[] from if_neg (by simpa using hk)];simpa using HS3.out,HQN2.out,HLX2.out,HBX2.out,fun _=>rfl,fun _=>rfl⟩
     clear hk hlbx HS1 HBX
     go_wp2
     go_loopw [50] (fun s wj=>∃(j:Nat) (ovj pvj:Value) (vsj:List (Option Addr × Nat)) (fj:Sd),j≤pt.toNat∧s=.int .i64 (j:Nat)∧Hid (IS W wj B mk ov pv os pls f Q ((pre ps Ls i++ownL ⟨⟨sp,sn,true,sm,sv⟩,pk,pn,pqs,pqa,pqc,pb,pt,pba,pbn,pbc⟩)++(List.replicate j (Lb.map (subT pqs (stO ⟨sp,sn,true,sm,sv⟩)))).flatten) ovj pvj vsj fj (some ⟨lbx,0,none⟩) pqs.length (onQ Q pqs) bx (ppc ⟨⟨sp,sn,true,sm,sv⟩,pk,pn,pqs,pqa,pqc,pb,pt,pba,pbn,pbc⟩).toArray f1 Lb j)) (fun s _=>pt.toNat-(intOf s).toNat)
     case atStart=>exact ⟨0,ovi,pvi,vsi,f1,Nat.zero_le _,rfl,HI0⟩
     case round=>
      obtain ⟨j,ovj,pvj,vsj,fj,hjt,rfl,hI⟩:=hrel
      clear HI0
      have e13:=hI.out.bk.cell
      have l13:=hI.out.bk.lt
      by_cases hj:j<pt.toNat
      ·have hji:(j:Int)<pt:=by omega
       have hjb:(j:Int)+1≤9223372036854775807:=by have:=HPT.out;omega
       have CB:=IHX.out _ _ _ _ _ _ hI.out.ls hI.out.qn hI.out.lt
       have HHJ:=hid hj
       clear hj
       go_wp2_with (go_at_call 56;refine Hid.out ?_)
       refine hid ?_
       refine CB.mono ?_
       rintro e w9 hlay
       have heq:=HBE.out fj hI.out.fa (by have:=HHJ.out;omega)
       rcases hI.out.ls.body heq hlay with ⟨rfl,ov9,pv9,vs9,f9,h1,h2,h3⟩ | ⟨rfl,h1⟩
       ·have HI9:Hid (IS W w9 B mk ov pv os pls f Q ((pre ps Ls i++ownL ⟨⟨sp,sn,true,sm,sv⟩,pk,pn,pqs,pqa,pqc,pb,pt,pba,pbn,pbc⟩)++(List.replicate (j+1) (Lb.map (subT pqs (stO ⟨sp,sn,true,sm,sv⟩)))).flatten) ov9 pv9 vs9 f9 (some ⟨lbx,0,none⟩) pqs.length (onQ Q pqs) bx (ppc ⟨⟨sp,sn,true,sm,sv⟩,pk,pn,pqs,pqa,pqc,pb,pt,pba,pbn,pbc⟩).toArray f1 Lb (j+1)):=⟨by rw [rep_succ,←List.append_assoc];exact h1,hI.out.qn.km h3 hI.out.lt,fun b o e=>Nat.lt_of_lt_of_le (hI.out.lt b o e) h3.size,km_bk h3 hI.out.ls.mk_ hI.out.bk,fun h=>(h2 h).trans (hI.out.fa h),fun h=>by cases h⟩
        clear h1 h2 h3 hlay heq CB hI
        go_wp2
        go_round
        case rel=>exact ⟨j+1,ov9,pv9,vs9,f9,by have:=HHJ.out;omega,by go_num,HI9⟩
        case measure=>simp [intOf];have:=HHJ.out;omega
       ·have HF9:Hid (LayO W w9 B mk ov pv os pls f Q L (.returned (.bool false))):=by
         obtain ⟨R1,hR1⟩:=rep_cut (Lb.map (subT pqs (stO ⟨sp,sn,true,sm,sv⟩))) pt.toNat j HHJ.out
         obtain ⟨R2,hR2⟩:=HLR.out
         refine h1 L (R1++R2) ?_
         rw [hR2,hR1]
         simp only [List.append_assoc]
        clear h1 hlay heq CB hI
        go_wp2
        rw [←HQQ.out]
        exact HF9.out
      ·have hji:¬(j:Int)<pt:=by omega
       obtain rfl:j=pt.toNat:=by omega
       have hs2:=hI.out.ls
       rw [show (pre ps Ls i++ownL ⟨⟨sp,sn,true,sm,sv⟩,pk,pn,pqs,pqa,pqc,pb,pt,pba,pbn,pbc⟩)++(List.replicate pt.toNat (Lb.map (subT pqs (stO ⟨sp,sn,true,sm,sv⟩)))).flatten=pre ps Ls (i+1) from HPN.out.symm] at hs2
       have HS2:Hid (LS W wr B mk ov pv os pls f Q (pre ps Ls (i+1)) ovj pvj vsj fj):=hs2
       have HFA2:Hid (FA f fj (pre ps Ls (i+1))):=HFN.out fj hI.out.fa hI.out.z
       clear hs2 hI
       go_wp2
       go_round
       case rel=>exact ⟨i+1,ovj,pvj,vsj,fj,by have:=HLT.out;omega,by go_num,HS2,HFA2⟩
       case measure=>simp [intOf];have:=HLT.out;omega
    ·have hpk:(pk != 0)=true:=bne_iff_ne.2 hk
     have HOPY:=hid (HOPX.out hk)
     have HOWN:Hid (ownL ⟨⟨sp,sn,true,sm,sv⟩,pk,pn,pqs,pqa,pqc,pb,pt,pba,pbn,pbc⟩=[⟨pk,pn,pqs,pb,stO ⟨sp,sn,true,sm,sv⟩⟩]):=if_pos hk
     have hosl:(os++(pre ps Ls i).map (opL Q f)).length=os.length+(pre ps Ls i).length:=by simp
     have AD:=add_any HS3.out.mk_ pk pn pb pqa pqs.length pqc lbx (onQ Q pqs) _ HOW2.out (fun k h e=>by have hq:=HS1.out.mk_.ops.qs k (by rw [HS1.out.mk_.ops.len];exact h) h;rw [e] at hq;have:=(hq.lt lbx rfl).2;omega) (fun e=>by have:=(HS1.out.mk_.pl.lt _ e.symm).2;omega) HPQ.out.2.1 (by rw [HLO.out];exact HPQ.out.1) (by rw [hosl];exact HS1.out.len)
     rw [HLO.out,hosl] at AD
     clear hlbx hk hosl HS1 HBX HOPX
     by_cases hfull:os.length+(pre ps Ls i).length+1≤4096
     ·rw [decide_eq_true hfull] at AD
      go_wp2_with (go_at_call 92;(with_reducible refine AD.mono ?_);rintro e w3 ⟨rfl,ov3,pv3,hM3,hK3⟩;(have HM3:=hid hM3);(have HK3:=hid hK3);(have HBX3:=hid (km_bk hK3 HS3.out.mk_ HBX2.out));(have e15:=HBX3.out.cell);(have l15:=HBX3.out.lt);clear hM3 hK3 e14 l14;refine Hid.out ?_)
      refine hid ?_
      have HI0:Hid (IS W w3 B mk ov pv os pls f Q ((pre ps Ls i++ownL ⟨⟨sp,sn,true,sm,sv⟩,pk,pn,pqs,pqa,pqc,pb,pt,pba,pbn,pbc⟩)++(List.replicate 0 (Lb.map (subT pqs (stO ⟨sp,sn,true,sm,sv⟩)))).flatten) ov3 pv3 (vsi++[((some ⟨lbx,0,none⟩:Option Addr),pqs.length)]) f1 (some ⟨lbx,0,none⟩) pqs.length (onQ Q pqs) bx (ppc ⟨⟨sp,sn,true,sm,sv⟩,pk,pn,pqs,pqa,pqc,pb,pt,pba,pbn,pbc⟩).toArray f1 Lb 0):=⟨by
       rw [HOWN.out]
       have h:=LS.op (t:=⟨pk,pn,pqs,pb,stO ⟨sp,sn,true,sm,sv⟩⟩) HS3.out HOPY.out HM3.out HK3.out (by rw [List.length_append,List.length_singleton];omega)
       simpa using h,HQN2.out.km HK3.out HLX2.out,fun b o e=>Nat.lt_of_lt_of_le (HLX2.out b o e) HK3.out.size,HBX3.out,fun _=>rfl,fun _=>rfl⟩
      clear hfull AD HS3 HM3 HK3 HQN2 HLX2 HOWN HOPY
      go_wp2
      go_loopw [50] (fun s wj=>∃(j:Nat) (ovj pvj:Value) (vsj:List (Option Addr × Nat)) (fj:Sd),j≤pt.toNat∧s=.int .i64 (j:Nat)∧Hid (IS W wj B mk ov pv os pls f Q ((pre ps Ls i++ownL ⟨⟨sp,sn,true,sm,sv⟩,pk,pn,pqs,pqa,pqc,pb,pt,pba,pbn,pbc⟩)++(List.replicate j (Lb.map (subT pqs (stO ⟨sp,sn,true,sm,sv⟩)))).flatten) ovj pvj vsj fj (some ⟨lbx,0,none⟩) pqs.length (onQ Q pqs) bx (ppc ⟨⟨sp,sn,true,sm,sv⟩,pk,pn,pqs,pqa,pqc,pb,pt,pba,pbn,pbc⟩).toArray f1 Lb j)) (fun s _=>pt.toNat-(intOf s).toNat)
      case atStart=>exact ⟨0,ov3,pv3,(vsi++[((some ⟨lbx,0,none⟩:Option Addr),pqs.length)]),f1,Nat.zero_le _,rfl,HI0⟩
      case round=>
       obtain ⟨j,ovj,pvj,vsj,fj,hjt,rfl,hI⟩:=hrel
       clear HI0
       have e13:=hI.out.bk.cell
       have l13:=hI.out.bk.lt
       by_cases hj:j<pt.toNat
       ·have hji:(j:Int)<pt:=by omega
        have hjb:(j:Int)+1≤9223372036854775807:=by have:=HPT.out;omega
        have CB:=IHX.out _ _ _ _ _ _ hI.out.ls hI.out.qn hI.out.lt
        have HHJ:=hid hj
        clear hj
        go_wp2_with (go_at_call 56;refine Hid.out ?_)
        refine hid ?_
        refine CB.mono ?_
        rintro e w9 hlay
        have heq:=HBE.out fj hI.out.fa (by have:=HHJ.out;omega)
        rcases hI.out.ls.body heq hlay with ⟨rfl,ov9,pv9,vs9,f9,h1,h2,h3⟩ | ⟨rfl,h1⟩
        ·have HI9:Hid (IS W w9 B mk ov pv os pls f Q ((pre ps Ls i++ownL ⟨⟨sp,sn,true,sm,sv⟩,pk,pn,pqs,pqa,pqc,pb,pt,pba,pbn,pbc⟩)++(List.replicate (j+1) (Lb.map (subT pqs (stO ⟨sp,sn,true,sm,sv⟩)))).flatten) ov9 pv9 vs9 f9 (some ⟨lbx,0,none⟩) pqs.length (onQ Q pqs) bx (ppc ⟨⟨sp,sn,true,sm,sv⟩,pk,pn,pqs,pqa,pqc,pb,pt,pba,pbn,pbc⟩).toArray f1 Lb (j+1)):=⟨by rw [rep_succ,←List.append_assoc];exact h1,hI.out.qn.km h3 hI.out.lt,fun b o e=>Nat.lt_of_lt_of_le (hI.out.lt b o e) h3.size,km_bk h3 hI.out.ls.mk_ hI.out.bk,fun h=>(h2 h).trans (hI.out.fa h),fun h=>by cases h⟩
         clear h1 h2 h3 hlay heq CB hI
         go_wp2
         go_round
         case rel=>exact ⟨j+1,ov9,pv9,vs9,f9,by have:=HHJ.out;omega,by go_num,HI9⟩
         case measure=>simp [intOf];have:=HHJ.out;omega
        ·have HF9:Hid (LayO W w9 B mk ov pv os pls f Q L (.returned (.bool false))):=by
          obtain ⟨R1,hR1⟩:=rep_cut (Lb.map (subT pqs (stO ⟨sp,sn,true,sm,sv⟩))) pt.toNat j HHJ.out
          obtain ⟨R2,hR2⟩:=HLR.out
          refine h1 L (R1++R2) ?_
          rw [hR2,hR1]
          simp only [List.append_assoc]
         clear h1 hlay heq CB hI
         go_wp2
         rw [←HQQ.out]
         exact HF9.out
       ·have hji:¬(j:Int)<pt:=by omega
        obtain rfl:j=pt.toNat:=by omega
        have hs2:=hI.out.ls
        rw [show (pre ps Ls i++ownL ⟨⟨sp,sn,true,sm,sv⟩,pk,pn,pqs,pqa,pqc,pb,pt,pba,pbn,pbc⟩)++(List.replicate pt.toNat (Lb.map (subT pqs (stO ⟨sp,sn,true,sm,sv⟩)))).flatten=pre ps Ls (i+1) from HPN.out.symm] at hs2
        have HS2:Hid (LS W wr B mk ov pv os pls f Q (pre ps Ls (i+1)) ovj pvj vsj fj):=hs2
        have HFA2:Hid (FA f fj (pre ps Ls (i+1))):=HFN.out fj hI.out.fa hI.out.z
        clear hs2 hI
        go_wp2
        go_round
        case rel=>exact ⟨i+1,ovj,pvj,vsj,fj,by have:=HLT.out;omega,by go_num,HS2,HFA2⟩
        case measure=>simp [intOf];have:=HLT.out;omega
     ·rw [decide_eq_false hfull] at AD
      go_wp2_with (go_at_call 92;(with_reducible refine AD.mono ?_);rintro e w3 ⟨rfl,ov3,pv3,hM3,hK3⟩;(have HM3:=hid hM3);(have HK3:=hid hK3);clear hM3 hK3 e14 l14)
      rw [←HQQ.out]
      obtain ⟨R2,hR2⟩:=HLR.out
      rw [HOWN.out] at hR2
      exact LS.many (t:=⟨pk,pn,pqs,pb,stO ⟨sp,sn,true,sm,sv⟩⟩) (R:=(List.replicate pt.toNat (Lb.map (subT pqs (stO ⟨sp,sn,true,sm,sv⟩)))).flatten++R2) HS3.out HOPY.out HM3.out HK3.out (by rw [List.length_append,List.length_singleton];omega) (by rw [hR2,List.append_assoc (_++_)])
theorem lay_any:∀d,FLay d
 | 0=>lay_base
 | d+1=>lay_step (lay_any d)
end Go.Proofs.YtdjfpghgklkejaaGreatDoor
