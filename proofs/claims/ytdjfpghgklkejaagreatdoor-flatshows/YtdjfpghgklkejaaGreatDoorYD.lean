/-
  Put together of: HO HP.
-/
import Derived.Test.YtdjfpghgklkejaaGreatDoorYS
import Derived.Test.YtdjfpghgklkejaaGreatDoorXP
namespace Go.Proofs.YtdjfpghgklkejaaGreatDoor
open Go.RowKit Go.Sort
theorem numT_nat (n:Nat):numT (n:Int)=⟨(Lib.decDigits n).toArray⟩:=by
 show ByteArray.mk (Lib.itoa (n:Int)).toArray=_
 rw [itoa_dec (by omega),Int.toNat_natCast]
set_option maxRecDepth 20000 in
set_option maxHeartbeats 1000000 in
theorem rdecimal_one (u:Nat) (w:World) (h:u<10):Calls Tryz.prog 62 #[.int .i64 (u:Nat)] w fun e w'=>e=.returned (.string (numT (u:Int)))∧Below w.heap.size w w':=by
 have hn:numT (u:Int)=⟨#[UInt8.ofNat (48+u)]⟩:=by rw [numT_nat,dec_small u h]
 have hb:((UInt8.ofNat (48+u)).toNat:Int)=48+(u:Int):=by
  have:(UInt8.ofNat (48+u)).toNat=(48+u) % 256:=by simp
  omega
 rw [hn]
 generalize UInt8.ofNat (48+u)=b at *
 have CV':=conv_one (w.alloc (.cells #[.int .u8 (48+(u:Int))] 5)) w.heap.size b (48+(u:Int)) hb (World.cell?_alloc_at _ _ _ _ rfl)
 clear hb hn
 go_enter Tryz.func62,Tryz.ntmps62
 go_wp2
 go_ret
 exact ⟨rfl,bal (Below.refl _ _) _⟩
set_option maxRecDepth 20000 in
set_option maxHeartbeats 1000000 in
theorem rdecimal_any (u:Nat) (w:World) (h:u<100):Calls Tryz.prog 62 #[.int .i64 (u:Nat)] w fun e w'=>e=.returned (.string (numT (u:Int)))∧Below w.heap.size w w':=by
 by_cases h1:u<10
 ·exact rdecimal_one u w h1
 ·have hn:numT (u:Int)=numT ((u / 10:Nat):Int)++numT ((u % 10:Nat):Int):=by
   rw [numT_nat,numT_nat,numT_nat,dec_big u h1,dec_small (u % 10) (by omega),bytes_app]
  have D1:=fun w=>rdecimal_one (u / 10) w (by omega)
  have D2:=fun w=>rdecimal_one (u % 10) w (by omega)
  have e5:(u:Int).tdiv 10=((u / 10:Nat):Int):=by rw [Int.tdiv_eq_ediv_of_nonneg (by omega)];omega
  have e5':(u:Int) / 10=((u / 10:Nat):Int):=by omega
  have e6:(u:Int).tmod 10=((u % 10:Nat):Int):=by rw [Int.tmod_eq_emod_of_nonneg (by omega)];omega
  have e6':(u:Int) % 10=((u % 10:Nat):Int):=by omega
  have l1:(numT ((u / 10:Nat):Int)).size=1:=by rw [numT_nat,dec_small (u / 10) (by omega)];rfl
  have l2:(numT ((u % 10:Nat):Int)).size=1:=by rw [numT_nat,dec_small (u % 10) (by omega)];rfl
  rw [hn]
  generalize numT ((u / 10:Nat):Int)=s1 at *
  generalize numT ((u % 10:Nat):Int)=s2 at *
  generalize u / 10=q1 at *
  generalize u % 10=q2 at *
  clear hn
  go_enter Tryz.func62,Tryz.ntmps62
  go_wp2_with (first
   | (go_at_call 62;(with_reducible refine (D1 _).mono ?_);rintro e w1 ⟨rfl,hB1⟩)
   | (go_at_call 62;(with_reducible refine (D2 _).mono ?_);rintro e w2 ⟨rfl,hB2⟩))
  go_ret
  exact ⟨rfl,btr hB1 hB2⟩
def dif (k:Nat) (o:Oq):Bool:=o.m.toNat.testBit k != o.m.toNat.testBit (k-1)
theorem ed_any (l:List Oq) {k:Nat} (h0:0<k) (h1:k<64):(edN l).testBit k=l.any (dif k):=by
 induction l with
 | nil=>exact Nat.zero_testBit k
 | cons o l ih=>
  have e:edN (o::l)=xeN o.m.toNat|||edN l:=by
   show l.foldl _ (0|||xeN o.m.toNat)=_
   rw [ed_foldl,Nat.zero_or]
  rw [e,Nat.testBit_or,ih,xe_bit h0 h1,List.any_cons]
  rfl
theorem Tryz.info81:(Tryz.prog.info? 81).map (fun i=>(i.zero,i.size,i.bytes))=some (some (.agg #[.string ⟨#[]⟩,.int .i64 0,.int .i64 0]),3,32):=by kernel_rfl
theorem rg_cells2 {W:World} {B T:Nat} {v:Value} {R:List Rg} (h:W.ownsRow B T 3 v R.length (rgs R)) {k:Nat} (hk:k<R.length) :
  ∃g cap,v=.slice (some ⟨g,0,none⟩) R.length cap∧R.length≤cap∧g<W.heap.size∧B≤g∧W.cell? ⟨g,k*3,none⟩=some (.string (nmC R[k].2))∧W.cell? ⟨g,k*3+1,none⟩=some (.int .i64 (R[k].1.1:Nat))∧W.cell? ⟨g,k*3+2,none⟩=some (.int .i64 (R[k].1.2:Nat))∧∀j,W.frozen? ⟨g,j,none⟩=false:=by
 obtain ⟨g,cap,rfl,hc,hf,hcell,hb,hl⟩:=own_at h (by omega)
 obtain ⟨e0,e1,e2⟩:=rgs_at R k hk
 have get:∀j x,(rgs R)[j]?=some x→W.cell? ⟨g,j,none⟩=some x:=fun j x e=>by
  have hj:j<(rgs R).length:=(List.getElem?_eq_some_iff.1 e).1
  rw [List.getElem?_eq_getElem hj] at e
  rw [hcell j hj,Option.some.inj e]
 exact ⟨g,cap,rfl,hc,hl,hb,get _ _ e0,get _ _ e1,get _ _ e2,hf⟩
theorem new_rg2 (w4:World) (x:Rg):∀j u,(rgs [x])[j]?=some u→(w4.alloc (.cells #[.string (nmC x.2),.int .i64 (x.1.1:Nat),.int .i64 (x.1.2:Nat)] 81)).cell? ((⟨w4.heap.size,0,none⟩:Addr).add j)=some u:=by
 intro j u hj
 have hj:(rgc x)[j]?=some u:=hj
 rw [WideShapes.add_plain,Nat.zero_add,(bk_new w4 _ 81).cell j]
 simpa using hj
set_option maxHeartbeats 2000000 in
set_option maxRecDepth 100000 in
theorem cuts_any (c:Ci) (oa:Option Addr) (oc:Nat) (A:Nat→Option Addr) (C:Nat→Nat) (w:World) (H:OS w oa oc c.ops A C) (hb:0≤c.b∧c.b≤64) (hol:c.ops.length≤4096) :
  Calls Tryz.prog 30 #[civ c oa oc] w fun e w'=>∃v',e=.returned v'∧w'.ownsRow w.heap.size 81 3 v' (regL c).zipIdx.length (rgs (regL c).zipIdx)∧Below w.heap.size w w':=by
 obtain ⟨i7,hi7,hz7,hs7,hb7⟩:=info_parts Tryz.info81
 have HI7:=hid hi7
 clear hi7
 have HO:=hid H
 have hcap:=H.cap
 clear H
 obtain ⟨q,b,os⟩:=c
 simp only at *
 obtain ⟨bb,rfl⟩:=Int.eq_ofNat_of_zero_le hb.1
 have hRL:regL ⟨q,(bb:Int),os⟩=cutR (fun i=>(edN os).testBit i) bb:=rfl
 rw [hRL]
 clear hRL
 have HED:=hid (fun k (h0:0<k) (h1:k<64)=>ed_any os h0 h1)
 generalize hE:(fun i=>(edN os).testBit i)=E at *
 have HEQ:=hid hE
 clear hE
 go_enter Tryz.func30,Tryz.ntmps30
 go_wp2
 go_loopw [3,4] (fun s3 s4 wx=>∃k:Nat,k≤bb∧s4=.int .i64 (k:Nat)∧wx.ownsRow w.heap.size 81 3 s3 (cutR E k).zipIdx.length (rgs (cutR E k).zipIdx)∧BK wx w.heap.size #[.int .i64 q,.int .i64 (bb:Int),.slice oa os.length oc] 27∧Below w.heap.size w wx) (fun _ s4 _=>bb-(intOf s4).toNat)
 case atStart=>exact ⟨0,Nat.zero_le _,rfl,World.ownsRow_nil _ _ _ _,bk_new _ _ _,bal (Below.refl _ _) _⟩
 case round=>
  obtain ⟨k,hk,rfl,hown,hbk,hB⟩:=hrel
  have d1:=hbk.cell
  have l1:=hbk.lt
  obtain ⟨a',c',rfl⟩:=own_shape hown
  by_cases hlt:k<bb
  case neg=>
   obtain rfl:k=bb:=by omega
   go_wp2
   go_ret
   exact ⟨_,rfl,hown,hB⟩
  obtain ⟨s1,s2,s3⟩:=cut_ok E k
  have hlen:=seg_len _ _ _ s1
  have HBK:=hid hbk
  clear hbk
  rcases Nat.eq_zero_or_pos k with h0 | h0
  ·subst h0
   have hc0:cutR E 0=[]:=rfl
   have hcu:cutR E (0+1)=[(0,1)]:=rfl
   rw [hc0] at hown
   rw [hc0]
   have HOW:=hid hown
   clear hown s1 s2 s3 hlen hc0
   show Code.wp _ _ _ _ _
   simp only [List.zipIdx_nil,List.length_nil]
   go_wp2
   go_loopw [5,6] (fun s5 s6 wx=>∃i:Nat,i≤os.length∧s6=.int .i64 (i:Nat)∧s5=.bool (true)∧Below wr.heap.size wr wx) (fun _ s6 _=>os.length-(intOf s6).toNat)
   case atStart=>exact ⟨0,Nat.zero_le _,rfl,rfl,Below.refl _ _⟩
   case round=>
    obtain ⟨i,hi,rfl,rfl,hBi⟩:=hrel
    have bk2:=bk_on HBK.out hBi
    have d2:=bk2.cell
    have l2:=bk2.lt
    have hBw:=btr hB hBi
    by_cases hil:i<os.length
    ·obtain ⟨b',o',rfl,r⟩:=(HO.out.below hBw).at_ i hil
     have m5:=r.c5 i hil
     have hbl:=r.lt
     have f0:=(HO.out.fit i hil).m0
     have f1:=(HO.out.fit i hil).m1
     clear r
     generalize os[i]=o at *
     obtain ⟨ok,on,oq,ob,of,om,ov⟩:=o
     simp only at *
     go_wp2
     go_quiet (fail)
     go_wp2
     exact ⟨⟨i+1,by omega,rfl,rfl,below_drewN hBi _⟩,by simp only [intOf];omega⟩
    ·obtain rfl:i=os.length:=by omega
     have HD:Hid (∀w',Calls Tryz.prog 62 #[.int .i64 0] w' fun e w2=>e=.returned (.string (numT 0))∧Below w'.heap.size w' w2):=fun w'=>rdecimal_any 0 w' (by omega)
     have hcat:(⟨#[99]⟩:ByteArray)++numT 0=nmC 0:=nm_cat 0
     have hns:(Lib.itoa 0).length≤21:=Lib.itoa_length_le 0 (by omega) (by omega)
     go_wp2_with (first
      | (go_at_call 62;(with_reducible refine (HD.out _).mono ?_);rintro e w1 ⟨rfl,hB1⟩)
      | (at_builtin;refine Hid.out ?_))
     refine hid ?_
     have hO1:=own_below (own_below (own_below HOW.out hBi) hB1) (bal (Below.refl _ _) (.cells #[.string (nmC 0),.int .i64 ((0:Nat):Int),.int .i64 ((0:Nat):Int)] 81))
     have hA1:=btr hBw hB1
     refine wpList_append_own_at _ rfl _ _ 51 rfl w.heap.size 81 i7 _ 3 32 Tryz.underlying51 HI7.out hz7 hs7 hb7 rfl (by decide) _ _ _ rfl hO1 ⟨_,0,none⟩ 1 1 (rgs [((0,0),0)]) rfl rfl (new_rg2 w1 ((0,0),0)) (rgs_one _) (by unfold maxLen;simp) (by simp) (bal hA1 _).size ?_
     intro v8 w8 hown8 hgrow8 hnil8 hloc8
     have hB8:=below_own (bal hA1 _) hO1 hgrow8
     have h2:=(bk_on bk2 hB1).alloc (.cells #[.string (nmC 0),.int .i64 ((0:Nat):Int),.int .i64 ((0:Nat):Int)] 81)
     have h28:BK w8 w.heap.size _ 27:=(hgrow8.block _ h2.lt (fun e=>own_ne hO1 h2 (by decide) _ e.symm rfl)).trans h2
     have hown9:w8.ownsRow w.heap.size 81 3 v8 [((0,0),0)].length (rgs [((0,0),0)]):=hown8
     obtain ⟨g,cap,rfl,hcap,hgl,hgB,m0,m1,m2,hfz⟩:=rg_cells2 hown9 (k:=0) (by decide)
     have HO9:=hid hown9
     clear hgrow8 hnil8 hloc8 hown8 hown9 d2 l2
     go_wp2
     have hO10:(w8.setCell ⟨g,2,none⟩ (.int .i64 ((1:Nat):Int))).ownsRow w.heap.size 81 3 _ 1 (rgs [((0,1),0)]):=own_setc HO9.out (k:=2) (by decide) (.int .i64 ((1:Nat):Int))
     have hne:some g≠some w.heap.size:=own_ne HO9.out h28 (by decide) g rfl
     exact ⟨⟨1,by omega,rfl,hO10,h28.far (fun e=>hne (by rw [e])) _ _,bset hB8 _ _ _ hgB⟩,by simp only [intOf];omega⟩
  ·obtain ⟨d,r,hdr⟩:∃d r,cutR E k=d++[r]:=by
    cases hlast:(cutR E k).getLast? with
    | none=>exact absurd hlast (s3 h0)
    | some r=>exact ⟨_,r,last_split hlast⟩
   have HNX:Hid (cutR E (k+1)=if (E k || decide (r.2=32))=true then (d++[r])++[(k,1)] else d++[(r.1,r.2+1)]):=by
    show cutR E (k+1)=_
    conv=>lhs;unfold cutR
    rw [hdr,List.getLast?_concat,List.dropLast_concat]
   have HEK:Hid (E k=os.any (dif k)):=by
    show E k=_
    rw [←HEQ.out]
    exact HED.out k h0 (by omega)
   rw [hdr] at hown s1 hlen
   have hrr:=seg_mem _ _ _ s1 r (List.mem_append_right _ (List.mem_singleton.2 rfl))
   rw [List.length_append,List.length_singleton] at hlen
   have hRl:((d++[r]).zipIdx).length=d.length+1:=by rw [List.length_zipIdx,List.length_append,List.length_singleton]
   have hRa:(d++[r]).zipIdx[d.length]'(by omega)=(r,d.length):=by simp
   obtain ⟨g,cap,e1,hcap2,hgl,hgB,m0,m1,m2,hfz⟩:=rg_cells2 hown (k:=d.length) (by omega)
   rw [hRa] at m0 m1 m2
   injection e1 with e1 e2 e3
   subst e1
   subst e3
   have HOW:=hid hown
   rw [hdr]
   clear hown s1 s2 s3 hdr e2 hRa
   generalize hR:(d++[r]).zipIdx=R at *
   have HR:=hid hR
   clear hR
   have hq32:(((r.2:Nat):Int)==32)=decide (r.2=32):=by
    by_cases h:r.2=32
    ·rw [h];rfl
    ·rw [decide_eq_false h,beq_eq_false_iff_ne];omega
   have hk0:(((k:Nat):Int)==0)=false:=by rw [beq_eq_false_iff_ne];omega
   go_wp2
   go_loopw [5,6] (fun s5 s6 wx=>∃i:Nat,i≤os.length∧s6=.int .i64 (i:Nat)∧s5=.bool (decide (r.2=32) || (os.take i).any (dif k))∧Below wr.heap.size wr wx) (fun _ s6 _=>os.length-(intOf s6).toNat)
   case atStart=>exact ⟨0,Nat.zero_le _,rfl,by rw [List.take_zero,List.any_nil,Bool.or_false],Below.refl _ _⟩
   case round=>
    obtain ⟨i,hi,rfl,rfl,hBi⟩:=hrel
    have bk2:=bk_on HBK.out hBi
    have d2:=bk2.cell
    have l2:=bk2.lt
    have hBw:=btr hB hBi
    by_cases hil:i<os.length
    ·obtain ⟨b',o',rfl,r⟩:=(HO.out.below hBw).at_ i hil
     have m5:=r.c5 i hil
     have hbl:=r.lt
     have f0:=(HO.out.fit i hil).m0
     have f1:=(HO.out.fit i hil).m1
     have HTA:Hid ((os.take (i+1)).any (dif k)=((os.take i).any (dif k) || dif k os[i])):=by
      show _=_
      rw [List.take_succ_eq_append_getElem hil,List.any_append,List.any_cons,List.any_nil,Bool.or_false]
     clear r
     generalize os[i]=o at *
     obtain ⟨ok,on,oq,ob,of,om,ov⟩:=o
     simp only at *
     obtain ⟨mm,rfl⟩:=Int.eq_ofNat_of_zero_le f0
     generalize (os.take i).any (dif k)=X at *
     by_cases hX:(decide (r.2=32) || X)=true
     ·rw [hX]
      go_wp2
      go_quiet (fail)
      go_wp2
      exact ⟨⟨i+1,by omega,rfl,by rw [HTA.out,←Bool.or_assoc,hX,Bool.true_or],below_drewN hBi _⟩,by simp only [intOf];omega⟩
     ·rw [Bool.not_eq_true] at hX
      rw [hX]
      have hk1:((k:Nat):Int)-1=((k-1:Nat):Int):=by omega
      have t1:=shr_bit mm k (by omega)
      have t2:=shr_bit mm (k-1) (by omega)
      have hdf:dif k ⟨ok,on,oq,ob,of,(mm:Int),ov⟩=(mm.testBit k != mm.testBit (k-1)):=rfl
      have HDF:=hid hdf
      clear hdf
      generalize k-1=k1 at *
      cases hb1:mm.testBit k <;> cases hb2:mm.testBit k1 <;> rw [hb1] at t1 <;> rw [hb2] at t2 <;> rw [hb1,hb2] at HDF <;> simp only [if_true,if_false,Bool.false_eq_true] at t1 t2
      all_goals
       go_wp2
       go_quiet (fail)
       go_wp2
       exact ⟨⟨i+1,by omega,rfl,by rw [HTA.out,HDF.out,←Bool.or_assoc,hX];rfl,below_drewN hBi _⟩,by simp only [intOf];omega⟩
    ·obtain rfl:i=os.length:=by omega
     rw [List.take_length]
     have hOi:=own_below HOW.out hBi
     rw [hRl] at hOi
     have HOI:=hid hOi
     have HEK2:=HEK.out
     generalize os.any (dif k)=X at *
     by_cases hX:(decide (r.2=32) || X)=true
     ·rw [hX]
      have hN:=HNX.out
      rw [HEK2,Bool.or_comm,if_pos hX] at hN
      have HN:=hid hN
      have HD:Hid (∀w',Calls Tryz.prog 62 #[.int .i64 ((d.length:Int)+1)] w' fun e w2=>e=.returned (.string (numT ((d.length:Int)+1)))∧Below w'.heap.size w' w2):=fun w'=>rdecimal_any (d.length+1) w' (by omega)
      have hcat:(⟨#[99]⟩:ByteArray)++numT ((d.length:Int)+1)=nmC (d.length+1):=nm_cat (d.length+1)
      have hns:(Lib.itoa ((d.length:Int)+1)).length≤21:=Lib.itoa_length_le _ (by omega) (by omega)
      clear m0 m1 m2 hfz hOi hN
      go_wp2_with (first
       | (go_at_call 62;(with_reducible refine (HD.out _).mono ?_);rintro e w1 ⟨rfl,hB1⟩)
       | (at_builtin;refine Hid.out ?_))
      refine hid ?_
      have hO1:=own_below (own_below HOI.out hB1) (bal (Below.refl _ _) (.cells #[.string (nmC (d.length+1)),.int .i64 (k:Nat),.int .i64 ((0:Nat):Int)] 81))
      have hA1:=btr hBw hB1
      refine wpList_append_own_at _ rfl _ _ 51 rfl w.heap.size 81 i7 _ 3 32 Tryz.underlying51 HI7.out hz7 hs7 hb7 rfl (by decide) _ _ _ rfl hO1 ⟨_,0,none⟩ 1 1 (rgs [((k,0),d.length+1)]) rfl rfl (new_rg2 w1 ((k,0),d.length+1)) (rgs_one _) (by unfold maxLen;omega) (by omega) (bal hA1 _).size ?_
      intro v8 w8 hown8 hgrow8 hnil8 hloc8
      have hB8:=below_own (bal hA1 _) hO1 hgrow8
      have h2:=(bk_on bk2 hB1).alloc (.cells #[.string (nmC (d.length+1)),.int .i64 (k:Nat),.int .i64 ((0:Nat):Int)] 81)
      have h28:BK w8 w.heap.size _ 27:=(hgrow8.block _ h2.lt (fun e=>own_ne hO1 h2 (by decide) _ e.symm rfl)).trans h2
      have hl9:(R++[((k,0),d.length+1)]).length=d.length+1+1:=by rw [List.length_append,hRl];rfl
      have hown9:w8.ownsRow w.heap.size 81 3 v8 (R++[((k,0),d.length+1)]).length (rgs (R++[((k,0),d.length+1)])):=by rw [hl9,rgs_app];exact hown8
      obtain ⟨g9,cap9,e9,hcap9,hgl9,hgB9,n0,n1,n2,hfz9⟩:=rg_cells2 hown9 (k:=d.length+1) (by omega)
      have hra9:(R++[((k,0),d.length+1)])[d.length+1]'(by omega)=((k,0),d.length+1):=by rw [List.getElem_append_right (by omega)];simp [hRl]
      rw [hra9] at n0 n1 n2
      rw [hl9] at e9 hcap9
      subst e9
      have HO9:=hid hown9
      have HRA9:=hid hra9
      clear hgrow8 hnil8 hloc8 hown8 hown9 d2 l2
      go_wp2
      have hO9':=HO9.out
      rw [hl9] at hO9'
      have hO10:=own_setc hO9' (k:=(d.length+1)*3+2) (by omega) (.int .i64 ((1:Nat):Int))
      rw [rgs_set _ (d.length+1) (by omega) 1,HRA9.out] at hO10
      have hst:(R++[((k,0),d.length+1)]).set (d.length+1) ((k,1),d.length+1)=R++[((k,1),d.length+1)]:=by
       rw [List.set_append_right _ _ (by omega),hRl,Nat.sub_self]
       rfl
      have hz:((d++[r])++[(k,1)]).zipIdx=R++[((k,1),d.length+1)]:=by rw [zip_put,HR.out,List.length_append,List.length_singleton]
      have hne:some g9≠some w.heap.size:=own_ne HO9.out h28 (by decide) g9 rfl
      refine ⟨⟨k+1,by omega,rfl,?_,h28.far (fun e=>hne (by rw [e])) _ _,bset hB8 _ _ _ hgB9⟩,by simp only [intOf];omega⟩
      rw [HN.out,hz,←hst,List.length_set,hl9]
      exact hO10
     ·have hXf:(decide (r.2=32) || X)=false:=by rwa [Bool.not_eq_true] at hX
      rw [hXf]
      have hN:=HNX.out
      rw [HEK2,Bool.or_comm,if_neg hX] at hN
      have HN:=hid hN
      obtain ⟨g9,cap9,e9,hcap9,hgl9,hgB9,n0,n1,n2,hfz9⟩:=rg_cells2 (R:=R) (by rw [hRl];exact hOi) (k:=d.length) (by omega)
      rw [hRl] at e9
      injection e9 with e9 _ e8
      injection e9 with e9
      injection e9 with e9 _ _
      subst e9
      subst e8
      have hRa:R[d.length]'(by omega)=(r,d.length):=by simp only [←HR.out];simp
      rw [hRa] at n0 n1 n2
      clear m0 m1 m2 hfz hN hOi
      go_wp2
      have hO9:=own_setc HOI.out (k:=d.length*3+2) (by omega) (.int .i64 ((r.2+1:Nat):Int))
      rw [rgs_set R d.length (by omega) (r.2+1),hRa] at hO9
      have hz:(d++[(r.1,r.2+1)]).zipIdx=R.set d.length ((r.1,r.2+1),d.length):=by rw [last_set d r,HR.out]
      have hne:some g≠some w.heap.size:=own_ne HOI.out bk2 (by decide) g rfl
      refine ⟨⟨k+1,by omega,rfl,?_,bk2.far (fun e=>hne (by rw [e])) _ _,bset hBw _ _ _ hgB⟩,by simp only [intOf];omega⟩
      rw [HN.out,hz,List.length_set,hRl]
      exact hO9
end Go.Proofs.YtdjfpghgklkejaaGreatDoor
namespace Go.Proofs.YtdjfpghgklkejaaGreatDoor
open Go.RowKit Go.Sort
def ifZ (v:Nat) (A:List Rg):List Rw:=A.map fun x=>ifRow x v 0
theorem ifZ_len (v:Nat) (A:List Rg):(ifZ v A).length=A.length:=List.length_map _
theorem ifZ_put (v:Nat) (A:List Rg) (x:Rg):ifZ v (A++[x])=ifZ v A++[ifRow x v 0]:=by
 unfold ifZ
 rw [List.map_append]
 rfl
def mixR (v:Nat) (A:List Rg) (i:Nat):RVs:=((ifRows v A).take i++(ifZ v A).drop i).map n0
theorem mixR_zero (v:Nat) (A:List Rg):mixR v A 0=(ifZ v A).map n0:=rfl
theorem mixR_len (v:Nat) (A:List Rg) (i:Nat):(mixR v A i).length=A.length:=by
 unfold mixR
 rw [List.length_map,List.length_append,List.length_take,List.length_drop,ifRows_len,ifZ_len]
 omega
theorem mixR_end (v:Nat) (A:List Rg):mixR v A A.length=(ifRows v A).map n0:=by
 unfold mixR
 rw [List.take_of_length_le (by rw [ifRows_len];exact Nat.le_refl _),List.drop_eq_nil_of_le (by rw [ifZ_len];exact Nat.le_refl _),List.append_nil]
theorem mixR_at (v:Nat) (A:List Rg) (i:Nat) (h:i<A.length):(mixR v A i)[i]'(by rw [mixR_len];exact h)=n0 (ifRow A[i] v 0):=by
 have e:(mixR v A i)[i]?=some (n0 (ifRow A[i] v 0)):=by
  unfold mixR ifZ
  rw [List.getElem?_map,List.getElem?_append_right (by rw [List.length_take];omega),List.length_take,ifRows_len,Nat.min_eq_left (by omega),Nat.sub_self,List.getElem?_drop,Nat.add_zero,List.getElem?_map,List.getElem?_eq_getElem h]
  rfl
 rw [List.getElem?_eq_getElem (by rw [mixR_len];exact h)] at e
 exact Option.some.inj e
theorem mixR_next (v:Nat) (A:List Rg) (i:Nat) (h:i<A.length):mixR v A (i+1)=(mixR v A i).set i (wrow (ifRow A[i] v 0) ((A.length-i:Nat):Int),.slice none 0 0):=by
 unfold mixR
 have hl:i<(ifZ v A).length:=by rw [ifZ_len];exact h
 rw [ifRows_take v A i h,List.drop_eq_getElem_cons hl,List.map_append,List.map_append,List.map_append,List.map_cons,List.set_append_right _ _ (by rw [List.length_map,List.length_take,ifRows_len];omega),List.length_map,List.length_take,ifRows_len,Nat.min_eq_left (by omega),Nat.sub_self,List.append_assoc]
 rfl
theorem part_low (x:Nat) (r:Nat × Nat):(x&&&regM r)>>>r.1=(x>>>r.1)&&&(2 ^ r.2-1):=by
 apply Nat.eq_of_testBit_eq
 intro i
 rw [Nat.testBit_shiftRight,Nat.testBit_and,regM_bit,Nat.testBit_and,Nat.testBit_shiftRight,Nat.testBit_two_pow_sub_one]
 congr 1
 unfold inR
 rw [decide_eq_true (Nat.le_add_right _ _),Bool.true_and]
 exact decide_eq_decide.2 (by omega)
theorem ask_bit {m:Nat} {x:Rg} (h:Whl m x.1) (hz:1≤x.1.2):decide (m&&&regM x.1≠0)=m.testBit x.1.1:=by
 cases e:m.testBit x.1.1 with
 | true=>exact decide_eq_true ((whl_and h hz).2 e)
 | false=>exact decide_eq_false (fun hne=>by rw [(whl_and h hz).1 hne] at e;cases e)
end Go.Proofs.YtdjfpghgklkejaaGreatDoor
