/-
  Put together of: HS.
-/
import Derived.Test.YtdjfpghgklkejaaGreatDoorYD
import Derived.Test.YtdjfpghgklkejaaGreatDoorYG
import Derived.BigRegion
namespace Go.Proofs.YtdjfpghgklkejaaGreatDoor
open Go.RowKit Go.Sort
theorem low_val {vv f z y:Nat} (hz:1≤z∧z≤32) (hv:vv<18446744073709551616) (hy:y=(vv>>>f)&&&(2 ^ z-1)):bits .and .u64 ((vv:Int) / 2 ^ f) (IntKind.u64.wrap (IntKind.u64.wrap (IntKind.u64.wrap (2 ^ (z-1))*2)-1))=(y:Int):=by
 have h1:((2:Int) ^ (z-1))=((2 ^ (z-1):Nat):Int):=by simp
 have h2:2 ^ (z-1)*2=2 ^ z:=by rw [←Nat.pow_succ];congr 1;omega
 have h3:2 ^ z≤4294967296:=Nat.pow_le_pow_right (by decide:0<2) hz.2
 have h4:0<2 ^ z:=Nat.two_pow_pos z
 have h5:((vv:Int) / 2 ^ f)=((vv / 2 ^ f:Nat):Int):=by rw [Int.natCast_ediv];simp
 have h6:vv / 2 ^ f<18446744073709551616:=Nat.lt_of_le_of_lt (Nat.div_le_self _ _) hv
 have e1:IntKind.u64.wrap ((2 ^ (z-1):Nat):Int)=((2 ^ (z-1):Nat):Int):=wrapU (by omega) (by omega)
 have e2:((2 ^ (z-1):Nat):Int)*2=((2 ^ z:Nat):Int):=by omega
 have e3:IntKind.u64.wrap ((2 ^ z:Nat):Int)=((2 ^ z:Nat):Int):=wrapU (by omega) (by omega)
 have e4:((2 ^ z:Nat):Int)-1=((2 ^ z-1:Nat):Int):=by omega
 have e5:IntKind.u64.wrap ((2 ^ z-1:Nat):Int)=((2 ^ z-1:Nat):Int):=wrapU (by omega) (by omega)
 rw [h1,e1,e2,e3,e4,e5,h5,u64_and_nat _ _ h6 (by omega),hy,Nat.shiftRight_eq_div_pow]
theorem wpList_app_rows1 {w:World} {ops:Array Oper} {rest:List Oper} {o:Oper} {a:Act} {Q:Exit→Act→World→Prop} (hgd:o.guard=none) (s x:Operand)
  (ho:o.op=.call { callee:=.builtin .append,args:=#[s,x],argTypes:=#[22,22] }) {B:Nat} {v v2:Value} {T N:RVs} (hT:TR w B v T) (h0:0<N.length) (hs:a.eval s=v) (hN:TR w B v2 N) (hx:a.eval x=v2)
  (hl:T.length+N.length≤1000000) (hb:B≤w.heap.size) (h:∀v' w',TR w' B v' (T++N)→w.grownBy w' v.ownBlock→wpList Tryz.prog ops Q rest (a.put o.dst v') w'):wpList Tryz.prog ops Q (o::rest) a w:=by
 obtain ⟨i7,hi7,hz7,hs7,hb7⟩:=info_parts Tryz.info79
 rcases hN.own.2 with ⟨rfl,hn⟩ | ⟨g,cap,cur,rfl,_⟩
 ·exact absurd hn (by omega)
 ·refine wpList_append_own_at w hgd s x 22 ho B 79 i7 _ 6 80 Tryz.underlying22 hi7 hz7 hs7 hb7 rfl (by decide) v T.length (rz T) hs hT.own ⟨g,0,none⟩ N.length cap (rz N) hx (rz_len N) (hN.own.cells (g:=g) rfl) (rz_one N (fun t ht=>by
   obtain ⟨a,c,e⟩:=own_shape (hN.sa t ht)
   exact ⟨a,_,c,e⟩)) (by unfold maxLen;omega) (by omega) hb (fun v' w' h1 h2 _ _=>h v' w' (hT.app h2 rfl rfl h1 hN.sa) h2)
theorem own_off {w:World} {B T c n k:Nat} {v:Value} {xs:List Value} (h:w.ownsRow B T c v n xs) (hk:k<B):some k≠v.ownBlock:=fun e=>by
 rcases h.2 with ⟨rfl,_⟩ | ⟨g,cap,cur,rfl,hb,_⟩
 ·cases e
 ·have e:some k=some g:=e
  have:=Option.some.inj e
  omega
theorem TR.keepA {W W':World} {B b:Nat} {v:Value} {T:RVs} {cs:Array Value} {U:TypeId} (h:TR W B v T) (g:W.grownBy W' v.ownBlock) (hb:BK W b cs U) (hlt:b<B):BK W' b cs U:=
 (g.block _ hb.lt (own_off h.own hlt)).trans hb
theorem TR.keepV {W W':World} {B B' n:Nat} {v x:Value} {T:RVs} {xs:List Value} (h:TR W B v T) (g:W.grownBy W' v.ownBlock) (ho:W.ownsRow B' 100 2 x n xs):W'.ownsRow B' 100 2 x n xs:=own_kept ho g (fun b e e2=>by
 obtain ⟨cs,hb⟩:=own_ty h.own e2.symm
 exact own_ne ho (b:=b) hb (by decide) b e rfl)
abbrev put6 (V:World) (b:Nat) (x0 x1 x2 x3 x4 x5:Value):World:=(((((V.setCell ⟨b,0,none⟩ x0).setCell ⟨b,1,none⟩ x1).setCell ⟨b,2,none⟩ x2).setCell ⟨b,3,none⟩ x3).setCell ⟨b,4,none⟩ x4).setCell ⟨b,5,none⟩ x5
theorem keep6 {V:World} {b:Nat} {cs:Array Value} (h:BK V b cs 79) (P:World→Prop) (hP:∀(W:World) (cs':Array Value) (o:Nat) (x:Value),BK W b cs' 79→P W→P (W.setCell ⟨b,o,none⟩ x)) (hV:P V) (x0 x1 x2 x3 x4 x5:Value):P (put6 V b x0 x1 x2 x3 x4 x5):=
 have h1:=h.set 0 x0
 have h2:=h1.set 1 x1
 have h3:=h2.set 2 x2
 have h4:=h3.set 3 x3
 have h5:=h4.set 4 x4
 hP _ _ 5 _ h5 (hP _ _ 4 _ h4 (hP _ _ 3 _ h3 (hP _ _ 2 _ h2 (hP _ _ 1 _ h1 (hP _ _ 0 _ h hV)))))
theorem row_put {V:World} {b:Nat} {c0 c1 c2 c3 c4 c5:Value} (h:BK V b #[c0,c1,c2,c3,c4,c5] 79) (x0 x1 x2 x3 x4 x5:Value):BK (put6 V b x0 x1 x2 x3 x4 x5) b #[x0,x1,x2,x3,x4,x5] 79:=
 (((((h.set 0 x0).set 1 x1).set 2 x2).set 3 x3).set 4 x4).set 5 x5
theorem own_set {W:World} {B T c n b:Nat} {v:Value} {xs:List Value} (h:W.ownsRow B T c v n xs) (hne:∀g,v.ownBlock=some g→some g≠some b) (o:Nat) (x:Value):(W.setCell ⟨b,o,none⟩ x).ownsRow B T c v n xs:=
 own_kept h (gb_set (gb_refl W b) b o x (.inl rfl)) hne
theorem TR.put {W:World} {B b:Nat} {v:Value} {T:RVs} {cs:Array Value} (h:TR W B v T) (hb:BK W b cs 79) (hlt:b<B) (o:Nat) (x:Value):TR (W.setCell ⟨b,o,none⟩ x) B v T:=
 ⟨own_set h.own (fun g e e2=>own_off h.own hlt (e2.symm.trans e.symm)) o x,fun t ht=>own_set (h.sa t ht) (own_ne (h.sa t ht) hb (by decide)) o x⟩
theorem TR.setr {W:World} {B g n cap kk:Nat} {T:RVs} (h:TR W B (.slice (some ⟨g,0,none⟩) n cap) T) (hn:n=T.length) (hk:kk<T.length) (x:Int) :
  TR (W.setCell ⟨g,kk*6+4,none⟩ (.int .i64 x)) B (.slice (some ⟨g,0,none⟩) n cap) (T.set kk (wrow T[kk].1 x,T[kk].2)):=by
 subst hn
 have ho:=own_setc h.own (k:=kk*6+4) (by omega) (.int .i64 x)
 rw [rz_set T kk hk x] at ho
 obtain ⟨cs,hbk⟩:=own_ty h.own (g:=g) rfl
 refine ⟨by rw [List.length_set];exact ho,fun t ht=>?_⟩
 have key:∀ {x':Value} {n xs},W.ownsRow B 100 2 x' n xs→(W.setCell ⟨g,kk*6+4,none⟩ (.int .i64 x)).ownsRow B 100 2 x' n xs:=fun hx=>own_set hx (own_ne hx (b:=g) hbk (by decide)) _ _
 rcases List.mem_or_eq_of_mem_set ht with ht | rfl
 ·exact key (h.sa t ht)
 ·exact key (h.sa T[kk] (List.getElem_mem hk))
theorem two_args {w:World} {B:Nat} (a b:Ar) (hb:B≤w.heap.size):(w.alloc (.cells #[.string a.n,.int .i64 a.x,.string b.n,.int .i64 b.x] 100)).ownsRow B 100 2 (.slice (some ⟨w.heap.size,0,none⟩) 2 2) [a,b].length (ars [a,b]):=
 ⟨rfl,.inr ⟨w.heap.size,2,_,rfl,hb,heap_alloc_new w _,Nat.le_refl _,by unfold maxLen;omega,rfl,rfl⟩⟩
def rwK (ok:Int) (on:ByteArray) (oq:List Int) (bb:Nat) (R:List Rg) (k:Nat):Rw:=if ok=2∧bIdx bb R<k then ⟨wMeasure,⟨#[]⟩,qArgs oq++[bArg bb R],0,0,0⟩ else ⟨wUse,on,qArgs oq,0,0,0⟩
theorem rwK_same {ok:Int} {on:ByteArray} {oq:List Int} {bb:Nat} {R:List Rg} {k:Nat} (h:¬(ok=2∧k=bIdx bb R)):rwK ok on oq bb R (k+1)=rwK ok on oq bb R k:=by
 unfold rwK
 by_cases h1:ok=2∧bIdx bb R<k
 ·rw [if_pos h1,if_pos ⟨h1.1,by omega⟩]
 ·rw [if_neg h1,if_neg (fun h2=>by
   by_cases h3:bIdx bb R<k
   ·exact h1 ⟨h2.1,h3⟩
   ·exact h ⟨h2.1,by omega⟩)]
set_option maxHeartbeats 4000000 in
set_option maxRecDepth 100000 in
theorem rshown_any (o:Oq) (qa:Option Addr) (qc:Nat) (R:List Rg) (v:Value) (B:Nat) (w:World) (hq:QS w qa qc o.qs) (hql:o.qs.length≤100) (ho:w.ownsRow B 81 3 v R.length (rgs R)) (hR:∀x∈R,x.1.1+x.1.2≤64∧x.1.2≤32∧1≤x.1.2) (hl:R.length≤64) (hfit:Fit o) (hwh:∀x∈R,Whl o.m.toNat x.1) (hk2:o.k=2→∃bb:Nat,o.b=bb∧bb<64∧∃(_:bIdx bb R<R.length),(∀j (hj:j<R.length),(R[j].1.1≤bb∧bb<R[j].1.1+R[j].1.2)↔j=bIdx bb R)∧o.qs.length=1) :
  Calls Tryz.prog 31 #[opv o qa qc,v] w fun e w'=>∃v' av,e=.returned v'∧TR w' w.heap.size v' ((ifRows o.v.toNat (askR o.m.toNat R)).map n0++[(stRow o R,av)])∧Below w.heap.size w w':=by
 obtain ⟨i7,hi7,hz7,hs7,hb7⟩:=info_parts Tryz.info100
 have HI7:=hid hi7
 clear hi7
 obtain ⟨i8,hi8,hz8,hs8,hb8⟩:=info_parts Tryz.info79
 have HI8:=hid hi8
 clear hi8
 have HO:=hid ho
 have HR:=hid hR
 have HQ:=hid hq
 have hcq:=hq.cap
 have HK2:=hid hk2
 have HWH:=hid hwh
 have f0:=hfit.m0
 have f1:=hfit.m1
 have f3:=hfit.v0
 have f4:=hfit.v1
 obtain ⟨a,c,rfl⟩:=own_shape ho
 clear ho hR hq hk2 hwh hfit
 obtain ⟨ok,on,oq,ob,of,om,ov⟩:=o
 simp only at *
 obtain ⟨mm,rfl⟩:=Int.eq_ofNat_of_zero_le f0
 obtain ⟨vv,rfl⟩:=Int.eq_ofNat_of_zero_le f3
 rw [Int.toNat_natCast,Int.toNat_natCast]
 simp only [Int.toNat_natCast] at HWH
 generalize hst:stRow ⟨ok,on,oq,ob,of,(mm:Int),(vv:Int)⟩ R=rw
 have HST:=hid hst
 clear hst
 go_enter Tryz.func31,Tryz.ntmps31
 go_wp2
 go_loopw [7] (fun s7 wx=>∃k:Nat,k≤oq.length∧s7=.int .i64 (k:Nat)∧∃av,wx.ownsRow w.heap.size 100 2 av (qArgs (oq.take k)).length (ars (qArgs (oq.take k)))∧BK wx w.heap.size #[.int .i64 ok,.string on,.slice qa oq.length qc,.int .i64 ob,.bool of,.int .u64 (mm:Int),.int .u64 (vv:Int)] 49∧BK wx (w.heap.size+1) #[.string wUse,.string on,av,.int .i64 0,.int .i64 0,.int .i64 0] 79∧Below w.heap.size w wx) (fun s7 _=>oq.length-(intOf s7).toNat)
 case atStart=>
  have e1:(w.alloc (.cells #[.int .i64 ok,.string on,.slice qa oq.length qc,.int .i64 ob,.bool of,.int .u64 (mm:Int),.int .u64 (vv:Int)] 49)).heap.size=w.heap.size+1:=by simp
  have b2:=bk_new (w.alloc (.cells #[.int .i64 ok,.string on,.slice qa oq.length qc,.int .i64 ob,.bool of,.int .u64 (mm:Int),.int .u64 (vv:Int)] 49)) #[.string wUse,.string on,.slice none 0 0,.int .i64 0,.int .i64 0,.int .i64 0] 79
  rw [e1] at b2
  exact ⟨0,Nat.zero_le _,rfl,.slice none 0 0,World.ownsRow_nil _ _ _ _,(bk_new _ _ _).alloc _,b2,bal (bal (Below.refl _ _) _) _⟩
 case round=>
  obtain ⟨k,hk,rfl,av,hown,hb1,hb2,hB⟩:=hrel
  obtain ⟨a',c',rfl⟩:=own_shape hown
  have d1:=hb1.cell
  have l1:=hb1.lt
  have d2:=hb2.cell
  have f2:=hb2.free
  have l2:=hb2.lt
  have HB1:=hid hb1
  have HB2:=hid hb2
  by_cases hlt:k<oq.length
  ·obtain ⟨bq,off,rfl,r⟩:=(HQ.out.below hB).at_ k hlt
   have m0:=r.c k hlt
   have hbl:=r.lt
   have HTK:=hid (qArgs_take oq k hlt)
   have hLE:(qArgs (oq.take k)).length≤100:=by rw [qArgs_len,List.length_take];omega
   have HOW:=hid hown
   clear hown r hb1 hb2
   generalize oq[k]=q at *
   generalize qArgs (oq.take k)=T at *
   go_wp2
   go_region_law
    ((refine step_own rfl _ _ 77 (by rfl) w.heap.size 100 i7 zArg 2 24 Tryz.underlying77 HI7.out hz7 hs7 hb7 rfl (by decide) _ T.length (ars T) (by rfl) (own_below HOW.out (by first | exact below_drew (bal (Below.refl _ _) _) | exact bal (below_drew (Below.refl _ _)) _ | exact bal (Below.refl _ _) _)) ⟨_,0,none⟩ 1 1 (arc ⟨nmQ,q⟩) (by rfl) rfl (new_arg' _ _ (by rfl) ⟨nmQ,q⟩) (one_arg _) (by unfold maxLen;omega) (by omega) (by simp;omega) ?_;intro v7 w7 hown7 hgrow7 hloc7;obtain ⟨a7,k7,rfl⟩:=own_shape hown7;have c7r:BK w7 (w.heap.size+1) #[.string wUse,.string on,.slice a' T.length c',.int .i64 0,.int .i64 0,.int .i64 0] 79:=(hgrow7.block _ (by simp;omega) (fun e=>own_ne HOW.out HB2.out (by decide) _ e.symm rfl)).trans (by first | exact HB2.out.alloc _ | exact (HB2.out.alloc _).drew | exact HB2.out.drew.alloc _);have c7a:=c7r.cell;have c7f:=c7r.free;have c7l:=c7r.lt))
   all_goals
    have hBa:Below w.heap.size w w7:=by
     first
      | exact below_own (bal hB _) (own_below HOW.out (bal (Below.refl _ _) _)) hgrow7
      | exact below_own (below_drew (bal hB _)) (own_below HOW.out (below_drew (bal (Below.refl _ _) _))) hgrow7
      | exact below_own (bal (below_drew hB) _) (own_below HOW.out (bal (below_drew (Below.refl _ _)) _)) hgrow7
    have hb17:BK w7 w.heap.size #[.int .i64 ok,.string on,.slice (some ⟨bq,off,none⟩) oq.length qc,.int .i64 ob,.bool of,.int .u64 (mm:Int),.int .u64 (vv:Int)] 49:=(hgrow7.block _ (by simp;omega) (fun e=>own_ne HOW.out HB1.out (by decide) _ e.symm rfl)).trans (by first | exact HB1.out.alloc _ | exact (HB1.out.alloc _).drew | exact HB1.out.drew.alloc _)
    have hb18:=hb17.far (c:=w.heap.size+1) (by omega) 2 (.slice a7 (T.length+1) k7)
    have hb28:=c7r.set 2 (.slice a7 (T.length+1) k7)
    have hO8:=own_kept hown7 (gb_set (gb_refl w7 (w.heap.size+1)) (w.heap.size+1) 2 (.slice a7 (T.length+1) k7) (.inl rfl)) (own_ne hown7 c7r (by decide))
    have hB8:=bset hBa (w.heap.size+1) 2 (.slice a7 (T.length+1) k7) (by omega)
    clear hBa hb17 c7r c7a c7f c7l hown7 hgrow7 hloc7 d1 l1 d2 f2 l2
    go_wp2
    refine ⟨⟨k+1,by omega,rfl,.slice a7 (T.length+1) k7,?_,hb18,hb28,hB8⟩,by simp only [intOf];omega⟩
    rw [HTK.out,ars_put,List.length_append]
    exact hO8
  ·obtain rfl:k=oq.length:=by omega
   rw [List.take_length] at hown
   obtain ⟨bb,hbb⟩:∃bb:Nat,ok=2→ob=bb∧bb<64∧∃(_:bIdx bb R<R.length),(∀j (hj:j<R.length),(R[j].1.1≤bb∧bb<R[j].1.1+R[j].1.2)↔j=bIdx bb R)∧oq.length=1:=by
    by_cases h2:ok=2
    ·obtain ⟨bb,h⟩:=HK2.out h2
     exact ⟨bb,fun _=>h⟩
    ·exact ⟨0,fun h=>absurd h h2⟩
   have HBB:=hid hbb
   have hrw0:rwK ok on oq bb R 0=⟨wUse,on,qArgs oq,0,0,0⟩:=by unfold rwK;rw [if_neg (fun h=>absurd h.2 (Nat.not_lt_zero _))]
   clear hbb HK2 hb1 hb2
   go_wp2
   clear d1 l1 d2 f2 l2
   go_loopw [5,8] (fun s5 s8 wx=>∃k:Nat,k≤R.length∧s8=.int .i64 (k:Nat)∧Hid (TR wx (w.heap.size+2) s5 ((ifZ vv (askR mm (R.take k))).map n0))∧(∃av,Hid (wx.ownsRow w.heap.size 100 2 av (rwK ok on oq bb R k).args.length (ars (rwK ok on oq bb R k).args))∧Hid (BK wx (w.heap.size+1) #[.string (rwK ok on oq bb R k).kind,.string (rwK ok on oq bb R k).name,av,.int .i64 0,.int .i64 0,.int .i64 0] 79))∧Hid (BK wx w.heap.size #[.int .i64 ok,.string on,.slice qa oq.length qc,.int .i64 ob,.bool of,.int .u64 (mm:Int),.int .u64 (vv:Int)] 49)∧Hid (Below w.heap.size w wx)) (fun _ s8 _=>R.length-(intOf s8).toNat)
   case atStart=>exact ⟨0,Nat.zero_le _,rfl,TR.nil _ _,⟨.slice a' (qArgs (oq.take oq.length)).length c',by rw [hrw0,List.take_length];exact hown,by rw [hrw0];exact HB2.out⟩,HB1.out,hB⟩
   case round=>
    clear hown HB1 HB2 hrw0 hB
    obtain ⟨k,hk,rfl,HT,⟨av,HAV,HB2⟩,HB1,HB⟩:=hrel
    obtain ⟨a5,c5,rfl⟩:=HT.out.shape
    obtain ⟨a9,c9,rfl⟩:=own_shape HAV.out
    have d1:=HB1.out.cell
    have l1:=HB1.out.lt
    by_cases hlt:k<R.length
    ·obtain ⟨g,cap,e1,hcap,hgw,hgB,n0w,n1w,n2w,_⟩:=rg_cells2 HO.out hlt
     cases e1
     have HRG:Hid (∀W,Below w.heap.size w W→_∧_∧_∧g<W.heap.size):=fun W h=>⟨(h.cell (p:=⟨g,k*3,none⟩) hgw).trans n0w,(h.cell (p:=⟨g,k*3+1,none⟩) hgw).trans n1w,(h.cell (p:=⟨g,k*3+2,none⟩) hgw).trans n2w,Nat.lt_of_lt_of_le hgw h.size⟩
     clear n0w n1w n2w
     obtain ⟨m0,m1,m2,hgl⟩:=HRG.out _ HB.out
     have hzb:=HR.out _ (List.getElem_mem hlt)
     have HAB:=hid (ask_bit (HWH.out _ (List.getElem_mem hlt)) hzb.2.2)
     have HTK:Hid (askR mm (R.take (k+1))=askR mm (R.take k)++askR mm [R[k]]):=by
      rw [List.take_succ_eq_append_getElem hlt]
      exact askR_app ..
     have HSQ:Hid (ok=2→((R[k].1.1≤bb∧bb<R[k].1.1+R[k].1.2)↔k=bIdx bb R)):=fun h2=>(HBB.out h2).2.2.2.1 k hlt
     have HAG:Hid (k=bIdx bb R→bArg bb R=⟨nmC R[k].2,(bb:Int)-R[k].1.1⟩):=fun e=>by
      have h:=(bIdx_at bb R (by omega)).2
      simp only [←e] at h
      exact h
     generalize R[k]=x at *
     have t1:=shr_bit mm x.1.1 (by omega)
     have hTl:((ifZ vv (askR mm (R.take k))).map n0).length≤64:=by
      rw [List.length_map,ifZ_len]
      exact Nat.le_trans (List.length_filter_le _ _) (by rw [List.length_take];omega)
     generalize askR mm (R.take k)=AK at *
     obtain ⟨AK1,hAK1⟩:∃AK1,AK1=askR mm (R.take (k+1)):=⟨_,rfl⟩
     rw [←hAK1] at HTK
     obtain ⟨y,hy⟩:∃y,y=(vv&&&regM x.1)>>>x.1.1:=⟨_,rfl⟩
     have hyl:y<4294967296:=by rw [hy];exact Nat.lt_of_lt_of_le (part_lt vv x.1) (Nat.pow_le_pow_right (by decide:0<2) hzb.2.1)
     have hlo:=part_low vv x.1
     rw [←hy] at hlo
     have hlv:=low_val ⟨hzb.2.2,hzb.2.1⟩ (by omega) hlo
     have HZY:Hid (mm.testBit x.1.1=true→(ifZ vv AK1).map n0=(ifZ vv AK).map n0++[n0 ⟨wIf,nmC x.2,[],(y:Int),0,0⟩]):=fun htb=>by
      have hyes:askR mm [x]=[x]:=by unfold askR;rw [List.filter_cons,if_pos (by rw [HAB.out,htb])];rfl
      rw [HTK.out,hyes,ifZ_put,List.map_append,hy]
      rfl
     have HZN:Hid (mm.testBit x.1.1=false→(ifZ vv AK1).map n0=(ifZ vv AK).map n0):=fun htb=>by
      have hno:askR mm [x]=[]:=by unfold askR;rw [List.filter_cons,if_neg (by rw [HAB.out,htb];decide)];rfl
      rw [HTK.out,hno,List.append_nil]
     clear hlo hy HTK HAB
     generalize (ifZ vv AK).map n0=IZ at *
     obtain ⟨IZ1,hIZ1⟩:∃IZ1,IZ1=(ifZ vv AK1).map n0:=⟨_,rfl⟩
     rw [←hIZ1] at HZY HZN
     rw [hAK1] at hIZ1
     have HIZ1:=hid hIZ1
     clear hIZ1 hAK1
     go_wp2
     go_quiet (fail)
     go_upto_if 47 with (fail)
     go_cut [5,9] from 45 to 76 (fun s5 _ W=>Hid (TR W (w.heap.size+2) s5 IZ1)∧Hid (W.ownsRow w.heap.size 100 2 (.slice a9 (rwK ok on oq bb R k).args.length c9) (rwK ok on oq bb R k).args.length (ars (rwK ok on oq bb R k).args))∧Hid (BK W (w.heap.size+1) #[.string (rwK ok on oq bb R k).kind,.string (rwK ok on oq bb R k).name,.slice a9 (rwK ok on oq bb R k).args.length c9,.int .i64 0,.int .i64 0,.int .i64 0] 79)∧Hid (BK W w.heap.size #[.int .i64 ok,.string on,.slice qa oq.length qc,.int .i64 ob,.bool of,.int .u64 (mm:Int),.int .u64 (vv:Int)] 49)∧Hid (Below w.heap.size w W))
     case first=>
      cases htb:mm.testBit x.1.1 with
      | true=>
       rw [htb,if_pos rfl] at t1
       have HRW:=hid (HZY.out htb)
       clear HZY HZN
       go_wp2
       go_quiet (fail)
       go_wp2_with (at_builtin;refine Hid.out ?_)
       refine hid ?_
       have hBd:∀n,Below wr.heap.size wr (wr.drewN n):=fun n=>below_drewN (Below.refl _ _) n
       have hT1:=fun n=>(HT.out.below (hBd n)).below (bal (Below.refl _ _) (.cells #[.string wIf,.string (nmC x.2),.slice none 0 0,.int .i64 (y:Int),.int .i64 0,.int .i64 0] 79))
       have hl2:=HB2.out.lt
       refine wpList_append_own_at _ rfl _ _ 22 rfl (w.heap.size+2) 79 i8 _ 6 80 Tryz.underlying22 HI8.out hz8 hs8 hb8 rfl (by decide) _ _ _ rfl (hT1 _).own ⟨_,0,none⟩ 1 1 (rz [n0 ⟨wIf,nmC x.2,[],(y:Int),0,0⟩]) rfl rfl (rz_news _ _ (by rfl) ⟨wIf,nmC x.2,[],(y:Int),0,0⟩ (.slice none 0 0)) (rz_one _ (fun t ht=>by rw [List.mem_singleton] at ht;subst ht;exact ⟨_,_,_,rfl⟩)) (by unfold maxLen;omega) (by omega) (Nat.le_trans (show w.heap.size+2≤wr.heap.size from hl2) (bal (hBd _) _).size) ?_
       intro v8 w8 hown8 hgrow8 hnil8 hloc8
       have hT8:=(hT1 _).app hgrow8 rfl rfl hown8 (n0_own (rs:=[⟨wIf,nmC x.2,[],(y:Int),0,0⟩]) (fun r hr=>by rw [List.mem_singleton] at hr;subst hr;rfl) _ _)
       have hb18:=(hT1 _).keepA hgrow8 ((bk_on HB1.out (hBd _)).alloc _) (show w.heap.size<w.heap.size+2 by omega)
       have hb28:=(hT1 _).keepA hgrow8 ((bk_on HB2.out (hBd _)).alloc _) (show w.heap.size+1<w.heap.size+2 by omega)
       have hav8:=(hT1 _).keepV hgrow8 (own_below (own_below HAV.out (hBd _)) (bal (Below.refl _ _) _))
       have hB8:=below_own (bal (btr HB.out (hBd _)) _) (own_mono (hT1 _).own (show w.heap.size≤w.heap.size+2 by omega)) hgrow8
       have hT9:TR w8 (w.heap.size+2) v8 IZ1:=by rw [HRW.out];exact hT8
       clear hown8 hnil8 hloc8 hT1 hT8 hgrow8
       go_wp2
       go_meet
       case rel=>exact ⟨hT9,hav8,hb28,hb18,hB8⟩
      | false=>
       rw [htb,if_neg (by decide)] at t1
       have HRW:=HZN.out htb
       clear HZY HZN
       have hBd:∀n,Below wr.heap.size wr (wr.drewN n):=fun n=>below_drewN (Below.refl _ _) n
       go_wp2
       go_meet
       case rel=>exact ⟨by rw [HRW];exact HT.out.below (hBd _),own_below HAV.out (hBd _),bk_on HB2.out (hBd _),bk_on HB1.out (hBd _),btr HB.out (hBd _)⟩
     case rest=>
      obtain ⟨HT',HAV',HB2',HB1',HB'⟩:=hcut
      obtain ⟨a6,c6,rfl⟩:=HT'.out.shape
      clear HT HAV HB2 HB1 HB d1 l1 m0 m1 m2 hgl t1 hTl HZY HZN hlv
      obtain ⟨m0,m1,m2,hgl⟩:=HRG.out _ HB'.out
      have d1:=HB1'.out.cell
      have l1:=HB1'.out.lt
      have hBd:∀n,Below wc.heap.size wc (wc.drewN n):=fun n=>below_drewN (Below.refl _ _) n
      have HND:Hid (¬(ok=2∧k=bIdx bb R)→∀W,Below wc.heap.size wc W→(∃av,Hid (W.ownsRow w.heap.size 100 2 av (rwK ok on oq bb R (k+1)).args.length (ars (rwK ok on oq bb R (k+1)).args))∧Hid (BK W (w.heap.size+1) #[.string (rwK ok on oq bb R (k+1)).kind,.string (rwK ok on oq bb R (k+1)).name,av,.int .i64 0,.int .i64 0,.int .i64 0] 79))∧Hid (BK W w.heap.size #[.int .i64 ok,.string on,.slice qa oq.length qc,.int .i64 ob,.bool of,.int .u64 (mm:Int),.int .u64 (vv:Int)] 49)∧Hid (Below w.heap.size w W)):=fun hne W h=>by
       rw [rwK_same hne]
       exact ⟨⟨_,own_below HAV'.out h,bk_on HB2'.out h⟩,bk_on HB1'.out h,btr HB'.out h⟩
      by_cases h2:ok=2
      case neg=>
       have hk2:(ok==2)=false:=by simpa using h2
       have HN2:=hid (HND.out (fun h=>h2 h.1))
       clear HND
       go_wp2
       go_quiet (fail)
       go_wp2
       refine ⟨⟨k+1,by omega,rfl,by rw [←HIZ1.out];exact HT'.out.below (hBd _),HN2.out _ (hBd _)⟩,by simp only [intOf];omega⟩
      subst h2
      obtain ⟨rfl,hb64,hbl,_,hq1⟩:=HBB.out rfl
      have HQ1:=hid hq1
      have hlq:0<oq.length:=by omega
      clear hq1
      by_cases hin:x.1.1≤bb∧bb<x.1.1+x.1.2
      case neg=>
       have HN2:=hid (HND.out (fun h=>hin ((HSQ.out rfl).2 h.2)))
       clear HND
       by_cases hlo:x.1.1≤bb
       ·have hd1:decide ((x.1.1:Int)≤(bb:Int))=true:=decide_eq_true (by omega)
        have hd2:decide ((bb:Int)<(x.1.1:Int)+(x.1.2:Int))=false:=decide_eq_false (by omega)
        go_wp2
        go_quiet (fail)
        go_wp2
        refine ⟨⟨k+1,by omega,rfl,by rw [←HIZ1.out];exact HT'.out.below (hBd _),HN2.out _ (hBd _)⟩,by simp only [intOf];omega⟩
       ·have hd1:decide ((x.1.1:Int)≤(bb:Int))=false:=decide_eq_false (by omega)
        go_wp2
        go_quiet (fail)
        go_wp2
        refine ⟨⟨k+1,by omega,rfl,by rw [←HIZ1.out];exact HT'.out.below (hBd _),HN2.out _ (hBd _)⟩,by simp only [intOf];omega⟩
      have HKI:=hid ((HSQ.out rfl).1 hin)
      have HAG2:=hid (HAG.out HKI.out)
      clear HAG
      have hd1:decide ((x.1.1:Int)≤(bb:Int))=true:=decide_eq_true (by omega)
      have hd2:decide ((bb:Int)<(x.1.1:Int)+(x.1.2:Int))=true:=decide_eq_true (by omega)
      obtain ⟨bq,off,rfl,r⟩:=(HQ.out.below HB'.out).at_ 0 hlq
      have m9:=r.c 0 hlq
      have hbq:=r.lt
      have HQA:Hid (qArgs oq=[⟨nmQ,oq[0]⟩]):=by
       cases oq with
       | nil=>exact absurd hlq (Nat.lt_irrefl 0)
       | cons q0 l=>cases l with
        | nil=>rfl
        | cons _ _=>have:=HQ1.out;simp at this
      rw [Nat.add_zero] at m9
      generalize oq[0]=q0 at *
      have e20:∀n O,((wc.drewN n).alloc O).cell? ⟨w.heap.size+1,0,none⟩=some (.string (rwK 2 on oq bb R k).kind):=fun n O=>((bk_on HB2'.out (hBd n)).alloc O).cell 0
      have e21:∀n O,((wc.drewN n).alloc O).cell? ⟨w.heap.size+1,1,none⟩=some (.string (rwK 2 on oq bb R k).name):=fun n O=>((bk_on HB2'.out (hBd n)).alloc O).cell 1
      have e22:∀n O,((wc.drewN n).alloc O).cell? ⟨w.heap.size+1,2,none⟩=some (.slice a9 (rwK 2 on oq bb R k).args.length c9):=fun n O=>((bk_on HB2'.out (hBd n)).alloc O).cell 2
      have e23:∀n O,((wc.drewN n).alloc O).cell? ⟨w.heap.size+1,3,none⟩=some (.int .i64 0):=fun n O=>((bk_on HB2'.out (hBd n)).alloc O).cell 3
      have e24:∀n O,((wc.drewN n).alloc O).cell? ⟨w.heap.size+1,4,none⟩=some (.int .i64 0):=fun n O=>((bk_on HB2'.out (hBd n)).alloc O).cell 4
      have e25:∀n O,((wc.drewN n).alloc O).cell? ⟨w.heap.size+1,5,none⟩=some (.int .i64 0):=fun n O=>((bk_on HB2'.out (hBd n)).alloc O).cell 5
      have f2:∀n O j,((wc.drewN n).alloc O).frozen? ⟨w.heap.size+1,j,none⟩=false:=fun n O j=>((bk_on HB2'.out (hBd n)).alloc O).free j
      clear HND r
      go_wp2
      go_quiet (fail)
      go_wp2
      go_region
      have HRW:Hid (rwK 2 on oq bb R (k+1)=⟨wMeasure,⟨#[]⟩,[⟨nmQ,q0⟩,⟨nmC x.2,(bb:Int)-x.1.1⟩],0,0,0⟩):=by
       show _=_
       unfold rwK
       rw [if_pos ⟨rfl,by have:=HKI.out;omega⟩,HQA.out,HAG2.out]
       rfl
      have hV:Below wc.heap.size wc ((wc.drewN (nq+1)).alloc (.cells #[.string nmQ,.int .i64 q0,.string (nmC x.2),.int .i64 ((bb:Int)-x.1.1)] 100)):=bal (hBd _) _
      have v2:=bk_on HB2'.out hV
      have v1:=bk_on HB1'.out hV
      have vT:=HT'.out.below hV
      have vA:=two_args (w:=wc.drewN (nq+1)) (B:=w.heap.size) ⟨nmQ,q0⟩ ⟨nmC x.2,(bb:Int)-x.1.1⟩ HB'.out.size
      have vB:=btr HB'.out hV
      generalize ((wc.drewN (nq+1)).alloc (.cells #[.string nmQ,.int .i64 q0,.string (nmC x.2),.int .i64 ((bb:Int)-x.1.1)] 100))=V at *
      have p2:=row_put v2 (.string wMeasure) (.string ⟨#[]⟩) (.slice (some ⟨wc.heap.size,0,none⟩) 2 2) (.int .i64 0) (.int .i64 0) (.int .i64 0)
      have p1:=keep6 v2 (fun W=>BK W w.heap.size #[.int .i64 2,.string on,.slice (some ⟨bq,off,none⟩) oq.length qc,.int .i64 (bb:Int),.bool of,.int .u64 (mm:Int),.int .u64 (vv:Int)] 49) (fun W cs' o x _ h=>h.far (c:=w.heap.size+1) (by omega) o x) v1 (.string wMeasure) (.string ⟨#[]⟩) (.slice (some ⟨wc.heap.size,0,none⟩) 2 2) (.int .i64 0) (.int .i64 0) (.int .i64 0)
      have pT:=keep6 v2 (fun W=>TR W (w.heap.size+2) (.slice a6 IZ1.length c6) IZ1) (fun W cs' o x hb h=>h.put hb (by omega) o x) vT (.string wMeasure) (.string ⟨#[]⟩) (.slice (some ⟨wc.heap.size,0,none⟩) 2 2) (.int .i64 0) (.int .i64 0) (.int .i64 0)
      have pA:=keep6 v2 (fun W=>W.ownsRow w.heap.size 100 2 (.slice (some ⟨wc.heap.size,0,none⟩) 2 2) 2 (ars [⟨nmQ,q0⟩,⟨nmC x.2,(bb:Int)-x.1.1⟩])) (fun W cs' o x hb h=>own_set h (own_ne h hb (by decide)) o x) vA (.string wMeasure) (.string ⟨#[]⟩) (.slice (some ⟨wc.heap.size,0,none⟩) 2 2) (.int .i64 0) (.int .i64 0) (.int .i64 0)
      have pB:=keep6 v2 (fun W=>Below w.heap.size w W) (fun W cs' o x _ h=>bset h (w.heap.size+1) o x (by omega)) vB (.string wMeasure) (.string ⟨#[]⟩) (.slice (some ⟨wc.heap.size,0,none⟩) 2 2) (.int .i64 0) (.int .i64 0) (.int .i64 0)
      clear hV v1 v2 vT vA vB d1 l1 e20 e21 e22 e23 e24 e25 f2 m0 m1 m2 m9
      go_wp2
      refine ⟨⟨k+1,by omega,rfl,by rw [←HIZ1.out];exact pT,⟨.slice (some ⟨wc.heap.size,0,none⟩) 2 2,by rw [HRW.out];exact pA,by rw [HRW.out];exact p2⟩,p1,pB⟩,by simp only [intOf];omega⟩
    ·obtain rfl:k=R.length:=by omega
     have HST2:Hid (rw=if ok=3 then ⟨wReset,⟨#[]⟩,(rwK ok on oq bb R R.length).args,0,0,0⟩ else rwK ok on oq bb R R.length):=by
      show _=_
      rw [←HST.out]
      by_cases h2:ok=2
      ·obtain ⟨rfl,_,hbl,_⟩:=HBB.out h2
       unfold stRow rwK
       rw [if_pos h2,if_neg (by omega),if_pos ⟨h2,hbl⟩]
       rfl
      ·have hr:rwK ok on oq bb R R.length=⟨wUse,on,qArgs oq,0,0,0⟩:=by unfold rwK;rw [if_neg (fun h=>h2 h.1)]
       rw [hr]
       unfold stRow
       rw [if_neg h2]
     have HST3:Hid (rw.num=0∧rw.rows=0∧rw.place=0):=by
      show _∧_
      rw [←HST.out]
      exact st_zero _ R
     clear HST
     generalize rwK ok on oq bb R R.length=rk at *
     have hIZe:(ifZ vv (askR mm (R.take R.length))).map n0=mixR vv (askR mm R) 0:=by rw [List.take_length,mixR_zero]
     generalize (ifZ vv (askR mm (R.take R.length))).map n0=IZ at *
     have hAl:(askR mm R).length≤64:=Nat.le_trans (List.length_filter_le _ _) hl
     obtain ⟨AK,hAK⟩:∃AK,AK=askR mm R:=⟨_,rfl⟩
     rw [←hAK] at hIZe hAl
     have HAK:=hid hAK
     clear hAK
     have HIZ:=hid hIZe
     have hLen:IZ.length=AK.length:=by rw [hIZe,mixR_len]
     have hTl:IZ.length≤64:=by rw [hLen];exact hAl
     have HLEN:=hid hLen
     clear hIZe hLen
     go_upto_if 129 with (fail)
     go_cut [10] from 127 to 131 (fun _ W=>Hid (TR W (w.heap.size+2) (.slice a5 IZ.length c5) IZ)∧(∃av,Hid (W.ownsRow w.heap.size 100 2 av rw.args.length (ars rw.args))∧Hid (BK W (w.heap.size+1) #[.string rw.kind,.string rw.name,av,.int .i64 0,.int .i64 0,.int .i64 0] 79))∧Hid (Below w.heap.size w W))
     case first=>
      by_cases h3:ok=3
      ·have hrw:rw=⟨wReset,⟨#[]⟩,rk.args,0,0,0⟩:=by rw [HST2.out,if_pos h3]
       have HRW:=hid hrw
       subst h3
       clear hrw HST2
       have d2:=HB2.out.cell
       have f2:=HB2.out.free
       have l2:=HB2.out.lt
       go_wp2
       go_meet
       case rel=>
        have k0:=HB2.out.set 0 (.string wReset)
        have q0:=own_set HAV.out (own_ne HAV.out HB2.out (by decide)) 0 (.string wReset)
        exact ⟨(HT.out.put HB2.out (by omega) 0 (.string wReset)).put k0 (by omega) 1 (.string ⟨#[]⟩),⟨.slice a9 rk.args.length c9,by rw [HRW.out];exact own_set q0 (own_ne q0 k0 (by decide)) 1 (.string ⟨#[]⟩),by rw [HRW.out];exact k0.set 1 (.string ⟨#[]⟩)⟩,bset (bset HB.out _ _ _ (by omega)) _ _ _ (by omega)⟩
      ·have hrw:rw=rk:=by rw [HST2.out,if_neg h3]
       have HRW:=hid hrw
       have h3':(ok==3)=false:=by simpa using h3
       clear hrw HST2
       go_wp2
       go_meet
       case rel=>exact ⟨HT,⟨_,by rw [HRW.out];exact HAV.out,by rw [HRW.out];exact HB2.out⟩,HB⟩
     case rest=>
      clear HT HAV HB2 HB1 HB d1 l1
      obtain ⟨HT,⟨av,HAV,HB2⟩,HB⟩:=hcut
      go_wp2
      go_loopw [10] (fun s10 wx=>∃i:Nat,i≤AK.length∧s10=.int .i64 (i:Nat)∧Hid (TR wx (w.heap.size+2) (.slice a5 IZ.length c5) (mixR vv AK i))∧Hid (wx.ownsRow w.heap.size 100 2 av rw.args.length (ars rw.args))∧Hid (BK wx (w.heap.size+1) #[.string rw.kind,.string rw.name,av,.int .i64 0,.int .i64 0,.int .i64 0] 79)∧Hid (Below w.heap.size w wx)) (fun s10 _=>AK.length-(intOf s10).toNat)
      case atStart=>exact ⟨0,Nat.zero_le _,rfl,by rw [←HIZ.out];exact HT,HAV,HB2,HB⟩
      case round=>
       clear HT HAV HB2 HB
       obtain ⟨i,hi,rfl,HT,HAV,HB2,HB⟩:=hrel
       by_cases hlt2:i<AK.length
       ·have hiI:i<IZ.length:=by rw [HLEN.out];exact hlt2
        obtain ⟨g5,cap5,e5,hcap,hfree,hcells,hB5,hl5⟩:=own_at HT.out.own (by rw [mixR_len];omega)
        have hk6:i*6+4<(rz (mixR vv AK i)).length:=by rw [rz_len,mixR_len];omega
        have hc5:=hcells (i*6+4) hk6
        generalize (rz (mixR vv AK i))[i*6+4]'hk6=old at hc5
        have hf5:=hfree (i*6+4)
        injection e5 with e5 e6 e7
        subst e5
        subst e7
        have HNX:Hid (TR (wr.setCell ⟨g5,i*6+4,none⟩ (.int .i64 ((IZ.length:Int)-i))) (w.heap.size+2) (.slice (some ⟨g5,0,none⟩) IZ.length c5) (mixR vv AK (i+1))):=by
         have h:=HT.out.setr e6 (kk:=i) (by rw [mixR_len];exact hlt2) ((IZ.length:Int)-i)
         rw [mixR_at vv AK i hlt2] at h
         rw [mixR_next vv AK i hlt2]
         have e:((AK.length-i:Nat):Int)=(IZ.length:Int)-i:=by rw [HLEN.out];omega
         rw [e]
         exact h
        obtain ⟨cs5,hbk5⟩:=own_ty HT.out.own (g:=g5) rfl
        have HA9:=hid (own_set HAV.out (own_ne HAV.out (b:=g5) hbk5 (by decide)) (i*6+4) (.int .i64 ((IZ.length:Int)-i)))
        have HB9:=hid (HB2.out.far (c:=g5) (by omega) (i*6+4) (.int .i64 ((IZ.length:Int)-i)))
        clear hcells e6 hfree hbk5
        go_wp2
        exact ⟨⟨i+1,by omega,rfl,HNX,HA9,HB9,bset HB.out _ _ _ (by omega)⟩,by simp only [intOf];omega⟩
       ·obtain rfl:i=AK.length:=by omega
        have hiI:¬AK.length<IZ.length:=by rw [HLEN.out];omega
        have d2:=HB2.out.cell
        have l2:=HB2.out.lt
        obtain ⟨a0,c0,rfl⟩:=own_shape HAV.out
        go_wp2_with (at_builtin;refine Hid.out ?_)
        refine hid ?_
        have h1:=tr_one HAV.out HB.out.size
        obtain ⟨z1,z2,z3⟩:=HST3.out
        rw [z1,z2,z3] at h1
        have hT7:=(HT.out.below (bal (Below.refl wr.heap.size wr) (.cells #[.string rw.kind,.string rw.name,.slice a0 rw.args.length c0,.int .i64 0,.int .i64 0,.int .i64 0] 79))).mono (show w.heap.size≤w.heap.size+2 by omega)
        have hB7:=bal HB.out (.cells #[.string rw.kind,.string rw.name,.slice a0 rw.args.length c0,.int .i64 0,.int .i64 0,.int .i64 0] 79)
        refine wpList_app_rows1 (N:=[(rw,.slice a0 rw.args.length c0)]) rfl _ _ rfl hT7 Nat.one_pos rfl h1 rfl (by rw [mixR_len,List.length_singleton];omega) hB7.size ?_
        intro v9 w9 hT9 hG9
        have hB9:=below_own hB7 hT7.own hG9
        rw [mixR_end,HAK.out] at hT9
        clear hG9 hT7 hB7 h1 d2 l2
        go_wp2
        go_ret
        exact ⟨v9,_,rfl,hT9,hB9⟩
end Go.Proofs.YtdjfpghgklkejaaGreatDoor
