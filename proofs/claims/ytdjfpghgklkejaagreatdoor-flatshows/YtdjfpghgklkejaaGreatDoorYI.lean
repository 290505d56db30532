/-
  Put together of: FX FY FZa FZ G1.
-/
import Derived.Test.YtdjfpghgklkejaaGreatDoorYO
import Derived.Test.YtdjfpghgklkejaaGreatDoorYK
import Derived.Test.YtdjfpghgklkejaaGreatDoorXX
import Derived.Test.YtdjfpghgklkejaaGreatDoorYW
import Derived.Test.YtdjfpghgklkejaaGreatDoorYF
namespace Go.Proofs.YtdjfpghgklkejaaGreatDoor
open Go.RowKit Go.Sort
def FlO (W W':World) (rs:List Rw) (e:Ending):Prop:=
 Below W.heap.size W W'∧∃c p er,FlS rs c p er∧((er≠0∧e=.returned (.tuple #[civ noCi none 0,.int .i64 p,.int .i64 (er:Nat)]))∨(er=0∧∃a k vs,OM W' W.heap.size (.slice a c.ops.length k) c.ops vs∧e=.returned (.tuple #[civ c a k,.int .i64 0,.int .i64 0])))
theorem OM.low {W:World} {B B':Nat} {v:Value} {os:List Oq} {vs:List (Option Addr × Nat)} (h:OM W B v os vs) (hb:B'≤B):OM W B' v os vs:=⟨h.len,own_mono h.own hb,fun k hk hk'=>own_mono (h.qs k hk hk') hb,h.fit,h.some_,h.dis⟩
theorem OM.box3 {W:World} {B b:Nat} {v:Value} {os:List Oq} {vs:List (Option Addr × Nat)} {cs:Array Value} (h:OM W B v os vs) (hb:BK W b cs 27) (x y z:Value):OM (((W.setCell ⟨b,0,none⟩ x).setCell ⟨b,1,none⟩ y).setCell ⟨b,2,none⟩ z) B v os vs:=by
 obtain ⟨gs,_⟩:=fr_sets b [x,y,z] 0 W
 have hg:W.grownBy (((W.setCell ⟨b,0,none⟩ x).setCell ⟨b,1,none⟩ y).setCell ⟨b,2,none⟩ z) (some b):=⟨gs.os,gs.tape,gs.output,gs.size,fun k hk hne=>gs.block k hk (by have:k≠b:=fun e=>hne (by rw [e]);omega)⟩
 exact h.kept hg (own_ne h.own hb (by decide)) (fun k hk g e=>by
  have hqk:=h.qs k (by rw [h.len];exact hk) hk
  rw [e] at hqk
  exact own_ne hqk hb (by decide) g rfl)
abbrev lk0 (mb:Nat):Array Value:=#[.map (some mb),.int .i64 0,.int .i64 0,.map none,.int .i64 0,.int .i64 0]
theorem nmF_en {s:ByteArray}:(en0.nm s=none→nmF 25 s=none)∧∀m,en0.nm s=some m→nmF 25 s=some (mgV s)∧m=⟨3,0,gar s,0,[]⟩:=by
 have e:en0.nm s=if 0<gar s then some (⟨3,0,gar s,0,[]⟩:Mn) else none:=rfl
 rw [e]
 unfold nmF
 have ht:nms.take 25=nms:=rfl
 rw [ht]
 by_cases h:0<gar s
 ·rw [if_pos h]
  have hm:=gar_nms s (by omega)
  refine ⟨fun x=>(by cases x),fun m hm'=>?_⟩
  cases hm'
  refine ⟨if_pos (List.any_eq_true.2 ⟨s,hm,decide_eq_true rfl⟩),rfl⟩
 ·rw [if_neg h]
  refine ⟨fun _=>if_neg (fun x=>?_),fun m hm'=>(by cases hm')⟩
  obtain ⟨t,ht,e⟩:=List.any_eq_true.1 x
  have e:=of_decide_eq_true e
  subst e
  exact h (nms_gar _ ht).1
theorem lk_new {W1 w2:World} (h:OwnS W1 w2 25):LK W1 (w2.alloc (.cells (lk0 W1.heap.size) 64)) w2.heap.size W1.heap.size ⟨w2.heap.size+1,fun b=>w2.heap.size+1≤b,fun _ h=>h⟩ 25 en0 0:=by
 obtain ⟨z,hz⟩:=h.map
 have hs:=h.below.size
 have hlt:=hz.lt
 refine ⟨bal h.below _,⟨.map none,bk_new _ _ _,.inl ⟨rfl,none,rfl⟩⟩,⟨nmF 25,z,hz.block (Lib.alloc_old _ _ _ hlt),fun s=>⟨nmF_en.1,fun m hm=>?_⟩⟩,hs,Nat.le_refl _,Nat.lt_succ_self _,Nat.lt_succ_of_lt hlt,by simp,by omega,fun b hb=>by simpa using hb⟩
 obtain ⟨e1,rfl⟩:=nmF_en.2 m hm
 exact ⟨_,e1,none,0,0,[],rfl,pl_nil _ _ _ _ _,T4.refl _⟩
set_option maxHeartbeats 1000000 in
set_option maxRecDepth 100000 in
theorem flat_any (W:World) (v:Value) (rs:List Rw) (hv:SR W v rs) (hz:SzR rs) (hl:rs.length≤6000000000000) :
  Calls Tryz.prog 12 #[v] W fun e W'=>FlO W W' rs e:=by
 obtain ⟨va,vc,vvs,rfl,hvr⟩:=hv
 have HV:Hid (SR W (.slice va rs.length vc) rs):=⟨va,vc,vvs,rfl,hvr⟩
 clear hvr
 have OA:=fun w=>own_any w
 have B1:Hid (∀w2,OwnS (W.alloc (.cells ciz 27)) w2 25→Calls Tryz.prog 25 #[.pointer (some ⟨w2.heap.size,0,none⟩),.slice va rs.length vc,sdV sd0] (w2.alloc (.cells (lk0 (W.alloc (.cells ciz 27)).heap.size) 64)) fun e W'=>BodyO (W.alloc (.cells ciz 27)) (w2.alloc (.cells (lk0 (W.alloc (.cells ciz 27)).heap.size) 64)) W' w2.heap.size (W.alloc (.cells ciz 27)).heap.size ⟨w2.heap.size+1,fun b=>w2.heap.size+1≤b,fun _ h=>h⟩ (25+2*rs.length) (en0,false) (lookB (rs.length+1) en0 sd0 rs) e):=fun w2 h=>bodyF_any _ _ _ (rs.length+1) _ _ 25 en0 0 _ rs sd0 (lk_new h) en0_ok (HV.out.below (bal (Below.refl _ _) _)) (Nat.lt_succ_self _) hz (fun h=>(by cases h)) (Nat.zero_le _) (by decide) (by decide) (by omega)
 generalize hQ:(fun e W'=>FlO W W' rs e)=QQ
 have HQ:=hid hQ
 have hs1:(W.alloc (.cells ciz 27)).heap.size=W.heap.size+1:=by simp
 clear hQ hz
 go_enter Tryz.func12,Tryz.ntmps12
 go_wp2_with (first
  | (go_at_call 24;(with_reducible refine (OA _).mono ?_);rintro e w2 ⟨rfl,hO⟩)
  | (go_at_call 25;refine Hid.out ?_))
 refine hid ?_
 have b1:=B1.out w2 hO
 rw [hs1] at b1
 refine b1.mono ?_
 rintro e w4 ⟨hF,hc⟩
 have s2:W.heap.size+1≤w2.heap.size:=by have:=hO.below.size;rw [hs1] at this;exact this
 have B4:Hid (Below W.heap.size W w4):=by
  have h1:Below W.heap.size W (w2.alloc (.cells (lk0 (W.heap.size+1)) 64)):=bal (btr (bal (Below.refl _ _) _) hO.below) _
  exact below_fr h1 hF (by omega)
 have R4:BK w4 W.heap.size ciz 27:=by
  have h1:BK w2 W.heap.size ciz 27:=(hO.below.block _ (by rw [hs1];omega)).trans (bk_new W ciz 27)
  have h2:=h1.alloc (.cells (lk0 (W.heap.size+1)) 64)
  exact (hF.block _ h2.lt (.inl (by omega))).trans h2
 have r0:∀j,w4.cell? ⟨W.heap.size,j,none⟩=ciz[j]?:=R4.cell
 have r1:∀j,w4.frozen? ⟨W.heap.size,j,none⟩=false:=R4.free
 have r2:=R4.lt
 have n1:¬W.heap.size=w2.heap.size:=by omega
 have n2:¬w2.heap.size=W.heap.size:=by omega
 clear B1 b1 hF hO OA hs1
 rcases hc with ⟨x,v,hS,rfl,⟨xa,xn,xc,rfl⟩,hx,hLE⟩ | ⟨en1,L,v,L',pl,N,hS,rfl,hLK,hN,hok,hNx,hPL,hT4⟩
 ·obtain ⟨xq,xb,xpv,xd,xN,xf,xz,k1,_⟩:=hLE
  have e1:¬((x.2:Nat):Int)=0:=by omega
  have c5:w4.cell? ⟨w2.heap.size,5,none⟩=some (.int .i64 x.1):=k1.cell 5
  have c6:=k1.lt
  have HS:=hid hS
  have HX:=hid hx
  clear k1 hS hx
  obtain ⟨x1,x2⟩:=x
  dsimp only at *
  go_wp2
  go_region
  go_wp2
  have K:=(((R4.set 0 (.int .i64 0)).set 1 (.int .i64 0)).set 2 (.slice none 0 0)).drew
  have BF:Below W.heap.size W (((w4.setCell ⟨W.heap.size,0,none⟩ (.int .i64 0)).setCell ⟨W.heap.size,1,none⟩ (.int .i64 0)).setCell ⟨W.heap.size,2,none⟩ (.slice none 0 0)).drew:=below_drew (bset (bset (bset B4.out _ _ _ (Nat.le_refl _)) _ _ _ (Nat.le_refl _)) _ _ _ (Nat.le_refl _))
  generalize (((w4.setCell ⟨W.heap.size,0,none⟩ (.int .i64 0)).setCell ⟨W.heap.size,1,none⟩ (.int .i64 0)).setCell ⟨W.heap.size,2,none⟩ (.slice none 0 0)).drew=WF at *
  have m0:WF.cell? ⟨W.heap.size,0,none⟩=some (.int .i64 0):=K.cell 0
  have m1:WF.cell? ⟨W.heap.size,1,none⟩=some (.int .i64 0):=K.cell 1
  have m2:WF.cell? ⟨W.heap.size,2,none⟩=some (.slice none 0 0):=K.cell 2
  rw [←HQ.out]
  exact bodyPost_ret (v:=.tuple #[civ noCi none 0,.int .i64 x1,.int .i64 (x2:Nat)]) (by simp [results,Tryz.results12,go_sem,m0,m1,m2]) rfl ⟨BF,noCi,x1,x2,fl_of_err HS.out,.inl ⟨HX.out,rfl⟩⟩
 ·have hPL':PL w4 ⟨w2.heap.size+1,fun b=>w2.heap.size+1≤b,fun _ h=>h⟩ en1.q v L':=hPL
  have LA:=laid_any w4 _ v L' en1.q en1.b hPL' hok.q hok.b
  obtain ⟨pa,pn,pc,rfl,_⟩:=hPL'.shape
  obtain ⟨pv,k1,_⟩:=hLK.box
  have c1:w4.cell? ⟨w2.heap.size,1,none⟩=some (.int .i64 (en1.q:Nat)):=k1.cell 1
  have c2:w4.cell? ⟨w2.heap.size,2,none⟩=some (.int .i64 (en1.b:Nat)):=k1.cell 2
  have c6:=k1.lt
  have HFL:Hid (∀c p er,LdS L' en1.q en1.b c p er→FlS rs c p er):=fun c p er h=>fl_of_ld hS hT4 h
  have HR:=hid R4
  clear k1 hPL hPL' hLK hok hNx hT4 hS R4
  go_wp2_with (go_at_call 26;refine Hid.out ?_)
  refine hid ?_
  refine LA.mono ?_
  rintro e w5 ⟨hB5,c,p,er,hLd,hc⟩
  have R5:BK w5 W.heap.size ciz 27:=(hB5.block _ r2).trans HR.out
  have r0:∀j,w5.cell? ⟨W.heap.size,j,none⟩=ciz[j]?:=R5.cell
  have r1:∀j,w5.frozen? ⟨W.heap.size,j,none⟩=false:=R5.free
  have B5:=hid (btr B4.out hB5)
  have hlt5:W.heap.size≤w4.heap.size:=Nat.le_of_lt r2
  clear B4 HR
  rcases hc with ⟨her,rfl⟩ | ⟨rfl,oa,ok,vs,hOM,rfl⟩
  ·go_wp2
   have K:=((R5.set 0 (.int .i64 0)).set 1 (.int .i64 0)).set 2 (.slice none 0 0)
   have BF:Below W.heap.size W (((w5.setCell ⟨W.heap.size,0,none⟩ (.int .i64 0)).setCell ⟨W.heap.size,1,none⟩ (.int .i64 0)).setCell ⟨W.heap.size,2,none⟩ (.slice none 0 0)):=bset (bset (bset B5.out _ _ _ (Nat.le_refl _)) _ _ _ (Nat.le_refl _)) _ _ _ (Nat.le_refl _)
   generalize ((w5.setCell ⟨W.heap.size,0,none⟩ (.int .i64 0)).setCell ⟨W.heap.size,1,none⟩ (.int .i64 0)).setCell ⟨W.heap.size,2,none⟩ (.slice none 0 0)=WF at *
   have m0:WF.cell? ⟨W.heap.size,0,none⟩=some (.int .i64 0):=K.cell 0
   have m1:WF.cell? ⟨W.heap.size,1,none⟩=some (.int .i64 0):=K.cell 1
   have m2:WF.cell? ⟨W.heap.size,2,none⟩=some (.slice none 0 0):=K.cell 2
   rw [←HQ.out]
   exact bodyPost_ret (v:=.tuple #[civ noCi none 0,.int .i64 p,.int .i64 (er:Nat)]) (by simp [results,Tryz.results12,go_sem,m0,m1,m2]) rfl ⟨BF,c,p,er,HFL.out _ _ _ hLd,.inl ⟨her,rfl⟩⟩
  ·have OF:=(hOM.low hlt5).box3 R5 (.int .i64 c.q) (.int .i64 c.b) (.slice oa c.ops.length ok)
   go_wp2
   have K:=((R5.set 0 (.int .i64 c.q)).set 1 (.int .i64 c.b)).set 2 (.slice oa c.ops.length ok)
   have BF:Below W.heap.size W (((w5.setCell ⟨W.heap.size,0,none⟩ (.int .i64 c.q)).setCell ⟨W.heap.size,1,none⟩ (.int .i64 c.b)).setCell ⟨W.heap.size,2,none⟩ (.slice oa c.ops.length ok)):=bset (bset (bset B5.out _ _ _ (Nat.le_refl _)) _ _ _ (Nat.le_refl _)) _ _ _ (Nat.le_refl _)
   generalize ((w5.setCell ⟨W.heap.size,0,none⟩ (.int .i64 c.q)).setCell ⟨W.heap.size,1,none⟩ (.int .i64 c.b)).setCell ⟨W.heap.size,2,none⟩ (.slice oa c.ops.length ok)=WF at *
   have m0:WF.cell? ⟨W.heap.size,0,none⟩=some (.int .i64 c.q):=K.cell 0
   have m1:WF.cell? ⟨W.heap.size,1,none⟩=some (.int .i64 c.b):=K.cell 1
   have m2:WF.cell? ⟨W.heap.size,2,none⟩=some (.slice oa c.ops.length ok):=K.cell 2
   rw [←HQ.out]
   exact bodyPost_ret (v:=.tuple #[civ c oa ok,.int .i64 0,.int .i64 0]) (by simp [results,Tryz.results12,go_sem,m0,m1,m2]) rfl ⟨BF,c,p,0,HFL.out _ _ _ hLd,.inr ⟨rfl,oa,ok,vs,OF,rfl⟩⟩
end Go.Proofs.YtdjfpghgklkejaaGreatDoor
namespace Go.Proofs.YtdjfpghgklkejaaGreatDoor
open Go.RowKit Go.Sort
def RdS (rs:List Rw) (a:Int) (e0:Nat) (c:Ci) (p:Int) (e:Nat):Prop:=(e0≠0∧c=noCi∧p=a∧e=e0)∨(e0=0∧FlS rs c p e)
def RdO (W W':World) (rs:List Rw) (a:Int) (e0:Nat) (e:Ending):Prop:=
 Below W.heap.size W W'∧∃c p er,RdS rs a e0 c p er∧((er≠0∧e=.returned (.tuple #[civ noCi none 0,.int .i64 p,.int .i64 (er:Nat)]))∨(er=0∧∃a k vs,OM W' W.heap.size (.slice a c.ops.length k) c.ops vs∧e=.returned (.tuple #[civ c a k,.int .i64 0,.int .i64 0])))
theorem szr_of {s:ByteArray} {l:List Tk} {rs:List Rw} {f:Nat} {n:Int} (h6:s.size≤65536) (hp:Pre s s.size l) (h:progP n f l=.ok rs):SzR rs∧rs.length≤65536:=by
 obtain ⟨h1,h2⟩:=rows_b h6 hp h
 refine ⟨fun r hr=>?_,h1⟩
 obtain ⟨⟨b1,b2,b3,b4,b5⟩,b6,b7,_⟩:=h2 r hr
 have hm:(65536:Nat)≤maxLen:=by decide
 exact ⟨Nat.le_trans b1 hm,by omega,fun a ha=>Nat.le_trans (b3 a ha) hm,by omega,by omega,by omega,by omega⟩
set_option maxHeartbeats 1000000 in
set_option maxRecDepth 100000 in
theorem read_any (W:World) (s:ByteArray) (rs:List Rw) (a:Int) (e0:Nat) (ho:POut s rs a e0) (hs:s.size≤9223372036854775807) (hv:VR W) :
  Calls Tryz.prog 15 #[.string s] W fun e W'=>RdO W W' rs a e0 e:=by
 have PA:=fun w h=>parse_any s rs a e0 w hs h ho
 have HV:Hid (∀w,Below W.heap.size W w→VR w):=fun w h=>hv.below h
 generalize hQ:(fun e W'=>RdO W W' rs a e0 e)=QQ
 have HQ:=hid hQ
 clear hQ hv
 rcases ho.cases with ⟨h0,_,rfl,_,_⟩ | ⟨rfl,rfl,hs6,l,hp,hout,hpr⟩
 ·have e1:¬((e0:Nat):Int)=0:=by omega
  have H0:=hid h0
  clear ho h0
  go_enter Tryz.func15,Tryz.ntmps15
  go_wp2_with (go_at_call 29;(with_reducible refine (PA _ (HV.out _ (bal (Below.refl _ _) _))).mono ?_);rintro e w2 ⟨v,rfl,hO2,hB2⟩;obtain ⟨a2,c2,rfl⟩:=hO2.shape;have R2:=one_box hB2;have r0:∀j,w2.cell? ⟨W.heap.size,j,none⟩=_:=R2.cell;have r1:∀j,w2.frozen? ⟨W.heap.size,j,none⟩=_:=R2.free)
  have K:=((R2.set 0 (.int .i64 0)).set 1 (.int .i64 0)).set 2 (.slice none 0 0)
  have BF:Below W.heap.size W (((w2.setCell ⟨W.heap.size,0,none⟩ (.int .i64 0)).setCell ⟨W.heap.size,1,none⟩ (.int .i64 0)).setCell ⟨W.heap.size,2,none⟩ (.slice none 0 0)):=bset (bset (bset (btr (bal (Below.refl _ _) _) hB2) _ _ _ (Nat.le_refl _)) _ _ _ (Nat.le_refl _)) _ _ _ (Nat.le_refl _)
  generalize ((w2.setCell ⟨W.heap.size,0,none⟩ (.int .i64 0)).setCell ⟨W.heap.size,1,none⟩ (.int .i64 0)).setCell ⟨W.heap.size,2,none⟩ (.slice none 0 0)=WF at *
  have m0:WF.cell? ⟨W.heap.size,0,none⟩=some (.int .i64 0):=K.cell 0
  have m1:WF.cell? ⟨W.heap.size,1,none⟩=some (.int .i64 0):=K.cell 1
  have m2:WF.cell? ⟨W.heap.size,2,none⟩=some (.slice none 0 0):=K.cell 2
  rw [←HQ.out]
  exact bodyPost_ret (v:=.tuple #[civ noCi none 0,.int .i64 a,.int .i64 (e0:Nat)]) (by simp [results,Tryz.results15,go_sem,m0,m1,m2]) rfl ⟨BF,noCi,a,e0,(.inl ⟨H0.out,rfl,rfl,rfl⟩),.inl ⟨H0.out,rfl⟩⟩
 ·obtain ⟨hz,hl⟩:=szr_of hs6 hp hpr
  have FA:=fun w v h=>flat_any w v rs h hz (by omega)
  have HFL:Hid (∀c p er,FlS rs c p er→RdS rs 0 0 c p er):=fun c p er h=>.inr ⟨rfl,h⟩
  clear ho hout hpr hp hz
  go_enter Tryz.func15,Tryz.ntmps15
  go_wp2_with (first
   | (go_at_call 29;(with_reducible refine (PA _ (HV.out _ (bal (Below.refl _ _) _))).mono ?_);rintro e w2 ⟨v,rfl,hO2,hB2⟩;obtain ⟨a2,c2,rfl⟩:=hO2.shape;have R2:=one_box hB2)
   | (go_at_call 12;refine Hid.out ?_))
  refine hid ?_
  refine (FA _ _ hO2.sr).mono ?_
  rintro e w5 ⟨hB5,c,p,er,hLd,hc⟩
  have R5:BK w5 W.heap.size ciz 27:=(hB5.block _ R2.lt).trans R2
  have r0:∀j,w5.cell? ⟨W.heap.size,j,none⟩=ciz[j]?:=R5.cell
  have r1:∀j,w5.frozen? ⟨W.heap.size,j,none⟩=false:=R5.free
  have B5:=hid (btr (btr (bal (Below.refl W.heap.size W) _) hB2) hB5)
  have hlt5:W.heap.size≤w2.heap.size:=Nat.le_of_lt R2.lt
  clear PA FA R2 hB2
  rcases hc with ⟨her,rfl⟩ | ⟨rfl,oa,ok,vs,hOM,rfl⟩
  ·go_wp2
   have K:=((R5.set 0 (.int .i64 0)).set 1 (.int .i64 0)).set 2 (.slice none 0 0)
   have BF:Below W.heap.size W (((w5.setCell ⟨W.heap.size,0,none⟩ (.int .i64 0)).setCell ⟨W.heap.size,1,none⟩ (.int .i64 0)).setCell ⟨W.heap.size,2,none⟩ (.slice none 0 0)):=bset (bset (bset B5.out _ _ _ (Nat.le_refl _)) _ _ _ (Nat.le_refl _)) _ _ _ (Nat.le_refl _)
   generalize ((w5.setCell ⟨W.heap.size,0,none⟩ (.int .i64 0)).setCell ⟨W.heap.size,1,none⟩ (.int .i64 0)).setCell ⟨W.heap.size,2,none⟩ (.slice none 0 0)=WF at *
   have m0:WF.cell? ⟨W.heap.size,0,none⟩=some (.int .i64 0):=K.cell 0
   have m1:WF.cell? ⟨W.heap.size,1,none⟩=some (.int .i64 0):=K.cell 1
   have m2:WF.cell? ⟨W.heap.size,2,none⟩=some (.slice none 0 0):=K.cell 2
   rw [←HQ.out]
   exact bodyPost_ret (v:=.tuple #[civ noCi none 0,.int .i64 p,.int .i64 (er:Nat)]) (by simp [results,Tryz.results15,go_sem,m0,m1,m2]) rfl ⟨BF,c,p,er,HFL.out _ _ _ hLd,.inl ⟨her,rfl⟩⟩
  ·have OF:=(hOM.low hlt5).box3 R5 (.int .i64 c.q) (.int .i64 c.b) (.slice oa c.ops.length ok)
   go_wp2
   have K:=((R5.set 0 (.int .i64 c.q)).set 1 (.int .i64 c.b)).set 2 (.slice oa c.ops.length ok)
   have BF:Below W.heap.size W (((w5.setCell ⟨W.heap.size,0,none⟩ (.int .i64 c.q)).setCell ⟨W.heap.size,1,none⟩ (.int .i64 c.b)).setCell ⟨W.heap.size,2,none⟩ (.slice oa c.ops.length ok)):=bset (bset (bset B5.out _ _ _ (Nat.le_refl _)) _ _ _ (Nat.le_refl _)) _ _ _ (Nat.le_refl _)
   generalize ((w5.setCell ⟨W.heap.size,0,none⟩ (.int .i64 c.q)).setCell ⟨W.heap.size,1,none⟩ (.int .i64 c.b)).setCell ⟨W.heap.size,2,none⟩ (.slice oa c.ops.length ok)=WF at *
   have m0:WF.cell? ⟨W.heap.size,0,none⟩=some (.int .i64 c.q):=K.cell 0
   have m1:WF.cell? ⟨W.heap.size,1,none⟩=some (.int .i64 c.b):=K.cell 1
   have m2:WF.cell? ⟨W.heap.size,2,none⟩=some (.slice oa c.ops.length ok):=K.cell 2
   rw [←HQ.out]
   exact bodyPost_ret (v:=.tuple #[civ c oa ok,.int .i64 0,.int .i64 0]) (by simp [results,Tryz.results15,go_sem,m0,m1,m2]) rfl ⟨BF,c,p,0,HFL.out _ _ _ hLd,.inr ⟨rfl,oa,ok,vs,OF,rfl⟩⟩
end Go.Proofs.YtdjfpghgklkejaaGreatDoor
namespace Go.Proofs.YtdjfpghgklkejaaGreatDoor
def wkA:ByteArray:=⟨#[113,117,98,105,116,115,32,113,32,49,59,32,98,105,116,115,32,99,32,50,59,32,98,105,116,115,32,100,32,49,59,32,109,101,97,115,117,114,101,32,113,91,48,93,32,100,91,48,93,59,32,105,102,32,100,32,49,32,123,32,120,32,113,91,48,93,59,32,125]⟩
def wtA:List Tk:=[⟨1,wQubits,0⟩,⟨1,⟨#[113]⟩,7⟩,⟨2,⟨#[49]⟩,9⟩,⟨3,⟨#[59]⟩,10⟩,⟨1,wBits,12⟩,⟨1,⟨#[99]⟩,17⟩,⟨2,⟨#[50]⟩,19⟩,⟨3,⟨#[59]⟩,20⟩,⟨1,wBits,22⟩,⟨1,⟨#[100]⟩,27⟩,⟨2,⟨#[49]⟩,29⟩,⟨3,⟨#[59]⟩,30⟩,⟨1,wMeasure,32⟩,⟨1,⟨#[113]⟩,40⟩,⟨3,⟨#[91]⟩,41⟩,⟨2,⟨#[48]⟩,42⟩,⟨3,⟨#[93]⟩,43⟩,⟨1,⟨#[100]⟩,45⟩,⟨3,⟨#[91]⟩,46⟩,⟨2,⟨#[48]⟩,47⟩,⟨3,⟨#[93]⟩,48⟩,⟨3,⟨#[59]⟩,49⟩,⟨1,wIf,51⟩,⟨1,⟨#[100]⟩,54⟩,⟨2,⟨#[49]⟩,56⟩,⟨3,⟨#[123]⟩,58⟩,⟨1,⟨#[120]⟩,60⟩,⟨1,⟨#[113]⟩,62⟩,⟨3,⟨#[91]⟩,63⟩,⟨2,⟨#[48]⟩,64⟩,⟨3,⟨#[93]⟩,65⟩,⟨3,⟨#[59]⟩,66⟩,⟨3,⟨#[125]⟩,68⟩]
def wrA:List Rw:=[⟨wQubits,⟨#[113]⟩,[],1,0,0⟩,⟨wBits,⟨#[99]⟩,[],2,0,12⟩,⟨wBits,⟨#[100]⟩,[],1,0,22⟩,⟨wMeasure,⟨#[]⟩,[⟨⟨#[113]⟩,0⟩,⟨⟨#[100]⟩,0⟩],0,0,32⟩,⟨wIf,⟨#[100]⟩,[],1,1,51⟩,⟨wUse,⟨#[120]⟩,[⟨⟨#[113]⟩,0⟩],0,0,60⟩]
theorem wkA_it:it wkA 51=(69,wtA):=by kernel_rfl
theorem wkA_out:Out wkA wtA 0 0:=.inr (.inl ⟨by decide,⟨51,wkA_it⟩,rfl,rfl⟩)
theorem wkA_prog:progP (wkA.size:Nat) (wtA.length+1) wtA=.ok wrA:=by kernel_rfl
theorem wkA_p:POut wkA wrA 0 0:=⟨wtA,0,0,wkA_out,.inr ⟨rfl,.inr ⟨wkA_prog,rfl,rfl⟩⟩⟩
def wkB:ByteArray:=⟨#[103,97,116,101,32,103,32,120,32,123,32,103,32,120,59,32,125]⟩
def wtB:List Tk:=[⟨1,wGate,0⟩,⟨1,⟨#[103]⟩,5⟩,⟨1,⟨#[120]⟩,7⟩,⟨3,⟨#[123]⟩,9⟩,⟨1,⟨#[103]⟩,11⟩,⟨1,⟨#[120]⟩,13⟩,⟨3,⟨#[59]⟩,14⟩,⟨3,⟨#[125]⟩,16⟩]
def wrB:List Rw:=[⟨wGate,⟨#[103]⟩,[⟨⟨#[120]⟩,-1⟩],0,1,0⟩,⟨wUse,⟨#[103]⟩,[⟨⟨#[120]⟩,-1⟩],0,0,11⟩]
theorem wkB_it:it wkB 14=(17,wtB):=by kernel_rfl
theorem wkB_out:Out wkB wtB 0 0:=.inr (.inl ⟨by decide,⟨14,wkB_it⟩,rfl,rfl⟩)
theorem wkB_prog:progP (wkB.size:Nat) (wtB.length+1) wtB=.ok wrB:=by kernel_rfl
theorem wkB_p:POut wkB wrB 0 0:=⟨wtB,0,0,wkB_out,.inr ⟨rfl,.inr ⟨wkB_prog,rfl,rfl⟩⟩⟩
def wkC:ByteArray:=⟨#[113,117,98,105,116,115,32,113,32,49,59,32,114,101,112,101,97,116,32,53,48,48,48,32,123,32,120,32,113,91,48,93,59,32,125]⟩
def wtC:List Tk:=[⟨1,wQubits,0⟩,⟨1,⟨#[113]⟩,7⟩,⟨2,⟨#[49]⟩,9⟩,⟨3,⟨#[59]⟩,10⟩,⟨1,wRepeat,12⟩,⟨2,⟨#[53,48,48,48]⟩,19⟩,⟨3,⟨#[123]⟩,24⟩,⟨1,⟨#[120]⟩,26⟩,⟨1,⟨#[113]⟩,28⟩,⟨3,⟨#[91]⟩,29⟩,⟨2,⟨#[48]⟩,30⟩,⟨3,⟨#[93]⟩,31⟩,⟨3,⟨#[59]⟩,32⟩,⟨3,⟨#[125]⟩,34⟩]
def wrC:List Rw:=[⟨wQubits,⟨#[113]⟩,[],1,0,0⟩,⟨wRepeat,⟨#[]⟩,[],5000,1,12⟩,⟨wUse,⟨#[120]⟩,[⟨⟨#[113]⟩,0⟩],0,0,26⟩]
theorem wkC_it:it wkC 22=(35,wtC):=by kernel_rfl
theorem wkC_out:Out wkC wtC 0 0:=.inr (.inl ⟨by decide,⟨22,wkC_it⟩,rfl,rfl⟩)
theorem wkC_prog:progP (wkC.size:Nat) (wtC.length+1) wtC=.ok wrC:=by kernel_rfl
theorem wkC_p:POut wkC wrC 0 0:=⟨wtC,0,0,wkC_out,.inr ⟨rfl,.inr ⟨wkC_prog,rfl,rfl⟩⟩⟩
def prj:Except Fa (En × List TO)→Except Fa (Nat × Nat × List TO)
 | .error x=>.error x
 | .ok (en,L)=>.ok (en.q,en.b,L)
theorem prj_ok {r:Except Fa (En × List TO)} {q b:Nat} {L:List TO} (h:prj r=.ok (q,b,L)):∃en,r=.ok (en,L)∧en.q=q∧en.b=b:=by
 match r,h with
 | .ok (en,L'),h=>cases h;exact ⟨en,rfl,rfl,rfl⟩
theorem prj_err {r:Except Fa (En × List TO)} {x:Fa} (h:prj r=.error x):r=.error x:=by
 match r,h with
 | .error y,h=>cases h;rfl
def wlA:List TO:=[⟨2,⟨#[]⟩,[0],2,some ⟨32,0,false,0,0⟩⟩,⟨1,⟨#[120]⟩,[0],0,some ⟨60,1,false,4,4⟩⟩]
theorem wkA_l:prj (lookB 7 en0 sd0 wrA)=.ok (1,3,wlA):=by kernel_rfl
theorem wkA_f {c:Ci} {p:Int} {e:Nat} (h:FlS wrA c p e):c=⟨1,3,wlA.map opT⟩∧p=0∧e=0:=by
 obtain ⟨en,h1,h2,h3⟩:=prj_ok wkA_l
 unfold FlS at h
 rw [show wrA.length+1=7 from rfl,h1] at h
 dsimp only at h
 rw [if_neg (by decide),h2,h3,if_pos (by decide +kernel)] at h
 exact h
theorem wkB_f {c:Ci} {p:Int} {e:Nat} (h:FlS wrB c p e):c=noCi∧p=11∧e=114:=by
 have h1:lookB 3 en0 sd0 wrB=.error (11,114):=prj_err (by kernel_rfl)
 unfold FlS at h
 rw [show wrB.length+1=3 from rfl,h1] at h
 exact h
theorem rep_one {α:Type} (t:α):∀n,(List.replicate n [t]).flatten=List.replicate n t
 | 0=>rfl
 | n+1=>by rw [List.replicate_succ,List.flatten_cons,rep_one t n];rfl
def wtC1:TO:=⟨1,⟨#[120]⟩,[0],0,some ⟨26,1,false,0,0⟩⟩
theorem wkC_l:prj (lookB 4 en0 sd0 wrC)=.ok (1,0,(List.replicate 5000 [wtC1]).flatten++[]):=by kernel_rfl
theorem wkC_f {c:Ci} {p:Int} {e:Nat} (h:FlS wrC c p e):c=noCi∧p=26∧e=115:=by
 obtain ⟨en,h1,h2,h3⟩:=prj_ok wkC_l
 have hL:(List.replicate 5000 [wtC1]).flatten++[]=List.replicate 5000 wtC1:=by
  rw [List.append_nil,rep_one]
 rw [hL] at h1
 unfold FlS at h
 rw [show wrC.length+1=4 from rfl,h1] at h
 dsimp only at h
 rw [if_pos (by rw [List.length_replicate];omega)] at h
 obtain ⟨g1,g2,t,g3,g4⟩:=h
 rw [List.getElem?_replicate,if_pos (by omega)] at g3
 cases g3
 exact ⟨g1,g4,g2⟩
end Go.Proofs.YtdjfpghgklkejaaGreatDoor
namespace Go.Proofs.YtdjfpghgklkejaaGreatDoor
open Go.RowKit Go.Sort
theorem read_A (W:World) (hv:VR W):Calls Tryz.prog 15 #[.string wkA] W fun e W'=>Below W.heap.size W W'∧∃a k vs,OM W' W.heap.size (.slice a 2 k) (wlA.map opT) vs∧e=.returned (.tuple #[.agg #[.int .i64 1,.int .i64 3,.slice a 2 k],.int .i64 0,.int .i64 0]):=by
 refine (read_any W wkA wrA 0 0 wkA_p (by decide) hv).mono ?_
 rintro e W' ⟨hB,c,p,er,hS,hc⟩
 rcases hS with ⟨h,_⟩ | ⟨_,hS⟩
 ·exact absurd rfl h
 ·obtain ⟨rfl,rfl,rfl⟩:=wkA_f hS
  rcases hc with ⟨h,_⟩ | ⟨_,a,k,vs,hO,rfl⟩
  ·exact absurd rfl h
  ·exact ⟨hB,a,k,vs,hO,rfl⟩
theorem read_B (W:World) (hv:VR W):Calls Tryz.prog 15 #[.string wkB] W fun e W'=>e=.returned (.tuple #[civ noCi none 0,.int .i64 11,.int .i64 114])∧Below W.heap.size W W':=by
 refine (read_any W wkB wrB 0 0 wkB_p (by decide) hv).mono ?_
 rintro e W' ⟨hB,c,p,er,hS,hc⟩
 rcases hS with ⟨h,_⟩ | ⟨_,hS⟩
 ·exact absurd rfl h
 ·obtain ⟨rfl,rfl,rfl⟩:=wkB_f hS
  rcases hc with ⟨_,rfl⟩ | ⟨h,_⟩
  ·exact ⟨rfl,hB⟩
  ·cases h
theorem read_C (W:World) (hv:VR W):Calls Tryz.prog 15 #[.string wkC] W fun e W'=>e=.returned (.tuple #[civ noCi none 0,.int .i64 26,.int .i64 115])∧Below W.heap.size W W':=by
 refine (read_any W wkC wrC 0 0 wkC_p (by decide) hv).mono ?_
 rintro e W' ⟨hB,c,p,er,hS,hc⟩
 rcases hS with ⟨h,_⟩ | ⟨_,hS⟩
 ·exact absurd rfl h
 ·obtain ⟨rfl,rfl,rfl⟩:=wkC_f hS
  rcases hc with ⟨_,rfl⟩ | ⟨h,_⟩
  ·exact ⟨rfl,hB⟩
  ·cases h
theorem cells_A {W:World} {B:Nat} {a:Option Addr} {k:Nat} {vs:List (Option Addr × Nat)} (h:OM W B (.slice a 2 k) (wlA.map opT) vs):∃g,a=some ⟨g,0,none⟩∧2≤k∧g<W.heap.size∧W.cell? ⟨g,3,none⟩=some (.int .i64 2)∧W.cell? ⟨g,11,none⟩=some (.bool true)∧W.cell? ⟨g,12,none⟩=some (.int .u64 4)∧W.cell? ⟨g,13,none⟩=some (.int .u64 4):=by
 have hl:=h.len
 have hl2:vs.length=2:=hl.symm
 obtain ⟨g,cap,e,hc,_,hcell,_,hgl⟩:=own_at h.own (by decide)
 cases e
 have hwl:=opw_length _ _ hl
 have get:∀(i:Nat) (x:Value),i<14→(opw (wlA.map opT) vs)[i]?=some x→W.cell? ⟨g,i,none⟩=some x:=fun i x hi e=>by
  rw [List.getElem?_eq_getElem (by rw [hwl];exact hi)] at e
  rw [hcell i (by rw [hwl];exact hi),Option.some.inj e]
 have h0:=opw_at _ _ hl 0 (by decide) (by omega)
 have h1:=opw_at _ _ hl 1 (by decide) (by omega)
 exact ⟨g,rfl,hc,hgl,get 3 _ (by decide) h0.2.2.2.1,get 11 _ (by decide) h1.2.2.2.2.1,get 12 _ (by decide) h1.2.2.2.2.2.1,get 13 _ (by decide) h1.2.2.2.2.2.2⟩
set_option maxHeartbeats 1000000 in
set_option maxRecDepth 100000 in
theorem alive_any (w:World) (hv:VR w):Calls Tryz.prog 9 #[] w fun e w'=>e=.returned (.bool true)∧Below w.heap.size w w':=by
 have RA:=fun w h=>read_A w h
 have RB:=fun w h=>read_B w h
 have RC:=fun w h=>read_C w h
 unfold wkA at RA
 unfold wkB at RB
 unfold wkC at RC
 have HV:Hid (∀w',Below w.heap.size w w'→VR w'):=fun w' h=>hv.below h
 clear hv
 go_enter Tryz.func9,Tryz.ntmps9
 go_wp2_with (first
  | (go_at_call 15;(with_reducible refine (RA _ (HV.out _ (Below.refl _ _))).mono ?_);rintro e w1 ⟨hB1,a,k,vs,hO,rfl⟩)
  | (go_at_call 15;(with_reducible refine (RB _ (HV.out _ (bal hB1 _))).mono ?_);rintro e w2 ⟨rfl,hB2⟩)
  | (go_at_call 15;(with_reducible refine (RC _ (HV.out _ (bal (btr (bal hB1 _) hB2) _))).mono ?_);rintro e w3 ⟨rfl,hB3⟩;have hB13:=btr (bal (btr (bal (Below.refl w1.heap.size w1) (.cells #[.int .i64 1,.int .i64 3,.slice a 2 k] 27)) hB2) (.cells ciz 27)) hB3;obtain ⟨g,rfl,h2k,hgl,d3,d11,d12,d13⟩:=cells_A (hO.below hB13);have bx:=((bbk (bk_new w1 #[.int .i64 1,.int .i64 3,.slice (some ⟨g,0,none⟩) 2 k] 27) hB2).alloc (.cells ciz 27));have by_:=bbk bx hB3;have b0:∀j,w3.cell? ⟨w1.heap.size,j,none⟩=_:=by_.cell;have bl:=by_.lt))
 go_ret
 exact ⟨rfl,bal (btr hB1 hB13) _⟩
end Go.Proofs.YtdjfpghgklkejaaGreatDoor
namespace Go.Proofs.YtdjfpghgklkejaaGreatDoor
open Go.RowKit Go.Sort
end Go.Proofs.YtdjfpghgklkejaaGreatDoor
