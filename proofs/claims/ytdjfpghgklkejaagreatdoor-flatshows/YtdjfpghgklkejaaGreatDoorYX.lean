/-
  Put together of: F9 FB FH FC.
-/
import Derived.Test.YtdjfpghgklkejaaGreatDoorYT
import Derived.Deep.OwnRows
import Derived.Test.YtdjfpghgklkejaaGreatDoorYU
namespace Go.Proofs.YtdjfpghgklkejaaGreatDoor
open Go.RowKit Go.Sort
def meaR (en:En) (sd:Sd) (r:Rw):Except Fa (En × List TO):=
 match r.args with
 | [a,c]=>match elE en a 1 with
  | .error e=>.error (sd.p,e)
  | .ok q=>match elE en c 2 with
   | .error e=>.error (sd.p,e)
   | .ok b=>.ok (en,[⟨2,⟨#[]⟩,[(q:Int)],b,stO sd⟩])
 | _=>.error (sd.p,111)
theorem mea_no {en:En} {sd:Sd} {r:Rw} (h:r.args.length≠2):meaR en sd r=.error (sd.p,111):=by
 unfold meaR
 match hr:r.args,h with
 | [],_=>rfl
 | [_],_=>rfl
 | [_,_],h=>exact absurd rfl h
 | _::_::_::_,_=>rfl
theorem mea_e1 {en:En} {sd:Sd} {r:Rw} {a c:Ar} {e:Nat} (h:r.args=[a,c]) (he:elE en a 1=.error e):meaR en sd r=.error (sd.p,e):=by
 unfold meaR
 rw [h]
 simp only [he]
theorem mea_e2 {en:En} {sd:Sd} {r:Rw} {a c:Ar} {q e:Nat} (h:r.args=[a,c]) (hq:elE en a 1=.ok q) (he:elE en c 2=.error e):meaR en sd r=.error (sd.p,e):=by
 unfold meaR
 rw [h]
 simp only [hq,he]
theorem mea_ok {en:En} {sd:Sd} {r:Rw} {a c:Ar} {q b:Nat} (h:r.args=[a,c]) (hq:elE en a 1=.ok q) (he:elE en c 2=.ok b):meaR en sd r=.ok (en,[⟨2,⟨#[]⟩,[(q:Int)],b,stO sd⟩]):=by
 unfold meaR
 rw [h]
 simp only [hq,he]
set_option maxHeartbeats 8000000 in
theorem measure_any {w0 W:World} {lb mb N:Nat} {hi:HG} {en:En} {pl:Int} (H:LK w0 W lb mb hi N en pl) (hok:EnOk en) (r:Rw) (aa:Option Addr) (ac:Nat) (sd:Sd) (hmv:sd.m<18446744073709551616∧sd.v<18446744073709551616) (hgf:sd.g=false) (hsp:sd.p=pl) (hA:SA w0 (.slice aa r.args.length ac) r.args) (hsz:∀a∈r.args,a.n.size≤maxLen) :
  Calls Tryz.prog 88 #[.pointer (some ⟨lb,0,none⟩),rwV r aa ac,sdV sd] W fun e W'=>RowO w0 W W' lb mb hi N (en,sd.g) (meaR en sd r) e:=by
 have HL:=hid H
 have HGF:=hid hgf
 have HMV:=hid hmv
 clear hgf hmv
 obtain ⟨k,nm,ar,nu,ro,pc⟩:=r
 obtain ⟨p,n,g,m,v⟩:=sd
 simp only at *
 subst hsp
 by_cases hl:ar.length=2
 case neg=>
  rw [mea_no (r:=⟨k,nm,ar,nu,ro,pc⟩) hl]
  have hl':((ar.length:Int) != 2)=true:=bne_iff_ne.2 (by omega)
  clear hl H hA hok
  go_enter Tryz.func88,Tryz.ntmps88
  go_wp2
  refine bodyPost_ret (v:=.tuple #[ppV pp0,.int .i64 111]) (by simp [results,Tryz.results88,go_sem]) rfl ?_
  exact rowO_bad HL.out (bal (bal (bal (Below.refl _ _) _) _) _) (by decide)
 obtain ⟨ag,bg,har⟩:∃ag bg,ar=[ag,bg]:=by
  match ar,hl with
  | [ag,bg],_=>exact ⟨ag,bg,rfl⟩
 have hag:=hsz ag (by simp [har])
 have hbg:=hsz bg (by simp [har])
 have F:=fun w1 (h:Below W.heap.size W w1)=>element_any (H.fr h) hok ag hag 1 (.inl rfl)
 have F2:=fun w1 (h:Below W.heap.size W w1)=>element_any (H.fr h) hok bg hbg 2 (.inr rfl)
 rw [show ((1:Nat):Int)=1 from rfl] at F
 rw [show ((2:Nat):Int)=2 from rfl] at F2
 obtain ⟨b,o,c,e1,hc,a0,a1,al⟩:=sa_at (hA.below H.below) (k:=0) (by omega)
 cases e1
 obtain ⟨b',o',c',e1,_,c0,c1,_⟩:=sa_at (hA.below H.below) (k:=1) (by omega)
 cases e1
 have ez:ar[0]'(by omega)=ag:=by simp [har]
 have ey:ar[1]'(by omega)=bg:=by simp [har]
 rw [ez,Nat.zero_mul,Nat.add_zero] at a0 a1
 rw [ey,Nat.one_mul] at c0 c1
 have h1:((ar.length:Int) != 2)=false:=by rw [hl];rfl
 have h0:0<ar.length:=by omega
 have h2:1<ar.length:=by omega
 have al1:b<W.heap.size+1:=by omega
 have al2:b<W.heap.size+1+1:=by omega
 have al3:b<W.heap.size+1+1+1:=by omega
 have HOK:=hid hok
 have HAR:=hid har
 have KC:Hid (∀w1:World,Below W.heap.size W w1→w1.cell? ⟨b,o+2,none⟩=some (.string bg.n)∧w1.cell? ⟨b,o+2+1,none⟩=some (.int .i64 bg.x)∧b<w1.heap.size):=fun w1 h=>⟨(h.cell (p:=⟨b,o+2,none⟩) al).trans c0,(h.cell (p:=⟨b,o+2+1,none⟩) al).trans c1,Nat.lt_of_lt_of_le al h.size⟩
 clear H hA hsz hok ez ey har hl c0 c1
 cases hX:elE en ag 1 with
 | error x=>
  rw [mea_e1 (r:=⟨k,nm,ar,nu,ro,pc⟩) HAR.out hX]
  have hx:=el_err hX
  rw [hX] at F
  simp only [valE,errN] at F
  have hx2:((x:Int) != 0)=true:=bne_iff_ne.2 (by omega)
  obtain ⟨an,ax⟩:=ag
  simp only at *
  clear hX F2
  go_enter Tryz.func88,Tryz.ntmps88
  go_wp2_with (go_at_call 139;(with_reducible refine (F _ (bal (bal (bal (Below.refl _ _) _) _) _)).mono ?_);rintro e w1 ⟨rfl,hB⟩;obtain ⟨hB1,k1,k2,k3⟩:=tri_box hB;have q1:=k1.cell;have q2:=k2.cell;have q3:=k3.cell;have f3:=k3.free;have l1:=k1.lt;have l2:=k2.lt;have l3:=k3.lt;clear k1 k2 k3)
  refine bodyPost_ret (v:=.tuple #[ppV pp0,.int .i64 (x:Nat)]) (by simp [results,Tryz.results88,go_sem, *]) rfl ?_
  change RowO w0 W (w1.setCells (W.heap.size+1+1) 0 (ppc pp0)) lb mb hi N (en,g) _ _
  exact rowO_bad HL.out (below_sets hB1 (by omega) _) hx
 | ok q=>
  rw [hX] at F
  simp only [valE,errN] at F
  obtain ⟨an,ax⟩:=ag
  obtain ⟨bn,bx⟩:=bg
  simp only at *
  cases hY:elE en ⟨bn,bx⟩ 2 with
  | error y=>
   rw [mea_e2 (r:=⟨k,nm,ar,nu,ro,pc⟩) HAR.out hX hY]
   have hy:=el_err hY
   rw [hY] at F2
   simp only [valE,errN] at F2
   clear hX hY
   go_enter Tryz.func88,Tryz.ntmps88
   go_wp2_with (first
    | (go_at_call 139;(with_reducible refine (F _ (bal (bal (bal (Below.refl _ _) _) _) _)).mono ?_);rintro e w1 ⟨rfl,hB⟩;obtain ⟨hB1,k1,k2,k3⟩:=tri_box hB;obtain ⟨u0,u1,u2⟩:=KC.out w1 hB1;have q1:=k1.cell;have l1:=k1.lt;clear F)
    | (go_at_call 139;(with_reducible refine (F2 _ hB1).mono ?_);rintro e w2 ⟨rfl,hC⟩;have hC1:=btr hB1 hC;have m1:BK w2 _ _ 79:=(hC.block _ k1.lt).trans k1;have m2:BK w2 _ _ 69:=(hC.block _ k2.lt).trans k2;have m3:BK w2 _ _ 113:=(hC.block _ k3.lt).trans k3;have s1:=m1.cell;have s2:=m2.cell;have s3:=m3.cell;have f3:=m3.free;have t1:=m1.lt;have t2:=m2.lt;have t3:=m3.lt;clear m1 m2 m3 k1 k2 k3 q1 u0 u1))
   refine bodyPost_ret (v:=.tuple #[ppV ⟨⟨p,n,g,m,v⟩,2,⟨#[]⟩,[(q:Int)],some ⟨w2.heap.size,0,none⟩,1,0,0,none,0,0⟩,.int .i64 (y:Nat)]) (by simp [results,Tryz.results88,go_sem, *]) rfl ?_
   change RowO w0 W ((w2.setCells (W.heap.size+1+1) 0 (ppc ⟨⟨p,n,g,m,v⟩,2,⟨#[]⟩,[(q:Int)],some ⟨w2.heap.size,0,none⟩,1,0,0,none,0,0⟩)).alloc (.cells #[.int .i64 (q:Int)] 3)) lb mb hi N (en,g) _ _
   exact rowO_bad HL.out (bal (below_sets hC1 (by omega) _) _) hy
  | ok y=>
   rw [mea_ok (r:=⟨k,nm,ar,nu,ro,pc⟩) HAR.out hX hY]
   have HQL:Hid ((q:Int)<(en.q:Int)):=by have:=el_lt HOK.out hX;show (q:Int)<(en.q:Int);omega
   rw [hY] at F2
   simp only [valE,errN] at F2
   clear hX hY
   go_enter Tryz.func88,Tryz.ntmps88
   go_wp2_with (first
    | (go_at_call 139;(with_reducible refine (F _ (bal (bal (bal (Below.refl _ _) _) _) _)).mono ?_);rintro e w1 ⟨rfl,hB⟩;obtain ⟨hB1,k1,k2,k3⟩:=tri_box hB;obtain ⟨u0,u1,u2⟩:=KC.out w1 hB1;have q1:=k1.cell;have l1:=k1.lt;clear F)
    | (go_at_call 139;(with_reducible refine (F2 _ hB1).mono ?_);rintro e w2 ⟨rfl,hC⟩;have hC1:=btr hB1 hC;have m1:BK w2 _ _ 79:=(hC.block _ k1.lt).trans k1;have m2:BK w2 _ _ 69:=(hC.block _ k2.lt).trans k2;have m3:BK w2 _ _ 113:=(hC.block _ k3.lt).trans k3;have s1:=m1.cell;have s2:=m2.cell;have s3:=m3.cell;have f3:=m3.free;have t1:=m1.lt;have t2:=m2.lt;have t3:=m3.lt;clear m1 m2 m3 k1 k2 k3 q1 u0 u1))
   refine bodyPost_ret (v:=.tuple #[ppV ⟨⟨p,n,g,m,v⟩,2,⟨#[]⟩,[(q:Int)],some ⟨w2.heap.size,0,none⟩,1,(y:Int),0,none,0,0⟩,.int .i64 0]) (by simp [results,Tryz.results88,go_sem, *]) rfl ?_
   change RowO w0 W ((w2.setCells (W.heap.size+1+1) 0 (ppc ⟨⟨p,n,g,m,v⟩,2,⟨#[]⟩,[(q:Int)],some ⟨w2.heap.size,0,none⟩,1,(y:Int),0,none,0,0⟩)).alloc (.cells #[.int .i64 (q:Int)] 3)) lb mb hi N (en,g) _ _
   exact rowO_one HL.out HOK.out hC1 (by omega) _ (q:Int) 2 ⟨#[]⟩ (y:Int) ⟨p,n,g,m,v⟩ (by decide) (by decide) HMV.out HGF.out (by omega) HQL.out
end Go.Proofs.YtdjfpghgklkejaaGreatDoor
namespace Go.Proofs.YtdjfpghgklkejaaGreatDoor
open Go.RowKit Go.Sort
def leadB (p:PP):Bool:=(p.k != 0) || (decide (0<p.t)&&decide (0<p.bn))
theorem leadB_iff {p:PP}:leadB p=false↔(p.k=0∧(p.t≤0∨p.bn=0)):=by
 unfold leadB
 simp
 omega
set_option maxHeartbeats 4000000 in
theorem leads_any (p:PP) (w:World):Calls Tryz.prog 55 #[ppV p] w fun e w'=>e=.returned (.bool (leadB p))∧Below w.heap.size w w':=by
 obtain ⟨⟨sp,sn,sg,sm,sv⟩,k,n,qs,qa,qc,b,t,ba,bn,bc⟩:=p
 have hL:leadB ⟨⟨sp,sn,sg,sm,sv⟩,k,n,qs,qa,qc,b,t,ba,bn,bc⟩=((k != 0) || (decide (0<t)&&decide (0<bn))):=rfl
 rw [hL]
 clear hL
 by_cases h1:k=0
 ·have e1:(k != 0)=false:=by simp [h1]
  rw [e1]
  clear h1
  by_cases h2:0<t
  ·have e2:decide (0<t)=true:=decide_eq_true h2
   rw [e2]
   clear e2
   go_enter Tryz.func55,Tryz.ntmps55
   go_wp2
   go_ret
   exact ⟨by simp,bal (Below.refl _ _) _⟩
  ·have e2:decide (0<t)=false:=decide_eq_false h2
   rw [e2]
   clear e2
   go_enter Tryz.func55,Tryz.ntmps55
   go_wp2
   go_ret
   exact ⟨rfl,bal (Below.refl _ _) _⟩
 ·have e1:(k != 0)=true:=bne_iff_ne.2 h1
  rw [e1]
  clear h1
  go_enter Tryz.func55,Tryz.ntmps55
  go_wp2
  go_ret
  exact ⟨rfl,bal (Below.refl _ _) _⟩
end Go.Proofs.YtdjfpghgklkejaaGreatDoor
namespace Go.Proofs.YtdjfpghgklkejaaGreatDoor
open Go.RowKit Go.Shelf
attribute [local go_sem] Oper.semAt_some
theorem info3z:(Tryz.prog.info? 3).map (fun i=>(i.zero,i.size,i.bytes))=some (some (.int .i64 0),1,8):=by kernel_rfl
theorem made_ints (n:Nat) (hn:n≤6000000000000) (w:World):(Instr.makeSlice 46 (.int .i64 (n:Int)) (.int .i64 (n:Int))).run Tryz.prog w=.ok (.slice (some ⟨w.heap.size,0,none⟩) n n) (w.alloc (.cells (madeCells #[.int .i64 0] n) 3)):=
 run_make_row' 46 3 (.int .i64 0) 8 Tryz.underlying46 info3z rfl .i64 .i64 n (by omega) (by omega) w
def chN (Q ns:List Int):List Int:=ns.map fun j=>Q.getD j.toNat 0
abbrev chF (Q ns:List Int) (k:Nat):Nat→Value:=fun i=>.int .i64 (if i<k then (chN Q ns).getD i 0 else 0)
theorem ch_next {W:World} {g n k:Nat} {Q ns:List Int} (h:W.rowIs g 3 n (chF Q ns k)) {y:Int} (hy:(chN Q ns).getD k 0=y):(W.setCell ⟨g,k,none⟩ (.int .i64 y)).rowIs g 3 n (chF Q ns (k+1)):=by
 refine (h.set k (.int .i64 y)).congr fun i _=>?_
 show (if i=k then Value.int .i64 y else .int .i64 (if i<k then (chN Q ns).getD i 0 else 0))=.int .i64 (if i<k+1 then (chN Q ns).getD i 0 else 0)
 by_cases e:i=k
 ·rw [if_pos e,if_pos (by omega),e,hy]
 ·rw [if_neg e]
  by_cases e2:i<k
  ·rw [if_pos e2,if_pos (by omega)]
  ·rw [if_neg e2,if_neg (by omega)]
def zl (l:List Int):List Value:=l.map fun n=>.int .i64 n
theorem row_own {W:World} {g n:Nat} {f:Nat→Value} {l:List Int} (h:W.rowIs g 3 n f) (hn:n≤maxLen) (hl:l.length=n) (hf:∀i (h:i<l.length),f i=.int .i64 l[i]):W.ownsRow g 3 1 (.slice (some ⟨g,0,none⟩) n n) n (zl l):=by
 obtain ⟨c,hb,hs,hc⟩:=h
 refine ⟨by simp [zl,hl],.inr ⟨g,n,c,rfl,Nat.le_refl _,hb,Nat.le_refl _,hn,by omega,?_⟩⟩
 apply List.ext_getElem?
 intro i
 rw [Nat.mul_one]
 by_cases hi:i<n
 ·rw [List.getElem?_take_of_lt hi,Array.getElem?_toList,hc i hi,hf i (by omega)]
  simp [zl,hl,hi]
 ·rw [List.getElem?_eq_none (by rw [List.length_take];omega),List.getElem?_eq_none (by simp [zl];omega)]
theorem ch_own {W:World} {g:Nat} {Q ns:List Int} (hn:ns.length≤maxLen) (h:W.rowIs g 3 ns.length (chF Q ns ns.length)):W.ownsRow g 3 1 (.slice (some ⟨g,0,none⟩) ns.length ns.length) ns.length (zl (chN Q ns)):=by
 have hl:(chN Q ns).length=ns.length:=by unfold chN;simp
 refine row_own h hn hl fun i hi=>?_
 show Value.int .i64 (if i<ns.length then (chN Q ns).getD i 0 else 0)=_
 rw [if_pos (by omega),List.getD_eq_getElem?_getD,List.getElem?_eq_getElem hi]
 rfl
set_option maxHeartbeats 4000000 in
set_option maxRecDepth 100000 in
theorem chosen_any (Q ns:List Int) (qa na:Option Addr) (qc nc:Nat) (w:World) (hQ:QS w qa qc Q) (hN:QS w na nc ns) (hn:ns.length≤6000000000000) (hr:∀j (h:j<ns.length),0≤ns[j]∧ns[j]<(Q.length:Int)) :
  Calls Tryz.prog 91 #[.slice qa Q.length qc,.slice na ns.length nc] w fun e w'=>e=.returned (.slice (some ⟨w.heap.size,0,none⟩) ns.length ns.length)∧Below w.heap.size w w'∧w'.ownsRow w.heap.size 3 1 (.slice (some ⟨w.heap.size,0,none⟩) ns.length ns.length) ns.length (zl (chN Q ns)):=by
 have mk:=made_ints ns.length hn
 have HNM:Hid (ns.length≤maxLen):=by unfold Hid maxLen;omega
 have HQ:=hid hQ
 have HN:=hid hN
 have HR0:=hid hr
 clear hQ hN hr
 go_enter Tryz.func91,Tryz.ntmps91
 go_wp2
 go_loopw [13] (fun s wr=>∃k:Nat,k≤ns.length∧s=.int .i64 (k:Nat)∧Hid (Below w.heap.size w wr)∧Hid (wr.rowIs w.heap.size 3 ns.length (chF Q ns k))) (fun s _=>ns.length-(intOf s).toNat)
 case atStart=>exact ⟨0,Nat.zero_le _,rfl,bal (Below.refl _ _) _,(World.rowIs_made w (.int .i64 0) ns.length 3).congr fun i _=>by simp⟩
 case round=>
  obtain ⟨k,hk,rfl,hB,hR⟩:=hrel
  by_cases hlt:k<ns.length
  case neg=>
   obtain rfl:k=ns.length:=by omega
   go_wp2
   go_ret
   exact ⟨rfl,hB.out,ch_own HNM.out hR.out⟩
  obtain ⟨b',o',e',r⟩:=(HN.out.below hB.out).at_ k hlt
  obtain ⟨y0,y1⟩:=HR0.out k hlt
  obtain ⟨x,hx⟩:∃x:Nat,ns[k]=(x:Int):=⟨ns[k].toNat,by omega⟩
  have hxq:x<Q.length:=by omega
  obtain ⟨b2,o2,e2,r2⟩:=(HQ.out.below hB.out).at_ x hxq
  have c0:=r.c k hlt
  have c1:=r2.c x hxq
  have l0:=r.lt
  have l1:=r2.lt
  have l2:=hR.out.lt
  have f2:=hR.out.frozen k
  have hy:Hid ((chN Q ns).getD k 0=Q[x]):=by
   unfold Hid chN
   rw [List.getD_eq_getElem?_getD,List.getElem?_map,List.getElem?_eq_getElem hlt,Option.map_some,Option.getD_some,hx,Int.toNat_natCast,List.getD_eq_getElem?_getD,List.getElem?_eq_getElem hxq,Option.getD_some]
  have c2:=hR.out.cell hlt
  rw [hx] at c0
  subst e' e2
  clear r r2 y0 y1 hx
  generalize Q[x]=y at *
  go_wp2
  go_round
  case rel=>exact ⟨k+1,by omega,by go_num,bset hB.out _ _ _ (Nat.le_refl _),ch_next hR.out hy.out⟩
  case measure=>simp [intOf];omega
end Go.Proofs.YtdjfpghgklkejaaGreatDoor
namespace Go.Proofs.YtdjfpghgklkejaaGreatDoor
open Go.RowKit Go.Sort
def allN (en:En) (s:Nat):Nat:=if s=1 then en.q else en.b
def addN (en:En) (s k:Nat):En:=if s=1 then ⟨en.nm,en.q+k,en.b,en.pr,en.d⟩ else ⟨en.nm,en.q,en.b+k,en.pr,en.d⟩
def DecO (w0 W W':World) (lb mb:Nat) (hi:HG) (N:Nat) (en:En) (pl:Int) (r:Rw) (s:Nat) (e:Ending):Prop:=
 Fr W W' w0.heap.size hi.h∧e=.returned (.int .i64 (decE en r (allN en s):Nat))∧(decE en r (allN en s)≠0→LK w0 W' lb mb hi N en pl) ∧
  (decE en r (allN en s)=0→LK w0 W' lb mb hi (N+1) (addN ⟨putN en.nm r.name ⟨s,allN en s,r.num.toNat,0,[]⟩,en.q,en.b,en.pr,en.d⟩ s r.num.toNat) pl∧EnOk (addN ⟨putN en.nm r.name ⟨s,allN en s,r.num.toNat,0,[]⟩,en.q,en.b,en.pr,en.d⟩ s r.num.toNat))
theorem dec_ok {en:En} {r:Rw} {s:Nat} (hok:EnOk en) (hs:s=1∨s=2) (h:decE en r (allN en s)=0):EnOk (addN ⟨putN en.nm r.name ⟨s,allN en s,r.num.toNat,0,[]⟩,en.q,en.b,en.pr,en.d⟩ s r.num.toNat)∧srt en r.name=0∧1≤r.num∧r.num≤64-allN en s:=by
 unfold decE at h
 split at h
 ·cases h
 ·rename_i h1
  split at h
  ·cases h
  ·rename_i h2
   split at h
   ·cases h
   ·rename_i h3
    have ha:allN en s≤64:=by unfold allN;split;exact hok.q;exact hok.b
    have hf:∀t m,putN en.nm r.name ⟨s,allN en s,r.num.toNat,0,[]⟩ t=some m→m.f≤64∧m.z≤6000000000000∧(m.s=1∨m.s=2→m.f+m.z≤64)∧m.d≤32∧m.s≠0∧m.s≤5:=fun t m hm=>by
     unfold putN at hm
     split at hm
     ·cases hm
      exact ⟨ha,by show r.num.toNat≤_;omega,fun _=>by show allN en s+r.num.toNat≤64;omega,by show 0≤32;omega,by show s≠0;omega,by show s≤5;omega⟩
     ·exact hok.f t m hm
    have hl:∀t m,putN en.nm r.name ⟨s,allN en s,r.num.toNat,0,[]⟩ t=some m→∀u∈m.l,u.st=none:=fun t m hm=>by
     unfold putN at hm
     split at hm
     ·cases hm
      exact fun u hu=>by cases hu
     ·exact hok.l t m hm
    have hr:∀t m,putN en.nm r.name ⟨s,allN en s,r.num.toNat,0,[]⟩ t=some m→m.s=1→m.f+m.z≤if s=1 then en.q+r.num.toNat else en.q:=fun t m hm h1=>by
     unfold putN at hm
     split at hm
     ·cases hm
      have h1:s=1:=h1
      rw [if_pos h1,h1]
      exact Nat.le_refl _
     ·have:=hok.r t m hm h1
      split <;> omega
    have hz:∀t m,putN en.nm r.name ⟨s,allN en s,r.num.toNat,0,[]⟩ t=some m→m.s=3→0<m.z∧t.size≤281474976710656:=fun t m hm h1=>by
     unfold putN at hm
     split at hm
     ·cases hm
      have h1:s=3:=h1
      omega
     ·exact hok.z t m hm h1
    refine ⟨?_,by simpa using h1,by omega,by omega⟩
    unfold addN
    rcases hs with rfl | rfl
    ·rw [if_pos rfl]
     exact ⟨by show en.q+r.num.toNat≤64;have:allN en 1=en.q:=rfl;omega,hok.b,hf,hok.d,hr,hl,hz⟩
    ·rw [if_neg (by decide)]
     exact ⟨hok.q,by show en.b+r.num.toNat≤64;have:allN en 2=en.b:=rfl;omega,hf,hok.d,hr,hl,hz⟩
theorem LK.count {w0 W:World} {lb mb N:Nat} {hi:HG} {en:En} {pl:Int} (h:LK w0 W lb mb hi N en pl) {s k:Nat} (hs:s=1∨s=2):LK w0 (W.setCell ⟨lb,s,none⟩ (.int .i64 ((allN en s+k:Nat):Int))).drew lb mb hi N (addN en s k) pl:=by
 have g:Fr W (W.setCell ⟨lb,s,none⟩ (.int .i64 ((allN en s+k:Nat):Int))).drew lb (lb+1):=by
  have:=(Fr.refl W lb (lb+1)).set lb s (.int .i64 ((allN en s+k:Nat):Int)) (.inl ⟨Nat.le_refl _,Nat.lt_succ_self _⟩)
  exact ⟨this.os,this.tape,this.output,this.size,this.block⟩
 have hx:∀b,hi.G b→b<lb∨lb+1≤b:=fun b hb=>.inr (by have:=hi.le b hb;have:=h.o3;omega)
 obtain ⟨pv,k1,k2⟩:=h.box
 have hmb:(W.setCell ⟨lb,s,none⟩ (.int .i64 ((allN en s+k:Nat):Int))).drew.heap[mb]?=W.heap[mb]?:=g.block _ (Nat.lt_of_lt_of_le h.o4 h.o5) (by have:=h.o6;omega)
 have hnm:(addN en s k).nm=en.nm:=by unfold addN;split <;> rfl
 have hpr:(addN en s k).pr=en.pr:=by unfold addN;split <;> rfl
 refine ⟨below_fr h.below g h.o1,⟨pv,?_,by rw [hpr];exact k2.far g hx⟩,by rw [hnm];exact h.nm.far g hx hmb,h.o1,h.o2,h.o3,h.o4,Nat.le_trans h.o5 g.size,h.o6,fun b hb=>h.up b (Nat.le_trans g.size hb)⟩
 have k3:=(k1.set s (.int .i64 ((allN en s+k:Nat):Int))).drew
 rcases hs with rfl | rfl
 ·exact k3
 ·exact k3
set_option maxHeartbeats 8000000 in
set_option maxRecDepth 100000 in
theorem declare_any {w0 W:World} {lb mb N:Nat} {hi:HG} {en:En} {pl:Int} (H:LK w0 W lb mb hi N en pl) (hok:EnOk en) (hN:N<maxLen) (r:Rw) (aa:Option Addr) (ac:Nat) (hs:r.name.size≤maxLen) (s:Nat) (hs0:s=1∨s=2) :
  Calls Tryz.prog 84 #[.pointer (some ⟨lb,0,none⟩),rwV r aa ac,.int .i64 (s:Nat),.pointer (some ⟨lb,s,none⟩),.int .i64 64] W fun e W'=>DecO w0 W W' lb mb hi N en pl r s e:=by
 obtain ⟨x0,x1,x2,x3,ba,bk,bc,L',hL,hx0,hsome,hnone,hP⟩:=H.name r.name hs
 obtain ⟨pv,k1,kp⟩:=H.box
 have hmb:mb<W.heap.size:=Nat.lt_of_lt_of_le H.o4 H.o5
 have c0:W.cell? ⟨lb,0,none⟩=some (.map (some mb)):=k1.cell 0
 have cs:W.cell? ⟨lb,s,none⟩=some (.int .i64 (allN en s:Nat)):=by
  rcases hs0 with rfl | rfl
  ·exact k1.cell 1
  ·exact k1.cell 2
 have l0:=k1.lt
 have hall:allN en s≤64:=by unfold allN;split;exact hok.q;exact hok.b
 have hD:decE en r (allN en s)=if x0≠0 then 110 else if r.num<1 then 112 else if ((64:Int)-(allN en s:Nat))<r.num then 1 else 0:=by rw [hx0];rfl
 have HDO:=hid (dec_ok (r:=r) hok hs0)
 have HL:=hid H
 have HOK:=hid hok
 clear hx0 hsome hnone hP H hok k1 kp
 generalize hDe:decE en r (allN en s)=D at *
 obtain ⟨A,hA⟩:∃A,A=allN en s:=⟨_,rfl⟩
 have HK0:Hid (∀W',Below W.heap.size W W'→D≠0→DecO w0 W W' lb mb hi N en pl r s (.returned (.int .i64 (D:Nat)))):=fun W' hB hd=>⟨fr_of_below hB,by rw [hDe],fun _=>HL.out.fr hB,fun h=>absurd (hDe▸h) hd⟩
 rw [←hA] at cs hall hD
 have HAE:=hid hA
 have HS0:=hid hs0
 have KP:Hid (∀w',Below W.heap.size W w'→(w'.cell? ⟨lb,0,none⟩=some (.map (some mb))∧w'.cell? ⟨lb,s,none⟩=some (.int .i64 (A:Nat))∧lb<w'.heap.size)∧(Instr.lookup 60 (.map (some mb)) (.string r.name) false).run Tryz.prog w'=.ok (.agg #[.int .i64 (x0:Nat),.int .i64 (x1:Nat),.int .i64 (x2:Nat),.int .i64 (x3:Nat),.slice ba bk bc]) w'):=fun w' h=>⟨⟨(h.cell (p:=⟨lb,0,none⟩) l0).trans c0,(h.cell (p:=⟨lb,s,none⟩) l0).trans cs,Nat.lt_of_lt_of_le l0 h.size⟩,hL w' (h.block _ hmb)⟩
 clear hL c0 cs
 clear hA hs0
 generalize hQ:(fun e W'=>DecO w0 W W' lb mb hi N en pl r s e)=Q
 have HQ:=hid hQ
 clear hQ
 obtain ⟨k,nm,ar,nu,ro,pc⟩:=r
 simp only at *
 obtain ⟨V,hV⟩:∃V,V=W.alloc (.cells #[.string k,.string nm,.slice aa ar.length ac,.int .i64 nu,.int .i64 ro,.int .i64 pc] 79):=⟨_,rfl⟩
 have bV:BK V W.heap.size #[.string k,.string nm,.slice aa ar.length ac,.int .i64 nu,.int .i64 ro,.int .i64 pc] 79:=by rw [hV];exact bk_new _ _ _
 have hWV:Below W.heap.size W V:=by rw [hV];exact bal (Below.refl _ _) _
 have SK:Hid (∀w',Below V.heap.size V w'→Below V.heap.size V w'∧((w'.cell? ⟨lb,0,none⟩=some (.map (some mb))∧w'.cell? ⟨lb,s,none⟩=some (.int .i64 (A:Nat))∧lb<w'.heap.size)∧(Instr.lookup 60 (.map (some mb)) (.string nm) false).run Tryz.prog w'=.ok (.agg #[.int .i64 (x0:Nat),.int .i64 (x1:Nat),.int .i64 (x2:Nat),.int .i64 (x3:Nat),.slice ba bk bc]) w')∧(∀j,w'.cell? ⟨W.heap.size,j,none⟩=(#[.string k,.string nm,.slice aa ar.length ac,.int .i64 nu,.int .i64 ro,.int .i64 pc]:Array Value)[j]?)∧W.heap.size<w'.heap.size):=fun w' h=>⟨h,KP.out w' (btr hWV h),(by have b2:BK w' W.heap.size _ 79:=(h.block _ bV.lt).trans bV;exact b2.cell),Nat.lt_of_lt_of_le bV.lt h.size⟩
 have HWV:=hid hWV
 have HBV:=hid bV
 have fld:∀w:World,(Instr.field 109 (.agg #[.int .i64 (x0:Nat),.int .i64 (x1:Nat),.int .i64 (x2:Nat),.int .i64 (x3:Nat),.slice ba bk bc]) 0).run Tryz.prog w=.ok (.int .i64 (x0:Nat)) w:=fun w=>by kernel_rfl
 clear hWV bV l0
 go_enter Tryz.func84,Tryz.ntmps84
 go_upto_region 1 with (fail)
 rw [←hV]
 clear hV
 go_region_held3 (fun w'=>Below V.heap.size V w'∧((w'.cell? ⟨lb,0,none⟩=some (.map (some mb))∧w'.cell? ⟨lb,s,none⟩=some (.int .i64 (A:Nat))∧lb<w'.heap.size)∧(Instr.lookup 60 (.map (some mb)) (.string nm) false).run Tryz.prog w'=.ok (.agg #[.int .i64 (x0:Nat),.int .i64 (x1:Nat),.int .i64 (x2:Nat),.int .i64 (x3:Nat),.slice ba bk bc]) w')∧(∀j,w'.cell? ⟨W.heap.size,j,none⟩=(#[.string k,.string nm,.slice aa ar.length ac,.int .i64 nu,.int .i64 ro,.int .i64 pc]:Array Value)[j]?)∧W.heap.size<w'.heap.size)
  ((refine SK.out _ ?_;first | exact below_drew (Below.refl _ _) | exact And.left (by assumption)))
  (fail)
 all_goals
  obtain ⟨V1,hV1⟩:∃V1,V1=V.drew:=⟨_,rfl⟩
  have hB1:Below V.heap.size V V1:=by rw [hV1];exact below_drew (Below.refl _ _)
  rw [←hV1]
  clear hV1
  have sk:=SK.out V1 hB1
  have HB1:=hid hB1
  have q1:=sk.2.1.1.1
  have q2:=sk.2.1.1.2.1
  have q3:=sk.2.1.1.2.2
  have q4:=sk.2.2.1
  have q5:=sk.2.2.2
  clear sk hB1
  by_cases hx:x0=0
  case neg=>
   have hx':((x0:Int) != 0)=true:=bne_iff_ne.2 (by omega)
   rw [if_pos hx] at hD
   subst hD
   clear hx
   go_wp2
   rw [←HQ.out]
   exact HK0.out _ (btr HWV.out HB1.out) (by decide)
  have hx':((x0:Int) != 0)=false:=by rw [hx];rfl
  rw [if_neg (by omega)] at hD
  by_cases hn1:nu<1
  ·rw [if_pos hn1] at hD
   subst hD
   go_wp2
   rw [←HQ.out]
   exact HK0.out _ (btr HWV.out HB1.out) (by decide)
  rw [if_neg hn1] at hD
  have hw:IntKind.i64.wrap ((64:Int)-(A:Int))=(64:Int)-(A:Int):=by rw [IntKind.wrap_i64];omega
  go_upto_region 5 with (fail)
  go_region_held3 (fun w'=>Below V.heap.size V w'∧((w'.cell? ⟨lb,0,none⟩=some (.map (some mb))∧w'.cell? ⟨lb,s,none⟩=some (.int .i64 (A:Nat))∧lb<w'.heap.size)∧(Instr.lookup 60 (.map (some mb)) (.string nm) false).run Tryz.prog w'=.ok (.agg #[.int .i64 (x0:Nat),.int .i64 (x1:Nat),.int .i64 (x2:Nat),.int .i64 (x3:Nat),.slice ba bk bc]) w')∧(∀j,w'.cell? ⟨W.heap.size,j,none⟩=(#[.string k,.string nm,.slice aa ar.length ac,.int .i64 nu,.int .i64 ro,.int .i64 pc]:Array Value)[j]?)∧W.heap.size<w'.heap.size)
   ((refine SK.out _ ?_;first | exact below_drew HB1.out | exact And.left (by assumption)))
   (fail)
  all_goals
   obtain ⟨V2,hV2⟩:∃V2,V2=V1.drew:=⟨_,rfl⟩
   have hB2:Below V.heap.size V V2:=by rw [hV2];exact below_drew HB1.out
   rw [←hV2]
   clear hV2 q1 q2 q3 q4 q5
   have HB2:=hid hB2
   clear hB2 HB1
   by_cases hn2:(64:Int)-(A:Nat)<nu
   ·rw [if_pos hn2] at hD
    subst hD
    go_wp2
    rw [←HQ.out]
    exact HK0.out _ (btr HWV.out HB2.out) (by decide)
   rw [if_neg hn2] at hD
   subst hD
   obtain ⟨nn,rfl⟩:∃nn:Nat,nu=(nn:Nat):=⟨nu.toNat,by omega⟩
   have hBW:Below W.heap.size W V2.drew:=below_drew (btr HWV.out HB2.out)
   have HU:=(HL.out.fr hBW).take hN nm hs ⟨s,A,nn,0,[]⟩ (.agg #[.int .i64 (s:Nat),.int .i64 (A:Nat),.int .i64 (nn:Nat),.int .i64 0,.slice none 0 0]) ⟨none,0,0,[],rfl,pl_nil _ _ _ _ _,T4.refl _⟩
   obtain ⟨W7,hr7,hK7,hg7⟩:=HU
   have HK7:=hid hK7
   have HG7:=hid hg7
   have bR:BK V2.drew W.heap.size #[.string k,.string nm,.slice aa ar.length ac,.int .i64 (nn:Nat),.int .i64 ro,.int .i64 pc] 79:=(below_drew HB2.out).block _ HBV.out.lt |>.trans HBV.out
   have hmW:mb<W.heap.size:=hmb
   have bR7:BK W7 W.heap.size #[.string k,.string nm,.slice aa ar.length ac,.int .i64 (nn:Nat),.int .i64 ro,.int .i64 pc] 79:=(hg7.block _ bR.lt (fun e=>by cases e;omega)).trans bR
   have HBR:=hid bR7
   clear hK7 hg7 bR bR7
   go_upto_region 7 with (fail)
   refine wp_region_noPanic ?_
   refine region_z (S:=fun w'=>Below V.heap.size V w'∧((w'.cell? ⟨lb,0,none⟩=some (.map (some mb))∧w'.cell? ⟨lb,s,none⟩=some (.int .i64 (A:Nat))∧lb<w'.heap.size)∧(Instr.lookup 60 (.map (some mb)) (.string nm) false).run Tryz.prog w'=.ok (.agg #[.int .i64 (x0:Nat),.int .i64 (x1:Nat),.int .i64 (x2:Nat),.int .i64 (x3:Nat),.slice ba bk bc]) w')∧(∀j,w'.cell? ⟨W.heap.size,j,none⟩=(#[.string k,.string nm,.slice aa ar.length ac,.int .i64 (nn:Nat),.int .i64 ro,.int .i64 pc]:Array Value)[j]?)∧W.heap.size<w'.heap.size) 13 (by kernel_rfl) (SK.out _ (below_drew HB2.out)) (fun hHeld=>?_)
   refine zqq 0 (v:=?_) rfl (Or.inl ⟨by rfl,?_⟩) (by assumption) ?_
   rotate_left
   (intro w0 hSw;(try dsimp only at hSw);go_simp;try (with_reducible rfl))
   (try simp only [Act.put])
   refine zqq 1 (v:=?_) rfl (Or.inl ⟨by rfl,?_⟩) (by assumption) ?_
   rotate_left
   (intro w0 hSw;(try dsimp only at hSw);go_simp;try (with_reducible rfl))
   (try simp only [Act.put])
   refine zqq 2 (v:=?_) rfl (Or.inl ⟨by rfl,?_⟩) (by assumption) ?_
   rotate_left
   (intro w0 hSw;(try dsimp only at hSw);go_simp;try (with_reducible rfl))
   (try simp only [Act.put])
   refine zqq 3 (v:=?_) rfl (Or.inl ⟨by rfl,?_⟩) (by assumption) ?_
   rotate_left
   (intro w0 hSw;(try dsimp only at hSw);go_simp;try (with_reducible rfl))
   (try simp only [Act.put])
   refine zqq 4 (v:=?_) rfl (Or.inl ⟨by rfl,?_⟩) (by assumption) ?_
   rotate_left
   (intro w0 hSw;(try dsimp only at hSw);go_simp;try (with_reducible rfl))
   (try simp only [Act.put])
   refine zqq 5 (v:=?_) rfl (Or.inl ⟨by rfl,?_⟩) (by assumption) ?_
   rotate_left
   (intro w0 hSw;(try dsimp only at hSw);go_simp;try (with_reducible rfl))
   (try simp only [Act.put])
   refine zqq 6 (v:=?_) rfl (Or.inl ⟨by rfl,?_⟩) (by assumption) ?_
   rotate_left
   (intro w0 hSw;(try dsimp only at hSw);go_simp;try (with_reducible rfl))
   (try simp only [Act.put])
   refine zqq 7 (v:=?_) rfl (Or.inl ⟨by rfl,?_⟩) (by assumption) ?_
   rotate_left
   (intro w0 hSw;(try dsimp only at hSw);go_simp;try (with_reducible rfl))
   (try simp only [Act.put])
   refine zqq 8 (v:=?_) rfl (Or.inl ⟨by rfl,?_⟩) (by assumption) ?_
   rotate_left
   (intro w0 hSw;(try dsimp only at hSw);go_simp;try (with_reducible rfl))
   (try simp only [Act.put])
   refine zqq 9 (v:=?_) rfl (Or.inl ⟨by rfl,?_⟩) (by assumption) ?_
   rotate_left
   (intro w0 hSw;(try dsimp only at hSw);go_simp;try (with_reducible rfl))
   (try simp only [Act.put])
   refine zqq 10 (v:=?_) rfl (Or.inl ⟨by rfl,?_⟩) (by assumption) ?_
   rotate_left
   (intro w0 hSw;(try dsimp only at hSw);go_simp;try (with_reducible rfl))
   (try simp only [Act.put])
   refine zqq 11 (v:=?_) rfl (Or.inl ⟨by rfl,?_⟩) (by assumption) ?_
   rotate_left
   (intro w0 hSw;(try dsimp only at hSw);go_simp;try (with_reducible rfl))
   (try simp only [Act.put])
   refine zqq 12 (v:=?_) rfl (Or.inl ⟨by rfl,?_⟩) (by assumption) ?_
   rotate_left
   (intro w0 hSw;(try dsimp only at hSw);go_simp;try (with_reducible rfl))
   (try simp only [Act.put])
   refine zAny_ready (rs := [13]) (by kernel_rfl) (by simp) (zReady.cons (o := { dst := none, op := Op.mapUpdate 60 (Operand.tmp 37) (Operand.tmp 39) (Operand.tmp 46), type := 0, pos := "kinds.go:19", after := #[{ on := 3, ground := Ground.data }, { on := 5, ground := Ground.data }, { on := 12, ground := Ground.data }, { on := 0, ground := Ground.phase }, { on := 1, ground := Ground.phase }, { on := 2, ground := Ground.phase }, { on := 3, ground := Ground.phase }, { on := 4, ground := Ground.phase }, { on := 5, ground := Ground.phase }, { on := 6, ground := Ground.phase }, { on := 7, ground := Ground.phase }, { on := 8, ground := Ground.phase }, { on := 9, ground := Ground.phase }, { on := 10, ground := Ground.phase }, { on := 11, ground := Ground.phase }, { on := 12, ground := Ground.phase }], guard := none }) rfl (fun K hK => ?_) zReady.nil)
   go_simp
   refine hK.out _ _ (fun h=>absurd rfl h) (fun _=>?_)
   clear hK K hHeld
   (try simp only [Act.put])
   refine zAny_done (by kernel_rfl) ?_ _
   refine NoPanic.normal ?_
   obtain ⟨pv,kb,kp⟩:=HK7.out.box
   have cS:W7.cell? ⟨lb,s,none⟩=some (.int .i64 (A:Nat)):=by
    rw [HAE.out]
    rcases HS0.out with h | h <;> subst h
    ·exact kb.cell 1
    ·exact kb.cell 2
   have S8K:Hid (∀w',Below W7.heap.size W7 w'→(w'.cell? ⟨lb,s,none⟩=some (.int .i64 (A:Nat))∧w'.frozen? ⟨lb,s,none⟩=false∧lb<w'.heap.size)∧w'.cell? ⟨W.heap.size,3,none⟩=some (.int .i64 (nn:Nat))∧W.heap.size<w'.heap.size):=fun w' h=>⟨⟨(h.cell (p:=⟨lb,s,none⟩) kb.lt).trans cS,(h.frozen (p:=⟨lb,s,none⟩) kb.lt).trans (kb.free s),Nat.lt_of_lt_of_le kb.lt h.size⟩,(h.cell (p:=⟨W.heap.size,3,none⟩) HBR.out.lt).trans (HBR.out.cell 3),Nat.lt_of_lt_of_le HBR.out.lt h.size⟩
   clear hr7 cS kb kp SK
   go_upto_region 8 with (fail)
   refine wp_region_noPanic ?_
   refine region_z (S:=fun w'=>(w'.cell? ⟨lb,s,none⟩=some (.int .i64 (A:Nat))∧w'.frozen? ⟨lb,s,none⟩=false∧lb<w'.heap.size)∧w'.cell? ⟨W.heap.size,3,none⟩=some (.int .i64 (nn:Nat))∧W.heap.size<w'.heap.size) 7 (by kernel_rfl) (S8K.out _ (below_drew (Below.refl _ _))) (fun hHeld=>?_)
   refine zqq 0 (v:=?_) rfl (Or.inl ⟨by rfl,?_⟩) (by assumption) ?_
   rotate_left
   (intro w0 hSw;(try dsimp only at hSw);go_simp;try (with_reducible rfl))
   (try simp only [Act.put])
   refine zqq 1 (v:=?_) rfl (Or.inl ⟨by rfl,?_⟩) (by assumption) ?_
   rotate_left
   (intro w0 hSw;(try dsimp only at hSw);go_simp;try (with_reducible rfl))
   (try simp only [Act.put])
   refine zqq 2 (v:=?_) rfl (Or.inl ⟨by rfl,?_⟩) (by assumption) ?_
   rotate_left
   (intro w0 hSw;(try dsimp only at hSw);go_simp;try (with_reducible rfl))
   (try simp only [Act.put])
   refine zqq 3 (v:=?_) rfl (Or.inl ⟨by rfl,?_⟩) (by assumption) ?_
   rotate_left
   (intro w0 hSw;(try dsimp only at hSw);go_simp;try (with_reducible rfl))
   (try simp only [Act.put])
   refine zqq 4 (v:=?_) rfl (Or.inl ⟨by rfl,?_⟩) (by assumption) ?_
   rotate_left
   (intro w0 hSw;(try dsimp only at hSw);go_simp;try (with_reducible rfl))
   (try simp only [Act.put])
   refine zqq 5 (v:=?_) rfl (Or.inl ⟨by rfl,?_⟩) (by assumption) ?_
   rotate_left
   (intro w0 hSw;(try dsimp only at hSw);go_simp;try (with_reducible rfl))
   (try simp only [Act.put])
   refine zqq 6 (v:=?_) rfl (Or.inl ⟨by rfl,?_⟩) (by assumption) ?_
   rotate_left
   (intro w0 hSw;(try dsimp only at hSw);go_simp;try (with_reducible rfl))
   (try simp only [Act.put])
   refine zAny_ready (rs := [7]) (by kernel_rfl) (by simp) (zReady.cons (o := { dst := none, op := Op.store 3 (Operand.tmp 53) (Operand.tmp 52), type := 0, pos := "kinds.go:20", after := #[{ on := 6, ground := Ground.data }, { on := 5, ground := Ground.data }, { on := 0, ground := Ground.phase }, { on := 1, ground := Ground.phase }, { on := 2, ground := Ground.phase }, { on := 3, ground := Ground.phase }, { on := 4, ground := Ground.phase }, { on := 5, ground := Ground.phase }], guard := none }) rfl (fun K hK => ?_) zReady.nil)
   have y1:=hHeld.1.1
   have y2:=hHeld.1.2.1
   have y3:=hHeld.1.2.2
   go_simp
   refine hK.out _ _ (fun h=>absurd rfl h) (fun _=>?_)
   clear hK K hHeld
   (try simp only [Act.put])
   refine zAny_done (by kernel_rfl) ?_ _
   refine NoPanic.normal ?_
   go_wp2
   rw [←HQ.out]
   have hwr:IntKind.i64.wrap ((A:Int)+(nn:Int))=((A+nn:Nat):Int):=by rw [IntKind.wrap_i64];omega
   rw [hwr,HAE.out]
   have hFr:Fr W W7 w0.heap.size hi.h:=(fr_of_below hBW).grown HG7.out (fun b e=>by cases e;exact .inl ⟨HL.out.o2,HL.out.o4⟩)
   have hFr2:Fr W (W7.setCell ⟨lb,s,none⟩ (.int .i64 ((allN en s+nn:Nat):Int))).drew w0.heap.size hi.h:=by
    have:=hFr.set lb s (.int .i64 ((allN en s+nn:Nat):Int)) (.inl ⟨HL.out.o1,HL.out.o3⟩)
    exact ⟨this.os,this.tape,this.output,this.size,this.block⟩
   have hall2:allN ⟨putN en.nm nm ⟨s,A,nn,0,[]⟩,en.q,en.b,en.pr,en.d⟩ s=allN en s:=rfl
   have hK8:=HK7.out.count (k:=nn) HS0.out
   rw [hall2,HAE.out] at hK8
   exact ⟨hFr2,by rw [hDe];rfl,fun h=>absurd hDe h,fun _=>⟨hK8,(HDO.out trivial).1⟩⟩
end Go.Proofs.YtdjfpghgklkejaaGreatDoor
