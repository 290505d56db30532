/-
  Put together of: FN.
-/
import Derived.Test.YtdjfpghgklkejaaGreatDoorYU
import Derived.Test.YtdjfpghgklkejaaGreatDoorYV
namespace Go.Proofs.YtdjfpghgklkejaaGreatDoor
open Go.RowKit Go.Sort
set_option maxHeartbeats 4000000 in
set_option maxRecDepth 100000 in
theorem use_any {w0 W:World} {lb mb N:Nat} {hi:HG} {en:En} {pl:Int} (H:LK w0 W lb mb hi N en pl) (hok:EnOk en) (r:Rw) (aa:Option Addr) (ac:Nat) (sd:Sd) (hmv:sd.m<18446744073709551616∧sd.v<18446744073709551616) (hsp:sd.p=pl) (hA:SA w0 (.slice aa r.args.length ac) r.args) (hs:r.name.size≤maxLen) (hal:r.args.length≤6000000000000) (hsz:∀a∈r.args,a.n.size≤maxLen) (hg:sd.g=true→en.pr≠[]) :
  Calls Tryz.prog 90 #[.pointer (some ⟨lb,0,none⟩),rwV r aa ac,sdV sd] W fun e W'=>RowO w0 W W' lb mb hi N (en,sd.g) (useR en sd r) e:=by
 obtain ⟨x0,x1,x2,x3,ba,bk,bc,LN,hL,hx0,hsome,hnone,hP⟩:=H.name r.name hs
 obtain ⟨pv,k1,kp⟩:=H.box
 have hmb:mb<W.heap.size:=Nat.lt_of_lt_of_le H.o4 H.o5
 have HL:=hid H
 have HOK:=hid hok
 have HP:=hid hP
 have HMV:=hid hmv
 have HSN:=hid hs
 have c0:W.cell? ⟨lb,0,none⟩=some (.map (some mb)):=k1.cell 0
 have c4:Hid (W.cell? ⟨lb,4,none⟩=some (.int .i64 (en.d:Nat))∧W.frozen? ⟨lb,4,none⟩=false):=⟨k1.cell 4,k1.free 4⟩
 have l0:=k1.lt
 have HN4:Hid (x0=4→useR en sd r=.error (sd.p,114)):=fun h=>use_loop (hx0.symm.trans h)
 have HN0:Hid (x0≠4→x0≠3→x0≠5→useR en sd r=.error (sd.p,80)):=fun h4 h3 h5=>use_gate (by omega) (by omega) (by omega)
 have HM:Hid (x0=3∨x0=5→∃mm,en.nm r.name=some mm∧mm.s=x0∧mm.z=x2∧mm.d=x3∧T4 LN mm.l∧(srt en r.name=3∨srt en r.name=5)∧x3≤32∧(x0=3→0<x2∧r.name.size≤281474976710656)):=fun h=>by
  obtain ⟨mm,e1,e2⟩:=use_some (s:=r.name) (en:=en) (by omega)
  obtain ⟨y1,y2,y3,y4⟩:=hsome mm e1
  obtain ⟨_,_,_,g4,_⟩:=hok.f _ mm e1
  exact ⟨mm,e1,by omega,y2.symm,y3.symm,y4,by omega,by omega,fun h3=>by have:=hok.z _ mm e1 (by omega);exact ⟨by omega,this.2⟩⟩
 have FQ:Hid (∀w1,Below W.heap.size W w1→∀a∈r.args,Calls Tryz.prog 140 #[.pointer (some ⟨lb,0,none⟩),arV a,sdV sd] w1 fun e W'=>e=.returned (.tuple #[.int .i64 (valE (quE en sd.g a):Nat),.int .i64 (errN (quE en sd.g a):Nat)])∧Below w1.heap.size w1 W'):=fun w1 h a ha=>qubit_any (H.fr h) hok a (hsz a ha) sd hg
 have HA:=hid (hA.below H.below)
 have KP:Hid (∀w',Below W.heap.size W w'→Below W.heap.size W w'∧w'.cell? ⟨lb,0,none⟩=some (.map (some mb))∧lb<w'.heap.size∧(Instr.lookup 60 (.map (some mb)) (.string r.name) false).run Tryz.prog w'=.ok (.agg #[.int .i64 (x0:Nat),.int .i64 (x1:Nat),.int .i64 (x2:Nat),.int .i64 (x3:Nat),.slice ba bk bc]) w'):=fun w' h=>⟨h,(h.cell (p:=⟨lb,0,none⟩) l0).trans c0,Nat.lt_of_lt_of_le l0 h.size,hL w' (h.block _ hmb)⟩
 have HLB:=hid l0
 have HAL:=hid hal
 clear hL hx0 hsome hnone hP k1 kp c0 l0 H hok hmv hg hsz hA hs
 obtain ⟨k,nm,ar,nu,ro,pc⟩:=r
 obtain ⟨p,n,g,m,v⟩:=sd
 simp only at *
 subst hsp
 have mk:=made_ints ar.length hal
 clear hal
 obtain ⟨V,hV⟩:∃V,V=((W.alloc (.cells #[.string k,.string nm,.slice aa ar.length ac,.int .i64 nu,.int .i64 ro,.int .i64 pc] 79)).alloc (.cells #[.int .i64 p,.int .i64 (n:Nat),.bool g,.int .u64 (m:Nat),.int .u64 (v:Nat)] 69)).alloc (.cells pzC 113):=⟨_,rfl⟩
 have hWV:Below W.heap.size W V:=by rw [hV];exact bal (bal (bal (Below.refl _ _) _) _) _
 have b1:BK V W.heap.size #[.string k,.string nm,.slice aa ar.length ac,.int .i64 nu,.int .i64 ro,.int .i64 pc] 79:=by rw [hV];exact ((bk_new W _ _).alloc _).alloc _
 have b2:BK V (W.heap.size+1) #[.int .i64 p,.int .i64 (n:Nat),.bool g,.int .u64 (m:Nat),.int .u64 (v:Nat)] 69:=by rw [hV];exact (bk_at _ _ (by simp)).alloc _
 have b3:BK V (W.heap.size+1+1) pzC 113:=by rw [hV];exact bk_at _ _ (by simp)
 have hVs:V.heap.size=W.heap.size+1+1+1:=by rw [hV];simp
 have SK:Hid (∀w',Below V.heap.size V w'→Below V.heap.size V w'∧(w'.cell? ⟨lb,0,none⟩=some (.map (some mb))∧lb<w'.heap.size∧(Instr.lookup 60 (.map (some mb)) (.string nm) false).run Tryz.prog w'=.ok (.agg #[.int .i64 (x0:Nat),.int .i64 (x1:Nat),.int .i64 (x2:Nat),.int .i64 (x3:Nat),.slice ba bk bc]) w')∧w'.cell? ⟨W.heap.size,1,none⟩=some (.string nm)∧W.heap.size<w'.heap.size):=fun w' h=>⟨h,(KP.out w' (btr hWV h)).2,(h.cell (p:=⟨W.heap.size,1,none⟩) b1.lt).trans (b1.cell 1),Nat.lt_of_lt_of_le b1.lt h.size⟩
 have HBX:Hid (∀V2,V2=(V.alloc (.cells #[.int .i64 (x0:Nat),.int .i64 (x1:Nat),.int .i64 (x2:Nat),.int .i64 (x3:Nat),.slice ba bk bc] 109)).drew→UB W V2 #[.string k,.string nm,.slice aa ar.length ac,.int .i64 nu,.int .i64 ro,.int .i64 pc] #[.int .i64 p,.int .i64 (n:Nat),.bool g,.int .u64 (m:Nat),.int .u64 (v:Nat)] #[.int .i64 (x0:Nat),.int .i64 (x1:Nat),.int .i64 (x2:Nat),.int .i64 (x3:Nat),.slice ba bk bc]):=fun V2 e=>by
  have hB2:Below V.heap.size V V2:=by rw [e];exact below_drew (bal (Below.refl _ _) _)
  refine ⟨btr hWV hB2,(hB2.block _ b1.lt).trans b1,(hB2.block _ b2.lt).trans b2,(hB2.block _ b3.lt).trans b3,?_,?_⟩
  ·rw [e,←hVs];exact (bk_new V _ _).drew
  ·rw [e,←hVs];simp [World.drew]
 have HVe:=hid hV
 clear hV hWV b1 b2 b3 KP
 go_enter Tryz.func90,Tryz.ntmps90
 go_upto_region 1 with (fail)
 rw [show ((W.alloc (.cells #[.string k,.string nm,.slice aa ar.length ac,.int .i64 nu,.int .i64 ro,.int .i64 pc] 79)).alloc (.cells #[.int .i64 p,.int .i64 (n:Nat),.bool g,.int .u64 (m:Nat),.int .u64 (v:Nat)] 69)).alloc (.cells pzC 113)=V from HVe.out.symm]
 clear HVe
 go_cut [8] from 14 to 20 (fun v8 w'=>v8=.pointer (some ⟨W.heap.size+1+1+1,0,none⟩)∧UB W w' #[.string k,.string nm,.slice aa ar.length ac,.int .i64 nu,.int .i64 ro,.int .i64 pc] #[.int .i64 p,.int .i64 (n:Nat),.bool g,.int .u64 (m:Nat),.int .u64 (v:Nat)] #[.int .i64 (x0:Nat),.int .i64 (x1:Nat),.int .i64 (x2:Nat),.int .i64 (x3:Nat),.slice ba bk bc])
 case first=>
  go_region_held3 (fun w'=>Below V.heap.size V w'∧(w'.cell? ⟨lb,0,none⟩=some (.map (some mb))∧lb<w'.heap.size∧(Instr.lookup 60 (.map (some mb)) (.string nm) false).run Tryz.prog w'=.ok (.agg #[.int .i64 (x0:Nat),.int .i64 (x1:Nat),.int .i64 (x2:Nat),.int .i64 (x3:Nat),.slice ba bk bc]) w')∧w'.cell? ⟨W.heap.size,1,none⟩=some (.string nm)∧W.heap.size<w'.heap.size)
   ((refine SK.out _ ?_;first | exact below_drew (Below.refl _ _) | exact below_drew (bal (Below.refl _ _) _) | exact bal (below_drew (Below.refl _ _)) _ | exact bal (And.left (by assumption)) _ | exact And.left (by assumption)))
   (fail)
  all_goals
   go_wp2
   go_meet
   case rel=>exact ⟨rfl,HBX.out _ rfl⟩
 all_goals
  obtain ⟨rfl,hx0⟩:=hcut
  have HX:=hid hx0
  clear hx0 HBX SK hVs
  have c1:=HX.out.b1.cell
  have c2:=HX.out.b2.cell
  have c3:=HX.out.b3.cell
  have f3:=HX.out.b3.free
  have c5:=HX.out.b4.cell
  have l1:=HX.out.b1.lt
  have l2:=HX.out.b2.lt
  have l3:=HX.out.b3.lt
  have l5:=HX.out.b4.lt
  by_cases h4:x0=4
  ·have hSe:=hid (HN4.out h4)
   have n1:((x0:Int)==4)=true:=by rw [h4];rfl
   go_wp2
   refine bodyPost_ret (v:=.tuple #[ppV pp0,.int .i64 114]) (by simp [results,Tryz.results90,go_sem, *]) rfl ?_
   rw [hSe.out]
   change RowO w0 W (wc.setCells (W.heap.size+1+1) 0 (ppc pp0)) lb mb hi N (en,g) _ _
   exact rowO_bad HL.out (below_sets HX.out.below (by omega) _) (by decide)
  have n1:((x0:Int)==4)=false:=by simp;omega
  by_cases h35:x0=3∨x0=5
  case neg=>
   have hSe:=hid (HN0.out h4 (fun h=>h35 (.inl h)) (fun h=>h35 (.inr h)))
   have n2:((x0:Int) != 3)=true:=bne_iff_ne.2 (by omega)
   have n3:((x0:Int) != 5)=true:=bne_iff_ne.2 (by omega)
   go_wp2
   refine bodyPost_ret (v:=.tuple #[ppV pp0,.int .i64 80]) (by simp [results,Tryz.results90,go_sem, *]) rfl ?_
   rw [hSe.out]
   change RowO w0 W (wc.setCells (W.heap.size+1+1) 0 (ppc pp0)) lb mb hi N (en,g) _ _
   exact rowO_bad HL.out (below_sets HX.out.below (by omega) _) (by decide)
  obtain ⟨mm,em,es,ez,ed,hT4,hs35,hx3,hx2⟩:=HM.out h35
  have HEM:=hid em
  have HES:=hid es
  have HEZ:=hid ez
  have HED:=hid ed
  have HT4:=hid hT4
  have HS35:=hid hs35
  have HX2:=hid hx2
  have hn:((x0:Int) != 3)=false∨(((x0:Int) != 3)=true∧((x0:Int) != 5)=false):=by
   rcases h35 with h | h
   ·exact .inl (by rw [h];rfl)
   ·exact .inr ⟨by rw [h];rfl,by rw [h];rfl⟩
  have H35:=hid h35
  clear HM HN4 HN0 em es ez ed hT4 hs35 h35 h4 hx2
  go_upto_region 4 with (fail)
  go_cut [26] from 27 to 34 (fun v26 w'=>v26=.bool false∧w'=wc)
  case first=>
   rcases hn with n2 | ⟨n2,n3⟩
   ·go_wp2
    go_meet
    case rel=>exact ⟨rfl,rfl⟩
   ·go_wp2
    go_meet
    case rel=>exact ⟨rfl,rfl⟩
  obtain ⟨rfl,rfl⟩:=hcut
  clear hn
  by_cases hlen:ar.length=x2
  case neg=>
   have hSe:=hid (use_arity (r:=⟨k,nm,ar,nu,ro,pc⟩) (sd:=⟨p,n,g,m,v⟩) HS35.out HEM.out (fun h=>hlen (h.trans HEZ.out)))
   have n4:((ar.length:Int) != (x2:Int))=true:=bne_iff_ne.2 (by omega)
   clear hlen
   go_wp2
   refine bodyPost_ret (v:=.tuple #[ppV pp0,.int .i64 111]) (by simp [results,Tryz.results90,go_sem, *]) rfl ?_
   rw [hSe.out]
   change RowO w0 W (wc.setCells (W.heap.size+1+1) 0 (ppc pp0)) lb mb hi N (en,g) _ _
   exact rowO_bad HL.out (below_sets HX.out.below (by omega) _) (by decide)
  have n4:((ar.length:Int) != (x2:Int))=false:=by rw [hlen];simp
  have HLEN:=hid hlen
  clear hlen
  go_wp2
  obtain ⟨gb,hgb⟩:∃gb,gb=wc.heap.size:=⟨_,rfl⟩
  have HU0:Hid (UL W (wc.alloc (.cells (madeCells #[.int .i64 0] ar.length) 3)) #[.string k,.string nm,.slice aa ar.length ac,.int .i64 nu,.int .i64 ro,.int .i64 pc] #[.int .i64 p,.int .i64 (n:Nat),.bool g,.int .u64 (m:Nat),.int .u64 (v:Nat)] #[.int .i64 (x0:Nat),.int .i64 (x1:Nat),.int .i64 (x2:Nat),.int .i64 (x3:Nat),.slice ba bk bc] en g ar gb 0 []):=⟨HX.out.on (bal (Below.refl _ _) _),by rw [hgb];exact (World.rowIs_made wc (.int .i64 0) ar.length 3).congr fun i _=>by simp,by simp [quL],by rw [hgb];exact HX.out.size⟩
  rw [←hgb]
  clear hgb c1 c2 c3 f3 c5 l1 l2 l3 l5
  go_loopw [51] (fun s wr=>∃(kk:Nat) (ns:List Nat),kk≤ar.length∧s=.int .i64 (kk:Nat)∧Hid (UL W wr #[.string k,.string nm,.slice aa ar.length ac,.int .i64 nu,.int .i64 ro,.int .i64 pc] #[.int .i64 p,.int .i64 (n:Nat),.bool g,.int .u64 (m:Nat),.int .u64 (v:Nat)] #[.int .i64 (x0:Nat),.int .i64 (x1:Nat),.int .i64 (x2:Nat),.int .i64 (x3:Nat),.slice ba bk bc] en g ar gb kk ns)) (fun s _=>ar.length-(intOf s).toNat)
  case atStart=>exact ⟨0,[],Nat.zero_le _,rfl,HU0⟩
  case round=>
   obtain ⟨kk,ns,hk,rfl,hU⟩:=hrel
   clear HU0
   have HGB:=hid hU.out.gb_
   by_cases hlt:kk<ar.length
   ·obtain ⟨ab,ao,acp,e1,hac,a0,a1,al⟩:=sa_at HA.out hlt
    have hmem:ar[kk]∈ar:=List.getElem_mem hlt
    have FQ2:Hid (∀w1,Below W.heap.size W w1→Calls Tryz.prog 140 #[.pointer (some ⟨lb,0,none⟩),arV ar[kk],sdV ⟨p,n,g,m,v⟩] w1 fun e W'=>e=.returned (.tuple #[.int .i64 (valE (quE en g ar[kk]):Nat),.int .i64 (errN (quE en g ar[kk]):Nat)])∧Below w1.heap.size w1 W'):=fun w1 h=>FQ.out w1 h _ hmem
    have HAT:=hid (quL_at hlt hU.out.qu)
    have b0:wr.cell? ⟨ab,ao+kk*2,none⟩=some (.string ar[kk].n):=(hU.out.ub.below.cell (p:=⟨ab,ao+kk*2,none⟩) al).trans a0
    have b1:wr.cell? ⟨ab,ao+kk*2+1,none⟩=some (.int .i64 ar[kk].x):=(hU.out.ub.below.cell (p:=⟨ab,ao+kk*2+1,none⟩) al).trans a1
    have al2:ab<wr.heap.size:=Nat.lt_of_lt_of_le al hU.out.ub.below.size
    have c2:=hU.out.ub.b2.cell
    have l2:=hU.out.ub.b2.lt
    have hla:aa=some ⟨ab,ao,none⟩:=by cases e1;rfl
    subst hla
    clear e1 a0 a1 al hmem hac
    generalize ar[kk]=ag at *
    obtain ⟨an,ax⟩:=ag
    simp only at *
    cases hQ:quE en g ⟨an,ax⟩ with
    | error x=>
     have hSe:=hid (use_arg (r:=⟨k,nm,ar,nu,ro,pc⟩) (sd:=⟨p,n,g,m,v⟩) HS35.out HEM.out (HLEN.out.trans HEZ.out.symm) (HAT.out.1 x hQ))
     have hx:=qu_err hQ
     rw [hQ] at FQ2
     simp only [valE,errN] at FQ2
     have n5:((x:Int) != 0)=true:=bne_iff_ne.2 (by omega)
     clear hQ HAT
     go_wp2_with (go_at_call 140;(with_reducible refine (FQ2.out _ (bal hU.out.ub.below _)).mono ?_);rintro e w1 ⟨rfl,hB⟩;have hU1:=hid (hU.out.ub.on (btr (bal (Below.refl _ _) _) hB));have d3:=hU1.out.b3.cell;have g3:=hU1.out.b3.free;have m3:=hU1.out.b3.lt)
     refine bodyPost_ret (v:=.tuple #[ppV pp0,.int .i64 (x:Nat)]) (by simp [results,Tryz.results90,go_sem,d3]) rfl ?_
     rw [hSe.out]
     change RowO w0 W (w1.setCells (W.heap.size+1+1) 0 (ppc pp0)) lb mb hi N (en,g) _ _
     exact rowO_bad HL.out (below_sets hU1.out.below (by omega) _) hx
    | ok x=>
     have hqn:=HAT.out.2 x hQ
     have HQN:=hid hqn
     rw [hQ] at FQ2
     simp only [valE,errN] at FQ2
     have HNL:Hid (ns.length=kk):=by
      have:=quL_len hU.out.qu
      rw [List.length_take] at this
      show ns.length=kk
      omega
     clear hQ HAT hqn
     have hkb:kk+1≤6000000000000:=by have:=HAL.out;omega
     go_wp2_with (go_at_call 140;(with_reducible refine (FQ2.out _ (bal hU.out.ub.below _)).mono ?_);rintro e w1 ⟨rfl,hB⟩;have hb1:=hid (btr (bal (Below.refl wr.heap.size wr) (.cells #[.string an,.int .i64 ax] 100)) hB);have r1:=hid (hU.out.row.of_block (hb1.out.block _ hU.out.row.lt));have rc:=r1.out.cell hlt;have rf:=r1.out.frozen kk;have rl:=r1.out.lt)
     go_round
     case rel=>exact ⟨kk+1,ns++[x],by omega,by go_num,(hU.out.ub.on hb1.out).row _ _ HGB.out,ns_next HNL.out r1.out x,HQN.out,HGB.out⟩
     case measure=>simp [intOf];omega
   ·obtain rfl:kk=ar.length:=by omega
    have hqall:quL en g ar=.ok ns:=by have:=hU.out.qu;rwa [List.take_length] at this
    have hnl:ns.length=ar.length:=quL_len hqall
    have HIL:Hid ((ilN ns).length=ar.length):=by unfold Hid ilN;simp [hnl]
    have hQS:QS wr (some ⟨gb,0,none⟩) ar.length (ilN ns):=ns_qs hnl hU.out.row
    have TW:=twiceF_any (ilN ns) (some ⟨gb,0,none⟩) ar.length wr hQS (by rw [HIL.out];exact HAL.out)
    rw [HIL.out] at TW
    have HQL:=hid (quL_lt HOK.out hqall)
    have HQA:=hid hqall
    have HNL:=hid hnl
    have ROW:=hid hU.out.row
    by_cases hnd:ns.Nodup
    case neg=>
     have hSe:=hid (use_same (r:=⟨k,nm,ar,nu,ro,pc⟩) (sd:=⟨p,n,g,m,v⟩) HS35.out HEM.out (HLEN.out.trans HEZ.out.symm) HQA.out hnd)
     rw [show decide (¬(ilN ns).Nodup)=true from decide_eq_true (fun h=>hnd (il_nodup.1 h))] at TW
     clear hqall hnl hQS hnd
     go_wp2_with (go_at_call 141;(with_reducible refine TW.mono ?_);rintro e w2 ⟨rfl,hB⟩;have hU1:=hid (hU.out.ub.on hB);have d3:=hU1.out.b3.cell;have g3:=hU1.out.b3.free;have m3:=hU1.out.b3.lt)
     refine bodyPost_ret (v:=.tuple #[ppV pp0,.int .i64 113]) (by simp [results,Tryz.results90,go_sem,d3]) rfl ?_
     rw [hSe.out]
     change RowO w0 W (w2.setCells (W.heap.size+1+1) 0 (ppc pp0)) lb mb hi N (en,g) _ _
     exact rowO_bad HL.out (below_sets hU1.out.below (by omega) _) (by decide)
    have HND:=hid hnd
    rw [show decide (¬(ilN ns).Nodup)=false from decide_eq_false (fun h=>h (il_nodup.2 hnd))] at TW
    clear hqall hnl hQS hnd
    have HGE:Hid (∀w',Below wr.heap.size wr w'→UB W w' #[.string k,.string nm,.slice aa ar.length ac,.int .i64 nu,.int .i64 ro,.int .i64 pc] #[.int .i64 p,.int .i64 (n:Nat),.bool g,.int .u64 (m:Nat),.int .u64 (v:Nat)] #[.int .i64 (x0:Nat),.int .i64 (x1:Nat),.int .i64 (x2:Nat),.int .i64 (x3:Nat),.slice ba bk bc]∧w'.rowIs gb 3 ar.length (nsF ns ar.length)):=fun w' h=>⟨hU.out.ub.on h,ROW.out.of_block (h.block _ ROW.out.lt)⟩
    have HNB:Hid (ns.length≤6000000000000):=by have h1:=HNL.out;have h2:=HAL.out;show ns.length≤_;omega
    cases g with
    | false=>
     have hSe:=hid (use_ok (r:=⟨k,nm,ar,nu,ro,pc⟩) (sd:=⟨p,n,false,m,v⟩) HS35.out HEM.out (HLEN.out.trans HEZ.out.symm) HQA.out HND.out (fun h=>by cases h))
     go_wp2_with (go_at_call 141;(with_reducible refine TW.mono ?_);rintro e w2 ⟨rfl,hB⟩;have hU1:=hid (HGE.out _ hB);have d1:=hU1.out.1.b1.cell;have d2:=hU1.out.1.b2.cell;have d3:=hU1.out.1.b3.cell;have d5:=hU1.out.1.b4.cell;have g3:=hU1.out.1.b3.free;have m1:=hU1.out.1.b1.lt;have m2:=hU1.out.1.b2.lt;have m3:=hU1.out.1.b3.lt;have m5:=hU1.out.1.b4.lt;refine Hid.out ?_)
     refine hid ?_
     have hR2:=hid hU1.out.2
     rw [←HNL.out] at hR2
     rcases H35.out with h3 | h5
     ·have n7:((x0:Int)==3)=true:=by rw [h3];rfl
      have hs3:mm.s=3:=HES.out.trans h3
      have hSf:Hid (useR en ⟨p,n,false,m,v⟩ ⟨k,nm,ar,nu,ro,pc⟩=.ok (en,[⟨1,nm,ilN ns,0,stO ⟨p,n,false,m,v⟩⟩])):=by rw [hid hSe.out |>.out,if_pos hs3];first | rfl | (rw [HED.out];rfl)
      go_wp2
      refine bodyPost_ret (v:=.tuple #[ppV ⟨⟨p,n,false,m,v⟩,1,nm,ilN ns,some ⟨gb,0,none⟩,ar.length,0,0,none,0,0⟩,.int .i64 0]) (by simp [results,Tryz.results90,go_sem,d3,HIL.out]) rfl ?_
      rw [hSf.out,←HIL.out]
      change RowO w0 W (w2.setCells (W.heap.size+1+1) 0 (ppc ⟨⟨p,n,false,m,v⟩,1,nm,ilN ns,some ⟨gb,0,none⟩,(ilN ns).length,0,0,none,0,0⟩)) lb mb hi N (en,false) _ _
      exact use_own (W1:=W) HL.out (Fr.refl _ _ _) rfl hU1.out.1.below hR2.out HGB.out HNB.out HMV.out HQL.out HOK.out (nx_refl _ _) (HX2.out h3).2 (by have h0:=(HX2.out h3).1;have h1:=HNL.out;have h2:=HLEN.out;omega)
     ·have n7:((x0:Int)==3)=false:=by rw [h5];rfl
      have hs3:¬mm.s=3:=by rw [HES.out,h5];decide
      have hSf:Hid (useR en ⟨p,n,false,m,v⟩ ⟨k,nm,ar,nu,ro,pc⟩=.ok (en,mm.l.map (subT (ilN ns) (stO ⟨p,n,false,m,v⟩)))):=by rw [hid hSe.out |>.out,if_neg hs3];first | rfl | (rw [HED.out];rfl)
      go_wp2
      refine bodyPost_ret (v:=.tuple #[ppV ⟨⟨p,n,false,m,v⟩,0,⟨#[]⟩,ilN ns,some ⟨gb,0,none⟩,ar.length,0,1,ba,bk,bc⟩,.int .i64 0]) (by simp [results,Tryz.results90,go_sem,d3,HIL.out]) rfl ?_
      rw [hSf.out,←HIL.out]
      change RowO w0 W (w2.setCells (W.heap.size+1+1) 0 (ppc ⟨⟨p,n,false,m,v⟩,0,⟨#[]⟩,ilN ns,some ⟨gb,0,none⟩,(ilN ns).length,0,1,ba,bk,bc⟩)) lb mb hi N (en,false) _ _
      exact use_def (W1:=W) HL.out (Fr.refl _ _ _) rfl hU1.out.1.below hR2.out HGB.out HNB.out HMV.out HQL.out HOK.out (nx_refl _ _) (HNL.out.trans HLEN.out) HP.out HT4.out
    | true=>
     go_wp2_with (go_at_call 141;(with_reducible refine TW.mono ?_);rintro e w2 ⟨rfl,hB⟩;have hU1:=hid (HGE.out _ hB);have d2:=hU1.out.1.b2.cell;have m2:=hU1.out.1.b2.lt;refine Hid.out ?_)
     refine hid ?_
     have S20K:Hid (∀w',Below w2.heap.size w2 w'→(w'.cell? ⟨lb,4,none⟩=some (.int .i64 (en.d:Nat))∧w'.frozen? ⟨lb,4,none⟩=false∧lb<w'.heap.size)∧w'.cell? ⟨W.heap.size+1+1+1,3,none⟩=some (.int .i64 (x3:Nat))∧W.heap.size+1+1+1<w'.heap.size):=fun w' h=>⟨⟨((btr hU1.out.1.below h).cell (p:=⟨lb,4,none⟩) HLB.out).trans c4.out.1,((btr hU1.out.1.below h).frozen (p:=⟨lb,4,none⟩) HLB.out).trans c4.out.2,Nat.lt_of_lt_of_le HLB.out (btr hU1.out.1.below h).size⟩,((hU1.out.1.on h).b4.cell 3),(hU1.out.1.on h).b4.lt⟩
     have hwr:IntKind.i64.wrap ((x3:Int)+1)=((x3+1:Nat):Int):=by rw [IntKind.wrap_i64];omega
     go_upto_region 20 with (fail)
     refine wp_region_noPanic ?_
     refine region_z (S:=fun w'=>(w'.cell? ⟨lb,4,none⟩=some (.int .i64 (en.d:Nat))∧w'.frozen? ⟨lb,4,none⟩=false∧lb<w'.heap.size)∧w'.cell? ⟨W.heap.size+1+1+1,3,none⟩=some (.int .i64 (x3:Nat))∧W.heap.size+1+1+1<w'.heap.size) 11 (by kernel_rfl) (S20K.out _ (below_drew (Below.refl _ _))) (fun hHeld=>?_)
     refine zqq 0 (v:=?_) rfl (Or.inl ⟨by rfl,?_⟩) (by assumption) ?_
     rotate_left
     (intro w0 hSw;(try dsimp only at hSw);go_simp;try (with_reducible rfl))
     (try simp only [Act.put])
     refine zqq 1 (v:=?_) rfl (Or.inl ⟨by rfl,?_⟩) (by assumption) ?_
     rotate_left
     (intro w0 hSw;(try dsimp only at hSw);go_simp;try (with_reducible rfl))
     (try simp only [Act.put])
     refine zqq 2 (v:=?_) rfl (Or.inl ⟨by rfl,?_⟩) (by assumption) ?_
     rotate_left
     (intro w0 hSw;(try dsimp only at hSw);go_simp;try (with_reducible rfl))
     (try simp only [Act.put])
     refine zqq 3 (v:=?_) rfl (Or.inl ⟨by rfl,?_⟩) (by assumption) ?_
     rotate_left
     (intro w0 hSw;(try dsimp only at hSw);go_simp;try (with_reducible rfl))
     (try simp only [Act.put])
     refine zqq 4 (v:=?_) rfl (Or.inl ⟨by rfl,?_⟩) (by assumption) ?_
     rotate_left
     (intro w0 hSw;(try dsimp only at hSw);go_simp;try (with_reducible rfl))
     (try simp only [Act.put])
     refine zqq 5 (v:=?_) rfl (Or.inl ⟨by rfl,?_⟩) (by assumption) ?_
     rotate_left
     (intro w0 hSw;(try dsimp only at hSw);go_simp;try (with_reducible rfl))
     (try simp only [Act.put])
     refine zqq 6 (v:=?_) rfl (Or.inl ⟨by rfl,?_⟩) (by assumption) ?_
     rotate_left
     (intro w0 hSw;(try dsimp only at hSw);go_simp;try (with_reducible rfl))
     (try simp only [Act.put])
     refine zqq 7 (v:=?_) rfl (Or.inl ⟨by rfl,?_⟩) (by assumption) ?_
     rotate_left
     (intro w0 hSw;(try dsimp only at hSw);go_simp;try (with_reducible rfl))
     (try simp only [Act.put])
     refine zqq 8 (v:=?_) rfl (Or.inl ⟨by rfl,?_⟩) (by assumption) ?_
     rotate_left
     (intro w0 hSw;(try dsimp only at hSw);go_simp;try (with_reducible rfl))
     (try simp only [Act.put])
     refine zAny_ready (rs := [9]) (by kernel_rfl) (by simp) (zReady.cons (o := { dst := some 86, op := Op.nilCheck (Operand.tmp 77), type := 0, pos := "kinds.go:97", after := #[{ on := 0, ground := Ground.data }, { on := 0, ground := Ground.phase }, { on := 1, ground := Ground.phase }, { on := 2, ground := Ground.phase }, { on := 3, ground := Ground.phase }, { on := 4, ground := Ground.phase }, { on := 5, ground := Ground.phase }, { on := 6, ground := Ground.phase }, { on := 7, ground := Ground.phase }, { on := 8, ground := Ground.phase }], guard := none }) rfl (fun K hK => ?_) zReady.nil)
     go_simp
     refine hK.out _ _ (fun _=>by assumption) (fun _=>?_)
     clear hK K
     (try simp only [Act.put])
     refine zqq 10 (v:=?_) rfl (Or.inl ⟨by rfl,?_⟩) (by assumption) ?_
     rotate_left
     (intro w0 hSw;(try dsimp only at hSw);go_simp;try (with_reducible rfl))
     (try simp only [Act.put])
     refine zAny_ready (rs := [11]) (by kernel_rfl) (by simp) (zReady.cons (o := { dst := none, op := Op.store 3 (Operand.tmp 87) (Operand.tmp 85), type := 0, pos := "kinds.go:97", after := #[{ on := 10, ground := Ground.data }, { on := 8, ground := Ground.data }, { on := 0, ground := Ground.phase }, { on := 1, ground := Ground.phase }, { on := 2, ground := Ground.phase }, { on := 3, ground := Ground.phase }, { on := 4, ground := Ground.phase }, { on := 5, ground := Ground.phase }, { on := 6, ground := Ground.phase }, { on := 7, ground := Ground.phase }, { on := 8, ground := Ground.phase }], guard := none }) rfl (fun K hK => ?_) zReady.nil)
     have y1:=hHeld.1.1
     have y2:=hHeld.1.2.1
     have y3:=hHeld.1.2.2
     go_simp
     refine hK.out _ _ (fun h=>absurd rfl h) (fun _=>?_)
     clear hK K hHeld
     (try simp only [Act.put])
     refine zAny_done (by kernel_rfl) ?_ _
     refine NoPanic.normal ?_
     obtain ⟨dd,hdd⟩:∃dd:Nat,dd=max en.d (x3+1):=⟨_,rfl⟩
     have hde:max (en.d:Int) ((x3:Int)+1)=(dd:Int):=by rw [hdd];omega
     obtain ⟨w3,hw3⟩:∃w3,w3=(w2.setCell ⟨lb,4,none⟩ (.int .i64 (dd:Nat))).drew:=⟨_,rfl⟩
     obtain ⟨W1,hW1⟩:∃W1,W1=W.setCell ⟨lb,4,none⟩ (.int .i64 (dd:Nat)):=⟨_,rfl⟩
     rw [hde,←hw3]
     have HK1:Hid (LK w0 W1 lb mb hi N ⟨en.nm,en.q,en.b,en.pr,dd⟩ p):=by rw [hW1];exact HL.out.depth dd
     have HF1:Hid (Fr W W1 w0.heap.size hi.h):=by rw [hW1];exact (Fr.refl W _ _).set lb 4 _ (.inl ⟨HL.out.o1,HL.out.o3⟩)
     have HS1:Hid (W1.heap.size=W.heap.size):=by rw [hW1];show (W.setCell _ _).heap.size=_;simp [World.setCell]
     have HB3:Hid (Below W1.heap.size W1 w3):=by rw [hW1,hw3];exact below_drew (below_both hU1.out.1.below lb 4 _)
     have HFL:Hid (Fr w2 w3 lb (lb+1)):=by
      have:=(Fr.refl w2 lb (lb+1)).set lb 4 (.int .i64 (dd:Nat)) (.inl ⟨Nat.le_refl _,Nat.lt_succ_self _⟩)
      rw [hw3]
      exact ⟨this.os,this.tape,this.output,this.size,this.block⟩
     have hlw:=HLB.out
     have hR3:Hid (w3.rowIs gb 3 ns.length (nsF ns ns.length)):=by
      rw [HNL.out]
      exact hU1.out.2.of_block (HFL.out.block _ hU1.out.2.lt (.inr (by have:=HGB.out;omega)))
     have HP1:Hid (PL W1 hi x2 (.slice ba bk bc) LN):=by
      have f:Fr W W1 lb (lb+1):=by rw [hW1];exact (Fr.refl W _ _).set lb 4 _ (.inl ⟨Nat.le_refl _,Nat.lt_succ_self _⟩)
      exact HP.out.far f (fun b hb=>.inr (by have:=hi.le b hb;have:=HL.out.o3;omega))
     have cl:w3.cell? ⟨lb,4,none⟩=some (.int .i64 (dd:Nat)):=by
      obtain ⟨pv1,kb1,_⟩:=(HK1.out.fr HB3.out).box
      exact kb1.cell 4
     have ll:lb<w3.heap.size:=Nat.lt_of_lt_of_le HLB.out (Nat.le_trans hU1.out.1.below.size HFL.out.size)
     have hn1:∀b,W.heap.size≤b→b<lb∨lb+1≤b:=fun b hb=>.inr (by omega)
     have e1:=HFL.out.bk hU1.out.1.b1 (hn1 _ (by omega))
     have e2:=HFL.out.bk hU1.out.1.b2 (hn1 _ (by omega))
     have e3:=HFL.out.bk hU1.out.1.b3 (hn1 _ (by omega))
     have e5:=HFL.out.bk hU1.out.1.b4 (hn1 _ (by omega))
     have d1:=e1.cell
     have d2':=e2.cell
     have d3:=e3.cell
     have d5:=e5.cell
     have g3:=e3.free
     have m1:=e1.lt
     have m2':=e2.lt
     have m3:=e3.lt
     have m5:=e5.lt
     have HDD:=hid hdd
     clear hw3 hW1 hdd hde d2 m2 e1 e2 e3 e5 hn1 S20K hlw
     by_cases hdeep:32<dd
     ·have hSe:=hid (use_deep (r:=⟨k,nm,ar,nu,ro,pc⟩) (sd:=⟨p,n,true,m,v⟩) HS35.out HEM.out (HLEN.out.trans HEZ.out.symm) HQA.out HND.out rfl (by rw [HED.out,←HDD.out];exact hdeep))
      have hdi:(32:Int)<(dd:Int):=by omega
      clear hdeep
      go_wp2
      refine bodyPost_ret (v:=.tuple #[ppV pp0,.int .i64 102]) (by simp [results,Tryz.results90,go_sem,d3]) rfl ?_
      rw [hSe.out]
      change RowO w0 W (w3.setCells (W.heap.size+1+1) 0 (ppc pp0)) lb mb hi N (en,true) _ _
      exact use_bad (W1:=W1) HK1.out HF1.out (below_sets HB3.out (by have:=HS1.out;omega) _) (by decide)
     ·have hdi:¬(32:Int)<(dd:Int):=by omega
      have HOK1:Hid (EnOk ⟨en.nm,en.q,en.b,en.pr,dd⟩):=⟨HOK.out.q,HOK.out.b,HOK.out.f,by show dd≤32;omega,HOK.out.r,HOK.out.l,HOK.out.z⟩
      have HNX1:Hid (Nx (en,true) ⟨en.nm,en.q,en.b,en.pr,dd⟩):=⟨fun _=>rfl,Nat.le_refl _⟩
      have hSe:=hid (use_ok (r:=⟨k,nm,ar,nu,ro,pc⟩) (sd:=⟨p,n,true,m,v⟩) HS35.out HEM.out (HLEN.out.trans HEZ.out.symm) HQA.out HND.out (fun _=>by rw [HED.out,←HDD.out];exact hdeep))
      rw [HED.out,←HDD.out] at hSe
      clear hdeep
      rcases H35.out with h3 | h5
      ·have n7:((x0:Int)==3)=true:=by rw [h3];rfl
       have hs3:mm.s=3:=HES.out.trans h3
       have hSf:Hid (useR en ⟨p,n,true,m,v⟩ ⟨k,nm,ar,nu,ro,pc⟩=.ok (⟨en.nm,en.q,en.b,en.pr,dd⟩,[⟨1,nm,ilN ns,0,stO ⟨p,n,true,m,v⟩⟩])):=by rw [hid hSe.out |>.out,if_pos hs3];first | rfl | (rw [HED.out];rfl)
       go_wp2
       refine bodyPost_ret (v:=.tuple #[ppV ⟨⟨p,n,true,m,v⟩,1,nm,ilN ns,some ⟨gb,0,none⟩,ar.length,0,0,none,0,0⟩,.int .i64 0]) (by simp [results,Tryz.results90,go_sem,d3,HIL.out]) rfl ?_
       rw [hSf.out,←HIL.out]
       change RowO w0 W (w3.setCells (W.heap.size+1+1) 0 (ppc ⟨⟨p,n,true,m,v⟩,1,nm,ilN ns,some ⟨gb,0,none⟩,(ilN ns).length,0,0,none,0,0⟩)) lb mb hi N (en,true) _ _
       exact use_own (W1:=W1) HK1.out HF1.out HS1.out HB3.out hR3.out HGB.out HNB.out HMV.out HQL.out HOK1.out HNX1.out (HX2.out h3).2 (by have h0:=(HX2.out h3).1;have h1:=HNL.out;have h2:=HLEN.out;omega)
      ·have n7:((x0:Int)==3)=false:=by rw [h5];rfl
       have hs3:¬mm.s=3:=by rw [HES.out,h5];decide
       have hSf:Hid (useR en ⟨p,n,true,m,v⟩ ⟨k,nm,ar,nu,ro,pc⟩=.ok (⟨en.nm,en.q,en.b,en.pr,dd⟩,mm.l.map (subT (ilN ns) (stO ⟨p,n,true,m,v⟩)))):=by rw [hid hSe.out |>.out,if_neg hs3];first | rfl | (rw [HED.out];rfl)
       go_wp2
       refine bodyPost_ret (v:=.tuple #[ppV ⟨⟨p,n,true,m,v⟩,0,⟨#[]⟩,ilN ns,some ⟨gb,0,none⟩,ar.length,0,1,ba,bk,bc⟩,.int .i64 0]) (by simp [results,Tryz.results90,go_sem,d3,HIL.out]) rfl ?_
       rw [hSf.out,←HIL.out]
       change RowO w0 W (w3.setCells (W.heap.size+1+1) 0 (ppc ⟨⟨p,n,true,m,v⟩,0,⟨#[]⟩,ilN ns,some ⟨gb,0,none⟩,(ilN ns).length,0,1,ba,bk,bc⟩)) lb mb hi N (en,true) _ _
       exact use_def (W1:=W1) HK1.out HF1.out HS1.out HB3.out hR3.out HGB.out HNB.out HMV.out HQL.out HOK1.out HNX1.out (HNL.out.trans HLEN.out) HP1.out HT4.out
end Go.Proofs.YtdjfpghgklkejaaGreatDoor
