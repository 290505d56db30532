/-
  Put together of: FD LB9 LC2.
-/
import Derived.Test.YtdjfpghgklkejaaGreatDoorYT
import Derived.Test.YtdjfpghgklkejaaGreatDoorXN
import Derived.Test.YtdjfpghgklkejaaGreatDoorYW
import Derived.Test.YtdjfpghgklkejaaGreatDoorXO
namespace Go.Proofs.YtdjfpghgklkejaaGreatDoor
open Go.RowKit Go.Sort
abbrev nmV:Array Value:=#[.string ⟨#[105]⟩,.string ⟨#[120]⟩,.string ⟨#[121]⟩,.string ⟨#[122]⟩,.string ⟨#[104]⟩,.string ⟨#[115]⟩,.string ⟨#[115,100,103]⟩,.string ⟨#[116]⟩,.string ⟨#[116,100,103]⟩,.string ⟨#[118]⟩,.string ⟨#[118,100,103]⟩,.string ⟨#[119]⟩,.string ⟨#[119,100,103]⟩,.string ⟨#[99,120]⟩,.string ⟨#[99,121]⟩,.string ⟨#[99,122]⟩,.string ⟨#[99,104]⟩,.string ⟨#[99,115]⟩,.string ⟨#[99,115,100,103]⟩,.string ⟨#[115,119,97,112]⟩,.string ⟨#[105,115,119,97,112]⟩,.string ⟨#[105,115,119,97,112,100,103]⟩,.string ⟨#[99,99,120]⟩,.string ⟨#[99,99,122]⟩,.string ⟨#[99,115,119,97,112]⟩]
theorem nmV_eq:nmV=(nms.map Value.string).toArray:=rfl
theorem nmV_at (i:Nat) (h:i<nms.length):nmV[i]?=some (.string nms[i]):=by
 rw [nmV_eq]
 simp [h]
set_option maxHeartbeats 1000000 in
theorem names_any (w:World):Calls Tryz.prog 51 #[] w fun e w'=>e=.returned (.slice (some ⟨w.heap.size,0,none⟩) 25 25)∧w'=w.alloc (.cells nmV 9):=by
 go_enter Tryz.func51,Tryz.ntmps51
 go_wp2
 go_ret
 exact ⟨rfl,rfl⟩
abbrev mgV (s:ByteArray):Value:=.agg #[.int .i64 3,.int .i64 0,.int .i64 (gar s:Nat),.int .i64 0,.slice none 0 0]
def nmF (i:Nat) (s:ByteArray):Option Value:=if ((nms.take i).any fun t=>decide (t=s))=true then some (mgV s) else none
theorem nms_gar:∀s∈nms,0<gar s∧s.size≤maxLen:=by
 intro s hs
 simp only [nms,List.mem_cons,List.not_mem_nil,or_false] at hs
 rcases hs with rfl | rfl | rfl | rfl | rfl | rfl | rfl | rfl | rfl | rfl | rfl | rfl | rfl | rfl | rfl | rfl | rfl | rfl | rfl | rfl | rfl | rfl | rfl | rfl | rfl
 all_goals exact ⟨by decide +kernel,by decide +kernel⟩
structure OwnS (w W:World) (i:Nat):Prop where
 below:Below w.heap.size w W
 map:∃z,MF W w.heap.size i (nmF i) z
 rows:BK W (w.heap.size+1) nmV 9
theorem nmF_succ {i:Nat} (h:i<nms.length):(fun t=>if t=nms[i] then some (mgV nms[i]) else nmF i t)=nmF (i+1):=by
 funext t
 unfold nmF
 rw [List.take_succ_eq_append_getElem h,List.any_append]
 by_cases e:t=nms[i]
 ·subst e
  simp
 ·have e2:¬nms[i]=t:=fun x=>e x.symm
  rw [if_neg e]
  have e3:decide (nms[i]=t)=false:=decide_eq_false e2
  simp only [List.any_cons,List.any_nil,e3,Bool.or_false]
theorem OwnS.put {w W:World} {i:Nat} (h:OwnS w W i) (hi:i<nms.length) :
  ∃W',(Instr.mapUpdate 60 (.map (some w.heap.size)) (.string nms[i]) (mgV nms[i])).run Tryz.prog W=.ok () W'∧OwnS w W' (i+1):=by
 obtain ⟨z,hz⟩:=h.map
 have hl:nms.length=25:=rfl
 obtain ⟨W',hr,hm,hg⟩:=hz.put (t:=60) (e:=109) (by kernel_rfl) (Nat.lt_of_lt_of_le (by omega:i<25) (by decide)) (nms_gar _ (List.getElem_mem hi)).2 (mgV nms[i])
 rw [nmF_succ hi] at hm
 have hf:Fr W W' w.heap.size (w.heap.size+1):=(Fr.refl W _ _).grown hg (fun b e=>by cases e;exact .inl ⟨Nat.le_refl _,Nat.lt_succ_self _⟩)
 exact ⟨W',hr,below_fr h.below hf (Nat.le_refl _),⟨_,hm⟩,hf.bk h.rows (.inr (Nat.le_refl _))⟩
theorem OwnS.on {w W W':World} {i:Nat} (h:OwnS w W i) (hB:Below W.heap.size W W'):OwnS w W' i:=by
 obtain ⟨z,hz⟩:=h.map
 exact ⟨btr h.below hB,⟨z,hz.block (hB.block _ hz.lt)⟩,(hB.block _ h.rows.lt).trans h.rows⟩
theorem owns_new (w:World):OwnS w ((w.alloc (.map #[] 0)).alloc (.cells nmV 9)) 0:=by
 refine ⟨bal (bal (Below.refl _ _) _) _,⟨0,?_⟩,?_⟩
 ·have h:=mf_new w
  have e:nmF 0=fun _=>none:=by funext s;simp [nmF]
  rw [e]
  exact h.block (Lib.alloc_old _ _ _ (by simp))
 ·have:=bk_new (w.alloc (.map #[] 0)) nmV 9
  simpa using this
set_option maxHeartbeats 4000000 in
theorem own_any (w:World):Calls Tryz.prog 24 #[] w fun e w'=>e=.returned (.map (some w.heap.size))∧OwnS w w' 25:=by
 have NA:=fun w=>names_any w
 have O0:=hid (owns_new w)
 have hmm := @run_makeMap Tryz.prog
 go_enter Tryz.func24,Tryz.ntmps24
 go_wp2_with (go_at_call 51;(with_reducible refine (NA _).mono ?_);rintro e w1 ⟨rfl,rfl⟩)
 generalize hV:(w.alloc (.map #[] 0)).alloc (.cells nmV 9)=V at *
 clear hV hmm NA
 go_loopw [7] (fun v7 wr=>∃i:Nat,i≤25∧v7=.int .i64 i∧Hid (OwnS w wr i)) (fun v7 _=>25-(intOf v7).toNat)
 case atStart=>exact ⟨0,Nat.zero_le _,rfl,O0⟩
 case round=>
  obtain ⟨i,hi,rfl,hO⟩:=hrel
  by_cases hlt:i<25
  ·have hlt':i<nms.length:=hlt
   have c0:wr.cell? ⟨w.heap.size+1,i,none⟩=some (.string nms[i]):=(hO.out.rows.cell i).trans (nmV_at i hlt')
   have l0:=hO.out.rows.lt
   have NX:Hid (∀W',Below wr.heap.size wr W'→∃W2,(Instr.mapUpdate 60 (.map (some w.heap.size)) (.string nms[i]) (mgV nms[i])).run Tryz.prog W'=.ok () W2∧OwnS w W2 (i+1)):=fun W' h=>(hO.out.on h).put hlt'
   clear hO O0
   generalize nms[i]=s at *
   have AS:=fun w=>arity_any s w
   clear hlt'
   go_wp2_with (go_at_call 52;(with_reducible refine (AS _).mono ?_);rintro e w1 ⟨rfl,hB1⟩;(first | obtain ⟨w2,hr2,hO2⟩:=NX.out _ hB1 | obtain ⟨w2,hr2,hO2⟩:=NX.out _ (btr (below_drew (Below.refl _ _)) hB1)))
   all_goals
    go_round
    case rel=>exact ⟨i+1,by omega,by go_num,hO2⟩
    case measure=>simp [intOf];omega
  ·obtain rfl:i=25:=by omega
   clear O0
   go_wp2
   go_ret
   exact ⟨rfl,hO.out⟩
end Go.Proofs.YtdjfpghgklkejaaGreatDoor
namespace Go.Proofs.YtdjfpghgklkejaaGreatDoor
open Go.RowKit Go.Sort
theorem sh_cases {kd:ByteArray} {sh:Sh} (h:shp kd=some sh):sh=shDecl∨sh=shGate∨sh=shRepeat∨sh=shIf∨sh=shMeasure∨sh=shReset∨sh=shUse:=by
 rcases shp_cases kd with ⟨_,e,_⟩ | ⟨_,e,_⟩ | ⟨_,e,_⟩ | ⟨_,e,_⟩ | ⟨_,e,_⟩ | ⟨_,e,_⟩ | ⟨_,e,_⟩ | ⟨_,e,_⟩ | ⟨_,_,_,_,_,_,_,_,e,_⟩ <;> rw [e] at h <;> cases h <;> simp
theorem fits_any (kd nm:ByteArray) (ag:List Ar) (nu ro pl:Int) (sh:Sh) (av:Value) (w0 W:World) (hk:shp kd=some sh) (hS:SA w0 av ag) (hB:Below w0.heap.size w0 W) (hn:nm.size≤9223372036854775807) (hl:ag.length≤9223372036854775807) (hz:∀a∈ag,a.n.size≤9223372036854775807) :
  Calls Tryz.prog 119 #[.agg #[.string kd,.string nm,av,.int .i64 nu,.int .i64 ro,.int .i64 pl],.agg #[.bool sh.name,.int .i64 sh.args,.bool sh.idx,.bool sh.num,.bool sh.body]] W fun e W'=>e=.returned (.bool (fitB ⟨kd,nm,ag,nu,ro,pl⟩ sh))∧Below W.heap.size W W':=by
 rcases sh_cases hk with rfl | rfl | rfl | rfl | rfl | rfl | rfl
 ·exact fits_1 kd nm ag nu ro pl 0 false false av w0 W hS hB hn hl hz (by decide)
 ·exact fits_2 kd nm ag nu ro pl false true av w0 W hS hB hn hl hz
 ·exact fits_3 kd nm ag nu ro pl 0 false true av w0 W hS hB hn hl hz (by decide)
 ·exact fits_1 kd nm ag nu ro pl 0 false true av w0 W hS hB hn hl hz (by decide)
 ·exact fits_4 kd nm ag nu ro pl 2 true false av w0 W hS hB hn hl hz (by decide)
 ·exact fits_4 kd nm ag nu ro pl 1 true false av w0 W hS hB hn hl hz (by decide)
 ·exact fits_2 kd nm ag nu ro pl true false av w0 W hS hB hn hl hz
def CK (b:Bool) (e:Ending):Prop:=(b=true∧e=.returned (.tuple #[]))∨(b=false∧e=.panicked [flt (0,100)])
set_option maxHeartbeats 4000000 in
set_option maxRecDepth 100000 in
theorem chkRows_any:∀(F0:Nat) (F:Nat),F<F0→∀(rs:List Rw) (d:Nat) (v:Value) (w0 W:World),rs.length≤F→d≤32→SR w0 v rs→Below w0.heap.size w0 W→rs.length≤9223372036854775807→Szs rs →
  Calls Tryz.prog 69 #[v,.int .i64 d] W fun e W'=>CK (chk F d rs) e∧Below W.heap.size W W':=by
 intro F0
 induction F0 with
 | zero=>intro F hF;omega
 | succ F0 ih=>
  intro F hF rs d v w0 W hl hd hS hB hm hz
  obtain ⟨C,hC⟩:∃C,C=chk F d rs:=⟨_,rfl⟩
  have HC:Hid (C=chk F d rs):=hC
  have HIH:Hid (∀F,F<F0→∀(rs:List Rw) (d:Nat) (v:Value) (w0 W:World),rs.length≤F→d≤32→SR w0 v rs→Below w0.heap.size w0 W→rs.length≤9223372036854775807→Szs rs →
   Calls Tryz.prog 69 #[v,.int .i64 d] W fun e W'=>CK (chk F d rs) e∧Below W.heap.size W W'):=ih
  have HB:Hid (Below w0.heap.size w0 W):=hB
  have HS0:Hid (SR w0 v rs):=hS
  have HL0:Hid (rs.length≤F∧F<F0+1∧rs.length≤9223372036854775807∧Szs rs):=⟨hl,hF,hm,hz⟩
  rw [←hC]
  clear hC ih hB hS hl hF hm hz
  go_enter Tryz.func69,Tryz.ntmps69
  go_wp2
  go_loopg [0] (F+1) (fun g v0 wr=>∃(qs:List Rw) (f:Nat),g=f+1∧Hid (qs.length≤f∧f<F0+1∧qs.length≤9223372036854775807∧Szs qs∧SR w0 v0 qs∧Below W.heap.size W wr∧C=chk f d qs))
  case atStart=>exact ⟨rs,F,rfl,HL0.out.1,HL0.out.2.1,HL0.out.2.2.1,HL0.out.2.2.2,HS0.out,Below.refl _ _,HC.out⟩
  case round=>
   clear HS0 HL0 HC
   obtain ⟨qs,f,rfl,hI⟩:=hrel
   obtain ⟨a,c,vs,ev,hc,hvs,hA,hR⟩:=hI.out.2.2.2.2.1
   have hBw:Hid (Below W.heap.size W wr):=hI.out.2.2.2.2.2.1
   cases qs with
   | nil=>
    subst ev
    have hCt:Hid (C=true):=by
     show C=true
     rw [hI.out.2.2.2.2.2.2]
     cases f <;> rfl
    clear hA hR hvs
    go_wp2
    go_end0
    exact ⟨.inl ⟨hCt.out,rfl⟩,hBw.out⟩
   | cons r qs=>
    obtain ⟨b,o,rfl,rr0⟩:=hR 0 (by simp)
    obtain ⟨av,vs,rfl⟩:∃av ws,vs=av::ws:=by cases vs with | nil=>simp at hvs | cons x y=>exact ⟨x,y,rfl⟩
    have hSA:=hA 0 (by simp) (by simp)
    have hSR:=hI.out.2.2.2.2.1
    rw [ev] at hSR
    obtain ⟨a1,c1,hsl,hS1⟩:=hSR.drop 1 (by simp)
    rw [List.length_cons] at ev hc hsl
    have hqz:Szs qs∧r.name.size≤9223372036854775807∧r.args.length≤9223372036854775807∧∀a∈r.args,a.n.size≤9223372036854775807:=⟨fun x hx=>hI.out.2.2.2.1 x (List.mem_cons_of_mem _ hx),hI.out.2.2.2.1 r List.mem_cons_self⟩
    have hnn:qs.length+1≤f∧f<F0+1∧qs.length+1≤9223372036854775807:=⟨hI.out.1,hI.out.2.1,hI.out.2.2.1⟩
    have hCC:=hI.out.2.2.2.2.2.2
    have rr:=(rr0.below HB.out).below hBw.out
    have m0:=rr.c0 0 (by simp)
    have m1:=rr.c1 0 (by simp)
    have m2:=rr.c2 0 (by simp) (by simp)
    have m3:=rr.c3 0 (by simp)
    have m4:=rr.c4 0 (by simp)
    have m5:=rr.c5 0 (by simp)
    have ml:=rr.lt
    simp only [Nat.zero_mul,Nat.add_zero,List.getElem_cons_zero] at m0 m1 m2 m3 m4 m5 hSA
    simp only [List.drop_succ_cons,List.drop_zero] at hsl hS1
    have hsl1:∀w,(Instr.slice 22 (.slice (some ⟨b,o,none⟩) (qs.length+1) c) (some (.int .i64 1)) none none).run Tryz.prog w=.ok (.slice a1 qs.length c1) w:=hsl
    obtain ⟨kd,nm,ag,nu,ro,pl⟩:=r
    simp only at m0 m1 m2 m3 m4 m5 hSA hqz
    subst ev
    have hsp:∃aa ac,av=.slice aa ag.length ac:=by obtain ⟨aa,ac,e,_⟩:=hSA;exact ⟨aa,ac,e⟩
    obtain ⟨aa,ac,rfl⟩:=hsp
    have HSA:Hid (SA w0 (.slice aa ag.length ac) ag):=hSA
    have HS1:Hid (SR w0 (.slice a1 qs.length c1) qs):=hS1
    have HQ:Hid (Szs qs):=hqz.1
    obtain ⟨f,rfl⟩:∃g,f=g+1:=⟨f-1,by omega⟩
    have HCC:Hid (C=chk (f+1) d (⟨kd,nm,ag,nu,ro,pl⟩::qs)):=hCC
    clear hA hR hvs rr rr0 hSR hI hsl hSA hS1 hCC
    go_upto_region 1 with (fail)
    go_region
    obtain ⟨V,hV⟩:∃V,V=(wr.alloc (.cells #[.string kd,.string nm,.slice aa ag.length ac,.int .i64 nu,.int .i64 ro,.int .i64 pl] 79)).drew:=⟨_,rfl⟩
    have bV:BK V wr.heap.size #[.string kd,.string nm,.slice aa ag.length ac,.int .i64 nu,.int .i64 ro,.int .i64 pl] 79:=by rw [hV];exact (bk_new _ _ _).drew
    have hWV:Hid (Below W.heap.size W V):=by rw [hV];exact below_drew (bal hBw.out _)
    rw [←hV]
    clear hV m0 m1 m2 m3 m4 m5 ml hsl1 hBw
    have CELL:∀ {w9:World},Below V.heap.size V w9→w9.cell? ⟨wr.heap.size,0,none⟩=some (.string kd)∧w9.cell? ⟨wr.heap.size,1,none⟩=some (.string nm)∧w9.cell? ⟨wr.heap.size,2,none⟩=some (.slice aa ag.length ac)∧w9.cell? ⟨wr.heap.size,3,none⟩=some (.int .i64 nu)∧w9.cell? ⟨wr.heap.size,4,none⟩=some (.int .i64 ro)∧w9.cell? ⟨wr.heap.size,5,none⟩=some (.int .i64 pl)∧wr.heap.size<w9.heap.size:=fun h=>by
     have b9:BK _ wr.heap.size _ _:=(h.block _ bV.lt).trans bV
     exact ⟨b9.cell 0,b9.cell 1,b9.cell 2,b9.cell 3,b9.cell 4,b9.cell 5,b9.lt⟩
    obtain ⟨q0,q1,q2,q3,q4,q5,ql⟩:=CELL (Below.refl _ _)
    have SHA:=fun w=>shape_any kd w
    clear bV
    cases hk:shp kd with
    | none=>
     rw [hk] at SHA
     have hCf:Hid (C=false):=by show C=false;rw [HCC.out];simp [chk,hk]
     clear HCC hk
     go_wp2_with (go_at_call 118;(with_reducible refine (SHA _).mono ?_);rintro e w1 ⟨rfl,h1⟩;obtain ⟨y0,y1,y2,y3,y4,y5,yl⟩:=CELL h1)
     exact ⟨rfl,.inr ⟨hCf.out,rfl⟩,btr hWV.out (bal h1 _)⟩
    | some sh=>
    rw [hk] at SHA
    have FT:=fun w' h=>fits_any kd nm ag nu ro pl sh (.slice aa ag.length ac) w0 w' hk HSA.out h hqz.2.1 hqz.2.2.1 hqz.2.2.2
    have HCE:Hid (C=(fitB ⟨kd,nm,ag,nu,ro,pl⟩ sh&&decide (0≤ro)&&decide (ro≤(qs.length:Int))&&(if sh.body=true then decide (d<32)&&chk f (d+1) (qs.take ro.toNat) else decide (ro=0))&&chk f d (qs.drop ro.toNat))):=by
     show C=_
     rw [HCC.out]
     have e:shR ⟨kd,nm,ag,nu,ro,pl⟩=sh:=by show (shp kd).getD _=_;rw [hk];rfl
     show ((shp kd).isSome&&fitB _ (shR _)&&decide (0≤ro)&&decide (ro≤(qs.length:Int))&&(if (shR ⟨kd,nm,ag,nu,ro,pl⟩).body=true then _ else _)&&_)=_
     rw [e,hk]
     rfl
    clear HCC hk hqz
    obtain ⟨sn,sa,sx,sm,sb⟩:=sh
    simp only [Option.getD_some,Option.isSome_some] at SHA FT HCE
    have C82:∀(u:World) {w9:World},Below (u.alloc (.cells #[.bool sn,.int .i64 sa,.bool sx,.bool sm,.bool sb] 187)).heap.size (u.alloc (.cells #[.bool sn,.int .i64 sa,.bool sx,.bool sm,.bool sb] 187)) w9→w9.cell? ⟨u.heap.size,4,none⟩=some (.bool sb)∧u.heap.size<w9.heap.size:=fun u w9 h=>by
     have b8:=bk_new u #[.bool sn,.int .i64 sa,.bool sx,.bool sm,.bool sb] 187
     have b9:BK w9 u.heap.size _ _:=(h.block _ b8.lt).trans b8
     exact ⟨b9.cell 4,b9.lt⟩
    cases hf:fitB ⟨kd,nm,ag,nu,ro,pl⟩ ⟨sn,sa,sx,sm,sb⟩ with
    | false=>
     have hCf:Hid (C=false):=by show C=false;rw [HCE.out,hf];rfl
     rw [hf] at FT
     clear hf HCE
     go_wp2_with (first | (go_at_call 118;(with_reducible refine (SHA _).mono ?_);rintro e w1 ⟨rfl,h1⟩;obtain ⟨y0,y1,y2,y3,y4,y5,yl⟩:=CELL h1;have h1b:=bal h1 (.cells #[.bool sn,.int .i64 sa,.bool sx,.bool sm,.bool sb] 187);have h1c:=btr (btr HB.out hWV.out) h1b;have h1d:=btr hWV.out h1b) | (go_at_call 119;(with_reducible refine (FT _ h1c).mono ?_);rintro e w2 ⟨rfl,h2⟩;obtain ⟨z0,z1,z2,z3,z4,z5,zl⟩:=CELL (btr h1b h2);obtain ⟨t4,tl⟩:=C82 _ h2;have h2c:=btr h1c h2;have h2d:=btr h1d h2))
     exact ⟨rfl,.inr ⟨hCf.out,rfl⟩,h2d⟩
    | true=>
    rw [hf] at FT
    by_cases hr0:ro<0
    case pos=>
     have hCf:Hid (C=false):=by show C=false;rw [HCE.out,decide_eq_false (show ¬0≤ro by omega)];simp
     clear hf HCE
     go_wp2_with (first | (go_at_call 118;(with_reducible refine (SHA _).mono ?_);rintro e w1 ⟨rfl,h1⟩;obtain ⟨y0,y1,y2,y3,y4,y5,yl⟩:=CELL h1;have h1b:=bal h1 (.cells #[.bool sn,.int .i64 sa,.bool sx,.bool sm,.bool sb] 187);have h1c:=btr (btr HB.out hWV.out) h1b;have h1d:=btr hWV.out h1b) | (go_at_call 119;(with_reducible refine (FT _ h1c).mono ?_);rintro e w2 ⟨rfl,h2⟩;obtain ⟨z0,z1,z2,z3,z4,z5,zl⟩:=CELL (btr h1b h2);obtain ⟨t4,tl⟩:=C82 _ h2;have h2c:=btr h1c h2;have h2d:=btr h1d h2))
     exact ⟨rfl,.inr ⟨hCf.out,rfl⟩,h2d⟩
    case neg=>
    by_cases hr1:(qs.length:Int)<ro
    case pos=>
     have hCf:Hid (C=false):=by show C=false;rw [HCE.out,decide_eq_false (show ¬ro≤(qs.length:Int) by omega)];simp
     clear hf HCE
     go_wp2_with (first | (go_at_call 118;(with_reducible refine (SHA _).mono ?_);rintro e w1 ⟨rfl,h1⟩;obtain ⟨y0,y1,y2,y3,y4,y5,yl⟩:=CELL h1;have h1b:=bal h1 (.cells #[.bool sn,.int .i64 sa,.bool sx,.bool sm,.bool sb] 187);have h1c:=btr (btr HB.out hWV.out) h1b;have h1d:=btr hWV.out h1b) | (go_at_call 119;(with_reducible refine (FT _ h1c).mono ?_);rintro e w2 ⟨rfl,h2⟩;obtain ⟨z0,z1,z2,z3,z4,z5,zl⟩:=CELL (btr h1b h2);obtain ⟨t4,tl⟩:=C82 _ h2;have h2c:=btr h1c h2;have h2d:=btr h1d h2))
     exact ⟨rfl,.inr ⟨hCf.out,rfl⟩,h2d⟩
    case neg=>
    obtain ⟨k,rfl⟩:∃k:Nat,ro=(k:Int):=⟨ro.toNat,by omega⟩
    have hkq:k≤qs.length:=by omega
    have HCF:Hid (C=((if sb=true then decide (d<32)&&chk f (d+1) (qs.take k) else decide (k=0))&&chk f d (qs.drop k))):=by
     show C=_
     rw [HCE.out,hf,decide_eq_true (show 0≤(k:Int) by omega),decide_eq_true (show (k:Int)≤(qs.length:Int) by omega),Int.toNat_natCast]
     have e0:decide ((k:Int)=0)=decide (k=0):=by simp
     rw [e0]
     rfl
    clear HCE hf
    obtain ⟨a3,c3,hsd,hS3⟩:=HS1.out.drop k hkq
    rw [List.length_drop] at hsd hS3
    have HS3:Hid (SR w0 (.slice a3 (qs.length-k) c3) (qs.drop k)):=hS3
    have hdl:(qs.drop k).length≤qs.length:=by rw [List.length_drop];omega
    have hkn:¬((qs.length:Int)<(k:Int)):=by omega
    clear hS3
    cases sb with
    | true=>
     by_cases hd2:32≤d
     ·have hCf:Hid (C=false):=by show C=false;rw [HCF.out,decide_eq_false (show ¬d<32 by omega)];rfl
      clear HCF
      go_wp2_with (first | (go_at_call 118;(with_reducible refine (SHA _).mono ?_);rintro e w1 ⟨rfl,h1⟩;obtain ⟨y0,y1,y2,y3,y4,y5,yl⟩:=CELL h1;have h1b:=bal h1 (.cells #[.bool sn,.int .i64 sa,.bool sx,.bool sm,.bool true] 187);have h1c:=btr (btr HB.out hWV.out) h1b;have h1d:=btr hWV.out h1b) | (go_at_call 119;(with_reducible refine (FT _ h1c).mono ?_);rintro e w2 ⟨rfl,h2⟩;obtain ⟨z0,z1,z2,z3,z4,z5,zl⟩:=CELL (btr h1b h2);obtain ⟨t4,tl⟩:=C82 _ h2;have h2c:=btr h1c h2;have h2d:=btr h1d h2))
      exact ⟨rfl,.inr ⟨hCf.out,rfl⟩,h2d⟩
     ·obtain ⟨a2,c2,hst,hS2⟩:=HS1.out.take k hkq
      have htk:(qs.take k).length=k:=by rw [List.length_take];omega
      have htl:(qs.take k).length≤qs.length:=by omega
      rw [htk] at hst hS2
      clear htk
      have RC:∀w',Below w0.heap.size w0 w'→Calls Tryz.prog 69 #[.slice a2 k c2,.int .i64 ((d:Int)+1)] w' fun e W'=>CK (chk f (d+1) (qs.take k)) e∧Below w'.heap.size w' W':=fun w' h=>by
       have:=HIH.out f (by omega) (qs.take k) (d+1) (.slice a2 k c2) w0 w' (by omega) (by omega) hS2 h (by omega) (HQ.out.take k)
       rwa [show ((d+1:Nat):Int)=(d:Int)+1 by omega] at this
      have HX1:Hid (chk f (d+1) (qs.take k)=false→C=false):=fun h=>by rw [HCF.out,h];simp
      have HX2:Hid (chk f (d+1) (qs.take k)=true→C=chk f d (qs.drop k)):=fun h=>by rw [HCF.out,h,decide_eq_true (show d<32 by omega)];rfl
      clear HCF hS2
      generalize chk f (d+1) (qs.take k)=CB at *
      go_wp2_with (first | (go_at_call 118;(with_reducible refine (SHA _).mono ?_);rintro e w1 ⟨rfl,h1⟩;obtain ⟨y0,y1,y2,y3,y4,y5,yl⟩:=CELL h1;have h1b:=bal h1 (.cells #[.bool sn,.int .i64 sa,.bool sx,.bool sm,.bool true] 187);have h1c:=btr (btr HB.out hWV.out) h1b;have h1d:=btr hWV.out h1b) | (go_at_call 119;(with_reducible refine (FT _ h1c).mono ?_);rintro e w2 ⟨rfl,h2⟩;obtain ⟨z0,z1,z2,z3,z4,z5,zl⟩:=CELL (btr h1b h2);obtain ⟨t4,tl⟩:=C82 _ h2;have h2c:=btr h1c h2;have h2d:=btr h1d h2) | (go_at_call 69;(with_reducible refine (RC _ h2c).mono ?_);rintro e w3 ⟨hK,h3⟩;obtain ⟨v0,v1,v2,v3,v4,v5,vl⟩:=CELL (btr (btr h1b h2) h3);have h3d:=btr h2d h3;rcases hK with ⟨hK,rfl⟩ | ⟨hK,rfl⟩))
      ·go_roundg (f+1)
       case measure=>omega
       case rel=>exact ⟨qs.drop k,f,rfl,by omega,by omega,by omega,HQ.out.drop k,HS3.out,h3d,HX2.out hK⟩
      ·exact ⟨rfl,.inr ⟨HX1.out hK,rfl⟩,h3d⟩
    | false=>
     by_cases hk0:k=0
     ·have hCf:Hid (C=chk f d (qs.drop k)):=by show C=_;rw [HCF.out,decide_eq_true hk0];rfl
      have hk1:((k:Int) != 0)=false:=by simpa using hk0
      clear HCF hk0
      go_wp2_with (first | (go_at_call 118;(with_reducible refine (SHA _).mono ?_);rintro e w1 ⟨rfl,h1⟩;obtain ⟨y0,y1,y2,y3,y4,y5,yl⟩:=CELL h1;have h1b:=bal h1 (.cells #[.bool sn,.int .i64 sa,.bool sx,.bool sm,.bool false] 187);have h1c:=btr (btr HB.out hWV.out) h1b;have h1d:=btr hWV.out h1b) | (go_at_call 119;(with_reducible refine (FT _ h1c).mono ?_);rintro e w2 ⟨rfl,h2⟩;obtain ⟨z0,z1,z2,z3,z4,z5,zl⟩:=CELL (btr h1b h2);obtain ⟨t4,tl⟩:=C82 _ h2;have h2c:=btr h1c h2;have h2d:=btr h1d h2))
      go_roundg (f+1)
      case measure=>omega
      case rel=>exact ⟨qs.drop k,f,rfl,by omega,by omega,by omega,HQ.out.drop k,HS3.out,h2d,hCf.out⟩
     ·have hCf:Hid (C=false):=by show C=false;rw [HCF.out,decide_eq_false hk0];rfl
      have hk1:((k:Int) != 0)=true:=by simpa using hk0
      clear HCF hk0
      go_wp2_with (first | (go_at_call 118;(with_reducible refine (SHA _).mono ?_);rintro e w1 ⟨rfl,h1⟩;obtain ⟨y0,y1,y2,y3,y4,y5,yl⟩:=CELL h1;have h1b:=bal h1 (.cells #[.bool sn,.int .i64 sa,.bool sx,.bool sm,.bool false] 187);have h1c:=btr (btr HB.out hWV.out) h1b;have h1d:=btr hWV.out h1b) | (go_at_call 119;(with_reducible refine (FT _ h1c).mono ?_);rintro e w2 ⟨rfl,h2⟩;obtain ⟨z0,z1,z2,z3,z4,z5,zl⟩:=CELL (btr h1b h2);obtain ⟨t4,tl⟩:=C82 _ h2;have h2c:=btr h1c h2;have h2d:=btr h1d h2))
      exact ⟨rfl,.inr ⟨hCf.out,rfl⟩,h2d⟩
end Go.Proofs.YtdjfpghgklkejaaGreatDoor
namespace Go.Proofs.YtdjfpghgklkejaaGreatDoor
open Go.RowKit Go.Sort
def rowB (r:Rw):Bool:=(shp r.kind).isSome&&fitB r ((shp r.kind).getD shNone)&&decide (0≤r.rows)&&(((shp r.kind).getD shNone).body || decide (r.rows=0))
theorem all_none {p q:Ar→Bool} {l:List Ar} (n:Int) (hn:n=0):((decide (n= -1) || decide ((l.length:Int)=n))&&l.all p)=((decide (n<0) || decide ((l.length:Int)=n))&&l.all q):=by
 subst hn
 cases l with
 | nil=>rfl
 | cons a l=>
  have h:decide (((a::l).length:Int)=0)=false:=decide_eq_false (by rw [List.length_cons];omega)
  rw [h]
  rfl
theorem rowB_qubits (nm:ByteArray) (ag:List Ar) (nu ro pl:Int):rowB ⟨wQubits,nm,ag,nu,ro,pl⟩=(plnN nm&&numOk nu&&(decide (0≤ro)&&decide (ro=0))&&((decide ((0:Int)<0) || decide ((ag.length:Int)=0))&&ag.all (argOk true))):=by
 have e:shp wQubits=some shDecl:=rfl
 unfold rowB
 rw [e]
 show (true&&(plnN nm&&numOk nu&&(decide ((0:Int)= -1) || decide ((ag.length:Int)=0))&&ag.all (argOk false))&&decide (0≤ro)&&(false || decide (ro=0)))=_
 have h:=all_none (p:=argOk false) (q:=argOk true) (l:=ag) 0 rfl
 rw [←h]
 generalize plnN nm=b1
 generalize numOk nu=b2
 generalize decide (0≤ro)=b3
 generalize decide (ro=0)=b4
 generalize (decide ((0:Int)= -1) || decide ((ag.length:Int)=0))=b5
 generalize ag.all (argOk false)=b6
 cases b1 <;> cases b2 <;> cases b3 <;> cases b4 <;> cases b5 <;> cases b6 <;> rfl
theorem rowB_bits (nm:ByteArray) (ag:List Ar) (nu ro pl:Int):rowB ⟨wBits,nm,ag,nu,ro,pl⟩=(plnN nm&&numOk nu&&(decide (0≤ro)&&decide (ro=0))&&((decide ((0:Int)<0) || decide ((ag.length:Int)=0))&&ag.all (argOk true))):=by
 have e:shp wBits=some shDecl:=rfl
 unfold rowB
 rw [e]
 show (true&&(plnN nm&&numOk nu&&(decide ((0:Int)= -1) || decide ((ag.length:Int)=0))&&ag.all (argOk false))&&decide (0≤ro)&&(false || decide (ro=0)))=_
 have h:=all_none (p:=argOk false) (q:=argOk true) (l:=ag) 0 rfl
 rw [←h]
 generalize plnN nm=b1
 generalize numOk nu=b2
 generalize decide (0≤ro)=b3
 generalize decide (ro=0)=b4
 generalize (decide ((0:Int)= -1) || decide ((ag.length:Int)=0))=b5
 generalize ag.all (argOk false)=b6
 cases b1 <;> cases b2 <;> cases b3 <;> cases b4 <;> cases b5 <;> cases b6 <;> rfl
theorem rowB_gate (nm:ByteArray) (ag:List Ar) (nu ro pl:Int):rowB ⟨wGate,nm,ag,nu,ro,pl⟩=(plnN nm&&decide (nu=0)&&(decide (0≤ro))&&((decide (((-1):Int)<0) || decide ((ag.length:Int)=(-1)))&&ag.all (argOk false))):=by
 have e:shp wGate=some shGate:=rfl
 unfold rowB
 rw [e]
 show (true&&(plnN nm&&decide (nu=0)&&(decide (((-1):Int)= -1) || decide ((ag.length:Int)=(-1)))&&ag.all (argOk false))&&decide (0≤ro)&&(true || decide (ro=0)))=_
 generalize plnN nm=b1
 generalize decide (nu=0)=b2
 generalize decide (0≤ro)=b3
 generalize decide (ro=0)=b4
 generalize ag.all (argOk false)=b6
 cases b1 <;> cases b2 <;> cases b3 <;> cases b4 <;> cases b6 <;> rfl
theorem rowB_repeat (nm:ByteArray) (ag:List Ar) (nu ro pl:Int):rowB ⟨wRepeat,nm,ag,nu,ro,pl⟩=(decide (nm=⟨#[]⟩)&&numOk nu&&(decide (0≤ro))&&((decide ((0:Int)<0) || decide ((ag.length:Int)=0))&&ag.all (argOk true))):=by
 have e:shp wRepeat=some shRepeat:=rfl
 unfold rowB
 rw [e]
 show (true&&(decide (nm=⟨#[]⟩)&&numOk nu&&(decide ((0:Int)= -1) || decide ((ag.length:Int)=0))&&ag.all (argOk false))&&decide (0≤ro)&&(true || decide (ro=0)))=_
 have h:=all_none (p:=argOk false) (q:=argOk true) (l:=ag) 0 rfl
 rw [←h]
 generalize decide (nm=⟨#[]⟩)=b1
 generalize numOk nu=b2
 generalize decide (0≤ro)=b3
 generalize decide (ro=0)=b4
 generalize (decide ((0:Int)= -1) || decide ((ag.length:Int)=0))=b5
 generalize ag.all (argOk false)=b6
 cases b1 <;> cases b2 <;> cases b3 <;> cases b4 <;> cases b5 <;> cases b6 <;> rfl
theorem rowB_if (nm:ByteArray) (ag:List Ar) (nu ro pl:Int):rowB ⟨wIf,nm,ag,nu,ro,pl⟩=(plnN nm&&numOk nu&&(decide (0≤ro))&&((decide ((0:Int)<0) || decide ((ag.length:Int)=0))&&ag.all (argOk true))):=by
 have e:shp wIf=some shIf:=rfl
 unfold rowB
 rw [e]
 show (true&&(plnN nm&&numOk nu&&(decide ((0:Int)= -1) || decide ((ag.length:Int)=0))&&ag.all (argOk false))&&decide (0≤ro)&&(true || decide (ro=0)))=_
 have h:=all_none (p:=argOk false) (q:=argOk true) (l:=ag) 0 rfl
 rw [←h]
 generalize plnN nm=b1
 generalize numOk nu=b2
 generalize decide (0≤ro)=b3
 generalize decide (ro=0)=b4
 generalize (decide ((0:Int)= -1) || decide ((ag.length:Int)=0))=b5
 generalize ag.all (argOk false)=b6
 cases b1 <;> cases b2 <;> cases b3 <;> cases b4 <;> cases b5 <;> cases b6 <;> rfl
theorem rowB_measure (nm:ByteArray) (ag:List Ar) (nu ro pl:Int):rowB ⟨wMeasure,nm,ag,nu,ro,pl⟩=(decide (nm=⟨#[]⟩)&&decide (nu=0)&&(decide (0≤ro)&&decide (ro=0))&&((decide ((2:Int)<0) || decide ((ag.length:Int)=2))&&ag.all (argOk true))):=by
 have e:shp wMeasure=some shMeasure:=rfl
 unfold rowB
 rw [e]
 show (true&&(decide (nm=⟨#[]⟩)&&decide (nu=0)&&(decide ((2:Int)= -1) || decide ((ag.length:Int)=2))&&ag.all (argOk true))&&decide (0≤ro)&&(false || decide (ro=0)))=_
 generalize decide (nm=⟨#[]⟩)=b1
 generalize decide (nu=0)=b2
 generalize decide (0≤ro)=b3
 generalize decide (ro=0)=b4
 rw [show decide ((2:Int)= -1)=false by decide,show decide ((2:Int)<0)=false by decide]
 generalize decide ((ag.length:Int)=2)=b5
 generalize ag.all (argOk true)=b6
 cases b1 <;> cases b2 <;> cases b3 <;> cases b4 <;> cases b5 <;> cases b6 <;> rfl
theorem rowB_reset (nm:ByteArray) (ag:List Ar) (nu ro pl:Int):rowB ⟨wReset,nm,ag,nu,ro,pl⟩=(decide (nm=⟨#[]⟩)&&decide (nu=0)&&(decide (0≤ro)&&decide (ro=0))&&((decide ((1:Int)<0) || decide ((ag.length:Int)=1))&&ag.all (argOk true))):=by
 have e:shp wReset=some shReset:=rfl
 unfold rowB
 rw [e]
 show (true&&(decide (nm=⟨#[]⟩)&&decide (nu=0)&&(decide ((1:Int)= -1) || decide ((ag.length:Int)=1))&&ag.all (argOk true))&&decide (0≤ro)&&(false || decide (ro=0)))=_
 generalize decide (nm=⟨#[]⟩)=b1
 generalize decide (nu=0)=b2
 generalize decide (0≤ro)=b3
 generalize decide (ro=0)=b4
 rw [show decide ((1:Int)= -1)=false by decide,show decide ((1:Int)<0)=false by decide]
 generalize decide ((ag.length:Int)=1)=b5
 generalize ag.all (argOk true)=b6
 cases b1 <;> cases b2 <;> cases b3 <;> cases b4 <;> cases b5 <;> cases b6 <;> rfl
theorem rowB_use (nm:ByteArray) (ag:List Ar) (nu ro pl:Int):rowB ⟨wUse,nm,ag,nu,ro,pl⟩=(plnN nm&&decide (nu=0)&&(decide (0≤ro)&&decide (ro=0))&&((decide (((-1):Int)<0) || decide ((ag.length:Int)=(-1)))&&ag.all (argOk true))):=by
 have e:shp wUse=some shUse:=rfl
 unfold rowB
 rw [e]
 show (true&&(plnN nm&&decide (nu=0)&&(decide (((-1):Int)= -1) || decide ((ag.length:Int)=(-1)))&&ag.all (argOk true))&&decide (0≤ro)&&(false || decide (ro=0)))=_
 generalize plnN nm=b1
 generalize decide (nu=0)=b2
 generalize decide (0≤ro)=b3
 generalize decide (ro=0)=b4
 generalize ag.all (argOk true)=b6
 cases b1 <;> cases b2 <;> cases b3 <;> cases b4 <;> cases b6 <;> rfl
end Go.Proofs.YtdjfpghgklkejaaGreatDoor
