/-
  Put together of: LBA LC6 LC7b.
-/
import Derived.Test.YtdjfpghgklkejaaGreatDoorYN
import Derived.Test.YtdjfpghgklkejaaGreatDoorYH
import Derived.Test.YtdjfpghgklkejaaGreatDoorYY
import Derived.Test.YtdjfpghgklkejaaGreatDoorYM
import Derived.Test.YtdjfpghgklkejaaGreatDoorXP
import Derived.Test.YtdjfpghgklkejaaGreatDoorYW
namespace Go.Proofs.YtdjfpghgklkejaaGreatDoor
open Go.RowKit Go.Sort
theorem st_any (kd nm:ByteArray) (ag:List Ar) (nu ro pl:Int) (sh:Sh) (av:Value) (w W:World) (b:Nat) (bs:List UInt8) (hv:VR w) (H:WS w W b bs ⟨#[]⟩) (hb:bs.length≤65536) (hS:SA w av ag) (hk:shp kd=some sh) (hf:fitB ⟨kd,nm,ag,nu,ro,pl⟩ sh=true) (hnz:nm.size≤9223372036854775807) (hl:ag.length≤9223372036854775807) (hz:∀a∈ag,a.n.size≤9223372036854775807) :
  Calls Tryz.prog 121 #[.pointer (some ⟨b,0,none⟩),.agg #[.string kd,.string nm,av,.int .i64 nu,.int .i64 ro,.int .i64 pl],.agg #[.bool sh.name,.int .i64 sh.args,.bool sh.idx,.bool sh.num,.bool sh.body]] W (WR w W b bs (lineB ⟨#[]⟩ (headK ⟨kd,nm,ag,nu,ro,pl⟩ sh)) (lastS sh)):=by
 unfold fitB at hf
 simp only [Bool.and_eq_true] at hf
 obtain ⟨⟨⟨_,hf2⟩,_⟩,hf4⟩:=hf
 have hx:∀a∈ag,a.x≤9007199254740991:=fun a ha=>by
  have:=List.all_eq_true.1 hf4 a ha
  unfold argOk numOk at this
  simp at this
  omega
 rcases shp_cases kd with ⟨rfl,e,_⟩ | ⟨rfl,e,_⟩ | ⟨rfl,e,_⟩ | ⟨rfl,e,_⟩ | ⟨rfl,e,_⟩ | ⟨rfl,e,_⟩ | ⟨rfl,e,_⟩ | ⟨rfl,e,_⟩ | ⟨_,_,_,_,_,_,_,_,e,_⟩
 all_goals rw [e] at hk
 all_goals cases hk
 ·exact st_1 _ nm ag nu ro pl 0 false false av w W b bs hv H hb hS (by decide) (by decide) hnz hl hz hx hf2
 ·exact st_1 _ nm ag nu ro pl 0 false false av w W b bs hv H hb hS (by decide) (by decide) hnz hl hz hx hf2
 ·exact st_2 _ nm ag nu ro pl (-1) false true av w W b bs hv H hb hS (by decide) (by decide) hnz hl hz hx
 ·exact st_3 _ nm ag nu ro pl 0 false true av w W b bs hv H hb hS (by decide) (by decide) hl hz hx hf2
 ·exact st_1 _ nm ag nu ro pl 0 false true av w W b bs hv H hb hS (by decide) (by decide) hnz hl hz hx hf2
 ·exact st_4 _ nm ag nu ro pl 2 true false av w W b bs hv H hb hS (by decide) (by decide) hl hz hx
 ·exact st_4 _ nm ag nu ro pl 1 true false av w W b bs hv H hb hS (by decide) (by decide) hl hz hx
 ·exact st_5 nm ag nu ro pl (-1) true false av w W b bs hv H hb hS hnz hl hz hx
structure WT (w W:World) (b:Nat) (bs:List UInt8) (x:List UInt8) (wr:World) (last:ByteArray):Prop where
 ws:WS w wr b (bs++x) last
 len:(bs++x).length≤65536
 size:W.heap.size≤wr.heap.size
 ok:Lib.OthersKept 5 (some b) W wr
theorem WT.on {w W wr W':World} {b:Nat} {bs x:List UInt8} {last:ByteArray} (h:WT w W b bs x wr last) (hb:Below wr.heap.size wr W'):WT w W b bs x W' last:=
 ⟨h.ws.on hb,h.len,Nat.le_trans h.size hb.size,Lib.OthersKept.trans h.ok (ok_below _ hb)⟩
def BR (w W:World) (b:Nat) (bs add:List UInt8) (e:Ending) (W':World):Prop:=∃last,WR w W b bs add last e W'
theorem WT.step {w W wr W':World} {b:Nat} {bs x add:List UInt8} {last last':ByteArray} {e:Ending} (h:WT w W b bs x wr last) (hr:WR w wr b (bs++x) add last' e W') :
  (e=.returned (.tuple #[])∧WT w W b bs (x++add) W' last')∨(e=.panicked [flt (0,1)]∧∀y,(∃z,y=x++add++z)→BR w W b bs y (.panicked [flt (0,1)]) W'):=by
 obtain ⟨h1,h2,h3,h4⟩:=hr
 have hz:=Nat.le_trans h.size h2
 have ho:=Lib.OthersKept.trans h.ok h3
 rw [List.length_append] at h4
 rcases h4 with ⟨h5,h6,h7⟩ | ⟨h5,h6⟩
 ·exact .inl ⟨h6,by rw [←List.append_assoc];exact h7,by rw [List.length_append,List.length_append];omega,hz,ho⟩
 ·refine .inr ⟨h6,fun y hy=>⟨⟨#[]⟩,h1,hz,ho,.inr ⟨?_,rfl⟩⟩⟩
  obtain ⟨z,rfl⟩:=hy
  rw [List.length_append,List.length_append]
  omega
theorem WT.stepB {w W wr W':World} {b:Nat} {bs x add:List UInt8} {last:ByteArray} {e:Ending} (h:WT w W b bs x wr last) (hr:BR w wr b (bs++x) add e W') :
  (e=.returned (.tuple #[])∧∃last',WT w W b bs (x++add) W' last')∨(e=.panicked [flt (0,1)]∧∀y,(∃z,y=x++add++z)→BR w W b bs y (.panicked [flt (0,1)]) W'):=by
 obtain ⟨l,hr⟩:=hr
 rcases h.step hr with ⟨h1,h2⟩ | h1
 ·exact .inl ⟨h1,l,h2⟩
 ·exact .inr h1
theorem BR.ok {w W:World} {b:Nat} {bs add:List UInt8} {e:Ending} {W':World} (h:BR w W b bs add e W'):Lib.OthersKept 5 (some b) W W':=by obtain ⟨_,_,_,h,_⟩:=h;exact h
theorem chk_cons2 {f d:Nat} {kd nm:ByteArray} {ag:List Ar} {nu ro pl:Int} {rs:List Rw} (h:chk (f+1) d (⟨kd,nm,ag,nu,ro,pl⟩::rs)=true):∃sh,shp kd=some sh∧fitB ⟨kd,nm,ag,nu,ro,pl⟩ sh=true∧0≤ro∧ro≤(rs.length:Int)∧((sh.body=true∧d<32∧chk f (d+1) (rs.take ro.toNat)=true)∨(sh.body=false∧ro=0))∧chk f d (rs.drop ro.toNat)=true ∧
  ∀d',bodyB (f+1) d' (⟨kd,nm,ag,nu,ro,pl⟩::rs)=(indB d'++(lineB ⟨#[]⟩ (headK ⟨kd,nm,ag,nu,ro,pl⟩ sh)++[10]))++((if sh.body=true then bodyB f (d'+1) (rs.take ro.toNat)++(indB d'++([125]++[10])) else [])++bodyB f d' (rs.drop ro.toNat)):=by
 have e0:∀sh,shp kd=some sh→shR (⟨kd,nm,ag,nu,ro,pl⟩:Rw)=sh:=fun sh e=>by show (shp kd).getD _=_;rw [e];rfl
 unfold chk at h
 simp only [Bool.and_eq_true,decide_eq_true_eq] at h
 obtain ⟨⟨⟨⟨⟨h1,h2⟩,h3⟩,h4⟩,h5⟩,h6⟩:=h
 cases hk:shp kd with
 | none=>rw [hk] at h1;cases h1
 | some sh=>
  have e:=e0 sh hk
  rw [e] at h2 h5
  refine ⟨sh,rfl,h2,h3,h4,?_,h6,fun d'=>?_⟩
  ·cases hb:sh.body with
   | true=>rw [hb,if_pos rfl] at h5;simp only [Bool.and_eq_true,decide_eq_true_eq] at h5;exact .inl ⟨rfl,h5.1,h5.2⟩
   | false=>rw [hb] at h5;exact .inr ⟨rfl,by simpa using h5⟩
  ·rw [←e];rfl
set_option maxHeartbeats 4000000 in
set_option maxRecDepth 100000 in
theorem wbody_any:∀(F0:Nat) (F:Nat),F<F0→∀(rs:List Rw) (d:Nat) (v:Value) (w W:World) (b:Nat) (bs:List UInt8) (last:ByteArray),rs.length≤F→d≤32→chk F d rs=true→SR w v rs→WS w W b bs last→bs.length≤65536→VR w→rs.length≤9223372036854775807→Szs rs →
  Calls Tryz.prog 70 #[.pointer (some ⟨b,0,none⟩),v,.int .i64 d] W (BR w W b bs (bodyB F d rs)):=by
 intro F0
 induction F0 with
 | zero=>intro F hF;omega
 | succ F0 ih=>
  intro F hF rs d v w W b bs last hl hd hck hS H hb hv hm hz
  obtain ⟨Y,hY⟩:∃Y,Y=bodyB F d rs:=⟨_,rfl⟩
  have HY:Hid (Y=bodyB F d rs):=hY
  have HIH:Hid (∀(F:Nat),F<F0→∀(rs:List Rw) (d:Nat) (v:Value) (w W:World) (b:Nat) (bs:List UInt8) (last:ByteArray),rs.length≤F→d≤32→chk F d rs=true→SR w v rs→WS w W b bs last→bs.length≤65536→VR w→rs.length≤9223372036854775807→Szs rs →
   Calls Tryz.prog 70 #[.pointer (some ⟨b,0,none⟩),v,.int .i64 d] W (BR w W b bs (bodyB F d rs))):=ih
  have HV:Hid (VR w):=hv
  have HS0:Hid (SR w v rs):=hS
  have HL0:Hid (rs.length≤F∧F<F0+1∧rs.length≤9223372036854775807∧Szs rs∧chk F d rs=true):=⟨hl,hF,hm,hz,hck⟩
  have HST:Hid (WT w W b bs [] W last):=⟨by rw [List.append_nil];exact H,by rw [List.append_nil];exact hb,Nat.le_refl _,Lib.OthersKept.refl _ _ _⟩
  rw [←hY]
  clear hY ih hS hl hF hm hz H hb hv hck
  go_enter Tryz.func70,Tryz.ntmps70
  go_wp2
  go_loopg [1] (F+1) (fun g v0 wr=>∃(qs:List Rw) (f:Nat),g=f+1∧Hid (qs.length≤f∧f<F0+1∧qs.length≤9223372036854775807∧Szs qs∧SR w v0 qs∧chk f d qs=true∧∃x l,WT w W b bs x wr l∧Y=x++bodyB f d qs))
  case atStart=>exact ⟨rs,F,rfl,HL0.out.1,HL0.out.2.1,HL0.out.2.2.1,HL0.out.2.2.2.1,HS0.out,HL0.out.2.2.2.2,[],last,HST.out,by rw [HY.out];rfl⟩
  case round=>
   clear HS0 HL0 HY HST
   obtain ⟨qs,f,rfl,hI⟩:=hrel
   obtain ⟨i1,i2,i3,i4,i5,i6,x,lx,hX,hYx⟩:=hI.out
   obtain ⟨a,c,vs,ev,hc,hvs,hA,hR⟩:=i5
   clear hI
   cases qs with
   | nil=>
    subst ev
    have hFin:Hid (BR w W b bs Y (.returned (.tuple #[])) wr):=by
     have e:Y=x:=by rw [hYx];cases f <;> simp [bodyB]
     rw [e]
     exact ⟨lx,hX.ws.below,hX.size,hX.ok,.inl ⟨by have:=hX.len;rwa [List.length_append] at this,rfl,hX.ws⟩⟩
    clear hA hR hvs hX hYx i1 i2 i3 i4 i6
    go_wp2
    go_end0
    exact hFin.out
   | cons r qs=>
    obtain ⟨bb,o,rfl,rr0⟩:=hR 0 (by simp)
    obtain ⟨av,vs,rfl⟩:∃av ws,vs=av::ws:=by cases vs with | nil=>simp at hvs | cons x y=>exact ⟨x,y,rfl⟩
    have hSA:=hA 0 (by simp) (by simp)
    have hSR:SR w (.slice (some ⟨bb,o,none⟩) (r::qs).length c) (r::qs):=⟨_,_,_,rfl,hc,hvs,hA,hR⟩
    obtain ⟨a1,c1,hsl,hS1⟩:=hSR.drop 1 (by simp)
    rw [List.length_cons] at ev hc hsl
    have hqz:Szs qs∧r.name.size≤9223372036854775807∧r.args.length≤9223372036854775807∧∀a∈r.args,a.n.size≤9223372036854775807:=⟨fun x hx=>i4 x (List.mem_cons_of_mem _ hx),i4 r List.mem_cons_self⟩
    have hnn:qs.length+1≤f∧f<F0+1∧qs.length+1≤9223372036854775807:=⟨i1,i2,i3⟩
    have rr:=rr0.below hX.ws.below
    have m0:=rr.c0 0 (by simp)
    have m1:=rr.c1 0 (by simp)
    have m2:=rr.c2 0 (by simp) (by simp)
    have m3:=rr.c3 0 (by simp)
    have m4:=rr.c4 0 (by simp)
    have m5:=rr.c5 0 (by simp)
    have ml:=rr.lt
    simp only [Nat.zero_mul,Nat.add_zero,List.getElem_cons_zero] at m0 m1 m2 m3 m4 m5 hSA
    simp only [List.drop_succ_cons,List.drop_zero] at hsl hS1
    have hsl1:∀w,(Instr.slice 22 (.slice (some ⟨bb,o,none⟩) (qs.length+1) c) (some (.int .i64 1)) none none).run Tryz.prog w=.ok (.slice a1 qs.length c1) w:=hsl
    obtain ⟨kd,nm,ag,nu,ro,pl⟩:=r
    simp only at m0 m1 m2 m3 m4 m5 hSA hqz
    subst ev
    have hsp:∃aa ac,av=.slice aa ag.length ac:=by obtain ⟨aa,ac,e,_⟩:=hSA;exact ⟨aa,ac,e⟩
    obtain ⟨aa,ac,rfl⟩:=hsp
    have HSA:Hid (SA w (.slice aa ag.length ac) ag):=hSA
    have HS1:Hid (SR w (.slice a1 qs.length c1) qs):=hS1
    have HQ:Hid (Szs qs):=hqz.1
    obtain ⟨f,rfl⟩:∃g,f=g+1:=⟨f-1,by omega⟩
    obtain ⟨sh,hk,hfit,hr0,hr1,hbd,hcd,hB⟩:=chk_cons2 i6
    have SHA:=fun w=>shape_any kd w
    rw [hk] at SHA
    have SM:=fun w' bs' h hb=>st_any kd nm ag nu ro pl sh (.slice aa ag.length ac) w w' b bs' HV.out h hb HSA.out hk hfit hqz.2.1 hqz.2.2.1 hqz.2.2.2
    have hlt:b<wr.heap.size:=(hX.ws.cell2).2.2
    have HX:Hid (WT w W b bs x wr lx):=hX
    obtain ⟨k,rfl⟩:∃k:Nat,ro=(k:Int):=⟨ro.toNat,by omega⟩
    have hkq:k≤qs.length:=by omega
    rw [Int.toNat_natCast] at hbd hcd
    have HYE:=(hB d)
    rw [Int.toNat_natCast] at HYE
    have HYY:Hid (Y=x++((indB d++(lineB ⟨#[]⟩ (headK ⟨kd,nm,ag,nu,(k:Int),pl⟩ sh)++[10]))++((if sh.body=true then bodyB f (d+1) (qs.take k)++(indB d++([125]++[10])) else [])++bodyB f d (qs.drop k)))):=by show Y=_;rw [hYx,HYE]
    have HCD:Hid (chk f d (qs.drop k)=true):=hcd
    obtain ⟨a3,c3,hsd,hS3⟩:=HS1.out.drop k hkq
    rw [List.length_drop] at hsd hS3
    have HS3:Hid (SR w (.slice a3 (qs.length-k) c3) (qs.drop k)):=hS3
    have hdl:(qs.drop k).length≤qs.length:=by rw [List.length_drop];omega
    generalize headK ⟨kd,nm,ag,nu,(k:Int),pl⟩ sh=HK at *
    obtain ⟨sn,sa,sx,sm,sb⟩:=sh
    simp only [Option.getD_some,Option.isSome_some] at SHA SM HYY hbd
    clear hA hR hvs rr rr0 hSR hsl hSA hS1 hYx i1 i2 i3 i4 i6 hk hfit hr0 hr1 hcd hB HYE hS3 hX
    have TKN:∀w' bs',WS w w' b bs' ⟨#[]⟩→bs'.length≤65536→Calls Tryz.prog 123 #[.pointer (some ⟨b,0,none⟩),.string ⟨#[125]⟩] w' (WR w w' b bs' [125] wShut):=fun w' bs' h hb=>token_any w w' b bs' ⟨#[]⟩ wShut h hb (by decide)
    go_upto_region 1 with (fail)
    go_region
    obtain ⟨V,hV⟩:∃V,V=(wr.alloc (.cells #[.string kd,.string nm,.slice aa ag.length ac,.int .i64 nu,.int .i64 (k:Int),.int .i64 pl] 79)).drew:=⟨_,rfl⟩
    have bV:BK V wr.heap.size #[.string kd,.string nm,.slice aa ag.length ac,.int .i64 nu,.int .i64 (k:Int),.int .i64 pl] 79:=by rw [hV];exact (bk_new _ _ _).drew
    have hWV:Hid (Below wr.heap.size wr V):=by rw [hV];exact below_drew (bal (Below.refl _ _) _)
    rw [←hV]
    clear hV m0 m1 m2 m3 m4 m5 ml hsl1
    have CELL:∀ {w9:World},Below V.heap.size V w9→BK w9 wr.heap.size #[.string kd,.string nm,.slice aa ag.length ac,.int .i64 nu,.int .i64 (k:Int),.int .i64 pl] 79:=fun h=>(h.block _ bV.lt).trans bV
    have q0:V.cell? ⟨wr.heap.size,0,none⟩=some (.string kd):=bV.cell 0
    have ql:=bV.lt
    clear bV
    go_upto_region 3 with (go_at_call 118;(with_reducible refine (SHA _).mono ?_);rintro e w1 ⟨rfl,h1⟩)
    obtain ⟨X,hXX⟩:∃X,X=w1.alloc (.cells #[.bool sn,.int .i64 sa,.bool sx,.bool sm,.bool sb] 187):=⟨_,rfl⟩
    have b1:BK X wr.heap.size #[.string kd,.string nm,.slice aa ag.length ac,.int .i64 nu,.int .i64 (k:Int),.int .i64 pl] 79:=by rw [hXX];exact (CELL h1).alloc _
    have b2:BK X w1.heap.size #[.bool sn,.int .i64 sa,.bool sx,.bool sm,.bool sb] 187:=by rw [hXX];exact bk_new _ _ _
    have h1s:wr.heap.size<w1.heap.size:=by have:=h1.size;omega
    have HX1:WT w W b bs x X lx:=HX.out.on (by rw [hXX];exact btr hWV.out (bal h1 _))
    rw [←hXX]
    clear hXX
    have BOX:∀ {w9:World},Lib.OthersKept 5 (some b) X w9→w9.cell? ⟨wr.heap.size,0,none⟩=some (.string kd)∧w9.cell? ⟨wr.heap.size,1,none⟩=some (.string nm)∧w9.cell? ⟨wr.heap.size,2,none⟩=some (.slice aa ag.length ac)∧w9.cell? ⟨wr.heap.size,3,none⟩=some (.int .i64 nu)∧w9.cell? ⟨wr.heap.size,4,none⟩=some (.int .i64 (k:Int))∧w9.cell? ⟨wr.heap.size,5,none⟩=some (.int .i64 pl)∧w9.cell? ⟨w1.heap.size,0,none⟩=some (.bool sn)∧w9.cell? ⟨w1.heap.size,1,none⟩=some (.int .i64 sa)∧w9.cell? ⟨w1.heap.size,2,none⟩=some (.bool sx)∧w9.cell? ⟨w1.heap.size,3,none⟩=some (.bool sm)∧w9.cell? ⟨w1.heap.size,4,none⟩=some (.bool sb)∧w1.heap.size<w9.heap.size:=fun h=>by
     have d1:=ok_bk h b1 (by omega) (by decide)
     have d2:=ok_bk h b2 (by omega) (by decide)
     exact ⟨d1.cell 0,d1.cell 1,d1.cell 2,d1.cell 3,d1.cell 4,d1.cell 5,d2.cell 0,d2.cell 1,d2.cell 2,d2.cell 3,d2.cell 4,d2.lt⟩
    clear CELL SHA q0 ql b1 b2
    have BG:=begin_any w X b _ lx d HX1.ws HX1.len (by omega)
    go_upto_region 4 with (go_at_call 120;(with_reducible refine BG.mono ?_);intro e w2 hR2;have k2:=hR2.2.2.1;rcases HX1.step hR2 with ⟨rfl,hX2⟩ | ⟨rfl,hP⟩)
    rotate_left
    ·exact ⟨rfl,hP _ ⟨_,by rw [HYY.out];simp only [List.append_assoc];rfl⟩⟩
    obtain ⟨x0,x1,x2,x3,x4,x5,y0,y1,y2,y3,y4,yl⟩:=BOX k2
    clear BG hR2
    have SM2:=SM w2 _ hX2.ws hX2.len
    go_upto_region 5 with (go_at_call 121;(with_reducible refine SM2.mono ?_);intro e w3 hR3;have k3:=Lib.OthersKept.trans k2 hR3.2.2.1;rcases hX2.step hR3 with ⟨rfl,hX3⟩ | ⟨rfl,hP⟩)
    rotate_left
    ·exact ⟨rfl,hP _ ⟨_,by rw [HYY.out];simp only [List.append_assoc];rfl⟩⟩
    clear SM SM2 hR3 x0 x1 x2 x3 x4 x5 y0 y1 y2 y3 y4 yl
    obtain ⟨x0,x1,x2,x3,x4,x5,y0,y1,y2,y3,y4,yl⟩:=BOX k3
    have EN:=end_any w w3 b _ _ hX3.ws hX3.len
    go_upto_region 6 with (go_at_call 122;(with_reducible refine EN.mono ?_);intro e w4 hR4;have k4:=Lib.OthersKept.trans k3 hR4.2.2.1;rcases hX3.step hR4 with ⟨rfl,hX4⟩ | ⟨rfl,hP⟩)
    rotate_left
    ·exact ⟨rfl,hP _ ⟨_,by rw [HYY.out];simp only [List.append_assoc];rfl⟩⟩
    clear EN hR4 x0 x1 x2 x3 x4 x5 y0 y1 y2 y3 y4 yl
    obtain ⟨x0,x1,x2,x3,x4,x5,y0,y1,y2,y3,y4,yl⟩:=BOX k4
    rcases hbd with ⟨rfl,hd2,hcb⟩ | ⟨rfl,hk0⟩
    ·obtain ⟨a2,c2,hst,hS2⟩:=HS1.out.take k hkq
     have htk:(qs.take k).length=k:=by rw [List.length_take];omega
     have htl:(qs.take k).length≤qs.length:=by omega
     rw [htk] at hst hS2
     clear htk
     have RC:=HIH.out f (by omega) (qs.take k) (d+1) (.slice a2 k c2) w w4 b _ _ (by omega) (by omega) hcb hS2 hX4.ws hX4.len HV.out (by omega) (HQ.out.take k)
     rw [show ((d+1:Nat):Int)=(d:Int)+1 by omega] at RC
     clear hS2 hcb
     go_upto_region 8 with (go_at_call 70;(with_reducible refine RC.mono ?_);intro e w5 hR5;have k5:=Lib.OthersKept.trans k4 hR5.ok;rcases hX4.stepB hR5 with ⟨rfl,l5,hX5⟩ | ⟨rfl,hP⟩)
     rotate_left
     ·exact ⟨rfl,hP _ ⟨_,by rw [HYY.out,if_pos trivial];simp only [List.append_assoc];rfl⟩⟩
     clear RC hR5 x0 x1 x2 x3 x4 x5 y0 y1 y2 y3 y4 yl
     have BG:=begin_any w w5 b _ _ d hX5.ws hX5.len (by omega)
     go_upto_region 9 with (go_at_call 120;(with_reducible refine BG.mono ?_);intro e w6 hR6;have k6:=Lib.OthersKept.trans k5 hR6.2.2.1;rcases hX5.step hR6 with ⟨rfl,hX6⟩ | ⟨rfl,hP⟩)
     rotate_left
     ·exact ⟨rfl,hP _ ⟨_,by rw [HYY.out,if_pos trivial];simp only [List.append_assoc];rfl⟩⟩
     clear BG hR6
     have TK2:=TKN w6 _ hX6.ws hX6.len
     go_upto_region 10 with (go_at_call 123;(with_reducible refine TK2.mono ?_);intro e w7 hR7;have k7:=Lib.OthersKept.trans k6 hR7.2.2.1;rcases hX6.step hR7 with ⟨rfl,hX7⟩ | ⟨rfl,hP⟩)
     rotate_left
     ·exact ⟨rfl,hP _ ⟨_,by rw [HYY.out,if_pos trivial];simp only [List.append_assoc];rfl⟩⟩
     clear TK2 hR7
     have EN:=end_any w w7 b _ _ hX7.ws hX7.len
     go_upto_region 11 with (go_at_call 122;(with_reducible refine EN.mono ?_);intro e w8 hR8;have k8:=Lib.OthersKept.trans k7 hR8.2.2.1;rcases hX7.step hR8 with ⟨rfl,hX8⟩ | ⟨rfl,hP⟩)
     rotate_left
     ·exact ⟨rfl,hP _ ⟨_,by rw [HYY.out,if_pos trivial];simp only [List.append_assoc];rfl⟩⟩
     clear EN hR8
     obtain ⟨x0,x1,x2,x3,x4,x5,y0,y1,y2,y3,y4,yl⟩:=BOX k8
     go_wp2
     go_roundg (f+1)
     case measure=>omega
     case rel=>exact ⟨qs.drop k,f,rfl,by omega,by omega,by omega,HQ.out.drop k,HS3.out,HCD.out,_,_,hX8,by rw [HYY.out,if_pos trivial];simp only [List.append_assoc]⟩
    ·clear hk0
     go_wp2
     go_roundg (f+1)
     case measure=>omega
     case rel=>exact ⟨qs.drop k,f,rfl,by omega,by omega,by omega,HQ.out.drop k,HS3.out,HCD.out,_,_,hX4,by rw [HYY.out,if_neg (by simp)];simp only [List.append_assoc,List.nil_append]⟩
end Go.Proofs.YtdjfpghgklkejaaGreatDoor
namespace Go.Proofs.YtdjfpghgklkejaaGreatDoor
def numKd (kd:ByteArray):Bool:=decide (kd=wQubits) || decide (kd=wBits) || decide (kd=wRepeat) || decide (kd=wIf)
def hd0 (r:Rw):List UInt8:=if r.kind=wUse then r.name.data.toList else r.kind.data.toList++(if r.name=⟨#[]⟩ then [] else [32]++r.name.data.toList)
def hd1 (r:Rw):List UInt8:=if numKd r.kind=true then [32]++Lib.itoa r.num else []
def hdB (r:Rw):List UInt8:=hd0 r++hd1 r++r.args.flatMap shwB
def Lst (t:ByteArray):Prop:=t≠⟨#[]⟩∧t≠wLeft
theorem lst_nm {s:ByteArray} (h:nmB s=true):Lst s∧s≠wSemi∧s≠wRight:=⟨⟨fun e=>by rw [e] at h;exact absurd h (by decide),nm_ne h 91 (by decide) []⟩,nm_ne h 59 (by decide) [],nm_ne h 93 (by decide) []⟩
theorem tok_sep {last t:ByteArray} (h:Lst last) (h1:t≠wSemi) (h2:t≠wLeft) (h3:t≠wRight):tokB last t=[32]++t.data.toList:=by
 unfold tokB sepB
 rw [decide_eq_false h.1,decide_eq_false h.2,decide_eq_false h1,decide_eq_false h2,decide_eq_false h3]
 rfl
theorem tok_name {last s:ByteArray} (h:Lst last) (hs:nmB s=true):tokB last s=[32]++s.data.toList:=tok_sep h (lst_nm hs).2.1 (lst_nm hs).1.2 (lst_nm hs).2.2
theorem num_lst {x:Int} (hx:0≤x):Lst (numT x)∧numT x≠wSemi∧numT x≠wRight:=by
 obtain ⟨hd,hn⟩:=nu_ds (nu_num hx)
 have no:∀c:UInt8,¬(48≤c.toNat∧c.toNat≤57)→numT x≠⟨#[c]⟩:=fun c hc e=>by
  rw [e] at hd
  exact hc (hd c (by simp))
 exact ⟨⟨fun e=>hn (by rw [e]),no 91 (by decide)⟩,no 59 (by decide),no 93 (by decide)⟩
theorem tok_num {last:ByteArray} {x:Int} (h:Lst last) (hx:0≤x):tokB last (numT x)=[32]++Lib.itoa x:=by
 rw [tok_sep h (num_lst hx).2.1 (num_lst hx).1.2 (num_lst hx).2.2]
theorem tok_first (t:ByteArray):tokB ⟨#[]⟩ t=t.data.toList:=by
 unfold tokB sepB
 rw [decide_eq_true rfl]
 rfl
theorem tok_close {last t:ByteArray} (h:t=wSemi∨t=wLeft∨t=wRight):tokB last t=t.data.toList:=by
 unfold tokB sepB
 rcases h with rfl | rfl | rfl
 ·rw [show decide (wSemi=wSemi)=true by decide];simp
 ·rw [show decide (wLeft=wLeft)=true by decide];simp
 ·rw [show decide (wRight=wRight)=true by decide];simp
theorem tok_in {t:ByteArray}:tokB wLeft t=t.data.toList:=by
 unfold tokB sepB
 rw [show decide (wLeft=wLeft)=true by decide]
 simp
theorem lst_arg {ix:Bool} {a:Ar} (h:argOk ix a=true) {last:ByteArray} (hl:Lst last):lineB last (argK a)=shwB a∧Lst (lastOf last (argK a)):=by
 obtain ⟨h1,h2⟩:=argOk_p.1 h
 have hn:=(plnN_p.1 h1).1
 unfold argK shwB
 by_cases hx:0≤a.x
 ·rw [if_pos hx,if_neg (by omega)]
  refine ⟨?_,?_⟩
  ·show tokB last a.n++(tokB a.n wLeft++(tokB wLeft (numT a.x)++(tokB (numT a.x) wRight++[])))=_
   rw [tok_name hl hn,tok_close (.inr (.inl rfl)),tok_in,tok_close (.inr (.inr rfl))]
   simp
  ·show Lst wRight
   exact ⟨by decide,by decide⟩
 ·rw [if_neg hx,if_pos (by omega)]
  refine ⟨?_,(lst_nm hn).1⟩
  show tokB last a.n++[]=_
  rw [tok_name hl hn,List.append_nil]
theorem lastOf_two (e:ByteArray):∀(xs ys:List Tk),lastOf e (xs++ys)=lastOf (lastOf e xs) ys:=by
 intro xs
 induction xs generalizing e with
 | nil=>intro ys;rfl
 | cons x xs ih=>intro ys;exact ih x.t ys
theorem lst_args {ix:Bool}:∀(l:List Ar) (last:ByteArray),l.all (argOk ix)=true→Lst last→lineB last (argsT l)=l.flatMap shwB∧Lst (lastOf last (argsT l))
 | [],last,_,hl=>⟨rfl,hl⟩
 | a::l,last,h,hl=>by
  rw [List.all_cons,Bool.and_eq_true] at h
  obtain ⟨e1,l1⟩:=lst_arg h.1 hl
  obtain ⟨e2,l2⟩:=lst_args l _ h.2 l1
  have e:argsT (a::l)=argK a++argsT l:=by unfold argsT;rw [List.flatMap_cons]
  rw [e,lineB_app,lastOf_two,e1,e2,List.flatMap_cons]
  exact ⟨rfl,l2⟩
theorem tok_last {last:ByteArray} {sh:Sh} (h:Lst last):tokB last (lastS sh)=if sh.body=true then [32,123] else [59]:=by
 unfold lastS
 by_cases hb:sh.body=true
 ·rw [if_pos hb,if_pos hb,tok_sep h (by decide) (by decide) (by decide)]
  rfl
 ·rw [if_neg hb,if_neg hb,tok_close (.inl rfl)]
theorem line_head {r:Rw} {sh:Sh} (hk:shp r.kind=some sh) (hf:fitB r sh=true):lineB ⟨#[]⟩ (headK r sh)=hdB r++(if sh.body=true then [32,123] else [59]):=by
 unfold fitB at hf
 simp only [Bool.and_eq_true] at hf
 obtain ⟨⟨⟨hf1,hf2⟩,hf3⟩,hf4⟩:=hf
 -- the front: kind and name
 have FR:lineB ⟨#[]⟩ (kindT r++nameT r sh)=hd0 r∧Lst (lastOf ⟨#[]⟩ (kindT r++nameT r sh)):=by
  unfold kindT nameT hd0
  by_cases hu:r.kind=wUse
  ·have hs:sh=shUse:=by rw [hu] at hk;exact (Option.some.inj hk).symm
   subst hs
   have hn:=(plnN_p.1 hf1).1
   rw [if_pos hu,if_pos hu,if_pos rfl]
   refine ⟨?_,(lst_nm hn).1⟩
   show tokB ⟨#[]⟩ r.name++[]=_
   rw [tok_first,List.append_nil]
  ·have hkn:nmB r.kind=true:=by
    rcases shp_cases r.kind with ⟨e,_,_⟩ | ⟨e,_,_⟩ | ⟨e,_,_⟩ | ⟨e,_,_⟩ | ⟨e,_,_⟩ | ⟨e,_,_⟩ | ⟨e,_,_⟩ | ⟨e,_,_⟩ | ⟨_,_,_,_,_,_,_,_,e,_⟩
    all_goals first | (rw [e];decide) | (rw [e] at hk;cases hk)
   rw [if_neg hu,if_neg hu]
   cases hb:sh.name with
   | true=>
    rw [hb,if_pos rfl] at hf1
    have hn:=(plnN_p.1 hf1).1
    rw [if_pos rfl,if_neg (lst_nm hn).1.1]
    refine ⟨?_,(lst_nm hn).1⟩
    show tokB ⟨#[]⟩ r.kind++(tokB r.kind r.name++[])=_
    rw [tok_first,tok_name (lst_nm hkn).1 hn,List.append_nil]
   | false=>
    rw [hb] at hf1
    rw [if_neg (by simp),if_pos (of_decide_eq_true hf1)]
    refine ⟨?_,(lst_nm hkn).1⟩
    show tokB ⟨#[]⟩ r.kind++[]=_
    rw [tok_first]
 have e1:headK r sh=(kindT r++nameT r sh)++(argsT r.args++(numTk r sh++[tkS (lastS sh)])):=by unfold headK;rw [List.append_assoc]
 have hnum:sh.num=numKd r.kind:=by
  rcases shp_cases r.kind with ⟨e,g,_⟩ | ⟨e,g,_⟩ | ⟨e,g,_⟩ | ⟨e,g,_⟩ | ⟨e,g,_⟩ | ⟨e,g,_⟩ | ⟨e,g,_⟩ | ⟨e,g,_⟩ | ⟨_,_,_,_,_,_,_,_,g,_⟩
  all_goals rw [g] at hk
  all_goals cases hk
  all_goals (unfold numKd;rw [e];decide)
 rw [e1,lineB_app,FR.1]
 obtain ⟨a1,a2⟩:=lst_args r.args _ hf4 FR.2
 rw [lineB_app,a1]
 unfold hdB hd1
 cases hb:sh.num with
 | true=>
  have hx:=(numOk_p.1 (by rw [hb,if_pos rfl] at hf2;exact hf2)).1
  have hargs:r.args=[]:=by
   rcases Bool.or_eq_true _ _▸hf3 with h | h
   ·exfalso
    have h:=of_decide_eq_true h
    have:=shR_cases (r:=r) (by rw [hk];rfl)
    have e:shR r=sh:=by unfold shR;rw [hk];rfl
    rw [e] at this
    rcases this with g | g | g | g | g | g | g <;> rw [g] at h hb <;> first | (simp at h;done) | (cases hb;done)
   ·have h:=of_decide_eq_true h
    have:=shR_cases (r:=r) (by rw [hk];rfl)
    have e:shR r=sh:=by unfold shR;rw [hk];rfl
    rw [e] at this
    have h0:sh.args=0:=by rcases this with g | g | g | g | g | g | g <;> rw [g] at hb ⊢ <;> first | rfl | (cases hb;done)
    rw [h0] at h
    exact List.length_eq_zero_iff.1 (by omega)
  rw [hargs] at a2 ⊢
  rw [hb] at hnum
  have en:numTk r sh=[tkD r.num]:=by unfold numTk;rw [hb];rfl
  rw [en,←hnum,if_pos rfl]
  show hd0 r++([]++(tokB (lastOf _ (argsT [])) (numT r.num)++(tokB (numT r.num) (lastS sh)++[])))=_
  rw [tok_num a2 hx,tok_last (num_lst hx).1]
  simp
 | false=>
  rw [hb] at hnum
  have en:numTk r sh=[]:=by unfold numTk;rw [hb];rfl
  rw [en,←hnum,if_neg (by simp)]
  show hd0 r++(r.args.flatMap shwB++(tokB (lastOf _ (argsT r.args)) (lastS sh)++[]))=_
  rw [tok_last a2]
  simp
end Go.Proofs.YtdjfpghgklkejaaGreatDoor
namespace Go.Proofs.YtdjfpghgklkejaaGreatDoor
open Go.RowKit Go.Sort
set_option maxHeartbeats 2000000 in
set_option maxRecDepth 100000 in
theorem rhead_if (nm:ByteArray) (ag:List Ar) (nu ro pl:Int) (av:Value) (w W:World) (hS:SA w av ag) (hB:Below w.heap.size w W) (hne:nm≠⟨#[]⟩) (hnz:nm.size≤1099511627776) (hnu:0≤nu∧nu≤9007199254740991) (hl:ag.length≤1099511627776) (hz:∀a∈ag,a.n.size≤1099511627776) (hx:∀a∈ag,a.x≤9007199254740991) (hT:(hdB ⟨wIf,nm,ag,nu,ro,pl⟩).length≤1099511627776) :
  Calls Tryz.prog 114 #[.agg #[.string ⟨#[105,102]⟩,.string nm,av,.int .i64 nu,.int .i64 ro,.int .i64 pl]] W fun e W'=>e=.returned (.string ⟨(hdB ⟨wIf,nm,ag,nu,ro,pl⟩).toArray⟩)∧Below W.heap.size W W':=by
 obtain ⟨aa,ac,rfl,hac,hr⟩:=hS
 have HR:Hid (∀k,k<ag.length→∃b o,aa=some ⟨b,o,none⟩∧RA w b o ag):=hr
 have HZ:Hid (∀a∈ag,a.n.size≤1099511627776):=hz
 have HXX:Hid (∀a∈ag,a.x≤9007199254740991):=hx
 clear hr hz hx
 have q0:=ne_lit hne
 obtain ⟨P,hP⟩:∃P:ByteArray,P=(⟨#[105,102]⟩++⟨#[32]⟩++nm++⟨#[32]⟩++numT nu:ByteArray):=⟨_,rfl⟩
 have HP:Hid (hdB ⟨wIf,nm,ag,nu,ro,pl⟩=P.data.toList++ag.flatMap shwB):=by
  show _=_
  rw [hP]
  unfold hdB hd0 hd1
  rw [if_neg (show ¬wIf=wUse by decide),if_neg hne]
  rw [if_pos (show numKd wIf=true by decide)]
  simp [ByteArray.data_append]
 rw [HP.out,List.length_append] at hT
 have hPz:P.data.toList.length=P.size:=rfl
 obtain ⟨TX,hTX⟩:∃T:ByteArray,T=⟨(hdB ⟨wIf,nm,ag,nu,ro,pl⟩).toArray⟩:=⟨_,rfl⟩
 have HTX:Hid (TX=⟨(P.data.toList++ag.flatMap shwB).toArray⟩):=by show TX=_;rw [hTX,HP.out]
 rw [←hTX]
 clear hTX HP
 have HPQ:Hid (P=(⟨#[105,102]⟩++⟨#[32]⟩++nm++⟨#[32]⟩++numT nu:ByteArray)):=hP
 clear hP
 have DC:=fun w=>decimal_any nu w (by omega) (by omega)
 have hnl:=num_len nu (by omega) (by omega)
 generalize numT nu=nt at *
 have z0:¬9223372036854775807<(⟨#[105,102]⟩:ByteArray).size+(⟨#[32]⟩:ByteArray).size:=by (try simp only [ByteArray.size_append]);show ¬9223372036854775807<2+1;omega
 have y0:¬9223372036854775807<2+1:=by omega
 have z1:¬9223372036854775807<(⟨#[105,102]⟩++⟨#[32]⟩:ByteArray).size+nm.size:=by (try simp only [ByteArray.size_append]);show ¬9223372036854775807<2+1+nm.size;omega
 have y1:¬9223372036854775807<2+1+nm.size:=by omega
 have z2:¬9223372036854775807<(⟨#[105,102]⟩++⟨#[32]⟩++nm:ByteArray).size+(⟨#[32]⟩:ByteArray).size:=by (try simp only [ByteArray.size_append]);show ¬9223372036854775807<2+1+nm.size+1;omega
 have y2:¬9223372036854775807<2+1+nm.size+1:=by omega
 have z3:¬9223372036854775807<(⟨#[105,102]⟩++⟨#[32]⟩++nm++⟨#[32]⟩:ByteArray).size+nt.size:=by (try simp only [ByteArray.size_append]);show ¬9223372036854775807<2+1+nm.size+1+nt.size;omega
 have y3:¬9223372036854775807<2+1+nm.size+1+nt.size:=by omega
 obtain ⟨X,hX⟩:∃X,X=W.alloc (.cells #[.string ⟨#[105,102]⟩,.string nm,.slice aa ag.length ac,.int .i64 nu,.int .i64 ro,.int .i64 pl] 79):=⟨_,rfl⟩
 have HX:Hid (X=W.alloc (.cells #[.string ⟨#[105,102]⟩,.string nm,.slice aa ag.length ac,.int .i64 nu,.int .i64 ro,.int .i64 pl] 79)):=hX
 have bX:BK X W.heap.size #[.string ⟨#[105,102]⟩,.string nm,.slice aa ag.length ac,.int .i64 nu,.int .i64 ro,.int .i64 pl] 79:=by rw [hX];exact bk_new _ _ _
 have hWX:Hid (Below W.heap.size W X):=by rw [hX];exact bal (Below.refl _ _) _
 have hwX:Hid (Below w.heap.size w X):=btr hB hWX.out
 have FC:∀ {wr:World},Below X.heap.size X wr→wr.cell? ⟨W.heap.size,0,none⟩=some (.string ⟨#[105,102]⟩)∧wr.cell? ⟨W.heap.size,1,none⟩=some (.string nm)∧wr.cell? ⟨W.heap.size,2,none⟩=some (.slice aa ag.length ac)∧wr.cell? ⟨W.heap.size,3,none⟩=some (.int .i64 nu)∧W.heap.size<wr.heap.size:=fun h=>by
  have b9:BK _ W.heap.size _ _:=(h.block _ bX.lt).trans bX
  exact ⟨b9.cell 0,b9.cell 1,b9.cell 2,b9.cell 3,b9.lt⟩
 obtain ⟨x0,x1,x2,x3,x4⟩:=FC (Below.refl _ _)
 have hB0:Hid (Below X.heap.size X X):=Below.refl _ _
 clear bX hX hB
 go_enter Tryz.func114,Tryz.ntmps114
 go_upto_region 1 with (fail)
 rw [←HX.out]
 go_upto_region 9 with (go_at_call 155;(with_reducible refine (DC _).mono ?_);rintro e w1 ⟨rfl,h1⟩;obtain ⟨y0_,y1_,y2_,y3_,y4_⟩:=FC h1)
 have hW1:Hid _:=h1
 try rw [←HPQ.out]
 go_loopw [3,4] (fun v3 v4 wr=>∃(k:Nat) (S:ByteArray),k≤ag.length∧v3=.string S∧v4=.int .i64 k∧S.size≤1099511627776∧Hid (S=⟨(P.data.toList++(ag.take k).flatMap shwB).toArray⟩∧Below X.heap.size X wr)) (fun _ v _=>ag.length-(intOf v).toNat)
 case atStart=>exact ⟨0,P,Nat.zero_le _,rfl,rfl,by omega,by rw [List.take_zero];simp,hW1.out⟩
 case round=>
  clear x0 x1 x2 x3 x4
  obtain ⟨k,S,hk,rfl,rfl,hSz,hI⟩:=hrel
  obtain ⟨x0,x1,x2,x3,x4⟩:=FC hI.out.2
  by_cases hlt:k<ag.length
  case neg=>
   obtain rfl:k=ag.length:=by omega
   have hE:Hid (S=TX):=by show S=TX;rw [hI.out.1,List.take_length,HTX.out]
   go_wp2
   go_ret
   exact ⟨by rw [←hE.out];rfl,btr hWX.out hI.out.2⟩
  case pos=>
  obtain ⟨rb,rO,rfl,ra0⟩:=HR.out k hlt
  have ra:=(ra0.below hwX.out).below hI.out.2
  have l0:=ra.c0 k hlt
  have l1:=ra.c1 k hlt
  have l2:=ra.lt
  have hmem:=List.getElem_mem hlt
  have SW:=fun w=>shown_any ag[k].n ag[k].x w (HZ.out _ hmem) (HXX.out _ hmem)
  have HTK:Hid ((ag.take (k+1)).flatMap shwB=(ag.take k).flatMap shwB++shwB ag[k]):=by show _=_;rw [List.take_succ_eq_append_getElem hlt,List.flatMap_append];simp
  have hLL:P.size+((ag.take k).flatMap shwB).length+(shwB ag[k]).length≤1099511627776:=by
   have e:ag.flatMap shwB=(ag.take (k+1)).flatMap shwB++(ag.drop (k+1)).flatMap shwB:=by rw [←List.flatMap_append,List.take_append_drop]
   have:=congrArg List.length e
   rw [HTK.out,List.length_append,List.length_append] at this
   omega
  have hSL:S.size=P.size+((ag.take k).flatMap shwB).length:=by rw [hI.out.1];show (P.data.toList++_).toArray.size=_;rw [List.size_toArray,List.length_append,hPz]
  have HSB:Hid ((⟨(shwB ag[k]).toArray⟩:ByteArray).size=(shwB ag[k]).length):=by show (shwB ag[k]).toArray.size=_;rw [List.size_toArray]
  obtain ⟨B,hB9⟩:∃B:ByteArray,B=⟨(shwB ag[k]).toArray⟩:=⟨_,rfl⟩
  have HB9:Hid (B=⟨(shwB ag[k]).toArray⟩):=hB9
  have hBz:S.size+B.size≤1099511627776:=by rw [hB9,HSB.out];omega
  have NXT:Hid ((S++B:ByteArray)=⟨(P.data.toList++(ag.take (k+1)).flatMap shwB).toArray⟩):=by
   show _=_
   rw [HTK.out,hI.out.1,HB9.out,bytes_app,List.append_assoc]
  have hkz:¬9223372036854775807<S.size+B.size:=by omega
  have SW2:∀w,Calls Tryz.prog 156 #[.agg #[.string ag[k].n,.int .i64 ag[k].x]] w fun e w'=>e=.returned (.string B)∧Below w.heap.size w w':=fun w=>by rw [hB9];exact SW w
  clear ra ra0 hmem SW hLL hSL hB9 HSB HB9
  generalize ag[k].n=an at *
  generalize ag[k].x=ax at *
  go_wp2_with (go_at_call 156;(with_reducible refine (SW2 _).mono ?_);rintro e w5 ⟨rfl,h5⟩)
  go_roundw
  case rel=>exact ⟨k+1,_,by omega,rfl,by go_num,by rw [ByteArray.size_append];exact hBz,NXT.out,btr hI.out.2 h5⟩
  case measure=>simp [intOf];omega
set_option maxHeartbeats 2000000 in
set_option maxRecDepth 100000 in
theorem rhead_measure (ag:List Ar) (nu ro pl:Int) (av:Value) (w W:World) (hS:SA w av ag) (hB:Below w.heap.size w W) (hl:ag.length≤1099511627776) (hz:∀a∈ag,a.n.size≤1099511627776) (hx:∀a∈ag,a.x≤9007199254740991) (hT:(hdB ⟨wMeasure,⟨#[]⟩,ag,nu,ro,pl⟩).length≤1099511627776) :
  Calls Tryz.prog 114 #[.agg #[.string ⟨#[109,101,97,115,117,114,101]⟩,.string ⟨#[]⟩,av,.int .i64 nu,.int .i64 ro,.int .i64 pl]] W fun e W'=>e=.returned (.string ⟨(hdB ⟨wMeasure,⟨#[]⟩,ag,nu,ro,pl⟩).toArray⟩)∧Below W.heap.size W W':=by
 obtain ⟨aa,ac,rfl,hac,hr⟩:=hS
 have HR:Hid (∀k,k<ag.length→∃b o,aa=some ⟨b,o,none⟩∧RA w b o ag):=hr
 have HZ:Hid (∀a∈ag,a.n.size≤1099511627776):=hz
 have HXX:Hid (∀a∈ag,a.x≤9007199254740991):=hx
 clear hr hz hx
 obtain ⟨P,hP⟩:∃P:ByteArray,P=(⟨#[109,101,97,115,117,114,101]⟩:ByteArray):=⟨_,rfl⟩
 have HP:Hid (hdB ⟨wMeasure,⟨#[]⟩,ag,nu,ro,pl⟩=P.data.toList++ag.flatMap shwB):=by
  show _=_
  rw [hP]
  unfold hdB hd0 hd1
  rw [if_neg (show ¬wMeasure=wUse by decide),if_pos rfl]
  rw [if_neg (show ¬numKd wMeasure=true by decide)]
  simp
 rw [HP.out,List.length_append] at hT
 have hPz:P.data.toList.length=P.size:=rfl
 obtain ⟨TX,hTX⟩:∃T:ByteArray,T=⟨(hdB ⟨wMeasure,⟨#[]⟩,ag,nu,ro,pl⟩).toArray⟩:=⟨_,rfl⟩
 have HTX:Hid (TX=⟨(P.data.toList++ag.flatMap shwB).toArray⟩):=by show TX=_;rw [hTX,HP.out]
 rw [←hTX]
 clear hTX HP
 have HPQ:Hid (P=(⟨#[109,101,97,115,117,114,101]⟩:ByteArray)):=hP
 clear hP
 obtain ⟨X,hX⟩:∃X,X=W.alloc (.cells #[.string ⟨#[109,101,97,115,117,114,101]⟩,.string ⟨#[]⟩,.slice aa ag.length ac,.int .i64 nu,.int .i64 ro,.int .i64 pl] 79):=⟨_,rfl⟩
 have HX:Hid (X=W.alloc (.cells #[.string ⟨#[109,101,97,115,117,114,101]⟩,.string ⟨#[]⟩,.slice aa ag.length ac,.int .i64 nu,.int .i64 ro,.int .i64 pl] 79)):=hX
 have bX:BK X W.heap.size #[.string ⟨#[109,101,97,115,117,114,101]⟩,.string ⟨#[]⟩,.slice aa ag.length ac,.int .i64 nu,.int .i64 ro,.int .i64 pl] 79:=by rw [hX];exact bk_new _ _ _
 have hWX:Hid (Below W.heap.size W X):=by rw [hX];exact bal (Below.refl _ _) _
 have hwX:Hid (Below w.heap.size w X):=btr hB hWX.out
 have FC:∀ {wr:World},Below X.heap.size X wr→wr.cell? ⟨W.heap.size,0,none⟩=some (.string ⟨#[109,101,97,115,117,114,101]⟩)∧wr.cell? ⟨W.heap.size,1,none⟩=some (.string ⟨#[]⟩)∧wr.cell? ⟨W.heap.size,2,none⟩=some (.slice aa ag.length ac)∧wr.cell? ⟨W.heap.size,3,none⟩=some (.int .i64 nu)∧W.heap.size<wr.heap.size:=fun h=>by
  have b9:BK _ W.heap.size _ _:=(h.block _ bX.lt).trans bX
  exact ⟨b9.cell 0,b9.cell 1,b9.cell 2,b9.cell 3,b9.lt⟩
 obtain ⟨x0,x1,x2,x3,x4⟩:=FC (Below.refl _ _)
 have hB0:Hid (Below X.heap.size X X):=Below.refl _ _
 clear bX hX hB
 go_enter Tryz.func114,Tryz.ntmps114
 go_upto_region 1 with (fail)
 rw [←HX.out]
 go_upto_region 9 with (fail)
 have hW1:Hid _:=hB0.out
 try rw [←HPQ.out]
 go_loopw [3,4] (fun v3 v4 wr=>∃(k:Nat) (S:ByteArray),k≤ag.length∧v3=.string S∧v4=.int .i64 k∧S.size≤1099511627776∧Hid (S=⟨(P.data.toList++(ag.take k).flatMap shwB).toArray⟩∧Below X.heap.size X wr)) (fun _ v _=>ag.length-(intOf v).toNat)
 case atStart=>exact ⟨0,P,Nat.zero_le _,rfl,rfl,by omega,by rw [List.take_zero];simp,hW1.out⟩
 case round=>
  clear x0 x1 x2 x3 x4
  obtain ⟨k,S,hk,rfl,rfl,hSz,hI⟩:=hrel
  obtain ⟨x0,x1,x2,x3,x4⟩:=FC hI.out.2
  by_cases hlt:k<ag.length
  case neg=>
   obtain rfl:k=ag.length:=by omega
   have hE:Hid (S=TX):=by show S=TX;rw [hI.out.1,List.take_length,HTX.out]
   go_wp2
   go_ret
   exact ⟨by rw [←hE.out];rfl,btr hWX.out hI.out.2⟩
  case pos=>
  obtain ⟨rb,rO,rfl,ra0⟩:=HR.out k hlt
  have ra:=(ra0.below hwX.out).below hI.out.2
  have l0:=ra.c0 k hlt
  have l1:=ra.c1 k hlt
  have l2:=ra.lt
  have hmem:=List.getElem_mem hlt
  have SW:=fun w=>shown_any ag[k].n ag[k].x w (HZ.out _ hmem) (HXX.out _ hmem)
  have HTK:Hid ((ag.take (k+1)).flatMap shwB=(ag.take k).flatMap shwB++shwB ag[k]):=by show _=_;rw [List.take_succ_eq_append_getElem hlt,List.flatMap_append];simp
  have hLL:P.size+((ag.take k).flatMap shwB).length+(shwB ag[k]).length≤1099511627776:=by
   have e:ag.flatMap shwB=(ag.take (k+1)).flatMap shwB++(ag.drop (k+1)).flatMap shwB:=by rw [←List.flatMap_append,List.take_append_drop]
   have:=congrArg List.length e
   rw [HTK.out,List.length_append,List.length_append] at this
   omega
  have hSL:S.size=P.size+((ag.take k).flatMap shwB).length:=by rw [hI.out.1];show (P.data.toList++_).toArray.size=_;rw [List.size_toArray,List.length_append,hPz]
  have HSB:Hid ((⟨(shwB ag[k]).toArray⟩:ByteArray).size=(shwB ag[k]).length):=by show (shwB ag[k]).toArray.size=_;rw [List.size_toArray]
  obtain ⟨B,hB9⟩:∃B:ByteArray,B=⟨(shwB ag[k]).toArray⟩:=⟨_,rfl⟩
  have HB9:Hid (B=⟨(shwB ag[k]).toArray⟩):=hB9
  have hBz:S.size+B.size≤1099511627776:=by rw [hB9,HSB.out];omega
  have NXT:Hid ((S++B:ByteArray)=⟨(P.data.toList++(ag.take (k+1)).flatMap shwB).toArray⟩):=by
   show _=_
   rw [HTK.out,hI.out.1,HB9.out,bytes_app,List.append_assoc]
  have hkz:¬9223372036854775807<S.size+B.size:=by omega
  have SW2:∀w,Calls Tryz.prog 156 #[.agg #[.string ag[k].n,.int .i64 ag[k].x]] w fun e w'=>e=.returned (.string B)∧Below w.heap.size w w':=fun w=>by rw [hB9];exact SW w
  clear ra ra0 hmem SW hLL hSL hB9 HSB HB9
  generalize ag[k].n=an at *
  generalize ag[k].x=ax at *
  go_wp2_with (go_at_call 156;(with_reducible refine (SW2 _).mono ?_);rintro e w5 ⟨rfl,h5⟩)
  go_roundw
  case rel=>exact ⟨k+1,_,by omega,rfl,by go_num,by rw [ByteArray.size_append];exact hBz,NXT.out,btr hI.out.2 h5⟩
  case measure=>simp [intOf];omega
set_option maxHeartbeats 2000000 in
set_option maxRecDepth 100000 in
theorem rhead_reset (ag:List Ar) (nu ro pl:Int) (av:Value) (w W:World) (hS:SA w av ag) (hB:Below w.heap.size w W) (hl:ag.length≤1099511627776) (hz:∀a∈ag,a.n.size≤1099511627776) (hx:∀a∈ag,a.x≤9007199254740991) (hT:(hdB ⟨wReset,⟨#[]⟩,ag,nu,ro,pl⟩).length≤1099511627776) :
  Calls Tryz.prog 114 #[.agg #[.string ⟨#[114,101,115,101,116]⟩,.string ⟨#[]⟩,av,.int .i64 nu,.int .i64 ro,.int .i64 pl]] W fun e W'=>e=.returned (.string ⟨(hdB ⟨wReset,⟨#[]⟩,ag,nu,ro,pl⟩).toArray⟩)∧Below W.heap.size W W':=by
 obtain ⟨aa,ac,rfl,hac,hr⟩:=hS
 have HR:Hid (∀k,k<ag.length→∃b o,aa=some ⟨b,o,none⟩∧RA w b o ag):=hr
 have HZ:Hid (∀a∈ag,a.n.size≤1099511627776):=hz
 have HXX:Hid (∀a∈ag,a.x≤9007199254740991):=hx
 clear hr hz hx
 obtain ⟨P,hP⟩:∃P:ByteArray,P=(⟨#[114,101,115,101,116]⟩:ByteArray):=⟨_,rfl⟩
 have HP:Hid (hdB ⟨wReset,⟨#[]⟩,ag,nu,ro,pl⟩=P.data.toList++ag.flatMap shwB):=by
  show _=_
  rw [hP]
  unfold hdB hd0 hd1
  rw [if_neg (show ¬wReset=wUse by decide),if_pos rfl]
  rw [if_neg (show ¬numKd wReset=true by decide)]
  simp
 rw [HP.out,List.length_append] at hT
 have hPz:P.data.toList.length=P.size:=rfl
 obtain ⟨TX,hTX⟩:∃T:ByteArray,T=⟨(hdB ⟨wReset,⟨#[]⟩,ag,nu,ro,pl⟩).toArray⟩:=⟨_,rfl⟩
 have HTX:Hid (TX=⟨(P.data.toList++ag.flatMap shwB).toArray⟩):=by show TX=_;rw [hTX,HP.out]
 rw [←hTX]
 clear hTX HP
 have HPQ:Hid (P=(⟨#[114,101,115,101,116]⟩:ByteArray)):=hP
 clear hP
 obtain ⟨X,hX⟩:∃X,X=W.alloc (.cells #[.string ⟨#[114,101,115,101,116]⟩,.string ⟨#[]⟩,.slice aa ag.length ac,.int .i64 nu,.int .i64 ro,.int .i64 pl] 79):=⟨_,rfl⟩
 have HX:Hid (X=W.alloc (.cells #[.string ⟨#[114,101,115,101,116]⟩,.string ⟨#[]⟩,.slice aa ag.length ac,.int .i64 nu,.int .i64 ro,.int .i64 pl] 79)):=hX
 have bX:BK X W.heap.size #[.string ⟨#[114,101,115,101,116]⟩,.string ⟨#[]⟩,.slice aa ag.length ac,.int .i64 nu,.int .i64 ro,.int .i64 pl] 79:=by rw [hX];exact bk_new _ _ _
 have hWX:Hid (Below W.heap.size W X):=by rw [hX];exact bal (Below.refl _ _) _
 have hwX:Hid (Below w.heap.size w X):=btr hB hWX.out
 have FC:∀ {wr:World},Below X.heap.size X wr→wr.cell? ⟨W.heap.size,0,none⟩=some (.string ⟨#[114,101,115,101,116]⟩)∧wr.cell? ⟨W.heap.size,1,none⟩=some (.string ⟨#[]⟩)∧wr.cell? ⟨W.heap.size,2,none⟩=some (.slice aa ag.length ac)∧wr.cell? ⟨W.heap.size,3,none⟩=some (.int .i64 nu)∧W.heap.size<wr.heap.size:=fun h=>by
  have b9:BK _ W.heap.size _ _:=(h.block _ bX.lt).trans bX
  exact ⟨b9.cell 0,b9.cell 1,b9.cell 2,b9.cell 3,b9.lt⟩
 obtain ⟨x0,x1,x2,x3,x4⟩:=FC (Below.refl _ _)
 have hB0:Hid (Below X.heap.size X X):=Below.refl _ _
 clear bX hX hB
 go_enter Tryz.func114,Tryz.ntmps114
 go_upto_region 1 with (fail)
 rw [←HX.out]
 go_upto_region 9 with (fail)
 have hW1:Hid _:=hB0.out
 try rw [←HPQ.out]
 go_loopw [3,4] (fun v3 v4 wr=>∃(k:Nat) (S:ByteArray),k≤ag.length∧v3=.string S∧v4=.int .i64 k∧S.size≤1099511627776∧Hid (S=⟨(P.data.toList++(ag.take k).flatMap shwB).toArray⟩∧Below X.heap.size X wr)) (fun _ v _=>ag.length-(intOf v).toNat)
 case atStart=>exact ⟨0,P,Nat.zero_le _,rfl,rfl,by omega,by rw [List.take_zero];simp,hW1.out⟩
 case round=>
  clear x0 x1 x2 x3 x4
  obtain ⟨k,S,hk,rfl,rfl,hSz,hI⟩:=hrel
  obtain ⟨x0,x1,x2,x3,x4⟩:=FC hI.out.2
  by_cases hlt:k<ag.length
  case neg=>
   obtain rfl:k=ag.length:=by omega
   have hE:Hid (S=TX):=by show S=TX;rw [hI.out.1,List.take_length,HTX.out]
   go_wp2
   go_ret
   exact ⟨by rw [←hE.out];rfl,btr hWX.out hI.out.2⟩
  case pos=>
  obtain ⟨rb,rO,rfl,ra0⟩:=HR.out k hlt
  have ra:=(ra0.below hwX.out).below hI.out.2
  have l0:=ra.c0 k hlt
  have l1:=ra.c1 k hlt
  have l2:=ra.lt
  have hmem:=List.getElem_mem hlt
  have SW:=fun w=>shown_any ag[k].n ag[k].x w (HZ.out _ hmem) (HXX.out _ hmem)
  have HTK:Hid ((ag.take (k+1)).flatMap shwB=(ag.take k).flatMap shwB++shwB ag[k]):=by show _=_;rw [List.take_succ_eq_append_getElem hlt,List.flatMap_append];simp
  have hLL:P.size+((ag.take k).flatMap shwB).length+(shwB ag[k]).length≤1099511627776:=by
   have e:ag.flatMap shwB=(ag.take (k+1)).flatMap shwB++(ag.drop (k+1)).flatMap shwB:=by rw [←List.flatMap_append,List.take_append_drop]
   have:=congrArg List.length e
   rw [HTK.out,List.length_append,List.length_append] at this
   omega
  have hSL:S.size=P.size+((ag.take k).flatMap shwB).length:=by rw [hI.out.1];show (P.data.toList++_).toArray.size=_;rw [List.size_toArray,List.length_append,hPz]
  have HSB:Hid ((⟨(shwB ag[k]).toArray⟩:ByteArray).size=(shwB ag[k]).length):=by show (shwB ag[k]).toArray.size=_;rw [List.size_toArray]
  obtain ⟨B,hB9⟩:∃B:ByteArray,B=⟨(shwB ag[k]).toArray⟩:=⟨_,rfl⟩
  have HB9:Hid (B=⟨(shwB ag[k]).toArray⟩):=hB9
  have hBz:S.size+B.size≤1099511627776:=by rw [hB9,HSB.out];omega
  have NXT:Hid ((S++B:ByteArray)=⟨(P.data.toList++(ag.take (k+1)).flatMap shwB).toArray⟩):=by
   show _=_
   rw [HTK.out,hI.out.1,HB9.out,bytes_app,List.append_assoc]
  have hkz:¬9223372036854775807<S.size+B.size:=by omega
  have SW2:∀w,Calls Tryz.prog 156 #[.agg #[.string ag[k].n,.int .i64 ag[k].x]] w fun e w'=>e=.returned (.string B)∧Below w.heap.size w w':=fun w=>by rw [hB9];exact SW w
  clear ra ra0 hmem SW hLL hSL hB9 HSB HB9
  generalize ag[k].n=an at *
  generalize ag[k].x=ax at *
  go_wp2_with (go_at_call 156;(with_reducible refine (SW2 _).mono ?_);rintro e w5 ⟨rfl,h5⟩)
  go_roundw
  case rel=>exact ⟨k+1,_,by omega,rfl,by go_num,by rw [ByteArray.size_append];exact hBz,NXT.out,btr hI.out.2 h5⟩
  case measure=>simp [intOf];omega
set_option maxHeartbeats 2000000 in
set_option maxRecDepth 100000 in
theorem rhead_use (nm:ByteArray) (ag:List Ar) (nu ro pl:Int) (av:Value) (w W:World) (hS:SA w av ag) (hB:Below w.heap.size w W) (hne:nm≠⟨#[]⟩) (_hnz:nm.size≤1099511627776) (hl:ag.length≤1099511627776) (hz:∀a∈ag,a.n.size≤1099511627776) (hx:∀a∈ag,a.x≤9007199254740991) (hT:(hdB ⟨wUse,nm,ag,nu,ro,pl⟩).length≤1099511627776) :
  Calls Tryz.prog 114 #[.agg #[.string ⟨#[117,115,101]⟩,.string nm,av,.int .i64 nu,.int .i64 ro,.int .i64 pl]] W fun e W'=>e=.returned (.string ⟨(hdB ⟨wUse,nm,ag,nu,ro,pl⟩).toArray⟩)∧Below W.heap.size W W':=by
 obtain ⟨aa,ac,rfl,hac,hr⟩:=hS
 have HR:Hid (∀k,k<ag.length→∃b o,aa=some ⟨b,o,none⟩∧RA w b o ag):=hr
 have HZ:Hid (∀a∈ag,a.n.size≤1099511627776):=hz
 have HXX:Hid (∀a∈ag,a.x≤9007199254740991):=hx
 clear hr hz hx
 have q0:=ne_lit hne
 obtain ⟨P,hP⟩:∃P:ByteArray,P=(nm:ByteArray):=⟨_,rfl⟩
 have HP:Hid (hdB ⟨wUse,nm,ag,nu,ro,pl⟩=P.data.toList++ag.flatMap shwB):=by
  show _=_
  rw [hP]
  unfold hdB hd0 hd1
  rw [if_pos rfl]
  rw [if_neg (show ¬numKd wUse=true by decide)]
  simp
 rw [HP.out,List.length_append] at hT
 have hPz:P.data.toList.length=P.size:=rfl
 obtain ⟨TX,hTX⟩:∃T:ByteArray,T=⟨(hdB ⟨wUse,nm,ag,nu,ro,pl⟩).toArray⟩:=⟨_,rfl⟩
 have HTX:Hid (TX=⟨(P.data.toList++ag.flatMap shwB).toArray⟩):=by show TX=_;rw [hTX,HP.out]
 rw [←hTX]
 clear hTX HP
 have HPQ:Hid (P=(nm:ByteArray)):=hP
 clear hP
 obtain ⟨X,hX⟩:∃X,X=W.alloc (.cells #[.string ⟨#[117,115,101]⟩,.string nm,.slice aa ag.length ac,.int .i64 nu,.int .i64 ro,.int .i64 pl] 79):=⟨_,rfl⟩
 have HX:Hid (X=W.alloc (.cells #[.string ⟨#[117,115,101]⟩,.string nm,.slice aa ag.length ac,.int .i64 nu,.int .i64 ro,.int .i64 pl] 79)):=hX
 have bX:BK X W.heap.size #[.string ⟨#[117,115,101]⟩,.string nm,.slice aa ag.length ac,.int .i64 nu,.int .i64 ro,.int .i64 pl] 79:=by rw [hX];exact bk_new _ _ _
 have hWX:Hid (Below W.heap.size W X):=by rw [hX];exact bal (Below.refl _ _) _
 have hwX:Hid (Below w.heap.size w X):=btr hB hWX.out
 have FC:∀ {wr:World},Below X.heap.size X wr→wr.cell? ⟨W.heap.size,0,none⟩=some (.string ⟨#[117,115,101]⟩)∧wr.cell? ⟨W.heap.size,1,none⟩=some (.string nm)∧wr.cell? ⟨W.heap.size,2,none⟩=some (.slice aa ag.length ac)∧wr.cell? ⟨W.heap.size,3,none⟩=some (.int .i64 nu)∧W.heap.size<wr.heap.size:=fun h=>by
  have b9:BK _ W.heap.size _ _:=(h.block _ bX.lt).trans bX
  exact ⟨b9.cell 0,b9.cell 1,b9.cell 2,b9.cell 3,b9.lt⟩
 obtain ⟨x0,x1,x2,x3,x4⟩:=FC (Below.refl _ _)
 have hB0:Hid (Below X.heap.size X X):=Below.refl _ _
 clear bX hX hB
 go_enter Tryz.func114,Tryz.ntmps114
 go_upto_region 1 with (fail)
 rw [←HX.out]
 go_upto_region 9 with (fail)
 have hW1:Hid _:=hB0.out
 try rw [←HPQ.out]
 go_loopw [3,4] (fun v3 v4 wr=>∃(k:Nat) (S:ByteArray),k≤ag.length∧v3=.string S∧v4=.int .i64 k∧S.size≤1099511627776∧Hid (S=⟨(P.data.toList++(ag.take k).flatMap shwB).toArray⟩∧Below X.heap.size X wr)) (fun _ v _=>ag.length-(intOf v).toNat)
 case atStart=>exact ⟨0,P,Nat.zero_le _,rfl,rfl,by omega,by rw [List.take_zero];simp,hW1.out⟩
 case round=>
  clear x0 x1 x2 x3 x4
  obtain ⟨k,S,hk,rfl,rfl,hSz,hI⟩:=hrel
  obtain ⟨x0,x1,x2,x3,x4⟩:=FC hI.out.2
  by_cases hlt:k<ag.length
  case neg=>
   obtain rfl:k=ag.length:=by omega
   have hE:Hid (S=TX):=by show S=TX;rw [hI.out.1,List.take_length,HTX.out]
   go_wp2
   go_ret
   exact ⟨by rw [←hE.out];rfl,btr hWX.out hI.out.2⟩
  case pos=>
  obtain ⟨rb,rO,rfl,ra0⟩:=HR.out k hlt
  have ra:=(ra0.below hwX.out).below hI.out.2
  have l0:=ra.c0 k hlt
  have l1:=ra.c1 k hlt
  have l2:=ra.lt
  have hmem:=List.getElem_mem hlt
  have SW:=fun w=>shown_any ag[k].n ag[k].x w (HZ.out _ hmem) (HXX.out _ hmem)
  have HTK:Hid ((ag.take (k+1)).flatMap shwB=(ag.take k).flatMap shwB++shwB ag[k]):=by show _=_;rw [List.take_succ_eq_append_getElem hlt,List.flatMap_append];simp
  have hLL:P.size+((ag.take k).flatMap shwB).length+(shwB ag[k]).length≤1099511627776:=by
   have e:ag.flatMap shwB=(ag.take (k+1)).flatMap shwB++(ag.drop (k+1)).flatMap shwB:=by rw [←List.flatMap_append,List.take_append_drop]
   have:=congrArg List.length e
   rw [HTK.out,List.length_append,List.length_append] at this
   omega
  have hSL:S.size=P.size+((ag.take k).flatMap shwB).length:=by rw [hI.out.1];show (P.data.toList++_).toArray.size=_;rw [List.size_toArray,List.length_append,hPz]
  have HSB:Hid ((⟨(shwB ag[k]).toArray⟩:ByteArray).size=(shwB ag[k]).length):=by show (shwB ag[k]).toArray.size=_;rw [List.size_toArray]
  obtain ⟨B,hB9⟩:∃B:ByteArray,B=⟨(shwB ag[k]).toArray⟩:=⟨_,rfl⟩
  have HB9:Hid (B=⟨(shwB ag[k]).toArray⟩):=hB9
  have hBz:S.size+B.size≤1099511627776:=by rw [hB9,HSB.out];omega
  have NXT:Hid ((S++B:ByteArray)=⟨(P.data.toList++(ag.take (k+1)).flatMap shwB).toArray⟩):=by
   show _=_
   rw [HTK.out,hI.out.1,HB9.out,bytes_app,List.append_assoc]
  have hkz:¬9223372036854775807<S.size+B.size:=by omega
  have SW2:∀w,Calls Tryz.prog 156 #[.agg #[.string ag[k].n,.int .i64 ag[k].x]] w fun e w'=>e=.returned (.string B)∧Below w.heap.size w w':=fun w=>by rw [hB9];exact SW w
  clear ra ra0 hmem SW hLL hSL hB9 HSB HB9
  generalize ag[k].n=an at *
  generalize ag[k].x=ax at *
  go_wp2_with (go_at_call 156;(with_reducible refine (SW2 _).mono ?_);rintro e w5 ⟨rfl,h5⟩)
  go_roundw
  case rel=>exact ⟨k+1,_,by omega,rfl,by go_num,by rw [ByteArray.size_append];exact hBz,NXT.out,btr hI.out.2 h5⟩
  case measure=>simp [intOf];omega
end Go.Proofs.YtdjfpghgklkejaaGreatDoor
