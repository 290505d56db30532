/-
  Put together of: LC4.
-/
import Derived.Test.YtdjfpghgklkejaaGreatDoorYZ
import Derived.Test.YtdjfpghgklkejaaGreatDoorYQ
namespace Go.Proofs.YtdjfpghgklkejaaGreatDoor
open Go.RowKit Go.Sort
set_option maxHeartbeats 2000000 in
set_option maxRecDepth 100000 in
theorem rfit_none (kd nm:ByteArray) (ag:List Ar) (nu ro pl:Int) (av:Value) (w W:World) (hS:SA w av ag) (hk:shp kd=none) :
  Calls Tryz.prog 113 #[.agg #[.string kd,.string nm,av,.int .i64 nu,.int .i64 ro,.int .i64 pl]] W fun e W'=>e=.returned (.bool (rowB ⟨kd,nm,ag,nu,ro,pl⟩))∧Below W.heap.size W W':=by
 obtain ⟨aa,ac,rfl⟩:∃aa ac,av=.slice aa ag.length ac:=by obtain ⟨aa,ac,e,_⟩:=hS;exact ⟨aa,ac,e⟩
 have hF:rowB ⟨kd,nm,ag,nu,ro,pl⟩=false:=by unfold rowB;rw [hk];rfl
 rw [hF]
 rcases shp_cases kd with ⟨_,e,_⟩ | ⟨_,e,_⟩ | ⟨_,e,_⟩ | ⟨_,e,_⟩ | ⟨_,e,_⟩ | ⟨_,e,_⟩ | ⟨_,e,_⟩ | ⟨_,e,_⟩ | ⟨h1,h2,h3,h4,h5,h6,h7,h8,_,_⟩
 case inr.inr.inr.inr.inr.inr.inr.inr=>
  have g1:=ne_lit h1
  have g2:=ne_lit h2
  have g3:=ne_lit h3
  have g4:=ne_lit h4
  have g5:=ne_lit h5
  have g6:=ne_lit h6
  have g7:=ne_lit h7
  have g8:=ne_lit h8
  clear h1 h2 h3 h4 h5 h6 h7 h8 hF hk hS
  go_enter Tryz.func113,Tryz.ntmps113
  go_wp2
  go_ret
  exact ⟨rfl,bal (Below.refl _ _) _⟩
 all_goals
  rw [e] at hk
  cases hk
theorem rfit_any (kd nm:ByteArray) (ag:List Ar) (nu ro pl:Int) (av:Value) (w W:World) (hS:SA w av ag) (hB:Below w.heap.size w W) (hn:nm.size≤9223372036854775807) (hl:ag.length≤9223372036854775807) (hz:∀a∈ag,a.n.size≤9223372036854775807) :
  Calls Tryz.prog 113 #[.agg #[.string kd,.string nm,av,.int .i64 nu,.int .i64 ro,.int .i64 pl]] W fun e W'=>e=.returned (.bool (rowB ⟨kd,nm,ag,nu,ro,pl⟩))∧Below W.heap.size W W':=by
 rcases shp_cases kd with ⟨rfl,e,_⟩ | ⟨rfl,e,_⟩ | ⟨rfl,e,_⟩ | ⟨rfl,e,_⟩ | ⟨rfl,e,_⟩ | ⟨rfl,e,_⟩ | ⟨rfl,e,_⟩ | ⟨rfl,e,_⟩ | ⟨_,_,_,_,_,_,_,_,e,_⟩
 ·exact rfit_qubits nm ag nu ro pl av w W hS hB hn hl hz
 ·exact rfit_bits nm ag nu ro pl av w W hS hB hn hl hz
 ·exact rfit_gate nm ag nu ro pl av w W hS hB hn hl hz
 ·exact rfit_repeat nm ag nu ro pl av w W hS hB hn hl hz
 ·exact rfit_if nm ag nu ro pl av w W hS hB hn hl hz
 ·exact rfit_measure nm ag nu ro pl av w W hS hB hn hl hz
 ·exact rfit_reset nm ag nu ro pl av w W hS hB hn hl hz
 ·exact rfit_use nm ag nu ro pl av w W hS hB hn hl hz
 ·exact rfit_none kd nm ag nu ro pl av w W hS e
def bodyKd (kd:ByteArray):Bool:=decide (kd=wGate) || decide (kd=wRepeat) || decide (kd=wIf)
theorem body_kd {kd:ByteArray} {sh:Sh} (h:shp kd=some sh):sh.body=bodyKd kd:=by
 rcases shp_cases kd with ⟨rfl,e,_⟩ | ⟨rfl,e,_⟩ | ⟨rfl,e,_⟩ | ⟨rfl,e,_⟩ | ⟨rfl,e,_⟩ | ⟨rfl,e,_⟩ | ⟨rfl,e,_⟩ | ⟨rfl,e,_⟩ | ⟨_,_,_,_,_,_,_,_,e,_⟩ <;> rw [e] at h <;> cases h <;> decide
def mid (RS:List Rw) (i j:Nat):List Rw:=(RS.drop i).take (j-i)
theorem mid_nil (RS:List Rw) {i j:Nat} (h:j≤i):mid RS i j=[]:=by unfold mid;rw [Nat.sub_eq_zero_of_le h,List.take_zero]
theorem mid_cons (RS:List Rw) {i j:Nat} (h:i<j) (hj:j≤RS.length):mid RS i j=RS[i]::mid RS (i+1) j:=by
 unfold mid
 rw [List.drop_eq_getElem_cons (by omega),show j-i=(j-(i+1))+1 by omega,List.take_succ_cons]
theorem mid_len (RS:List Rw) {i j:Nat} (hj:j≤RS.length):(mid RS i j).length=j-i:=by
 unfold mid
 rw [List.length_take,List.length_drop]
 omega
theorem mid_take (RS:List Rw) {i j k:Nat} (h:i+k≤j):(mid RS i j).take k=mid RS i (i+k):=by
 unfold mid
 rw [List.take_take,Nat.add_sub_cancel_left]
 congr 1
 omega
theorem mid_drop (RS:List Rw) {i j k:Nat}:(mid RS i j).drop k=mid RS (i+k) j:=by
 unfold mid
 rw [List.drop_take,List.drop_drop]
 congr 1
 omega
theorem chk_mid (RS:List Rw) {f d i j:Nat} (h:i<j) (hj:j≤RS.length):chk (f+1) d (mid RS i j)=(rowB RS[i]&&decide (RS[i].rows≤((j-i-1:Nat):Int))&&(if bodyKd RS[i].kind=true then decide (d<32)&&chk f (d+1) (mid RS (i+1) (i+1+RS[i].rows.toNat)) else true)&&chk f d (mid RS (i+1+RS[i].rows.toNat) j)):=by
 rw [mid_cons RS h hj]
 generalize RS[i]=r
 show ((shp r.kind).isSome&&fitB r (shR r)&&decide (0≤r.rows)&&decide (r.rows≤((mid RS (i+1) j).length:Int))&&(if (shR r).body=true then decide (d<32)&&chk f (d+1) ((mid RS (i+1) j).take r.rows.toNat) else decide (r.rows=0))&&chk f d ((mid RS (i+1) j).drop r.rows.toNat))=_
 rw [mid_len RS hj,mid_drop,show j-(i+1)=j-i-1 by omega]
 unfold rowB shR
 cases hk:shp r.kind with
 | none=>rfl
 | some sh=>
  rw [←body_kd hk]
  show (true&&fitB r sh&&decide (0≤r.rows)&&decide (r.rows≤((j-i-1:Nat):Int))&&(if sh.body=true then _ else _)&&_)=(true&&fitB r sh&&decide (0≤r.rows)&&(sh.body || decide (r.rows=0))&&decide (r.rows≤((j-i-1:Nat):Int))&&(if sh.body=true then _ else true)&&_)
  by_cases hle:r.rows≤((j-i-1:Nat):Int)
  ·rw [decide_eq_true hle]
   cases sh.body with
   | true=>
    by_cases h0:0≤r.rows
    ·rw [mid_take RS (show i+1+r.rows.toNat≤j by omega)]
     simp
    ·rw [decide_eq_false h0];simp
   | false=>simp
  ·rw [decide_eq_false hle];simp
set_option maxHeartbeats 4000000 in
set_option maxRecDepth 100000 in
theorem right_any (RS:List Rw) (v:Value) (w:World) (hS:SR w v RS) (hl:RS.length≤1073741824) (hz:Szs RS):∀(F0:Nat) (F:Nat),F<F0→∀(i j d:Nat) (W:World),i≤j→j≤RS.length→j-i≤F→d≤33→Below w.heap.size w W →
  Calls Tryz.prog 63 #[v,.int .i64 i,.int .i64 j,.int .i64 d] W fun e W'=>(∃b:Bool,e=.returned (.bool b)∧(d≤32→b=chk F d (mid RS i j))∧(i=j→b=true))∧Below W.heap.size W W':=by
 obtain ⟨a,c,vs,rfl,hc,hv,hA,hR⟩:=hS
 have HA:Hid (∀k (h:k<RS.length) (h':k<vs.length),SA w vs[k] RS[k].args):=hA
 have HR:Hid (∀k,k<RS.length→∃b o,a=some ⟨b,o,none⟩∧RR w b o RS vs):=hR
 have HV:Hid (RS.length=vs.length):=hv
 have HZ:Hid (Szs RS):=hz
 clear hA hR hv hz
 intro F0
 induction F0 with
 | zero=>intro F hF;omega
 | succ F0 ih=>
  intro F hF i j d W hij hj hlen hd hB
  have HIH:Hid (∀F,F<F0→∀(i j d:Nat) (W:World),i≤j→j≤RS.length→j-i≤F→d≤33→Below w.heap.size w W →
   Calls Tryz.prog 63 #[.slice a RS.length c,.int .i64 i,.int .i64 j,.int .i64 d] W fun e W'=>(∃b:Bool,e=.returned (.bool b)∧(d≤32→b=chk F d (mid RS i j))∧(i=j→b=true))∧Below W.heap.size W W'):=ih
  have HB:Hid (Below w.heap.size w W):=hB
  clear ih hB
  by_cases hd3:32<d
  case pos=>
   have hdd:¬d≤32:=by omega
   by_cases h2:i<j
   ·have hne:¬i=j:=by omega
    go_enter Tryz.func63,Tryz.ntmps63
    go_wp2
    go_ret
    exact ⟨⟨_,rfl,fun h=>absurd h hdd,fun h=>absurd h hne⟩,Below.refl _ _⟩
   ·obtain rfl:i=j:=by omega
    go_enter Tryz.func63,Tryz.ntmps63
    go_upto_region 4 with (fail)
    go_loopw [9] (fun v9 wr=>v9=.int .i64 i∧wr=W) (fun _ _=>0)
    case atStart=>exact ⟨rfl,rfl⟩
    case round=>
     obtain ⟨rfl,rfl⟩:=hrel
     go_wp2
     go_ret
     exact ⟨⟨_,rfl,fun h=>absurd h hdd,fun _=>rfl⟩,Below.refl _ _⟩
  case neg=>
  have hdi:¬((32:Int)<(d:Int)):=by omega
  obtain ⟨C,hC⟩:∃C,C=chk F d (mid RS i j):=⟨_,rfl⟩
  have HC:Hid (C=chk F d (mid RS i j)):=hC
  have HC1:Hid (i=j→C=true):=fun h=>by rw [hC,h,mid_nil RS (Nat.le_refl _)];cases F <;> rfl
  have OUT:Hid (∀(b:Bool) (W':World),b=C→Below W.heap.size W W'→(∃b':Bool,Ending.returned (.bool b)=.returned (.bool b')∧(d≤32→b'=C)∧(i=j→b'=true))∧Below W.heap.size W W'):=fun b W' h hb=>⟨⟨b,rfl,fun _=>h,fun e=>by rw [h];exact HC1.out e⟩,hb⟩
  rw [←hC]
  clear hC HC1
  have hway:i<j∨¬i<j:=by omega
  rcases hway with h2 | h2
  all_goals
   go_enter Tryz.func63,Tryz.ntmps63
   go_upto_region 4 with (fail)
   go_loopw [9] (fun v9 wr=>∃(x f:Nat),x≤j∧v9=.int .i64 x∧Hid (f≤F∧j-x≤f∧C=chk f d (mid RS x j)∧Below W.heap.size W wr)) (fun v9 _=>j-(intOf v9).toNat)
   case atStart=>exact ⟨i,F,hij,rfl,Nat.le_refl _,hlen,HC.out,Below.refl _ _⟩
   case round=>
    clear HC h2 hij hlen
    obtain ⟨x,f,hx,rfl,hI⟩:=hrel
    obtain ⟨i1,i2,i3,i4⟩:=hI.out
    clear hI
    by_cases hlt:x<j
    case neg=>
     obtain rfl:x=j:=by omega
     have hCt:Hid (C=true):=by show C=true;rw [i3,mid_nil RS (Nat.le_refl _)];cases f <;> rfl
     have I4:Hid (Below W.heap.size W wr):=i4
     clear i1 i2 i3 i4
     go_wp2
     go_ret
     exact OUT.out true _ hCt.out.symm I4.out
    case pos=>
    have hxl:x<RS.length:=by omega
    have hkv:x<vs.length:=by rw [←HV.out];exact hxl
    obtain ⟨b,o,rfl,r0⟩:=HR.out x hxl
    have hSA:=HA.out x hxl hkv
    have rr:=(r0.below HB.out).below i4
    have m0:=rr.c0 x hxl
    have m1:=rr.c1 x hxl
    have m2:=rr.c2 x hxl hkv
    have m3:=rr.c3 x hxl
    have m4:=rr.c4 x hxl
    have m5:=rr.c5 x hxl
    have ml:=rr.lt
    obtain ⟨f,rfl⟩:∃g,f=g+1:=⟨f-1,by omega⟩
    rw [chk_mid RS hlt hj] at i3
    have hqz:=HZ.out _ (List.getElem_mem hxl)
    generalize RS[x]=r at *
    generalize vs[x]=av at *
    obtain ⟨kd,nm,ag,nu,ro,pl⟩:=r
    simp only at m0 m1 m2 m3 m4 m5 hSA hqz i3
    have hsp:∃aa ac,av=.slice aa ag.length ac:=by obtain ⟨aa,ac,e,_⟩:=hSA;exact ⟨aa,ac,e⟩
    obtain ⟨aa,ac,rfl⟩:=hsp
    have HSA:Hid (SA w (.slice aa ag.length ac) ag):=hSA
    have HI3:Hid _:=i3
    have I4:Hid (Below W.heap.size W wr):=i4
    clear rr r0 hSA i3 i4
    have FT:=fun w' h=>rfit_any kd nm ag nu ro pl (.slice aa ag.length ac) w w' HSA.out h hqz.1 hqz.2.1 hqz.2.2
    have HFE:Hid (C=(rowB ⟨kd,nm,ag,nu,ro,pl⟩&&decide (ro≤((j-x-1:Nat):Int))&&(if bodyKd kd=true then decide (d<32)&&chk f (d+1) (mid RS (x+1) (x+1+ro.toNat)) else true)&&chk f d (mid RS (x+1+ro.toNat) j))):=HI3.out
    clear HI3
    obtain ⟨V,hV⟩:∃V,V=wr.alloc (.cells #[.string kd,.string nm,.slice aa ag.length ac,.int .i64 nu,.int .i64 ro,.int .i64 pl] 79):=⟨_,rfl⟩
    have bV:BK V wr.heap.size #[.string kd,.string nm,.slice aa ag.length ac,.int .i64 nu,.int .i64 ro,.int .i64 pl] 79:=by rw [hV];exact bk_new _ _ _
    have hWV:Below W.heap.size W V:=by rw [hV];exact bal I4.out _
    have hVB:Below w.heap.size w V:=btr HB.out hWV
    have BOX:∀ {w9:World},Below V.heap.size V w9→w9.cell? ⟨wr.heap.size,0,none⟩=some (.string kd)∧w9.cell? ⟨wr.heap.size,4,none⟩=some (.int .i64 ro)∧wr.heap.size<w9.heap.size:=fun h=>by
     have b9:BK _ wr.heap.size _ _:=(h.block _ bV.lt).trans bV
     exact ⟨b9.cell 0,b9.cell 4,b9.lt⟩
    have HV2:Hid (V=wr.alloc (.cells #[.string kd,.string nm,.slice aa ag.length ac,.int .i64 nu,.int .i64 ro,.int .i64 pl] 79)):=hV
    have v0:=bV.cell 0
    have v1:=bV.cell 1
    have v2:=bV.cell 2
    have v3:=bV.cell 3
    have v4:=bV.cell 4
    have v5:=bV.cell 5
    have vl:=bV.lt
    simp at v0 v1 v2 v3 v4 v5
    clear bV hV
    go_upto_region 7 with (fail)
    rw [←HV2.out]
    clear HV2 m0 m1 m2 m3 m4 m5 ml
    cases hrow:rowB ⟨kd,nm,ag,nu,ro,pl⟩ with
    | false=>
     have hCf:Hid (C=false):=by show C=false;rw [HFE.out,hrow];rfl
     rw [hrow] at FT
     clear HFE hrow
     go_wp2_with (go_at_call 113;(with_reducible refine (FT _ hVB).mono ?_);rintro e w1 ⟨rfl,h1⟩;obtain ⟨y0,y4,yl⟩:=BOX h1)
     go_ret
     exact OUT.out false _ hCf.out.symm (btr hWV h1)
    | true=>
    rw [hrow] at FT
    have hro:0≤ro:=by
     unfold rowB at hrow
     simp only [Bool.and_eq_true,decide_eq_true_eq] at hrow
     exact hrow.1.2
    have hnb:bodyKd kd=false→ro=0:=fun hb=>by
     unfold rowB at hrow
     simp only [Bool.and_eq_true] at hrow
     obtain ⟨⟨⟨h1,_⟩,_⟩,h4⟩:=hrow
     cases hk:shp kd with
     | none=>
      have h1':(shp kd).isSome=true:=h1
      rw [hk] at h1';cases h1'
     | some sh=>
      have e:=body_kd hk
      have h4':(((shp kd).getD shNone).body || decide (ro=0))=true:=h4
      rw [hk] at h4'
      have h5:(sh.body || decide (ro=0))=true:=h4'
      rw [e,hb] at h5
      simpa using h5
    by_cases hgt:(j:Int)-(x:Int)-1<ro
    case pos=>
     have hCf:Hid (C=false):=by show C=false;rw [HFE.out,decide_eq_false (show ¬ro≤((j-x-1:Nat):Int) by omega)];simp
     clear HFE hrow hnb
     go_wp2_with (go_at_call 113;(with_reducible refine (FT _ hVB).mono ?_);rintro e w1 ⟨rfl,h1⟩;obtain ⟨y0,y4,yl⟩:=BOX h1)
     go_ret
     exact OUT.out false _ hCf.out.symm (btr hWV h1)
    case neg=>
    obtain ⟨k,rfl⟩:∃k:Nat,ro=(k:Int):=⟨ro.toNat,by omega⟩
    have hkj:x+1+k≤j:=by omega
    have RC:∀w',Below w.heap.size w w'→Calls Tryz.prog 63 #[.slice (some ⟨b,o,none⟩) RS.length c,.int .i64 ((x:Int)+1),.int .i64 ((x:Int)+1+(k:Int)),.int .i64 ((d:Int)+1)] w' fun e W'=>(∃b:Bool,e=.returned (.bool b)∧(d+1≤32→b=chk f (d+1) (mid RS (x+1) (x+1+k)))∧(x+1=x+1+k→b=true))∧Below w'.heap.size w' W':=fun w' h=>by
     have:=HIH.out f (by omega) (x+1) (x+1+k) (d+1) w' (by omega) (by omega) (by omega) (by omega) h
     rwa [show ((x+1:Nat):Int)=(x:Int)+1 by omega,show ((x+1+k:Nat):Int)=(x:Int)+1+(k:Int) by omega,show ((d+1:Nat):Int)=(d:Int)+1 by omega] at this
    have HX1:Hid (∀b2:Bool,(d+1≤32→b2=chk f (d+1) (mid RS (x+1) (x+1+k)))→(x+1=x+1+k→b2=true)→b2=false→C=false):=fun b2 g1 g2 g3=>by
     rw [HFE.out,Int.toNat_natCast]
     cases hb:bodyKd kd with
     | true=>
      by_cases hd4:d<32
      ·rw [←g1 (by omega),g3];simp
      ·rw [decide_eq_false hd4];simp
     | false=>
      have:=hnb hb
      have:=g2 (by omega)
      rw [g3] at this;cases this
    have HX2:Hid (∀b2:Bool,(d+1≤32→b2=chk f (d+1) (mid RS (x+1) (x+1+k)))→b2=true→(bodyKd kd=true→d<32)→C=chk f d (mid RS (x+1+k) j)):=fun b2 g1 g3 g4=>by
     rw [HFE.out,Int.toNat_natCast,hrow,decide_eq_true (show (k:Int)≤((j-x-1:Nat):Int) by omega)]
     cases hb:bodyKd kd with
     | true=>rw [if_pos rfl,←g1 (by have:=g4 hb;omega),g3,decide_eq_true (g4 hb)];simp
     | false=>simp
    have HX3:Hid (bodyKd kd=true→¬d<32→C=false):=fun hb h4=>by
     rw [HFE.out,hb,decide_eq_false h4];simp
    clear HFE hrow hnb
    have hxk:x+k+1≤j:=by omega
    have eK:x+k+1=x+1+k:=by omega
    have NX:Hid (∀ {W':World},Below W.heap.size W W'→C=chk f d (mid RS (x+1+k) j)→∃(x' f':Nat),x'≤j∧(Value.int .i64 ((x:Int)+(k:Int)+1))=.int .i64 x'∧Hid (f'≤F∧j-x'≤f'∧C=chk f' d (mid RS x' j)∧Below W.heap.size W W')):=fun h hc=>⟨x+k+1,f,hxk,by go_num,by omega,by omega,by rw [eK];exact hc,h⟩
    have hkd:(kd=wGate∨kd=wRepeat∨kd=wIf)∨(kd≠wGate∧kd≠wRepeat∧kd≠wIf):=by
     by_cases h1:kd=wGate
     ·exact .inl (.inl h1)
     by_cases h2:kd=wRepeat
     ·exact .inl (.inr (.inl h2))
     by_cases h3:kd=wIf
     ·exact .inl (.inr (.inr h3))
     ·exact .inr ⟨h1,h2,h3⟩
    rcases hkd with (rfl | rfl | rfl) | ⟨g1,g2,g3⟩
    case inr=>
     have hbf:bodyKd kd=false:=by unfold bodyKd;rw [decide_eq_false g1,decide_eq_false g2,decide_eq_false g3];rfl
     have q1:=ne_lit g1
     have q2:=ne_lit g2
     have q3:=ne_lit g3
     have HB0:Hid (bodyKd kd=true→d<32):=fun h=>by rw [hbf] at h;cases h
     clear g1 g2 g3 hbf HX3
     go_wp2_with (first | (go_at_call 113;(with_reducible refine (FT _ hVB).mono ?_);rintro e w1 ⟨rfl,h1⟩;obtain ⟨y0,y4,yl⟩:=BOX h1) | (go_at_call 63;(with_reducible refine (RC _ (btr hVB h1)).mono ?_);rintro e w2 ⟨⟨b2,rfl,hb2,hb3⟩,h2⟩;obtain ⟨z0,z4,zl⟩:=BOX (btr h1 h2);cases b2))
     ·go_ret
      exact OUT.out false _ (HX1.out _ hb2 hb3 rfl).symm (btr (btr hWV h1) h2)
     ·go_roundw
      case rel=>exact NX.out (btr (btr hWV h1) h2) (HX2.out _ hb2 rfl HB0.out)
      case measure=>simp [intOf];omega
    all_goals
     by_cases hd4:d<32
     ·have hdn:¬((32:Int)<(d:Int)+1):=by omega
      go_wp2_with (first | (go_at_call 113;(with_reducible refine (FT _ hVB).mono ?_);rintro e w1 ⟨rfl,h1⟩;obtain ⟨y0,y4,yl⟩:=BOX h1) | (go_at_call 63;(with_reducible refine (RC _ (btr hVB h1)).mono ?_);rintro e w2 ⟨⟨b2,rfl,hb2,hb3⟩,h2⟩;obtain ⟨z0,z4,zl⟩:=BOX (btr h1 h2);cases b2))
      ·go_ret
       exact OUT.out false _ (HX1.out _ hb2 hb3 rfl).symm (btr (btr hWV h1) h2)
      ·go_roundw
       case rel=>exact NX.out (btr (btr hWV h1) h2) (HX2.out _ hb2 rfl (fun _=>hd4))
       case measure=>simp [intOf];omega
     ·have hdn:((32:Int)<(d:Int)+1):=by omega
      have hCf:Hid (C=false):=HX3.out (by decide) hd4
      go_wp2_with (first | (go_at_call 113;(with_reducible refine (FT _ hVB).mono ?_);rintro e w1 ⟨rfl,h1⟩;obtain ⟨y0,y4,yl⟩:=BOX h1) | (go_at_call 63;(with_reducible refine (RC _ (btr hVB h1)).mono ?_);rintro e w2 ⟨⟨b2,rfl,hb2,hb3⟩,h2⟩;obtain ⟨z0,z4,zl⟩:=BOX (btr h1 h2);cases b2))
      all_goals
       go_ret
       exact OUT.out false _ hCf.out.symm (btr (btr hWV h1) h2)
end Go.Proofs.YtdjfpghgklkejaaGreatDoor
