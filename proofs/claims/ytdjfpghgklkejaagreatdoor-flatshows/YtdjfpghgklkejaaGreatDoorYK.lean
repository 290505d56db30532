/-
  Put together of: LC8 LC9 FW.
-/
import Derived.Test.YtdjfpghgklkejaaGreatDoorYQ
import Derived.Test.YtdjfpghgklkejaaGreatDoorYJ
import Derived.Test.YtdjfpghgklkejaaGreatDoorXR
import Derived.Test.YtdjfpghgklkejaaGreatDoorYW
import Derived.Test.YtdjfpghgklkejaaGreatDoorYO
import Derived.Test.YtdjfpghgklkejaaGreatDoorXW
namespace Go.Proofs.YtdjfpghgklkejaaGreatDoor
open Go.RowKit Go.Sort
theorem rhead_any (kd nm:ByteArray) (ag:List Ar) (nu ro pl:Int) (sh:Sh) (av:Value) (w W:World) (hk:shp kd=some sh) (hf:fitB ⟨kd,nm,ag,nu,ro,pl⟩ sh=true) (hS:SA w av ag) (hB:Below w.heap.size w W) (hnz:nm.size≤1099511627776) (hl:ag.length≤1099511627776) (hz:∀a∈ag,a.n.size≤1099511627776) (hT:(hdB ⟨kd,nm,ag,nu,ro,pl⟩).length≤1099511627776) :
  Calls Tryz.prog 114 #[.agg #[.string kd,.string nm,av,.int .i64 nu,.int .i64 ro,.int .i64 pl]] W fun e W'=>e=.returned (.string ⟨(hdB ⟨kd,nm,ag,nu,ro,pl⟩).toArray⟩)∧Below W.heap.size W W':=by
 unfold fitB at hf
 simp only [Bool.and_eq_true] at hf
 obtain ⟨⟨⟨hf1,hf2⟩,_⟩,hf4⟩:=hf
 have hx:∀a∈ag,a.x≤9007199254740991:=fun a ha=>by
  have:=List.all_eq_true.1 hf4 a ha
  unfold argOk numOk at this
  simp at this
  omega
 have hne:plnN nm=true→nm≠⟨#[]⟩:=fun h=>(lst_nm (plnN_p.1 h).1).1.1
 rcases shp_cases kd with ⟨rfl,e,_⟩ | ⟨rfl,e,_⟩ | ⟨rfl,e,_⟩ | ⟨rfl,e,_⟩ | ⟨rfl,e,_⟩ | ⟨rfl,e,_⟩ | ⟨rfl,e,_⟩ | ⟨rfl,e,_⟩ | ⟨_,_,_,_,_,_,_,_,e,_⟩
 all_goals rw [e] at hk
 all_goals cases hk
 ·exact rhead_qubits nm ag nu ro pl av w W hS hB (hne hf1) hnz (numOk_p.1 hf2) hl hz hx hT
 ·exact rhead_bits nm ag nu ro pl av w W hS hB (hne hf1) hnz (numOk_p.1 hf2) hl hz hx hT
 ·exact rhead_gate nm ag nu ro pl av w W hS hB (hne hf1) hnz hl hz hx hT
 ·obtain rfl:nm=⟨#[]⟩:=of_decide_eq_true hf1
  exact rhead_repeat ag nu ro pl av w W hS hB (numOk_p.1 hf2) hl hz hx hT
 ·exact rhead_if nm ag nu ro pl av w W hS hB (hne hf1) hnz (numOk_p.1 hf2) hl hz hx hT
 ·obtain rfl:nm=⟨#[]⟩:=of_decide_eq_true hf1
  exact rhead_measure ag nu ro pl av w W hS hB hl hz hx hT
 ·obtain rfl:nm=⟨#[]⟩:=of_decide_eq_true hf1
  exact rhead_reset ag nu ro pl av w W hS hB hl hz hx hT
 ·exact rhead_use nm ag nu ro pl av w W hS hB (hne hf1) hnz hl hz hx hT
def SzB (rs:List Rw):Prop:=∀r∈rs,r.name.size≤1099511627776∧r.args.length≤1099511627776∧∀a∈r.args,a.n.size≤1099511627776
set_option maxHeartbeats 8000000 in
set_option maxRecDepth 100000 in
theorem lines_any (RS:List Rw) (v:Value) (w:World) (hS:SR w v RS) (hl:RS.length≤1073741824) (hz:SzB RS):∀(F0:Nat) (F:Nat),F<F0→∀(i j d:Nat) (A:ByteArray) (W:World),i≤j→j≤RS.length→j-i≤F→d≤32→A.data.toList=indB d→chk F d (mid RS i j)=true→(bodyB F d (mid RS i j)).length≤1099511627776→Below w.heap.size w W →
  Calls Tryz.prog 64 #[v,.int .i64 i,.int .i64 j,.string A] W fun e W'=>e=.returned (.string ⟨(bodyB F d (mid RS i j)).toArray⟩)∧Below W.heap.size W W':=by
 obtain ⟨a,c,vs,rfl,hc,hv,hA,hR⟩:=hS
 have HA:Hid (∀k (h:k<RS.length) (h':k<vs.length),SA w vs[k] RS[k].args):=hA
 have HR:Hid (∀k,k<RS.length→∃b o,a=some ⟨b,o,none⟩∧RR w b o RS vs):=hR
 have HV:Hid (RS.length=vs.length):=hv
 have HZ:Hid (SzB RS):=hz
 clear hA hR hv hz
 intro F0
 induction F0 with
 | zero=>intro F hF;omega
 | succ F0 ih=>
  intro F hF i j d A W hij hj hlen hd hAd hck hTT hB
  have HIH:Hid (∀F,F<F0→∀(i j d:Nat) (A:ByteArray) (W:World),i≤j→j≤RS.length→j-i≤F→d≤32→A.data.toList=indB d→chk F d (mid RS i j)=true→(bodyB F d (mid RS i j)).length≤1099511627776→Below w.heap.size w W →
   Calls Tryz.prog 64 #[.slice a RS.length c,.int .i64 i,.int .i64 j,.string A] W fun e W'=>e=.returned (.string ⟨(bodyB F d (mid RS i j)).toArray⟩)∧Below W.heap.size W W'):=ih
  have HB:Hid (Below w.heap.size w W):=hB
  have HAD:Hid (A.data.toList=indB d):=hAd
  have hAz:A.size≤64:=by have:A.data.toList.length=A.size:=rfl;rw [hAd,ind_len] at this;omega
  obtain ⟨Y,hY⟩:∃Y,Y=bodyB F d (mid RS i j):=⟨_,rfl⟩
  have HY:Hid (Y=bodyB F d (mid RS i j)):=hY
  have HCK:Hid (chk F d (mid RS i j)=true):=hck
  rw [←hY] at hTT ⊢
  clear ih hB hAd hY hck
  go_enter Tryz.func64,Tryz.ntmps64
  go_upto_region 3 with (fail)
  go_loopw [9,10] (fun v9 v10 wr=>∃(x f:Nat) (S:ByteArray),x≤j∧v9=.string S∧v10=.int .i64 x∧S.size≤1099511627776∧Hid (f≤F∧j-x≤f∧chk f d (mid RS x j)=true∧Y=S.data.toList++bodyB f d (mid RS x j)∧Below W.heap.size W wr)) (fun _ v10 _=>j-(intOf v10).toNat)
  case atStart=>exact ⟨i,F,⟨#[]⟩,hij,rfl,rfl,by decide,Nat.le_refl _,hlen,HCK.out,by rw [HY.out];rfl,Below.refl _ _⟩
  case round=>
   clear HCK HY hij hlen
   obtain ⟨x,f,S,hx,rfl,rfl,hSz,hI⟩:=hrel
   obtain ⟨i1,i2,i3,i4,i5⟩:=hI.out
   clear hI
   by_cases hlt:x<j
   case neg=>
    obtain rfl:x=j:=by omega
    have hE:Hid ((⟨Y.toArray⟩:ByteArray)=S):=by
     show _=_
     rw [i4,mid_nil RS (Nat.le_refl _)]
     have e:bodyB f d []=[]:=by cases f <;> rfl
     rw [e,List.append_nil]
    have I5:Hid (Below W.heap.size W wr):=i5
    clear i1 i2 i3 i4 i5
    go_wp2
    go_ret
    exact ⟨by rw [hE.out];rfl,I5.out⟩
   case pos=>
   have hxl:x<RS.length:=by omega
   have hkv:x<vs.length:=by rw [←HV.out];exact hxl
   obtain ⟨b,o,rfl,r0⟩:=HR.out x hxl
   have hSA:=HA.out x hxl hkv
   have rr:=(r0.below HB.out).below i5
   have m0:=rr.c0 x hxl
   have m1:=rr.c1 x hxl
   have m2:=rr.c2 x hxl hkv
   have m3:=rr.c3 x hxl
   have m4:=rr.c4 x hxl
   have m5:=rr.c5 x hxl
   have ml:=rr.lt
   obtain ⟨f,rfl⟩:∃g,f=g+1:=⟨f-1,by omega⟩
   rw [mid_cons RS hlt hj] at i3 i4
   have hml:=mid_len RS (i:=x+1) hj
   have hqz:=HZ.out _ (List.getElem_mem hxl)
   generalize RS[x]=r at *
   generalize vs[x]=av at *
   obtain ⟨kd,nm,ag,nu,ro,pl⟩:=r
   simp only at m0 m1 m2 m3 m4 m5 hSA hqz
   obtain ⟨sh,hk,hfit,hr0,hr1,hbd,hcd,hBB⟩:=chk_cons2 i3
   rw [hBB d,line_head hk hfit] at i4
   obtain ⟨k,rfl⟩:∃k:Nat,ro=(k:Int):=⟨ro.toNat,by omega⟩
   rw [Int.toNat_natCast] at hbd hcd i4
   have hkj:x+1+k≤j:=by omega
   rw [mid_take RS hkj] at hbd i4
   rw [mid_drop] at hcd i4
   have hsp:∃aa ac,av=.slice aa ag.length ac:=by obtain ⟨aa,ac,e,_⟩:=hSA;exact ⟨aa,ac,e⟩
   obtain ⟨aa,ac,rfl⟩:=hsp
   have hYL:=congrArg List.length i4
   have hSd:S.data.toList.length=S.size:=rfl
   simp only [List.length_append,ind_len] at hYL
   have HDA:=fun w' h=>rhead_any kd nm ag nu (k:Int) pl sh (.slice aa ag.length ac) w w' hk hfit hSA h hqz.1 hqz.2.1 hqz.2.2 (by omega)
   have hbk:=body_kd hk
   obtain ⟨Hd,hHd⟩:∃H:ByteArray,H=⟨(hdB ⟨kd,nm,ag,nu,(k:Int),pl⟩).toArray⟩:=⟨_,rfl⟩
   have hHz:Hd.size=(hdB ⟨kd,nm,ag,nu,(k:Int),pl⟩).length:=by rw [hHd];show (hdB _).toArray.size=_;rw [List.size_toArray]
   have HHd:Hid (Hd.data.toList=hdB ⟨kd,nm,ag,nu,(k:Int),pl⟩):=by show Hd.data.toList=_;rw [hHd]
   rw [←hHd] at HDA
   rw [←hHz] at hYL
   have HI4:Hid _:=i4
   have I5:Hid (Below W.heap.size W wr):=i5
   have HCD:Hid (chk f d (mid RS (x+1+k) j)=true):=hcd
   clear rr r0 hSA hk hfit hBB hHd hHz i3 i4 i5 hcd hr0 hr1 hml hqz
   obtain ⟨V,hV⟩:∃V,V=wr.alloc (.cells #[.string kd,.string nm,.slice aa ag.length ac,.int .i64 nu,.int .i64 (k:Int),.int .i64 pl] 79):=⟨_,rfl⟩
   have bV:BK V wr.heap.size #[.string kd,.string nm,.slice aa ag.length ac,.int .i64 nu,.int .i64 (k:Int),.int .i64 pl] 79:=by rw [hV];exact bk_new _ _ _
   have hWV:Below W.heap.size W V:=by rw [hV];exact bal I5.out _
   have hVB:Below w.heap.size w V:=btr HB.out hWV
   have BOX:∀ {w9:World},Below V.heap.size V w9→w9.cell? ⟨wr.heap.size,0,none⟩=some (.string kd)∧w9.cell? ⟨wr.heap.size,4,none⟩=some (.int .i64 (k:Int))∧wr.heap.size<w9.heap.size:=fun h=>by
    have b9:BK _ wr.heap.size _ _:=(h.block _ bV.lt).trans bV
    exact ⟨b9.cell 0,b9.cell 4,b9.lt⟩
   have HV2:Hid (V=wr.alloc (.cells #[.string kd,.string nm,.slice aa ag.length ac,.int .i64 nu,.int .i64 (k:Int),.int .i64 pl] 79)):=hV
   have v0:=bV.cell 0
   have v1:=bV.cell 1
   have v2:=bV.cell 2
   have v3:=bV.cell 3
   have v4:=bV.cell 4
   have v5:=bV.cell 5
   have vl:=bV.lt
   simp at v0 v1 v2 v3 v4 v5
   clear bV hV
   go_upto_region 6 with (fail)
   rw [←HV2.out]
   clear HV2 m0 m1 m2 m3 m4 m5 ml
   have hkd:(kd=wGate∨kd=wRepeat∨kd=wIf)∨(kd≠wGate∧kd≠wRepeat∧kd≠wIf):=by
    by_cases h1:kd=wGate
    ·exact .inl (.inl h1)
    by_cases h2:kd=wRepeat
    ·exact .inl (.inr (.inl h2))
    by_cases h3:kd=wIf
    ·exact .inl (.inr (.inr h3))
    ·exact .inr ⟨h1,h2,h3⟩
   have k1:¬9223372036854775807<S.size+A.size:=by omega
   have k2:¬9223372036854775807<(S++A).size+Hd.size:=by rw [ByteArray.size_append];omega
   have k2':¬9223372036854775807<S.size+A.size+Hd.size:=by omega
   have hxk:x+k+1≤j:=by omega
   have eK:x+k+1=x+1+k:=by omega
   rcases hkd with hkd | ⟨g1,g2,g3⟩
   case inr=>
    have hbf:bodyKd kd=false:=by unfold bodyKd;rw [decide_eq_false g1,decide_eq_false g2,decide_eq_false g3];rfl
    have q1:=ne_lit g1
    have q2:=ne_lit g2
    have q3:=ne_lit g3
    rw [hbf] at hbk
    rw [hbk,if_neg (by simp),if_neg (by simp)] at hYL
    simp only [List.length_cons,List.length_nil] at hYL
    have k3:¬9223372036854775807<(S++A++Hd).size+(⟨#[59,10]⟩:ByteArray).size:=by rw [ByteArray.size_append,ByteArray.size_append];show ¬9223372036854775807<S.size+A.size+Hd.size+2;omega
    have k3':¬9223372036854775807<S.size+A.size+Hd.size+2:=by omega
    have NX:Hid ((S++A++Hd++(⟨#[59,10]⟩:ByteArray)).size≤1099511627776∧Y=(S++A++Hd++(⟨#[59,10]⟩:ByteArray)).data.toList++bodyB f d (mid RS (x+k+1) j)):=by
     refine ⟨?_,?_⟩
     ·rw [ByteArray.size_append,ByteArray.size_append,ByteArray.size_append]
      show S.size+A.size+Hd.size+2≤_
      have:A.data.toList.length=A.size:=rfl
      rw [HAD.out,ind_len] at this
      omega
     ·rw [HI4.out,hbk,eK]
      simp [ByteArray.data_append,HAD.out,HHd.out]
    clear g1 g2 g3 hbf hbk hbd HI4 hYL
    go_wp2_with (go_at_call 114;(with_reducible refine (HDA _ hVB).mono ?_);rintro e w1 ⟨rfl,h1⟩;obtain ⟨y0,y4,yl⟩:=BOX h1)
    go_roundw
    case rel=>exact ⟨x+k+1,f,_,hxk,rfl,by go_num,NX.out.1,by omega,by omega,by rw [eK];exact HCD.out,NX.out.2,btr hWV h1⟩
    case measure=>simp [intOf];omega
   case inl=>
    have hbt:bodyKd kd=true:=by unfold bodyKd;rcases hkd with rfl | rfl | rfl <;> decide
    rw [hbt] at hbk
    rw [hbk,if_pos rfl,if_pos rfl] at hYL
    simp only [List.length_append,ind_len,List.length_cons,List.length_nil] at hYL
    rw [hbk] at hbd
    obtain ⟨hd2,hcb⟩:d<32∧chk f (d+1) (mid RS (x+1) (x+1+k))=true:=by
     rcases hbd with ⟨_,h1,h2⟩ | ⟨h,_⟩
     ·exact ⟨h1,h2⟩
     ·cases h
    obtain ⟨L,hL⟩:∃L:ByteArray,L=⟨(bodyB f (d+1) (mid RS (x+1) (x+1+k))).toArray⟩:=⟨_,rfl⟩
    have hLz:L.size=(bodyB f (d+1) (mid RS (x+1) (x+1+k))).length:=by rw [hL];show (bodyB _ _ _).toArray.size=_;rw [List.size_toArray]
    have HLL:Hid (L.data.toList=bodyB f (d+1) (mid RS (x+1) (x+1+k))):=by show L.data.toList=_;rw [hL]
    rw [←hLz] at hYL
    have hA2:(A++⟨#[32,32]⟩:ByteArray).data.toList=indB (d+1):=by rw [ind_succ,←HAD.out];simp [ByteArray.data_append]
    have RC:∀w',Below w.heap.size w w'→Calls Tryz.prog 64 #[.slice (some ⟨b,o,none⟩) RS.length c,.int .i64 ((x:Int)+1),.int .i64 ((x:Int)+1+(k:Int)),.string (A++⟨#[32,32]⟩)] w' fun e W'=>e=.returned (.string L)∧Below w'.heap.size w' W':=fun w' h=>by
     have:=HIH.out f (by omega) (x+1) (x+1+k) (d+1) _ w' (by omega) (by omega) (by omega) (by omega) hA2 hcb (by omega) h
     rw [←hL] at this
     rwa [show ((x+1:Nat):Int)=(x:Int)+1 by omega,show ((x+1+k:Nat):Int)=(x:Int)+1+(k:Int) by omega] at this
    have hLb:S.size+A.size+Hd.size+L.size+A.size≤1099511627776:=by
     have:A.data.toList.length=A.size:=rfl
     rw [HAD.out,ind_len] at this
     omega
    have k3:¬9223372036854775807<(S++A++Hd).size+(⟨#[32,123,10]⟩:ByteArray).size:=by rw [ByteArray.size_append,ByteArray.size_append];show ¬9223372036854775807<S.size+A.size+Hd.size+3;omega
    have k3':¬9223372036854775807<S.size+A.size+Hd.size+3:=by omega
    have k4:¬9223372036854775807<A.size+(⟨#[32,32]⟩:ByteArray).size:=by show ¬9223372036854775807<A.size+2;omega
    have k4':¬9223372036854775807<A.size+2:=by omega
    have k5:¬9223372036854775807<(S++A++Hd++(⟨#[32,123,10]⟩:ByteArray)).size+L.size:=by rw [ByteArray.size_append,ByteArray.size_append,ByteArray.size_append];show ¬9223372036854775807<S.size+A.size+Hd.size+3+L.size;omega
    have k5':¬9223372036854775807<S.size+A.size+Hd.size+3+L.size:=by omega
    have k6:¬9223372036854775807<(S++A++Hd++(⟨#[32,123,10]⟩:ByteArray)++L).size+A.size:=by rw [ByteArray.size_append,ByteArray.size_append,ByteArray.size_append,ByteArray.size_append];show ¬9223372036854775807<S.size+A.size+Hd.size+3+L.size+A.size;omega
    have k6':¬9223372036854775807<S.size+A.size+Hd.size+3+L.size+A.size:=by omega
    have k7:¬9223372036854775807<(S++A++Hd++(⟨#[32,123,10]⟩:ByteArray)++L++A).size+(⟨#[125,10]⟩:ByteArray).size:=by rw [ByteArray.size_append,ByteArray.size_append,ByteArray.size_append,ByteArray.size_append,ByteArray.size_append];show ¬9223372036854775807<S.size+A.size+Hd.size+3+L.size+A.size+2;omega
    have k7':¬9223372036854775807<S.size+A.size+Hd.size+3+L.size+A.size+2:=by omega
    have NX:Hid ((S++A++Hd++(⟨#[32,123,10]⟩:ByteArray)++L++A++(⟨#[125,10]⟩:ByteArray)).size≤1099511627776∧Y=(S++A++Hd++(⟨#[32,123,10]⟩:ByteArray)++L++A++(⟨#[125,10]⟩:ByteArray)).data.toList++bodyB f d (mid RS (x+k+1) j)):=by
     refine ⟨?_,?_⟩
     ·rw [ByteArray.size_append,ByteArray.size_append,ByteArray.size_append,ByteArray.size_append,ByteArray.size_append,ByteArray.size_append]
      show S.size+A.size+Hd.size+3+L.size+A.size+2≤_
      have:A.data.toList.length=A.size:=rfl
      rw [HAD.out,ind_len] at this
      omega
     ·rw [HI4.out,hbk,eK]
      simp [ByteArray.data_append,HAD.out,HHd.out,HLL.out]
    clear hbt hbk hbd HI4 hYL hL hLz hcb hA2
    rcases hkd with rfl | rfl | rfl
    all_goals
     go_wp2_with (first | (go_at_call 114;(with_reducible refine (HDA _ hVB).mono ?_);rintro e w1 ⟨rfl,h1⟩;obtain ⟨y0,y4,yl⟩:=BOX h1) | (go_at_call 64;(with_reducible refine (RC _ (btr hVB h1)).mono ?_);rintro e w2 ⟨rfl,h2⟩;obtain ⟨z0,z4,zl⟩:=BOX (btr h1 h2)))
     go_roundw
     case rel=>exact ⟨x+k+1,f,_,hxk,rfl,by go_num,NX.out.1,by omega,by omega,by rw [eK];exact HCD.out,NX.out.2,btr (btr hWV h1) h2⟩
     case measure=>simp [intOf];omega
end Go.Proofs.YtdjfpghgklkejaaGreatDoor
namespace Go.Proofs.YtdjfpghgklkejaaGreatDoor
open Go.RowKit Go.Sort
theorem mid_all (RS:List Rw):mid RS 0 RS.length=RS:=by unfold mid;rw [List.drop_zero,Nat.sub_zero,List.take_length]
theorem SzB.szs {rs:List Rw} (h:SzB rs):Szs rs:=fun r hr=>by
 obtain ⟨h1,h2,h3⟩:=h r hr
 exact ⟨by omega,by omega,fun a ha=>by have:=h3 a ha;omega⟩
set_option maxHeartbeats 2000000 in
set_option maxRecDepth 100000 in
theorem rshow_any (RS:List Rw) (v:Value) (s:ByteArray) (e:Nat) (w W:World) (hS:SR w v RS) (hB:Below w.heap.size w W) (hl:RS.length≤1073741824) (hz:SzB RS) (hT:chk RS.length 0 RS=true→(bodyB RS.length 0 RS).length≤1099511627776) (ho:SOut RS s e) :
  Calls Tryz.prog 32 #[v] W fun x W'=>x=.returned (.tuple #[.string s,.int .i64 e])∧Below W.heap.size W W':=by
 have RG:∀W,Below w.heap.size w W→Calls Tryz.prog 63 #[v,.int .i64 0,.int .i64 (RS.length:Nat),.int .i64 0] W fun e W'=>e=.returned (.bool (chk RS.length 0 RS))∧Below W.heap.size W W':=fun W h=>by
  refine (right_any RS v w hS hl hz.szs (RS.length+1) RS.length (by omega) 0 RS.length 0 W (by omega) (by omega) (by omega) (by omega) h).mono ?_
  rintro x W' ⟨⟨b,hx,hb,_⟩,h2⟩
  rw [mid_all] at hb
  exact ⟨by rw [hx,hb (by omega)],h2⟩
 have LN:chk RS.length 0 RS=true→∀W,Below w.heap.size w W→Calls Tryz.prog 64 #[v,.int .i64 0,.int .i64 (RS.length:Nat),.string ⟨#[]⟩] W fun e W'=>e=.returned (.string ⟨(bodyB RS.length 0 RS).toArray⟩)∧Below W.heap.size W W':=fun hc W h=>by
  have:=lines_any RS v w hS hl hz (RS.length+1) RS.length (by omega) 0 RS.length 0 ⟨#[]⟩ W (by omega) (by omega) (by omega) (by omega) rfl (by rw [mid_all];exact hc) (by rw [mid_all];exact hT hc) h
  rw [mid_all] at this
  exact this
 obtain ⟨a,c,rfl⟩:∃a c,v=.slice a RS.length c:=by obtain ⟨a,c,_,e,_⟩:=hS;exact ⟨a,c,e⟩
 have RG0:=RG W hB
 rcases ho with ⟨hc,rfl,rfl⟩ | ⟨hc,hlen,rfl,rfl⟩ | ⟨hc,hlen,rfl,rfl⟩
 ·rw [hc] at RG0
  clear LN RG hc hS hz hT
  go_enter Tryz.func32,Tryz.ntmps32
  go_wp2_with (go_at_call 63;(with_reducible refine RG0.mono ?_);rintro e w1 ⟨rfl,h1⟩)
  go_ret2
  exact ⟨rfl,h1⟩
 ·have LN0:=fun w1 h=>LN hc w1 (btr hB h)
  rw [hc] at RG0
  have hTz:(⟨(bodyB RS.length 0 RS).toArray⟩:ByteArray).size=(bodyB RS.length 0 RS).length:=by show (bodyB _ _ _).toArray.size=_;rw [List.size_toArray]
  replace hT:=hT hc
  rw [←hTz] at hlen hT
  clear LN RG hc hS hz hTz
  generalize (⟨(bodyB RS.length 0 RS).toArray⟩:ByteArray)=TX at *
  go_enter Tryz.func32,Tryz.ntmps32
  go_wp2_with (first | (go_at_call 63;(with_reducible refine RG0.mono ?_);rintro e w1 ⟨rfl,h1⟩) | (go_at_call 64;(with_reducible refine (LN0 _ h1).mono ?_);rintro e w2 ⟨rfl,h2⟩))
  go_ret2
  exact ⟨rfl,btr h1 h2⟩
 ·have LN0:=fun w1 h=>LN hc w1 (btr hB h)
  rw [hc] at RG0
  have hTz:(⟨(bodyB RS.length 0 RS).toArray⟩:ByteArray).size=(bodyB RS.length 0 RS).length:=by show (bodyB _ _ _).toArray.size=_;rw [List.size_toArray]
  replace hT:=hT hc
  rw [←hTz] at hlen hT
  clear LN RG hc hS hz hTz
  generalize (⟨(bodyB RS.length 0 RS).toArray⟩:ByteArray)=TX at *
  go_enter Tryz.func32,Tryz.ntmps32
  go_wp2_with (first | (go_at_call 63;(with_reducible refine RG0.mono ?_);rintro e w1 ⟨rfl,h1⟩) | (go_at_call 64;(with_reducible refine (LN0 _ h1).mono ?_);rintro e w2 ⟨rfl,h2⟩))
  go_ret2
  exact ⟨rfl,btr h1 h2⟩
end Go.Proofs.YtdjfpghgklkejaaGreatDoor
namespace Go.Proofs.YtdjfpghgklkejaaGreatDoor
open Go.RowKit Go.Sort
abbrev ciz:Array Value:=#[.int .i64 0,.int .i64 0,.slice none 0 0]
def LdO (W W':World) (L:List TO) (q b:Nat) (e:Ending):Prop:=
 Below W.heap.size W W'∧∃c p er,LdS L q b c p er∧((er≠0∧e=.returned (.tuple #[civ noCi none 0,.int .i64 p,.int .i64 (er:Nat)]))∨(er=0∧∃a k vs,OM W' W.heap.size (.slice a c.ops.length k) c.ops vs∧e=.returned (.tuple #[civ c a k,.int .i64 0,.int .i64 0])))
abbrev idF (k:Nat):Nat→Value:=fun i=>.int .i64 (if i<k then (i:Int) else 0)
theorem id_next {W:World} {g n k:Nat} (h:W.rowIs g 3 n (idF k)):(W.setCell ⟨g,k,none⟩ (.int .i64 (k:Nat))).rowIs g 3 n (idF (k+1)):=by
 refine (h.set k (.int .i64 (k:Nat))).congr fun i _=>?_
 show (if i=k then Value.int .i64 (k:Nat) else .int .i64 (if i<k then (i:Int) else 0))=.int .i64 (if i<k+1 then (i:Int) else 0)
 by_cases e:i=k
 ·rw [if_pos e,if_pos (by omega),e]
 ·rw [if_neg e]
  by_cases e2:i<k
  ·rw [if_pos e2,if_pos (by omega)]
  ·rw [if_neg e2,if_neg (by omega)]
theorem lkF_in {q:Int} {b:Nat}:∀(l:List Oq) (k h:Nat),(lkF q b l k h).2.2≠0→k≤(lkF q b l k h).1∧(lkF q b l k h).1<k+l.length
 | [],_,_,e=>absurd rfl e
 | o::l,k,h,e=>by
  unfold lkF at e ⊢
  rw [List.length_cons]
  split at e
  ·rename_i h1;rw [if_pos h1];exact ⟨Nat.le_refl _,by show k<_;omega⟩
  ·rename_i h1
   rw [if_neg h1]
   split at e
   ·rename_i h2;rw [if_pos h2];exact ⟨Nat.le_refl _,by show k<_;omega⟩
   ·rename_i h2
    rw [if_neg h2]
    have:=lkF_in l _ _ e
    omega
theorem lk_in {c:Ci} (h:(lk c).2.2≠0) (hq:0≤c.q∧c.q≤64) (hb:0≤c.b∧c.b≤64) (hl:c.ops.length≤4096):(lk c).1<c.ops.length:=by
 have hb':¬badB c=true:=fun e=>by
  have:=(bad_iff c).1 e
  unfold badC at this
  omega
 unfold lk at h ⊢
 rw [if_neg hb',if_neg (by omega)] at h ⊢
 have:=lkF_in _ _ _ h
 omega
structure LB (W wr:World) (q k:Nat):Prop where
 below:Below W.heap.size W wr
 row:wr.rowIs (W.heap.size+1) 3 q (idF k)
 box:BK wr W.heap.size ciz 27
 size:wr.heap.size=W.heap.size+1+1
set_option maxHeartbeats 1000000 in
set_option maxRecDepth 100000 in
theorem laid_any (W:World) (hi:HG) (v:Value) (L:List TO) (q b:Nat) (hP:PL W hi q v L) (hq:q≤64) (hb:b≤64) :
  Calls Tryz.prog 26 #[v,.int .i64 (q:Nat),.int .i64 (b:Nat)] W fun e W'=>LdO W W' L q b e:=by
 obtain ⟨va,vn,vc,rfl,_⟩:=hP.shape
 obtain ⟨d,hP⟩:=hP
 have HP:=hid hP
 have mk:=made_ints q (by omega)
 have HB0:Hid (LB W ((W.alloc (.cells ciz 27)).alloc (.cells (madeCells #[.int .i64 0] q) 3)) q 0):=⟨bal (bal (Below.refl _ _) _) _,by
  have h:=World.rowIs_made (W.alloc (.cells ciz 27)) (.int .i64 0) q 3
  have e:(W.alloc (.cells ciz 27)).heap.size=W.heap.size+1:=by simp
  rw [e] at h
  exact h.congr fun i _=>by simp,(bk_new W _ _).alloc _,by simp⟩
 clear hP
 generalize hQ:(fun e W'=>LdO W W' L q b e)=QQ
 have HQ:=hid hQ
 clear hQ
 go_enter Tryz.func26,Tryz.ntmps26
 go_wp2
 obtain ⟨W1,hW1⟩:∃W1,W1=(W.alloc (.cells ciz 27)).alloc (.cells (madeCells #[.int .i64 0] q) 3):=⟨_,rfl⟩
 rw [←hW1] at HB0 ⊢
 clear hW1 mk
 go_loopw [19] (fun s wr=>∃k:Nat,k≤q∧s=.int .i64 (k:Nat)∧Hid (LB W wr q k)) (fun s _=>q-(intOf s).toNat)
 case atStart=>exact ⟨0,Nat.zero_le _,rfl,HB0⟩
 case round=>
  obtain ⟨k,hk,rfl,hB⟩:=hrel
  clear HB0
  by_cases hlt:k<q
  ·have c0:=hB.out.row.cell hlt
   have f0:=hB.out.row.frozen k
   have l0:=hB.out.row.lt
   go_wp2
   go_round
   case rel=>exact ⟨k+1,by omega,by go_num,bset hB.out.below _ _ _ (by omega),id_next hB.out.row,hB.out.box.far (by omega) _ _,by simpa [World.setCell] using hB.out.size⟩
   case measure=>simp [intOf];omega
  ·obtain rfl:k=q:=by omega
   have LA:=fun (w2:World) (h1:Below wr.heap.size wr w2) (h2:BK w2 wr.heap.size mk0 117)=>lay_any d w2 W.heap.size wr.heap.size ⟨hi.h,fun b=>hi.G b∧b<W.heap.size,fun b h=>hi.le b h.1⟩ k _ L (some ⟨W.heap.size+1,0,none⟩) k (idQ k) _ _ [] [] [] sd0 (PLn.far (lo':=0) (hi':=0) (fr_of_below (btr hB.out.below h1)) (fun _ _=>.inr (Nat.zero_le _)) _ _ _ _ (PLn.wide (hi2:=⟨hi.h,fun b=>hi.G b∧b<W.heap.size,fun b h=>hi.le b h.1⟩) (fun b hb hg=>⟨hg,hb⟩) _ _ _ _ HP.out)) (fun b h=>h.2) ⟨(id_qs (hB.out.row.of_block (h1.block _ hB.out.row.lt)) (fun i hi=>by show Value.int .i64 (if i<k then (i:Int) else 0)=_;rw [if_pos hi])),fun b o e=>by cases e;exact ⟨by have:=hB.out.size;omega,fun e=>(by cases e),fun e=>(by cases e),fun _=>by have:=hB.out.row.lt;have:=h1.size;omega⟩⟩ (fun b o e=>by cases e;have:=hB.out.row.lt;have:=h1.size;omega) (idQ_len k) (mk_new h2 (Nat.le_trans hB.out.below.size h1.size) hB.out.below.size) (by show 0≤4096;omega)
   rw [idQ_len] at LA
   go_wp2_with (go_at_call 56;refine Hid.out ?_)
   refine hid ?_
   refine (LA _ (bal (Below.refl _ _) _) (bk_new wr _ _)).mono ?_
   rintro e w3 ⟨ov3,pv3,hK3,hc⟩
   have M0:=hid (mk_new (bk_new wr mk0 117) (Nat.le_trans hB.out.below.size (by simp)) hB.out.below.size)
   have B3:Hid (Below W.heap.size W w3):=below_fr (bal hB.out.below _) (hK3.fr M0.out) (Nat.le_refl _)
   have R3:BK w3 W.heap.size ciz 27:=by
    have h:=hB.out.box.alloc (.cells mk0 117)
    have hne:W.heap.size≠wr.heap.size:=by have:=hB.out.row.lt;omega
    exact (hK3.block _ h.lt hne (fun e=>by cases e) (fun e=>by cases e)).trans h
   have r0:∀j,w3.cell? ⟨W.heap.size,j,none⟩=ciz[j]?:=R3.cell
   have r1:∀j,w3.frozen? ⟨W.heap.size,j,none⟩=false:=R3.free
   have r2:=R3.lt
   have n1:¬W.heap.size=wr.heap.size:=by have:=hB.out.row.lt;omega
   have n2:¬wr.heap.size=W.heap.size:=fun e=>n1 e.symm
   clear LA M0 hK3
   rcases hc with ⟨hle,rfl,vs,f',hM,hFA⟩ | ⟨hlt,rfl,t,ht,hcell,hsz⟩
   ·have hfit:=PLn.fits _ _ _ _ HP.out
    rw [List.nil_append,List.nil_append,ops_id hfit] at hM
    have hll:L.length≤4096:=by simpa using hle
    obtain ⟨oa,oc,rfl,hOS⟩:=hM.ops.read
    have CK:∀w,OS w oa oc (L.map opT) (vA vs) (vC vs)→Calls Tryz.prog 18 #[.agg #[.int .i64 (k:Nat),.int .i64 (b:Nat),.slice oa (L.map opT).length oc]] w fun e w'=>e=.returned (.tuple #[.int .i64 ((lk ⟨(k:Nat),(b:Nat),L.map opT⟩).1:Nat),.int .i64 ((lk ⟨(k:Nat),(b:Nat),L.map opT⟩).2.2:Nat)])∧Below w.heap.size w w':=fun w h=>check_any ⟨(k:Nat),(b:Nat),L.map opT⟩ oa oc (vA vs) (vC vs) w h
    have LI:(lk ⟨(k:Nat),(b:Nat),L.map opT⟩).2.2≠0→(lk ⟨(k:Nat),(b:Nat),L.map opT⟩).1<(L.map opT).length:=fun h=>lk_in h ⟨by show (0:Int)≤(k:Nat);omega,by show ((k:Nat):Int)≤64;omega⟩ ⟨by show (0:Int)≤(b:Nat);omega,by show ((b:Nat):Int)≤64;omega⟩ (by show (L.map opT).length≤4096;rw [List.length_map];exact hll)
    have HM:=hid hM
    have HO:=hid hOS
    have q0:w3.cell? ⟨wr.heap.size,0,none⟩=some (.slice oa (L.map opT).length oc):=hM.box.cell 0
    have q1:w3.cell? ⟨wr.heap.size,1,none⟩=some pv3:=hM.box.cell 1
    have q2:=hM.box.lt
    have HL:Hid (L.length≤4096):=hll
    have HR:=hid R3
    clear hM hOS hFA hle hll hfit R3 r0
    have hlen:Hid ((L.map opT).length=(L.map opT).length):=rfl
    have HZ:Hid (lk ⟨(k:Nat),(b:Nat),L.map opT⟩=lk ⟨(k:Nat),(b:Nat),L.map opT⟩):=rfl
    generalize hl2:(L.map opT).length=n at q0 CK LI
    generalize hz:lk ⟨(k:Nat),(b:Nat),L.map opT⟩=z at CK LI
    clear hlen HZ
    have HLN:=hid hl2
    have HZ:=hid hz
    clear hl2 hz
    obtain ⟨at_,z1,er⟩:=z
    dsimp only at CK LI
    go_wp2_with (go_at_call 18;refine Hid.out ?_)
    refine hid ?_
    refine (CK _ (HO.out.below (bal (Below.refl _ _) _))).mono ?_
    rintro e w4 ⟨rfl,hB4⟩
    have b4:=btr (bal (Below.refl w3.heap.size w3) _) hB4
    have c4:=one_box hB4
    have x0:w4.cell? ⟨w3.heap.size,0,none⟩=some (.int .i64 (k:Nat)):=c4.cell 0
    have x1:w4.cell? ⟨w3.heap.size,1,none⟩=some (.int .i64 (b:Nat)):=c4.cell 1
    have x2:w4.cell? ⟨w3.heap.size,2,none⟩=some (.slice oa n oc):=c4.cell 2
    have x3:=c4.lt
    have y1:w4.cell? ⟨wr.heap.size,1,none⟩=some pv3:=(b4.cell (p:=⟨wr.heap.size,1,none⟩) q2).trans q1
    have y2:wr.heap.size<w4.heap.size:=Nat.lt_of_lt_of_le q2 b4.size
    have HM4:=hid (HM.out.below b4)
    have R4:BK w4 W.heap.size ciz 27:=(b4.block _ r2).trans HR.out
    have r0:∀j,w4.cell? ⟨W.heap.size,j,none⟩=ciz[j]?:=R4.cell
    have f1:∀j,w4.frozen? ⟨W.heap.size,j,none⟩=false:=R4.free
    have f2:=R4.lt
    have B4:=hid (btr B3.out b4)
    have n3:¬w3.heap.size=W.heap.size:=by omega
    have n4:¬W.heap.size=w3.heap.size:=by omega
    clear CK hB4 b4 c4 q0 q1 q2 r1 HM HO B3 HR
    by_cases her:er=0
    ·subst her
     have e1:((0:Nat):Int)=0:=rfl
     go_wp2
     have K:=((R4.set 0 (.int .i64 (k:Nat))).set 1 (.int .i64 (b:Nat))).set 2 (.slice oa n oc)
     have BF:Below W.heap.size W (((w4.setCell ⟨W.heap.size,0,none⟩ (.int .i64 (k:Nat))).setCell ⟨W.heap.size,1,none⟩ (.int .i64 (b:Nat))).setCell ⟨W.heap.size,2,none⟩ (.slice oa n oc)):=bset (bset (bset B4.out _ _ _ (Nat.le_refl _)) _ _ _ (Nat.le_refl _)) _ _ _ (Nat.le_refl _)
     obtain ⟨gs,_⟩:=fr_sets W.heap.size [.int .i64 (k:Nat),.int .i64 (b:Nat),.slice oa n oc] 0 w4
     have hg:w4.grownBy (((w4.setCell ⟨W.heap.size,0,none⟩ (.int .i64 (k:Nat))).setCell ⟨W.heap.size,1,none⟩ (.int .i64 (b:Nat))).setCell ⟨W.heap.size,2,none⟩ (.slice oa n oc)) (some W.heap.size):=⟨gs.os,gs.tape,gs.output,gs.size,fun k hk hne=>gs.block k hk (by have:k≠W.heap.size:=fun e=>hne (by rw [e]);omega)⟩
     have OF:=HM4.out.ops.kept hg (own_ne HM4.out.ops.own R4 (by decide)) (fun k hk g e=>by
      have hqk:=HM4.out.ops.qs k (by rw [HM4.out.ops.len];exact hk) hk
      rw [e] at hqk
      exact own_ne hqk R4 (by decide) g rfl)
     clear gs hg
     generalize ((w4.setCell ⟨W.heap.size,0,none⟩ (.int .i64 (k:Nat))).setCell ⟨W.heap.size,1,none⟩ (.int .i64 (b:Nat))).setCell ⟨W.heap.size,2,none⟩ (.slice oa n oc)=WF at *
     have m0:WF.cell? ⟨W.heap.size,0,none⟩=some (.int .i64 (k:Nat)):=K.cell 0
     have m1:WF.cell? ⟨W.heap.size,1,none⟩=some (.int .i64 (b:Nat)):=K.cell 1
     have m2:WF.cell? ⟨W.heap.size,2,none⟩=some (.slice oa n oc):=K.cell 2
     rw [←HQ.out]
     refine bodyPost_ret (v:=.tuple #[.agg #[.int .i64 (k:Nat),.int .i64 (b:Nat),.slice oa n oc],.int .i64 0,.int .i64 0]) (by simp [results,Tryz.results26,go_sem,m0,m1,m2]) rfl ⟨BF,⟨(k:Nat),(b:Nat),L.map opT⟩,0,0,?_,.inr ⟨rfl,oa,oc,vs,OF,?_⟩⟩
     ·unfold LdS
      rw [if_neg (by have:=HL.out;omega),HZ.out]
      exact ⟨rfl,rfl,rfl⟩
     ·rw [←HLN.out]
    ·have hat:=LI her
     have e1:¬((er:Nat):Int)=0:=by omega
     have hn:n=L.length:=by rw [←HLN.out,List.length_map]
     obtain ⟨g,cap,rfl,hcap,hfz,hcl,hge,hgl⟩:=own_at HM4.out.pl (by rw [List.length_map];omega)
     have hg1:¬g=W.heap.size:=fun e=>own_ne HM4.out.pl R4 (by decide) g rfl (by rw [e])
     have hg2:¬W.heap.size=g:=fun e=>hg1 e.symm
     have hin:at_<L.length:=by omega
     have hcc:w4.cell? ⟨g,at_,none⟩=some (.int .i64 (plL sd0 L[at_])):=by
      have:=hcl at_ (by simp [zl];exact hin)
      rw [this]
      simp [zl]
     generalize hpp:plL sd0 L[at_]=pp at hcc
     have HPP:=hid hpp
     have e2:(at_:Int)<(L.length:Nat):=by omega
     rw [List.length_map] at y1 hcap
     have HI:Hid (at_<L.length):=hin
     clear hpp hfz hcl
     go_wp2
     go_region
     go_wp2
     have K:=(((R4.set 0 (.int .i64 0)).set 1 (.int .i64 0)).set 2 (.slice none 0 0)).drew
     have BF:Below W.heap.size W (((w4.setCell ⟨W.heap.size,0,none⟩ (.int .i64 0)).setCell ⟨W.heap.size,1,none⟩ (.int .i64 0)).setCell ⟨W.heap.size,2,none⟩ (.slice none 0 0)).drew:=below_drew (bset (bset (bset B4.out _ _ _ (Nat.le_refl _)) _ _ _ (Nat.le_refl _)) _ _ _ (Nat.le_refl _))
     generalize (((w4.setCell ⟨W.heap.size,0,none⟩ (.int .i64 0)).setCell ⟨W.heap.size,1,none⟩ (.int .i64 0)).setCell ⟨W.heap.size,2,none⟩ (.slice none 0 0)).drew=WF at *
     have m0:WF.cell? ⟨W.heap.size,0,none⟩=some (.int .i64 0):=K.cell 0
     have m1:WF.cell? ⟨W.heap.size,1,none⟩=some (.int .i64 0):=K.cell 1
     have m2:WF.cell? ⟨W.heap.size,2,none⟩=some (.slice none 0 0):=K.cell 2
     rw [←HQ.out]
     refine bodyPost_ret (v:=.tuple #[civ noCi none 0,.int .i64 pp,.int .i64 (er:Nat)]) (by simp [results,Tryz.results26,go_sem,m0,m1,m2]) rfl ⟨BF,noCi,pp,er,?_,.inl ⟨her,rfl⟩⟩
     unfold LdS
     rw [if_neg (by have:=HL.out;omega),HZ.out,if_neg her]
     exact ⟨rfl,rfl,L[at_]'HI.out,List.getElem?_eq_getElem HI.out,by rw [←HPP.out];rfl⟩
   ·go_wp2
    go_region
    go_wp2
    have K:=(((R3.set 0 (.int .i64 0)).set 1 (.int .i64 0)).set 2 (.slice none 0 0)).drew
    have BF:Below W.heap.size W (((w3.setCell ⟨W.heap.size,0,none⟩ (.int .i64 0)).setCell ⟨W.heap.size,1,none⟩ (.int .i64 0)).setCell ⟨W.heap.size,2,none⟩ (.slice none 0 0)).drew:=below_drew (bset (bset (bset B3.out _ _ _ (Nat.le_refl _)) _ _ _ (Nat.le_refl _)) _ _ _ (Nat.le_refl _))
    generalize (((w3.setCell ⟨W.heap.size,0,none⟩ (.int .i64 0)).setCell ⟨W.heap.size,1,none⟩ (.int .i64 0)).setCell ⟨W.heap.size,2,none⟩ (.slice none 0 0)).drew=WF at *
    have m0:WF.cell? ⟨W.heap.size,0,none⟩=some (.int .i64 0):=K.cell 0
    have m1:WF.cell? ⟨W.heap.size,1,none⟩=some (.int .i64 0):=K.cell 1
    have m2:WF.cell? ⟨W.heap.size,2,none⟩=some (.slice none 0 0):=K.cell 2
    rw [←HQ.out]
    refine bodyPost_ret (v:=.tuple #[civ noCi none 0,.int .i64 (plL sd0 t),.int .i64 115]) (by simp [results,Tryz.results26,go_sem,m0,m1,m2]) rfl ⟨BF,noCi,plL sd0 t,115,?_,.inl ⟨by decide,rfl⟩⟩
    unfold LdS
    rw [if_pos (by simpa using hlt)]
    exact ⟨rfl,rfl,t,by simpa using ht,pl_id t⟩
end Go.Proofs.YtdjfpghgklkejaaGreatDoor
