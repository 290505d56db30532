/-
  Put together of: LB7a.
-/
import Derived.Test.YtdjfpghgklkejaaGreatDoorYF
namespace Go.Proofs.YtdjfpghgklkejaaGreatDoor
open Go.RowKit Go.Sort
set_option maxHeartbeats 4000000 in
set_option maxRecDepth 100000 in
theorem fits_1 (kd nm:ByteArray) (ag:List Ar) (nu ro pl:Int) (sa:Int) (sx sb:Bool) (av:Value) (w0 W:World) (hS:SA w0 av ag) (hB:Below w0.heap.size w0 W) (hn:nm.size≤9223372036854775807) (hl:ag.length≤9223372036854775807) (hz:∀a∈ag,a.n.size≤9223372036854775807) (hsa:sa ≠ -1) :
  Calls Tryz.prog 119 #[.agg #[.string kd,.string nm,av,.int .i64 nu,.int .i64 ro,.int .i64 pl],.agg #[.bool true,.int .i64 sa,.bool sx,.bool true,.bool sb]] W fun e W'=>e=.returned (.bool (fitB ⟨kd,nm,ag,nu,ro,pl⟩ ⟨true,sa,sx,true,sb⟩))∧Below W.heap.size W W':=by
 obtain ⟨aa,ac,rfl,hac,hr⟩:=hS
 have PL:=fun w=>plain_any nm w hn
 have NU:=fun w=>isnum_any nu w
 have HR:Hid (∀k,k<ag.length→∃b o,aa=some ⟨b,o,none⟩∧RA w0 b o ag):=hr
 have HZ:Hid (∀a∈ag,a.n.size≤9223372036854775807):=hz
 obtain ⟨X,hX⟩:∃X,X=(W.alloc (.cells #[.string kd,.string nm,.slice aa ag.length ac,.int .i64 nu,.int .i64 ro,.int .i64 pl] 79)).alloc (.cells #[.bool true,.int .i64 sa,.bool sx,.bool true,.bool sb] 187):=⟨_,rfl⟩
 have HX:Hid (X=(W.alloc (.cells #[.string kd,.string nm,.slice aa ag.length ac,.int .i64 nu,.int .i64 ro,.int .i64 pl] 79)).alloc (.cells #[.bool true,.int .i64 sa,.bool sx,.bool true,.bool sb] 187)):=hX
 have XB:Below W.heap.size W X:=by rw [hX];exact bal (bal (Below.refl _ _) _) _
 have X0:Hid (Below w0.heap.size w0 X):=btr hB XB
 have OUT:∀ {wr:World},Below X.heap.size X wr→Below W.heap.size W wr:=fun h=>btr XB h
 have FC:∀ {wr:World},Below X.heap.size X wr→wr.cell? ⟨W.heap.size,1,none⟩=some (.string nm)∧wr.cell? ⟨W.heap.size,2,none⟩=some (.slice aa ag.length ac)∧wr.cell? ⟨W.heap.size,3,none⟩=some (.int .i64 nu)∧wr.cell? ⟨W.heap.size+1,0,none⟩=some (.bool true)∧wr.cell? ⟨W.heap.size+1,1,none⟩=some (.int .i64 sa)∧wr.cell? ⟨W.heap.size+1,2,none⟩=some (.bool sx)∧wr.cell? ⟨W.heap.size+1,3,none⟩=some (.bool true)∧W.heap.size+1<wr.heap.size:=fun h=>by
  rw [hX] at h
  obtain ⟨b0,b1⟩:=two_bk W _ _ _ _ h
  exact ⟨b0.cell 1,b0.cell 2,b0.cell 3,b1.cell 0,b1.cell 1,b1.cell 2,b1.cell 3,b1.lt⟩
 have T:Hid (fitB ⟨kd,nm,ag,nu,ro,pl⟩ ⟨true,sa,sx,true,sb⟩=(plnN nm&&numOk nu&&(decide (sa= -1) || decide ((ag.length:Int)=sa))&&ag.all (argOk sx))):=rfl
 obtain ⟨x1,x2,x3,x4,x5,x6,x7,x8⟩:=FC (Below.refl _ _)
 have hB0:Hid (Below X.heap.size X X):=Below.refl _ _
 rw [T.out]
 clear hr hz hB hX T
 have hsb:(sa != -1)=true:=by simpa using hsa
 rw [decide_eq_false hsa]
 clear hsa
 cases hp:plnN nm with
 | false=>
  rw [hp] at PL
  clear hp
  go_enter Tryz.func119,Tryz.ntmps119
  go_upto_region 1 with (fail)
  rw [←HX.out]
  go_wp2_with (first | (go_at_call 158;(with_reducible refine (PL _).mono ?_);rintro e w1 ⟨rfl,h1⟩;obtain ⟨y1,y2,y3,y4,y5,y6,y7,y8⟩:=FC h1) | (go_at_call 159;(with_reducible refine (NU _).mono ?_);rintro e w2 ⟨rfl,hw⟩;rw [hw];clear hw))
  go_ret
  exact ⟨rfl,OUT h1⟩
 | true=>
 rw [hp] at PL
 clear hp
 cases hq:numOk nu with
 | false=>
  rw [hq] at NU
  clear hq
  go_enter Tryz.func119,Tryz.ntmps119
  go_upto_region 1 with (fail)
  rw [←HX.out]
  go_wp2_with (first | (go_at_call 158;(with_reducible refine (PL _).mono ?_);rintro e w1 ⟨rfl,h1⟩;obtain ⟨y1,y2,y3,y4,y5,y6,y7,y8⟩:=FC h1) | (go_at_call 159;(with_reducible refine (NU _).mono ?_);rintro e w2 ⟨rfl,hw⟩;rw [hw];clear hw))
  go_ret
  exact ⟨rfl,OUT h1⟩
 | true=>
 rw [hq] at NU
 clear hq
 by_cases hc:(ag.length:Int)=sa
 case neg=>
  have q:((ag.length:Int) != sa)=true:=by simpa using hc
  rw [decide_eq_false hc]
  clear hc
  go_enter Tryz.func119,Tryz.ntmps119
  go_upto_region 1 with (fail)
  rw [←HX.out]
  go_wp2_with (first | (go_at_call 158;(with_reducible refine (PL _).mono ?_);rintro e w1 ⟨rfl,h1⟩;obtain ⟨y1,y2,y3,y4,y5,y6,y7,y8⟩:=FC h1) | (go_at_call 159;(with_reducible refine (NU _).mono ?_);rintro e w2 ⟨rfl,hw⟩;rw [hw];clear hw))
  go_ret
  exact ⟨rfl,OUT h1⟩
 case pos=>
 have q:((ag.length:Int) != sa)=false:=by simpa using hc
 rw [decide_eq_true hc]
 clear hc
 have TT:Hid (∀b:Bool,(true&&true&&(false || true)&&b)=b):=fun b=>by cases b <;> rfl
 rw [TT.out]
 clear TT
 generalize hALL:ag.all (argOk sx)=ALL
 have HALL:Hid (ag.all (argOk sx)=ALL):=hALL
 clear hALL
 go_enter Tryz.func119,Tryz.ntmps119
 go_upto_region 1 with (fail)
 rw [←HX.out]
 go_upto_region 8 with (first | (go_at_call 158;(with_reducible refine (PL _).mono ?_);rintro e w1 ⟨rfl,h1⟩;obtain ⟨y1,y2,y3,y4,y5,y6,y7,y8⟩:=FC h1) | (go_at_call 159;(with_reducible refine (NU _).mono ?_);rintro e w2 ⟨rfl,hw⟩;rw [hw];clear hw))
 have hW:Hid (Below X.heap.size X w1):=h1
 clear h1
 go_loopw [57] (fun v wr=>∃k:Nat,k≤ag.length∧v=.int .i64 k∧Hid (Below X.heap.size X wr∧∀j (h:j<ag.length),j<k→argOk sx ag[j]=true)) (fun v _=>ag.length-(intOf v).toNat)
 case atStart=>exact ⟨0,Nat.zero_le _,rfl,hW.out,fun j _ h=>absurd h (Nat.not_lt_zero _)⟩
 case round=>
  clear x1 x2 x3 x4 x5 x6 x7 x8 y1 y2 y3 y4 y5 y6 y7 y8
  obtain ⟨k,hk,rfl,hI⟩:=hrel
  obtain ⟨x1,x2,x3,x4,x5,x6,x7,x8⟩:=FC hI.out.1
  by_cases hlt:k<ag.length
  case neg=>
   obtain rfl:k=ag.length:=by omega
   have hA:ALL=true:=by rw [←HALL.out,List.all_eq_true];intro a ha;obtain ⟨j,hj,rfl⟩:=List.getElem_of_mem ha;exact hI.out.2 j hj hj
   have hAt:Hid (ALL=true):=hA
   clear hA
   go_wp2
   go_ret
   exact ⟨by rw [hAt.out];rfl,OUT hI.out.1⟩
  case pos=>
  have HN:Hid (argOk sx ag[k]=false→ALL=false):=fun h=>by rw [←HALL.out,List.all_eq_false];exact ⟨_,List.getElem_mem hlt,by rw [h];simp⟩
  have HY:Hid (argOk sx ag[k]=true→∀j (h:j<ag.length),j<k+1→argOk sx ag[j]=true):=fun h j hj hjk=>by
   by_cases e:j=k
   ·subst e;exact h
   ·exact hI.out.2 j hj (by omega)
  obtain ⟨rb,rO,rfl,ra0⟩:=HR.out k hlt
  have ra:=(ra0.below X0.out).below hI.out.1
  have l0:=ra.c0 k hlt
  have l1:=ra.c1 k hlt
  have l2:=ra.lt
  have PA:=fun w=>plain_any ag[k].n w (HZ.out _ (List.getElem_mem hlt))
  have NA:=fun w=>isnum_any ag[k].x w
  have hV:Hid (Below X.heap.size X (wr.alloc (.cells #[.string ag[k].n,.int .i64 ag[k].x] 100))):=bal hI.out.1 _
  have bx:=bk_new wr #[.string ag[k].n,.int .i64 ag[k].x] 100
  have HE:Hid (argOk sx ag[k]=(plnN ag[k].n&&(decide (ag[k].x= -1) || (sx&&numOk ag[k].x)))):=rfl
  clear ra ra0
  generalize argOk sx ag[k]=OKb at *
  generalize ag[k].n=an at *
  generalize ag[k].x=ax at *
  have BX:∀ {w9:World},Below (wr.alloc (.cells #[.string an,.int .i64 ax] 100)).heap.size (wr.alloc (.cells #[.string an,.int .i64 ax] 100)) w9→w9.cell? ⟨wr.heap.size,1,none⟩=some (.int .i64 ax)∧wr.heap.size<w9.heap.size:=fun h=>by
   have b2:BK _ wr.heap.size _ _:=(h.block _ bx.lt).trans bx
   exact ⟨b2.cell 1,b2.lt⟩
  clear bx
  cases hp:plnN an with
  | false=>
   rw [hp] at PA
   have hO:OKb=false:=by rw [HE.out,hp];rfl
   have hAf:Hid (ALL=false):=HN.out hO
   clear hp hO
   go_wp2_with (go_at_call 158;(with_reducible refine (PA _).mono ?_);rintro e w9 ⟨rfl,h9⟩)
   go_ret
   exact ⟨by rw [hAf.out];rfl,OUT (btr hV.out h9)⟩
  | true=>
  rw [hp] at PA
  by_cases hx:ax= -1
  case pos=>
   have hO:OKb=true:=by rw [HE.out,hp,decide_eq_true hx];rfl
   have hxx:(ax != -1)=false:=by simpa using hx
   have HY2:=HY.out hO
   clear hp hO hx
   go_wp2_with (go_at_call 158;(with_reducible refine (PA _).mono ?_);rintro e w9 ⟨rfl,h9⟩;obtain ⟨z1,z2⟩:=BX h9)
   go_roundw
   case rel=>exact ⟨k+1,by omega,by go_num,btr hV.out h9,HY2⟩
   case measure=>simp [intOf];omega
  case neg=>
  have hxx:(ax != -1)=true:=by simpa using hx
  by_cases hsx:sx=true
  case neg=>
   have hsx:sx=false:=by simpa using hsx
   have hO:OKb=false:=by rw [HE.out,hp,decide_eq_false hx,hsx];rfl
   have hAf:Hid (ALL=false):=HN.out hO
   rw [hsx] at x6 FC
   clear hp hO hx hsx
   go_wp2_with (go_at_call 158;(with_reducible refine (PA _).mono ?_);rintro e w9 ⟨rfl,h9⟩;obtain ⟨z1,z2⟩:=BX h9;obtain ⟨y1,y2,y3,y4,y5,y6,y7,y8⟩:=FC (btr hV.out h9))
   go_ret
   exact ⟨by rw [hAf.out];rfl,OUT (btr hV.out h9)⟩
  case pos=>
  rw [hsx] at x6 FC
  have HSX:Hid (sx=true):=hsx
  clear hsx
  cases hm:numOk ax with
  | false=>
   have hO:OKb=false:=by rw [HE.out,hp,decide_eq_false hx,HSX.out,hm];rfl
   have hAf:Hid (ALL=false):=HN.out hO
   rw [hm] at NA
   clear hp hO hx hm
   go_wp2_with (first | (go_at_call 158;(with_reducible refine (PA _).mono ?_);rintro e w9 ⟨rfl,h9⟩;obtain ⟨z1,z2⟩:=BX h9;obtain ⟨y1,y2,y3,y4,y5,y6,y7,y8⟩:=FC (btr hV.out h9)) | (go_at_call 159;(with_reducible refine (NA _).mono ?_);rintro e w8 ⟨rfl,rfl⟩))
   go_ret
   exact ⟨by rw [hAf.out];rfl,OUT (btr hV.out h9)⟩
  | true=>
   have hO:OKb=true:=by rw [HE.out,hp,decide_eq_false hx,HSX.out,hm];rfl
   have HY2:=HY.out hO
   rw [hm] at NA
   clear hp hO hx hm
   go_wp2_with (first | (go_at_call 158;(with_reducible refine (PA _).mono ?_);rintro e w9 ⟨rfl,h9⟩;obtain ⟨z1,z2⟩:=BX h9;obtain ⟨y1,y2,y3,y4,y5,y6,y7,y8⟩:=FC (btr hV.out h9)) | (go_at_call 159;(with_reducible refine (NA _).mono ?_);rintro e w8 ⟨rfl,rfl⟩))
   go_roundw
   case rel=>exact ⟨k+1,by omega,by go_num,btr hV.out h9,HY2⟩
   case measure=>simp [intOf];omega
set_option maxHeartbeats 4000000 in
set_option maxRecDepth 100000 in
theorem fits_2 (kd nm:ByteArray) (ag:List Ar) (nu ro pl:Int) (sx sb:Bool) (av:Value) (w0 W:World) (hS:SA w0 av ag) (hB:Below w0.heap.size w0 W) (hn:nm.size≤9223372036854775807) (hl:ag.length≤9223372036854775807) (hz:∀a∈ag,a.n.size≤9223372036854775807) :
  Calls Tryz.prog 119 #[.agg #[.string kd,.string nm,av,.int .i64 nu,.int .i64 ro,.int .i64 pl],.agg #[.bool true,.int .i64 (-1),.bool sx,.bool false,.bool sb]] W fun e W'=>e=.returned (.bool (fitB ⟨kd,nm,ag,nu,ro,pl⟩ ⟨true,(-1),sx,false,sb⟩))∧Below W.heap.size W W':=by
 obtain ⟨aa,ac,rfl,hac,hr⟩:=hS
 have PL:=fun w=>plain_any nm w hn
 have HR:Hid (∀k,k<ag.length→∃b o,aa=some ⟨b,o,none⟩∧RA w0 b o ag):=hr
 have HZ:Hid (∀a∈ag,a.n.size≤9223372036854775807):=hz
 obtain ⟨X,hX⟩:∃X,X=(W.alloc (.cells #[.string kd,.string nm,.slice aa ag.length ac,.int .i64 nu,.int .i64 ro,.int .i64 pl] 79)).alloc (.cells #[.bool true,.int .i64 (-1),.bool sx,.bool false,.bool sb] 187):=⟨_,rfl⟩
 have HX:Hid (X=(W.alloc (.cells #[.string kd,.string nm,.slice aa ag.length ac,.int .i64 nu,.int .i64 ro,.int .i64 pl] 79)).alloc (.cells #[.bool true,.int .i64 (-1),.bool sx,.bool false,.bool sb] 187)):=hX
 have XB:Below W.heap.size W X:=by rw [hX];exact bal (bal (Below.refl _ _) _) _
 have X0:Hid (Below w0.heap.size w0 X):=btr hB XB
 have OUT:∀ {wr:World},Below X.heap.size X wr→Below W.heap.size W wr:=fun h=>btr XB h
 have FC:∀ {wr:World},Below X.heap.size X wr→wr.cell? ⟨W.heap.size,1,none⟩=some (.string nm)∧wr.cell? ⟨W.heap.size,2,none⟩=some (.slice aa ag.length ac)∧wr.cell? ⟨W.heap.size,3,none⟩=some (.int .i64 nu)∧wr.cell? ⟨W.heap.size+1,0,none⟩=some (.bool true)∧wr.cell? ⟨W.heap.size+1,1,none⟩=some (.int .i64 (-1))∧wr.cell? ⟨W.heap.size+1,2,none⟩=some (.bool sx)∧wr.cell? ⟨W.heap.size+1,3,none⟩=some (.bool false)∧W.heap.size+1<wr.heap.size:=fun h=>by
  rw [hX] at h
  obtain ⟨b0,b1⟩:=two_bk W _ _ _ _ h
  exact ⟨b0.cell 1,b0.cell 2,b0.cell 3,b1.cell 0,b1.cell 1,b1.cell 2,b1.cell 3,b1.lt⟩
 have T:Hid (fitB ⟨kd,nm,ag,nu,ro,pl⟩ ⟨true,(-1),sx,false,sb⟩=(plnN nm&&decide (nu=0)&&true&&ag.all (argOk sx))):=rfl
 obtain ⟨x1,x2,x3,x4,x5,x6,x7,x8⟩:=FC (Below.refl _ _)
 have hB0:Hid (Below X.heap.size X X):=Below.refl _ _
 rw [T.out]
 clear hr hz hB hX T
 cases hp:plnN nm with
 | false=>
  rw [hp] at PL
  clear hp
  go_enter Tryz.func119,Tryz.ntmps119
  go_upto_region 1 with (fail)
  rw [←HX.out]
  go_wp2_with (first | (go_at_call 158;(with_reducible refine (PL _).mono ?_);rintro e w1 ⟨rfl,h1⟩;obtain ⟨y1,y2,y3,y4,y5,y6,y7,y8⟩:=FC h1))
  go_ret
  exact ⟨rfl,OUT h1⟩
 | true=>
 rw [hp] at PL
 clear hp
 by_cases hq:nu=0
 case neg=>
  have q:(nu != 0)=true:=by simpa using hq
  rw [decide_eq_false hq]
  clear hq
  go_enter Tryz.func119,Tryz.ntmps119
  go_upto_region 1 with (fail)
  rw [←HX.out]
  go_wp2_with (first | (go_at_call 158;(with_reducible refine (PL _).mono ?_);rintro e w1 ⟨rfl,h1⟩;obtain ⟨y1,y2,y3,y4,y5,y6,y7,y8⟩:=FC h1))
  go_ret
  exact ⟨rfl,OUT h1⟩
 case pos=>
 subst hq
 rw [decide_eq_true rfl]
 have TT:Hid (∀b:Bool,(true&&true&&true&&b)=b):=fun b=>by cases b <;> rfl
 rw [TT.out]
 clear TT
 generalize hALL:ag.all (argOk sx)=ALL
 have HALL:Hid (ag.all (argOk sx)=ALL):=hALL
 clear hALL
 go_enter Tryz.func119,Tryz.ntmps119
 go_upto_region 1 with (fail)
 rw [←HX.out]
 go_upto_region 8 with (first | (go_at_call 158;(with_reducible refine (PL _).mono ?_);rintro e w1 ⟨rfl,h1⟩;obtain ⟨y1,y2,y3,y4,y5,y6,y7,y8⟩:=FC h1))
 have hW:Hid (Below X.heap.size X w1):=h1
 clear h1
 go_loopw [57] (fun v wr=>∃k:Nat,k≤ag.length∧v=.int .i64 k∧Hid (Below X.heap.size X wr∧∀j (h:j<ag.length),j<k→argOk sx ag[j]=true)) (fun v _=>ag.length-(intOf v).toNat)
 case atStart=>exact ⟨0,Nat.zero_le _,rfl,hW.out,fun j _ h=>absurd h (Nat.not_lt_zero _)⟩
 case round=>
  clear x1 x2 x3 x4 x5 x6 x7 x8 y1 y2 y3 y4 y5 y6 y7 y8
  obtain ⟨k,hk,rfl,hI⟩:=hrel
  obtain ⟨x1,x2,x3,x4,x5,x6,x7,x8⟩:=FC hI.out.1
  by_cases hlt:k<ag.length
  case neg=>
   obtain rfl:k=ag.length:=by omega
   have hA:ALL=true:=by rw [←HALL.out,List.all_eq_true];intro a ha;obtain ⟨j,hj,rfl⟩:=List.getElem_of_mem ha;exact hI.out.2 j hj hj
   have hAt:Hid (ALL=true):=hA
   clear hA
   go_wp2
   go_ret
   exact ⟨by rw [hAt.out];rfl,OUT hI.out.1⟩
  case pos=>
  have HN:Hid (argOk sx ag[k]=false→ALL=false):=fun h=>by rw [←HALL.out,List.all_eq_false];exact ⟨_,List.getElem_mem hlt,by rw [h];simp⟩
  have HY:Hid (argOk sx ag[k]=true→∀j (h:j<ag.length),j<k+1→argOk sx ag[j]=true):=fun h j hj hjk=>by
   by_cases e:j=k
   ·subst e;exact h
   ·exact hI.out.2 j hj (by omega)
  obtain ⟨rb,rO,rfl,ra0⟩:=HR.out k hlt
  have ra:=(ra0.below X0.out).below hI.out.1
  have l0:=ra.c0 k hlt
  have l1:=ra.c1 k hlt
  have l2:=ra.lt
  have PA:=fun w=>plain_any ag[k].n w (HZ.out _ (List.getElem_mem hlt))
  have NA:=fun w=>isnum_any ag[k].x w
  have hV:Hid (Below X.heap.size X (wr.alloc (.cells #[.string ag[k].n,.int .i64 ag[k].x] 100))):=bal hI.out.1 _
  have bx:=bk_new wr #[.string ag[k].n,.int .i64 ag[k].x] 100
  have HE:Hid (argOk sx ag[k]=(plnN ag[k].n&&(decide (ag[k].x= -1) || (sx&&numOk ag[k].x)))):=rfl
  clear ra ra0
  generalize argOk sx ag[k]=OKb at *
  generalize ag[k].n=an at *
  generalize ag[k].x=ax at *
  have BX:∀ {w9:World},Below (wr.alloc (.cells #[.string an,.int .i64 ax] 100)).heap.size (wr.alloc (.cells #[.string an,.int .i64 ax] 100)) w9→w9.cell? ⟨wr.heap.size,1,none⟩=some (.int .i64 ax)∧wr.heap.size<w9.heap.size:=fun h=>by
   have b2:BK _ wr.heap.size _ _:=(h.block _ bx.lt).trans bx
   exact ⟨b2.cell 1,b2.lt⟩
  clear bx
  cases hp:plnN an with
  | false=>
   rw [hp] at PA
   have hO:OKb=false:=by rw [HE.out,hp];rfl
   have hAf:Hid (ALL=false):=HN.out hO
   clear hp hO
   go_wp2_with (go_at_call 158;(with_reducible refine (PA _).mono ?_);rintro e w9 ⟨rfl,h9⟩)
   go_ret
   exact ⟨by rw [hAf.out];rfl,OUT (btr hV.out h9)⟩
  | true=>
  rw [hp] at PA
  by_cases hx:ax= -1
  case pos=>
   have hO:OKb=true:=by rw [HE.out,hp,decide_eq_true hx];rfl
   have hxx:(ax != -1)=false:=by simpa using hx
   have HY2:=HY.out hO
   clear hp hO hx
   go_wp2_with (go_at_call 158;(with_reducible refine (PA _).mono ?_);rintro e w9 ⟨rfl,h9⟩;obtain ⟨z1,z2⟩:=BX h9)
   go_roundw
   case rel=>exact ⟨k+1,by omega,by go_num,btr hV.out h9,HY2⟩
   case measure=>simp [intOf];omega
  case neg=>
  have hxx:(ax != -1)=true:=by simpa using hx
  by_cases hsx:sx=true
  case neg=>
   have hsx:sx=false:=by simpa using hsx
   have hO:OKb=false:=by rw [HE.out,hp,decide_eq_false hx,hsx];rfl
   have hAf:Hid (ALL=false):=HN.out hO
   rw [hsx] at x6 FC
   clear hp hO hx hsx
   go_wp2_with (go_at_call 158;(with_reducible refine (PA _).mono ?_);rintro e w9 ⟨rfl,h9⟩;obtain ⟨z1,z2⟩:=BX h9;obtain ⟨y1,y2,y3,y4,y5,y6,y7,y8⟩:=FC (btr hV.out h9))
   go_ret
   exact ⟨by rw [hAf.out];rfl,OUT (btr hV.out h9)⟩
  case pos=>
  rw [hsx] at x6 FC
  have HSX:Hid (sx=true):=hsx
  clear hsx
  cases hm:numOk ax with
  | false=>
   have hO:OKb=false:=by rw [HE.out,hp,decide_eq_false hx,HSX.out,hm];rfl
   have hAf:Hid (ALL=false):=HN.out hO
   rw [hm] at NA
   clear hp hO hx hm
   go_wp2_with (first | (go_at_call 158;(with_reducible refine (PA _).mono ?_);rintro e w9 ⟨rfl,h9⟩;obtain ⟨z1,z2⟩:=BX h9;obtain ⟨y1,y2,y3,y4,y5,y6,y7,y8⟩:=FC (btr hV.out h9)) | (go_at_call 159;(with_reducible refine (NA _).mono ?_);rintro e w8 ⟨rfl,rfl⟩))
   go_ret
   exact ⟨by rw [hAf.out];rfl,OUT (btr hV.out h9)⟩
  | true=>
   have hO:OKb=true:=by rw [HE.out,hp,decide_eq_false hx,HSX.out,hm];rfl
   have HY2:=HY.out hO
   rw [hm] at NA
   clear hp hO hx hm
   go_wp2_with (first | (go_at_call 158;(with_reducible refine (PA _).mono ?_);rintro e w9 ⟨rfl,h9⟩;obtain ⟨z1,z2⟩:=BX h9;obtain ⟨y1,y2,y3,y4,y5,y6,y7,y8⟩:=FC (btr hV.out h9)) | (go_at_call 159;(with_reducible refine (NA _).mono ?_);rintro e w8 ⟨rfl,rfl⟩))
   go_roundw
   case rel=>exact ⟨k+1,by omega,by go_num,btr hV.out h9,HY2⟩
   case measure=>simp [intOf];omega
end Go.Proofs.YtdjfpghgklkejaaGreatDoor
