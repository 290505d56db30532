/-
  Put together of: FE.
-/
import Derived.Test.YtdjfpghgklkejaaGreatDoorXQ
import Derived.BigQuiet
namespace Go.Proofs.YtdjfpghgklkejaaGreatDoor
open Go.RowKit Go.Sort
def whenR (rec:RecT) (en:En) (sd:Sd) (r:Rw) (body:List Rw):Except Fa (En × List TO):=
 match en.nm r.name with
 | none=>.error (sd.p,110)
 | some m=>if m.s≠2 then .error (sd.p,110) else if r.num<0∨((2 ^ m.z:Nat):Int)≤r.num then .error (sd.p,112) else
  match rec en ⟨sd.p,sd.n+1,sd.g,sd.m|||mskN m,sd.v|||valN m r.num.toNat⟩ body with
  | .error e=>.error e
  | .ok (en1,L)=>.ok (en1,if sd.m&&&mskN m≠0∧sd.v&&&mskN m≠valN m r.num.toNat then [] else L)
theorem when_name {rec:RecT} {en:En} {sd:Sd} {r:Rw} {body:List Rw} (h:srt en r.name≠2):whenR rec en sd r body=.error (sd.p,110):=by
 unfold whenR
 unfold srt at h
 cases e:en.nm r.name with
 | none=>rfl
 | some m=>
  rw [e] at h
  simp only
  rw [if_pos (by simpa using h)]
theorem when_some {en:En} {r:Rw} (h:srt en r.name=2):∃m,en.nm r.name=some m∧m.s=2:=by
 unfold srt at h
 cases e:en.nm r.name with
 | none=>rw [e] at h;cases h
 | some m=>rw [e] at h;exact ⟨m,rfl,by simpa using h⟩
theorem div_pow2 (a b:Nat):((a:Int) / 2 ^ b)=((a / 2 ^ b:Nat):Int):=by
 simp
theorem pow_sum {x y:Nat} (h:x+y≤64):2 ^ y*2 ^ x≤18446744073709551616:=by
 rw [←Nat.pow_add,Nat.add_comm]
 exact Nat.le_trans (Nat.pow_le_pow_right (by decide) h) (by decide)
theorem msk_lt {x y:Nat} (h:x+y≤64):(2 ^ y-1)*2 ^ x<18446744073709551616:=by
 have h1:=pow_sum h
 have h2:=Nat.two_pow_pos x
 rw [Nat.sub_mul]
 omega
theorem val_lt {x y n:Nat} (h:x+y≤64) (hn:n<2 ^ y):n*2 ^ x<18446744073709551616:=by
 have h1:=pow_sum h
 exact Nat.lt_of_lt_of_le (Nat.mul_lt_mul_of_pos_right hn (Nat.two_pow_pos x)) h1
theorem wrap_nat {n:Nat} (h:n<18446744073709551616):IntKind.u64.wrap (n:Int)=(n:Int):=by
 rw [IntKind.wrap_u64]
 omega
theorem ones_u:∀y<65,IntKind.u64.wrap (IntKind.u64.wrap (2 ^ y)-1)=((2 ^ y-1:Nat):Int):=by decide +kernel
theorem mskA {x y:Nat} (h:x+y≤64):IntKind.u64.wrap (IntKind.u64.wrap (IntKind.u64.wrap (2 ^ y)-1)*2 ^ x)=(((2 ^ y-1)*2 ^ x:Nat):Int):=by
 rw [ones_u y (by omega),←wrap_nat (msk_lt h)]
 congr 1
theorem valA {x y n:Nat} (h:x+y≤64) (hn:n<2 ^ y):IntKind.u64.wrap ((n:Int)*2 ^ x)=((n*2 ^ x:Nat):Int):=by
 rw [←wrap_nat (val_lt h hn)]
 congr 1
theorem rowP_rep0 {W:World} {nn:Nat} {hi:HG} {sd:Sd} {a:Option Addr} {k c:Nat} {L L':List TO} (hmv:sd.m<18446744073709551616∧sd.v<18446744073709551616) (hp:PL W hi nn (.slice a k c) L') (ht:T4 L' L) (hs:L.map (subT [] (stO sd))=L) :
  RowP W hi nn ⟨sd,0,⟨#[]⟩,[],none,0,0,0,a,k,c⟩ []:=rowP_rep (n:=0) (by decide) hmv hp ht hs
theorem rowP_rep1 {W:World} {nn:Nat} {hi:HG} {sd:Sd} {a:Option Addr} {k c:Nat} {L L':List TO} (hmv:sd.m<18446744073709551616∧sd.v<18446744073709551616) (hp:PL W hi nn (.slice a k c) L') (ht:T4 L' L) (hs:L.map (subT [] (stO sd))=L) :
  RowP W hi nn ⟨sd,0,⟨#[]⟩,[],none,0,0,1,a,k,c⟩ L:=by
 have h:=rowP_rep (n:=1) (by decide) hmv hp ht hs
 have e:(List.replicate 1 L).flatten=L:=by simp
 rw [e] at h
 exact h
abbrev mnC (x0 x1 x2 x3:Nat) (ba:Option Addr) (bk bc:Nat):Array Value:=#[.int .i64 (x0:Nat),.int .i64 (x1:Nat),.int .i64 (x2:Nat),.int .i64 (x3:Nat),.slice ba bk bc]
structure WB (W V:World) (r rs:Array Value) (is:Array Value) (ms:Array Value):Prop where
 below:Below W.heap.size W V
 b1:BK V W.heap.size r 79
 b2:BK V (W.heap.size+1) rs 69
 b3:BK V (W.heap.size+1+1) is 69
 b4:BK V (W.heap.size+1+1+1) pzC 113
 b5:BK V (W.heap.size+1+1+1+1) ms 109
 size:V.heap.size=W.heap.size+1+1+1+1+1
set_option maxHeartbeats 4000000 in
theorem when_any {w0 W:World} {lb mb N K:Nat} {hi:HG} {en:En} {pl:Int} {rec:RecT} (HB:FBody w0 lb mb K rec) (HS:RecSt rec) (H:LK w0 W lb mb hi N en pl) (hok:EnOk en) (r:Rw) (aa:Option Addr) (ac:Nat) (bv:Value) (body:List Rw) (hbv:SR w0 bv body) (hK:body.length<K) (hz:SzR body) (sd ins:Sd) (hins:ins=deeper sd) (hsp:sd.p=pl) (hs:r.name.size≤maxLen)
  (hr0: -9223372036854775808≤r.num) (hr1:r.num≤9223372036854775807) (hg:sd.g=true→en.pr≠[]) (hn:sd.n<6000000000000) (hm:sd.m<18446744073709551616) (hv:sd.v<18446744073709551616) (hN:N+2*body.length<4611686018427387904) :
  Calls Tryz.prog 87 #[.pointer (some ⟨lb,0,none⟩),rwV r aa ac,bv,sdV sd,sdV ins] W fun e W'=>RowO w0 W W' lb mb hi (N+2*body.length) (en,sd.g) (whenR rec en sd r body) e:=by
 obtain ⟨x0,x1,x2,x3,ba,bk,bc,LN,hL,hx0,hsome,hnone,hP⟩:=H.name r.name hs
 obtain ⟨pv,k1,kp⟩:=H.box
 have hmb:mb<W.heap.size:=Nat.lt_of_lt_of_le H.o4 H.o5
 have HL:=hid H
 have c0:W.cell? ⟨lb,0,none⟩=some (.map (some mb)):=k1.cell 0
 have l0:=k1.lt
 have HN0:Hid (x0≠2→whenR rec en sd r body=.error (sd.p,110)):=fun h=>when_name (by omega)
 obtain ⟨bba,bbn,bbc,rfl⟩:∃a n c,bv=.slice a n c:=by obtain ⟨a,c,vs,e,_⟩:=hbv;exact ⟨_,_,_,e⟩
 have HN1:Hid (x0=2→x1+x2≤64∧x1≤64∧x2≤64∧((r.num<0∨((2 ^ x2:Nat):Int)≤r.num)→whenR rec en sd r body=.error (sd.p,112))):=fun h=>by
  obtain ⟨m,e1,e2⟩:=when_some (hx0.symm.trans h)
  obtain ⟨y1,y2,_⟩:=hsome m e1
  obtain ⟨g1,g2,g3,_⟩:=hok.f _ m e1
  have:=g3 (.inr e2)
  refine ⟨by omega,by omega,by omega,fun h=>?_⟩
  unfold whenR
  rw [e1]
  simp only
  rw [if_neg (by omega),if_pos (by rw [←y2];exact h)]
 have F:Hid (∀(w1:World) (M X:Nat),Below W.heap.size W w1→M<18446744073709551616→X<18446744073709551616→Calls Tryz.prog 25 #[.pointer (some ⟨lb,0,none⟩),.slice bba bbn bbc,sdV ⟨ins.p,ins.n,ins.g,ins.m|||M,ins.v|||X⟩] w1 fun e W'=>BodyO w0 w1 W' lb mb (hi.cut W.heap.size w1.heap.size) (N+2*body.length) (en,sd.g) (rec en ⟨ins.p,ins.n,ins.g,ins.m|||M,ins.v|||X⟩ body) e):=fun w1 M X h hM hX=>by
  rw [←show ins.g=sd.g by rw [hins];rfl]
  exact HB w1 _ N en pl _ body ⟨ins.p,ins.n,ins.g,ins.m|||M,ins.v|||X⟩ (H.cut h) hok hbv hK hz (by rw [hins];exact fun h=>⟨hg h,Nat.succ_ne_zero _⟩) (by rw [hins];show sd.n+1≤_;omega) (by rw [hins];exact Nat.or_lt_two_pow (n:=64) hm hM) (by rw [hins];exact Nat.or_lt_two_pow (n:=64) hv hX) hN
 have HR:Hid (x0=2→∀nn:Nat,r.num=(nn:Int)→nn<2 ^ x2→∀M X:Nat,M=(2 ^ x2-1)*2 ^ x1→X=nn*2 ^ x1→(∀x,rec en ⟨ins.p,ins.n,ins.g,ins.m|||M,ins.v|||X⟩ body=.error x→whenR rec en sd r body=.error x)∧∀en1 L,rec en ⟨ins.p,ins.n,ins.g,ins.m|||M,ins.v|||X⟩ body=.ok (en1,L)→whenR rec en sd r body=.ok (en1,if sd.m&&&M≠0∧sd.v&&&M≠X then [] else L)∧L.map (subT [] (stO sd))=L):=fun h nn hnu hlt M X hM hX=>by
  obtain ⟨mm,e1,e2⟩:=when_some (hx0.symm.trans h)
  obtain ⟨y1,y2,_⟩:=hsome mm e1
  have eM:mskN mm=M:=by unfold mskN;rw [hM,y1,y2]
  have eX:valN mm r.num.toNat=X:=by unfold valN;rw [hX,y1,hnu];rfl
  have hw:whenR rec en sd r body=match rec en ⟨sd.p,sd.n+1,sd.g,sd.m|||M,sd.v|||X⟩ body with
    | .error e=>.error e
    | .ok (en1,L)=>.ok (en1,if sd.m&&&M≠0∧sd.v&&&M≠X then [] else L):=by
   unfold whenR
   rw [e1]
   simp only
   rw [if_neg (by omega),if_neg (by rw [←y2,hnu];have:(nn:Int)<((2 ^ x2:Nat):Int):=Int.ofNat_lt.2 hlt;omega),eM,eX]
  rw [hins]
  refine ⟨fun x hx=>?_,fun en1 L hx=>⟨?_,HS.sub hx rfl⟩⟩
  ·rw [hw]
   have hx:rec en ⟨sd.p,sd.n+1,sd.g,sd.m|||M,sd.v|||X⟩ body=.error x:=hx
   rw [hx]
  ·rw [hw]
   have hx:rec en ⟨sd.p,sd.n+1,sd.g,sd.m|||M,sd.v|||X⟩ body=.ok (en1,L):=hx
   rw [hx]
 have KP:Hid (∀w',Below W.heap.size W w'→Below W.heap.size W w'∧w'.cell? ⟨lb,0,none⟩=some (.map (some mb))∧lb<w'.heap.size∧(Instr.lookup 60 (.map (some mb)) (.string r.name) false).run Tryz.prog w'=.ok (.agg #[.int .i64 (x0:Nat),.int .i64 (x1:Nat),.int .i64 (x2:Nat),.int .i64 (x3:Nat),.slice ba bk bc]) w'):=fun w' h=>⟨h,(h.cell (p:=⟨lb,0,none⟩) l0).trans c0,Nat.lt_of_lt_of_le l0 h.size,hL w' (h.block _ hmb)⟩
 have HMV:=hid (And.intro hm hv)
 obtain ⟨S,hS⟩:∃S,S=whenR rec en sd r body:=⟨_,rfl⟩
 rw [←hS] at HN0 HN1 HR ⊢
 clear hL hx0 hsome hnone hP k1 kp c0 l0 H hS HB HS hbv hz hok hg hK
 obtain ⟨k,nm,ar,nu,ro,pc⟩:=r
 obtain ⟨p,n,g,m,v⟩:=sd
 obtain ⟨p2,n2,g2,m2,v2⟩:=ins
 simp only at *
 subst hsp
 have HI:=hid hins
 clear hins
 go_enter Tryz.func87,Tryz.ntmps87
 go_upto_region 1 with (fail)
 obtain ⟨V,hV⟩:∃V,V=(((W.alloc (.cells #[.string k,.string nm,.slice aa ar.length ac,.int .i64 nu,.int .i64 ro,.int .i64 pc] 79)).alloc (.cells #[.int .i64 p,.int .i64 (n:Nat),.bool g,.int .u64 (m:Nat),.int .u64 (v:Nat)] 69)).alloc (.cells #[.int .i64 p2,.int .i64 (n2:Nat),.bool g2,.int .u64 (m2:Nat),.int .u64 (v2:Nat)] 69)).alloc (.cells pzC 113):=⟨_,rfl⟩
 have hWV:Below W.heap.size W V:=by rw [hV];exact bal (bal (bal (bal (Below.refl _ _) _) _) _) _
 have b1:BK V W.heap.size #[.string k,.string nm,.slice aa ar.length ac,.int .i64 nu,.int .i64 ro,.int .i64 pc] 79:=by rw [hV];exact (((bk_new W _ _).alloc _).alloc _).alloc _
 have b2:BK V (W.heap.size+1) #[.int .i64 p,.int .i64 (n:Nat),.bool g,.int .u64 (m:Nat),.int .u64 (v:Nat)] 69:=by rw [hV];exact ((bk_at _ _ (by simp)).alloc _).alloc _
 have b3:BK V (W.heap.size+1+1) #[.int .i64 p2,.int .i64 (n2:Nat),.bool g2,.int .u64 (m2:Nat),.int .u64 (v2:Nat)] 69:=by rw [hV];exact (bk_at _ _ (by simp)).alloc _
 have b4:BK V (W.heap.size+1+1+1) pzC 113:=by rw [hV];exact bk_at _ _ (by simp)
 have hVs:V.heap.size=W.heap.size+1+1+1+1:=by rw [hV];simp
 have SK:Hid (∀w',Below V.heap.size V w'→Below V.heap.size V w'∧(w'.cell? ⟨lb,0,none⟩=some (.map (some mb))∧lb<w'.heap.size∧(Instr.lookup 60 (.map (some mb)) (.string nm) false).run Tryz.prog w'=.ok (.agg #[.int .i64 (x0:Nat),.int .i64 (x1:Nat),.int .i64 (x2:Nat),.int .i64 (x3:Nat),.slice ba bk bc]) w')∧w'.cell? ⟨W.heap.size,1,none⟩=some (.string nm)∧W.heap.size<w'.heap.size):=fun w' h=>⟨h,(KP.out w' (btr hWV h)).2,(h.cell (p:=⟨W.heap.size,1,none⟩) b1.lt).trans (b1.cell 1),Nat.lt_of_lt_of_le b1.lt h.size⟩
 have HBX:Hid (∀V2,V2=(V.alloc (.cells (mnC x0 x1 x2 x3 ba bk bc) 109)).drew→WB W V2 #[.string k,.string nm,.slice aa ar.length ac,.int .i64 nu,.int .i64 ro,.int .i64 pc] #[.int .i64 p,.int .i64 (n:Nat),.bool g,.int .u64 (m:Nat),.int .u64 (v:Nat)] #[.int .i64 p2,.int .i64 (n2:Nat),.bool g2,.int .u64 (m2:Nat),.int .u64 (v2:Nat)] (mnC x0 x1 x2 x3 ba bk bc)):=fun V2 e=>by
  have hB2:Below V.heap.size V V2:=by rw [e];exact below_drew (bal (Below.refl _ _) _)
  refine ⟨btr hWV hB2,(hB2.block _ b1.lt).trans b1,(hB2.block _ b2.lt).trans b2,(hB2.block _ b3.lt).trans b3,(hB2.block _ b4.lt).trans b4,?_,?_⟩
  ·rw [e,←hVs];exact (bk_new V _ _).drew
  ·rw [e,←hVs];simp [World.drew]
 rw [show (((W.alloc (.cells #[.string k,.string nm,.slice aa ar.length ac,.int .i64 nu,.int .i64 ro,.int .i64 pc] 79)).alloc (.cells #[.int .i64 p,.int .i64 (n:Nat),.bool g,.int .u64 (m:Nat),.int .u64 (v:Nat)] 69)).alloc (.cells #[.int .i64 p2,.int .i64 (n2:Nat),.bool g2,.int .u64 (m2:Nat),.int .u64 (v2:Nat)] 69)).alloc (.cells pzC 113)=V from hV.symm]
 clear hV hWV b1 b2 b3 b4 KP
 go_region_held3 (fun w'=>Below V.heap.size V w'∧(w'.cell? ⟨lb,0,none⟩=some (.map (some mb))∧lb<w'.heap.size∧(Instr.lookup 60 (.map (some mb)) (.string nm) false).run Tryz.prog w'=.ok (.agg #[.int .i64 (x0:Nat),.int .i64 (x1:Nat),.int .i64 (x2:Nat),.int .i64 (x3:Nat),.slice ba bk bc]) w')∧w'.cell? ⟨W.heap.size,1,none⟩=some (.string nm)∧W.heap.size<w'.heap.size)
  ((refine SK.out _ ?_;first | exact below_drew (Below.refl _ _) | exact below_drew (bal (Below.refl _ _) _) | exact bal (below_drew (Below.refl _ _)) _ | exact bal (And.left (by assumption)) _ | exact And.left (by assumption)))
  (fail)
 all_goals
  obtain ⟨V2,hV2⟩:∃V2,V2=(V.alloc (.cells (mnC x0 x1 x2 x3 ba bk bc) 109)).drew:=⟨_,rfl⟩
  have HX:=hid (HBX.out V2 hV2)
  rw [show (V.alloc (.cells #[.int .i64 (x0:Nat),.int .i64 (x1:Nat),.int .i64 (x2:Nat),.int .i64 (x3:Nat),.slice ba bk bc] 109)).drew=V2 from hV2.symm]
  clear hV2 HBX SK
  clear hVs
  have c1:=HX.out.b1.cell
  have c2:=HX.out.b2.cell
  have c3:=HX.out.b3.cell
  have f3:=HX.out.b3.free
  have f4:=HX.out.b4.free
  have c4:=HX.out.b4.cell
  have c5:=HX.out.b5.cell
  have l1:=HX.out.b1.lt
  have l2:=HX.out.b2.lt
  have l3:=HX.out.b3.lt
  have l4:=HX.out.b4.lt
  have l5:=HX.out.b5.lt
  by_cases h0:x0=2
  case neg=>
   have n1:((x0:Int) != 2)=true:=bne_iff_ne.2 (by omega)
   have hSe:=HN0.out h0
   go_wp2
   refine bodyPost_ret (v:=.tuple #[ppV pp0,.int .i64 110]) (by simp [results,Tryz.results87,go_sem, *]) rfl ?_
   rw [hSe]
   change RowO w0 W (V2.setCells (W.heap.size+1+1+1) 0 (ppc pp0)) lb mb hi (N+2*body.length) (en,g) _ _
   exact rowO_bad HL.out (below_sets HX.out.below (by omega) _) (by decide)
  have n1:((x0:Int) != 2)=false:=by rw [h0];rfl
  obtain ⟨q1,q2,q3,hbad⟩:=HN1.out h0
  by_cases h1:nu<0
  ·have hSe:=hbad (.inl h1)
   go_wp2
   refine bodyPost_ret (v:=.tuple #[ppV pp0,.int .i64 112]) (by simp [results,Tryz.results87,go_sem, *]) rfl ?_
   rw [hSe]
   change RowO w0 W (V2.setCells (W.heap.size+1+1+1) 0 (ppc pp0)) lb mb hi (N+2*body.length) (en,g) _ _
   exact rowO_bad HL.out (below_sets HX.out.below (by omega) _) (by decide)
  obtain ⟨nn,rfl⟩:∃nn:Nat,nu=(nn:Nat):=⟨nu.toNat,by omega⟩
  by_cases h2:2 ^ x2≤nn
  ·have hSe:=hbad (.inr (by exact_mod_cast h2))
   have n2':((nn:Int) / 2 ^ x2 != 0)=true:=bne_iff_ne.2 (by rw [div_pow2];have:=Nat.div_pos h2 (Nat.two_pow_pos x2);omega)
   clear h2 h1 hbad
   go_wp2
   refine bodyPost_ret (v:=.tuple #[ppV pp0,.int .i64 112]) (by simp [results,Tryz.results87,go_sem, *]) rfl ?_
   rw [hSe]
   change RowO w0 W (V2.setCells (W.heap.size+1+1+1) 0 (ppc pp0)) lb mb hi (N+2*body.length) (en,g) _ _
   exact rowO_bad HL.out (below_sets HX.out.below (by omega) _) (by decide)
  have n2':((nn:Int) / 2 ^ x2 != 0)=false:=by
   rw [div_pow2,Nat.div_eq_of_lt (by omega)]
   rfl
  go_upto_region 6 with (fail)
  go_quiet (fail)
  go_upto_region 8 with (fail)
  obtain ⟨V3,hV3⟩:∃V3,V3=V2.drewN nq:=⟨_,rfl⟩
  rw [mskA q1,valA q1 (Nat.lt_of_not_le h2),←hV3]
  obtain ⟨M,hM⟩:∃M,M=(2 ^ x2-1)*2 ^ x1:=⟨_,rfl⟩
  obtain ⟨X,hXe⟩:∃X,X=nn*2 ^ x1:=⟨_,rfl⟩
  have hM64:M<18446744073709551616:=by rw [hM];exact msk_lt q1
  have hX64:X<18446744073709551616:=by rw [hXe];exact val_lt q1 (Nat.lt_of_not_le h2)
  have HRR:=hid (HR.out h0 nn rfl (Nat.lt_of_not_le h2) M X hM hXe)
  have HI2:m2=m∧v2=v:=by have:=HI.out;injection this with i1 i2 i3 i4 i5;exact ⟨i4,i5⟩
  rw [←hM,←hXe]
  have a1:=u64_and_nat m M hm hM64
  have a2:=u64_and_nat v M hv hM64
  have a3:=u64_or_nat m2 M (by rw [HI2.1];exact hm) hM64
  have a4:=u64_or_nat v2 X (by rw [HI2.2];exact hv) hX64
  have B3:Hid (Below W.heap.size W V3∧WB W V3 #[.string k,.string nm,.slice aa ar.length ac,.int .i64 (nn:Nat),.int .i64 ro,.int .i64 pc] #[.int .i64 p,.int .i64 (n:Nat),.bool g,.int .u64 (m:Nat),.int .u64 (v:Nat)] #[.int .i64 p2,.int .i64 (n2:Nat),.bool g2,.int .u64 (m2:Nat),.int .u64 (v2:Nat)] (mnC x0 x1 x2 x3 ba bk bc)):=by
   rw [hV3]
   have hx:=HX.out
   exact ⟨⟨hx.below.os,hx.below.tape,hx.below.output,hx.below.size,hx.below.block⟩,⟨hx.below.os,hx.below.tape,hx.below.output,hx.below.size,hx.below.block⟩,hx.b1,hx.b2,hx.b3,hx.b4,hx.b5,hx.size⟩
  have F2:=hid (fun w1 h=>F.out w1 M X h hM64 hX64)
  have hT:((((m&&&M:Nat):Int) != 0)=true∧(((v&&&M:Nat):Int) != (X:Int))=true∧(m&&&M≠0∧v&&&M≠X))∨((((m&&&M:Nat):Int) != 0)=true∧(((v&&&M:Nat):Int) != (X:Int))=false∧¬(m&&&M≠0∧v&&&M≠X))∨((((m&&&M:Nat):Int) != 0)=false∧¬(m&&&M≠0∧v&&&M≠X)):=by
   by_cases g1:m&&&M=0
   ·exact .inr (.inr ⟨by rw [g1];rfl,fun h=>h.1 g1⟩)
   ·have g1':(((m&&&M:Nat):Int) != 0)=true:=bne_iff_ne.2 (by omega)
    by_cases g2:v&&&M=X
    ·exact .inr (.inl ⟨g1',by rw [g2];simp,fun h=>h.2 g2⟩)
    ·exact .inl ⟨g1',bne_iff_ne.2 (by omega),g1,g2⟩
  clear c1 c2 c3 c4 c5 f3 f4 l1 l2 l3 l4 l5 HX HI HI2 hV3 HR HN0 HN1 hbad n1 n2' h0 h1 h2 F
  have c2:=B3.out.2.b2.cell
  have c3:=B3.out.2.b3.cell
  have f3:=B3.out.2.b3.free
  have c4:=B3.out.2.b4.cell
  have f4:=B3.out.2.b4.free
  have l2:=B3.out.2.b2.lt
  have l3:=B3.out.2.b3.lt
  have l4:=B3.out.2.b4.lt
  generalize hMX:rec en ⟨p2,n2,g2,m2|||M,v2|||X⟩ body=T at *
  clear hMX
  generalize hAe:m&&&M=A at *
  generalize hBe:v&&&M=B at *
  generalize hCe:m2|||M=C at *
  generalize hDe:v2|||X=D at *
  clear hAe hBe hCe hDe hM hXe
  have H4:Hid (∀V4,V4=(V3.setCell ⟨W.heap.size+1+1,3,none⟩ (.int .u64 (C:Nat))).setCell ⟨W.heap.size+1+1,4,none⟩ (.int .u64 (D:Nat))→Below W.heap.size W V4∧BK V4 (W.heap.size+1) #[.int .i64 p,.int .i64 (n:Nat),.bool g,.int .u64 (m:Nat),.int .u64 (v:Nat)] 69∧BK V4 (W.heap.size+1+1+1) pzC 113∧V4.heap.size=W.heap.size+1+1+1+1+1):=fun V4 e=>by
   rw [e]
   refine ⟨below_fr B3.out.1 (((Fr.refl V3 (W.heap.size+1+1) (W.heap.size+1+1+1)).set (W.heap.size+1+1) 3 _ (.inl ⟨Nat.le_refl _,Nat.lt_succ_self _⟩)).set (W.heap.size+1+1) 4 _ (.inl ⟨Nat.le_refl _,Nat.lt_succ_self _⟩)) (by omega),(B3.out.2.b2.far (by omega) _ _).far (by omega) _ _,(B3.out.2.b4.far (by omega) _ _).far (by omega) _ _,?_⟩
   rw [←B3.out.2.size]
   simp [World.setCell]
  rcases hT with ⟨n3,n4,hif⟩ | ⟨n3,n4,hif⟩ | ⟨n3,hif⟩
  ·go_wp2_with (go_at_call 25;refine Hid.out ?_)
   refine hid ?_
   obtain ⟨V4,hV4⟩:∃V4,V4=(V3.setCell ⟨W.heap.size+1+1,3,none⟩ (.int .u64 (C:Nat))).setCell ⟨W.heap.size+1+1,4,none⟩ (.int .u64 (D:Nat)):=⟨_,rfl⟩
   rw [←hV4]
   obtain ⟨hB4,b2,b4,hs4⟩:=H4.out V4 hV4
   clear hV4 c2 c3 f3 c4 f4 l2 l3 l4
   refine (F2.out V4 hB4).mono ?_
   unfold BodyO
   rintro e w1 ⟨hF,hcase⟩
   have hh:hi.h≤W.heap.size:=HL.out.o5
   have k2:BK w1 _ _ 69:=hF.bk b2 (.inr (by show hi.h≤_;omega))
   have k4:BK w1 _ _ 113:=hF.bk b4 (.inr (by show hi.h≤_;omega))
   have d2:=k2.cell
   have d4:=k4.cell
   have f4:=k4.free
   have l2:=k2.lt
   have l4:=k4.lt
   have HFW:Hid (Fr W w1 w0.heap.size hi.h):=(fr_of_below hB4).trans hF
   clear b2 b4 k2 k4 F2 H4 B3 n3 a1 a2 a3 a4
   rcases hcase with ⟨x,v',hT,rfl,⟨a',n',c',rfl⟩,hx,hle⟩ | ⟨en1,L,v',L',pl',N',hT,rfl,hLK,hN',hok1,hpr,hP,hT4⟩
   ·have hSe:=HRR.out.1 x hT
    go_wp2
    refine bodyPost_ret (v:=.tuple #[ppV ⟨⟨p,n,g,m,v⟩,0,⟨#[]⟩,[],none,0,0,0,a',n',c'⟩,.int .i64 (x.2:Nat)]) (by simp [results,Tryz.results87,go_sem,d4]) rfl ?_
    change RowO w0 W (w1.setCells (W.heap.size+1+1+1) 0 (ppc ⟨⟨p,n,g,m,v⟩,0,⟨#[]⟩,[],none,0,0,0,a',n',c'⟩)) lb mb hi (N+2*body.length) (en,g) S _
    have hl0:lb<hi.h:=HL.out.o3
    have gs:=(fr_sets (W.heap.size+1+1+1) (ppc ⟨⟨p,n,g,m,v⟩,0,⟨#[]⟩,[],none,0,0,0,a',n',c'⟩) 0 w1).1
    exact ⟨HFW.out.sets (by omega) _,.inl ⟨x,hSe,⟨_,rfl⟩,hx,hle.fr gs (.inl (by omega)) (.inl (by have:=HL.out.o4;omega))⟩⟩
   ·obtain ⟨hSe,hsub⟩:=HRR.out.2 en1 L hT
    rw [if_pos hif] at hSe
    obtain ⟨a',n',c',rfl,_⟩:=hP.shape
    have HK:=hid hLK
    have HPL:=hid hP
    have HO1:=hid hok1
    clear HRR hLK hP hok1
    go_wp2
    refine bodyPost_ret (v:=.tuple #[ppV ⟨⟨p,n,g,m,v⟩,0,⟨#[]⟩,[],none,0,0,0,a',n',c'⟩,.int .i64 0]) (by simp [results,Tryz.results87,go_sem,d4]) rfl ?_
    change RowO w0 W (w1.setCells (W.heap.size+1+1+1) 0 (ppc ⟨⟨p,n,g,m,v⟩,0,⟨#[]⟩,[],none,0,0,0,a',n',c'⟩)) lb mb hi (N+2*body.length) (en,g) S _
    have gs:=(fr_sets (W.heap.size+1+1+1) (ppc ⟨⟨p,n,g,m,v⟩,0,⟨#[]⟩,[],none,0,0,0,a',n',c'⟩) 0 w1).1
    have hx:∀b,(hi.cut W.heap.size V4.heap.size).G b→b<W.heap.size+1+1+1∨W.heap.size+1+1+1+1≤b:=fun b hb=>by rcases hb.2 with h | h <;> omega
    have hw:∀b,b<(w1.setCells (W.heap.size+1+1+1) 0 (ppc ⟨⟨p,n,g,m,v⟩,0,⟨#[]⟩,[],none,0,0,0,a',n',c'⟩)).heap.size→(hi.cut W.heap.size V4.heap.size).G b→hi.G b:=fun b _ hb=>hb.1
    have hK2:=(HK.out.far gs hx (by show hi.h≤_;omega)).wide (hi2:=hi) rfl hw (fun b hb=>HL.out.up b (Nat.le_trans (Nat.le_trans HFW.out.size gs.size) hb))
    rw [hSe]
    exact ⟨HFW.out.sets (by omega) _,.inr ⟨en1,_,_,pl',N',rfl,rfl,hK2,hN',HO1.out,hpr,rowP_rep0 HMV.out ((HPL.out.far gs hx).wide hw) hT4 hsub⟩⟩
  ·go_wp2_with (go_at_call 25;refine Hid.out ?_)
   refine hid ?_
   obtain ⟨V4,hV4⟩:∃V4,V4=(V3.setCell ⟨W.heap.size+1+1,3,none⟩ (.int .u64 (C:Nat))).setCell ⟨W.heap.size+1+1,4,none⟩ (.int .u64 (D:Nat)):=⟨_,rfl⟩
   rw [←hV4]
   obtain ⟨hB4,b2,b4,hs4⟩:=H4.out V4 hV4
   clear hV4 c2 c3 f3 c4 f4 l2 l3 l4
   refine (F2.out V4 hB4).mono ?_
   unfold BodyO
   rintro e w1 ⟨hF,hcase⟩
   have hh:hi.h≤W.heap.size:=HL.out.o5
   have k2:BK w1 _ _ 69:=hF.bk b2 (.inr (by show hi.h≤_;omega))
   have k4:BK w1 _ _ 113:=hF.bk b4 (.inr (by show hi.h≤_;omega))
   have d2:=k2.cell
   have d4:=k4.cell
   have f4:=k4.free
   have l2:=k2.lt
   have l4:=k4.lt
   have HFW:Hid (Fr W w1 w0.heap.size hi.h):=(fr_of_below hB4).trans hF
   clear b2 b4 k2 k4 F2 H4 B3 n3 a1 a2 a3 a4
   rcases hcase with ⟨x,v',hT,rfl,⟨a',n',c',rfl⟩,hx,hle⟩ | ⟨en1,L,v',L',pl',N',hT,rfl,hLK,hN',hok1,hpr,hP,hT4⟩
   ·have hSe:=HRR.out.1 x hT
    go_wp2
    refine bodyPost_ret (v:=.tuple #[ppV ⟨⟨p,n,g,m,v⟩,0,⟨#[]⟩,[],none,0,0,1,a',n',c'⟩,.int .i64 (x.2:Nat)]) (by simp [results,Tryz.results87,go_sem,d4]) rfl ?_
    change RowO w0 W (w1.setCells (W.heap.size+1+1+1) 0 (ppc ⟨⟨p,n,g,m,v⟩,0,⟨#[]⟩,[],none,0,0,1,a',n',c'⟩)) lb mb hi (N+2*body.length) (en,g) S _
    have hl0:lb<hi.h:=HL.out.o3
    have gs:=(fr_sets (W.heap.size+1+1+1) (ppc ⟨⟨p,n,g,m,v⟩,0,⟨#[]⟩,[],none,0,0,1,a',n',c'⟩) 0 w1).1
    exact ⟨HFW.out.sets (by omega) _,.inl ⟨x,hSe,⟨_,rfl⟩,hx,hle.fr gs (.inl (by omega)) (.inl (by have:=HL.out.o4;omega))⟩⟩
   ·obtain ⟨hSe,hsub⟩:=HRR.out.2 en1 L hT
    rw [if_neg hif] at hSe
    obtain ⟨a',n',c',rfl,_⟩:=hP.shape
    have HK:=hid hLK
    have HPL:=hid hP
    have HO1:=hid hok1
    clear HRR hLK hP hok1
    go_wp2
    refine bodyPost_ret (v:=.tuple #[ppV ⟨⟨p,n,g,m,v⟩,0,⟨#[]⟩,[],none,0,0,1,a',n',c'⟩,.int .i64 0]) (by simp [results,Tryz.results87,go_sem,d4]) rfl ?_
    change RowO w0 W (w1.setCells (W.heap.size+1+1+1) 0 (ppc ⟨⟨p,n,g,m,v⟩,0,⟨#[]⟩,[],none,0,0,1,a',n',c'⟩)) lb mb hi (N+2*body.length) (en,g) S _
    have gs:=(fr_sets (W.heap.size+1+1+1) (ppc ⟨⟨p,n,g,m,v⟩,0,⟨#[]⟩,[],none,0,0,1,a',n',c'⟩) 0 w1).1
    have hx:∀b,(hi.cut W.heap.size V4.heap.size).G b→b<W.heap.size+1+1+1∨W.heap.size+1+1+1+1≤b:=fun b hb=>by rcases hb.2 with h | h <;> omega
    have hw:∀b,b<(w1.setCells (W.heap.size+1+1+1) 0 (ppc ⟨⟨p,n,g,m,v⟩,0,⟨#[]⟩,[],none,0,0,1,a',n',c'⟩)).heap.size→(hi.cut W.heap.size V4.heap.size).G b→hi.G b:=fun b _ hb=>hb.1
    have hK2:=(HK.out.far gs hx (by show hi.h≤_;omega)).wide (hi2:=hi) rfl hw (fun b hb=>HL.out.up b (Nat.le_trans (Nat.le_trans HFW.out.size gs.size) hb))
    rw [hSe]
    exact ⟨HFW.out.sets (by omega) _,.inr ⟨en1,_,_,pl',N',rfl,rfl,hK2,hN',HO1.out,hpr,rowP_rep1 HMV.out ((HPL.out.far gs hx).wide hw) hT4 hsub⟩⟩
  ·go_wp2_with (go_at_call 25;refine Hid.out ?_)
   refine hid ?_
   obtain ⟨V4,hV4⟩:∃V4,V4=(V3.setCell ⟨W.heap.size+1+1,3,none⟩ (.int .u64 (C:Nat))).setCell ⟨W.heap.size+1+1,4,none⟩ (.int .u64 (D:Nat)):=⟨_,rfl⟩
   rw [←hV4]
   obtain ⟨hB4,b2,b4,hs4⟩:=H4.out V4 hV4
   clear hV4 c2 c3 f3 c4 f4 l2 l3 l4
   refine (F2.out V4 hB4).mono ?_
   unfold BodyO
   rintro e w1 ⟨hF,hcase⟩
   have hh:hi.h≤W.heap.size:=HL.out.o5
   have k2:BK w1 _ _ 69:=hF.bk b2 (.inr (by show hi.h≤_;omega))
   have k4:BK w1 _ _ 113:=hF.bk b4 (.inr (by show hi.h≤_;omega))
   have d2:=k2.cell
   have d4:=k4.cell
   have f4:=k4.free
   have l2:=k2.lt
   have l4:=k4.lt
   have HFW:Hid (Fr W w1 w0.heap.size hi.h):=(fr_of_below hB4).trans hF
   clear b2 b4 k2 k4 F2 H4 B3 n3 a1 a2 a3 a4
   rcases hcase with ⟨x,v',hT,rfl,⟨a',n',c',rfl⟩,hx,hle⟩ | ⟨en1,L,v',L',pl',N',hT,rfl,hLK,hN',hok1,hpr,hP,hT4⟩
   ·have hSe:=HRR.out.1 x hT
    go_wp2
    refine bodyPost_ret (v:=.tuple #[ppV ⟨⟨p,n,g,m,v⟩,0,⟨#[]⟩,[],none,0,0,1,a',n',c'⟩,.int .i64 (x.2:Nat)]) (by simp [results,Tryz.results87,go_sem,d4]) rfl ?_
    change RowO w0 W (w1.setCells (W.heap.size+1+1+1) 0 (ppc ⟨⟨p,n,g,m,v⟩,0,⟨#[]⟩,[],none,0,0,1,a',n',c'⟩)) lb mb hi (N+2*body.length) (en,g) S _
    have hl0:lb<hi.h:=HL.out.o3
    have gs:=(fr_sets (W.heap.size+1+1+1) (ppc ⟨⟨p,n,g,m,v⟩,0,⟨#[]⟩,[],none,0,0,1,a',n',c'⟩) 0 w1).1
    exact ⟨HFW.out.sets (by omega) _,.inl ⟨x,hSe,⟨_,rfl⟩,hx,hle.fr gs (.inl (by omega)) (.inl (by have:=HL.out.o4;omega))⟩⟩
   ·obtain ⟨hSe,hsub⟩:=HRR.out.2 en1 L hT
    rw [if_neg hif] at hSe
    obtain ⟨a',n',c',rfl,_⟩:=hP.shape
    have HK:=hid hLK
    have HPL:=hid hP
    have HO1:=hid hok1
    clear HRR hLK hP hok1
    go_wp2
    refine bodyPost_ret (v:=.tuple #[ppV ⟨⟨p,n,g,m,v⟩,0,⟨#[]⟩,[],none,0,0,1,a',n',c'⟩,.int .i64 0]) (by simp [results,Tryz.results87,go_sem,d4]) rfl ?_
    change RowO w0 W (w1.setCells (W.heap.size+1+1+1) 0 (ppc ⟨⟨p,n,g,m,v⟩,0,⟨#[]⟩,[],none,0,0,1,a',n',c'⟩)) lb mb hi (N+2*body.length) (en,g) S _
    have gs:=(fr_sets (W.heap.size+1+1+1) (ppc ⟨⟨p,n,g,m,v⟩,0,⟨#[]⟩,[],none,0,0,1,a',n',c'⟩) 0 w1).1
    have hx:∀b,(hi.cut W.heap.size V4.heap.size).G b→b<W.heap.size+1+1+1∨W.heap.size+1+1+1+1≤b:=fun b hb=>by rcases hb.2 with h | h <;> omega
    have hw:∀b,b<(w1.setCells (W.heap.size+1+1+1) 0 (ppc ⟨⟨p,n,g,m,v⟩,0,⟨#[]⟩,[],none,0,0,1,a',n',c'⟩)).heap.size→(hi.cut W.heap.size V4.heap.size).G b→hi.G b:=fun b _ hb=>hb.1
    have hK2:=(HK.out.far gs hx (by show hi.h≤_;omega)).wide (hi2:=hi) rfl hw (fun b hb=>HL.out.up b (Nat.le_trans (Nat.le_trans HFW.out.size gs.size) hb))
    rw [hSe]
    exact ⟨HFW.out.sets (by omega) _,.inr ⟨en1,_,_,pl',N',rfl,rfl,hK2,hN',HO1.out,hpr,rowP_rep1 HMV.out ((HPL.out.far gs hx).wide hw) hT4 hsub⟩⟩
end Go.Proofs.YtdjfpghgklkejaaGreatDoor
