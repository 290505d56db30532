/-
  Put together of: FA.
-/
import Derived.Test.YtdjfpghgklkejaaGreatDoorYT
namespace Go.Proofs.YtdjfpghgklkejaaGreatDoor
open Go.RowKit Go.Sort
def BodyO (w0 W W':World) (lb mb:Nat) (hi:HG) (M:Nat) (pr:En × Bool) (S:Except Fa (En × List TO)) (e:Ending):Prop:=
 Fr W W' w0.heap.size hi.h∧((∃x v,S=.error x∧e=.returned (.tuple #[v,.int .i64 (x.2:Nat)])∧(∃a n c,v=.slice a n c)∧x.2≠0∧LE W' lb mb M x.1) ∨
  (∃en1 L v L' pl N,S=.ok (en1,L)∧e=.returned (.tuple #[v,.int .i64 0])∧LK w0 W' lb mb hi N en1 pl∧N≤M∧EnOk en1∧Nx pr en1∧PL W' hi (nq pr.2 en1) v L'∧T4 L' L))
def SzR (rs:List Rw):Prop:=∀r∈rs,r.name.size≤maxLen∧r.args.length≤6000000000000∧(∀a∈r.args,a.n.size≤maxLen)∧ -9223372036854775808≤r.num∧r.num≤9223372036854775807∧ -9223372036854775808≤r.rows∧r.rows≤9223372036854775807
def FBody (w0:World) (lb mb K:Nat) (rec:RecT):Prop:=
 ∀(W:World) (hi:HG) (N:Nat) (en:En) (pl:Int) (v:Value) (rs:List Rw) (sd:Sd),LK w0 W lb mb hi N en pl→EnOk en→SR w0 v rs→rs.length<K→SzR rs→(sd.g=true→en.pr≠[]∧sd.n≠0)→sd.n≤6000000000000→sd.m<18446744073709551616→sd.v<18446744073709551616→N+2*rs.length<4611686018427387904 →
  Calls Tryz.prog 25 #[.pointer (some ⟨lb,0,none⟩),v,sdV sd] W fun e W'=>BodyO w0 W W' lb mb hi (N+2*rs.length) (en,sd.g) (rec en sd rs) e
def repR (rec:RecT) (en:En) (sd:Sd) (r:Rw) (body:List Rw):Except Fa (En × List TO):=
 if r.num<0 then .error (sd.p,112) else
  match rec en (deeper sd) body with
  | .error e=>.error e
  | .ok (en1,L)=>.ok (en1,(List.replicate r.num.toNat L).flatten)
theorem Fr.sets {V W:World} {lo hi b:Nat} (h:Fr V W lo hi) (hb:V.heap.size≤b) (us:List Value):Fr V (W.setCells b 0 us) lo hi:=by
 have g:=(fr_sets b us 0 W).1
 exact ⟨g.os.trans h.os,g.tape.trans h.tape,g.output.trans h.output,Nat.le_trans h.size g.size,fun k hk hw=>(g.block k (Nat.lt_of_lt_of_le hk h.size) (.inl (by omega))).trans (h.block k hk hw)⟩
theorem sub_nil {st:Option Sd} {L:List TO} (h:∀t∈L,t.st≠none∨st=none):L.map (subT [] st)=L:=by
 conv=>rhs;rw [←List.map_id L]
 refine List.map_congr_left fun t ht=>?_
 obtain ⟨k,n,qs,b,so⟩:=t
 rcases h _ ht with h | h
 ·cases so with
  | none=>exact absurd rfl h
  | some s=>rfl
 ·subst h
  cases so <;> rfl
def RecSt (rec:RecT):Prop:=∀en sd rs en1 L,rec en sd rs=.ok (en1,L)→sd.g=false→∀t∈L,t.st≠none
theorem RecSt.sub {rec:RecT} (h:RecSt rec) {en en1:En} {sd sd':Sd} {rs:List Rw} {L:List TO} (hr:rec en sd rs=.ok (en1,L)) (hg:sd'.g=sd.g):L.map (subT [] (stO sd'))=L:=by
 refine sub_nil fun t ht=>?_
 cases e:sd.g with
 | false=>exact .inl (h _ _ _ _ _ hr e t ht)
 | true=>exact .inr (by unfold stO;rw [hg,e];rfl)
theorem uns_sub {L:List TO} (h:UnS L) (qs:List Int) (so:Option Sd):UnS (L.map (subT qs so)):=by
 cases so with
 | some s=>
  refine .inr fun t ht=>?_
  obtain ⟨u,_,rfl⟩:=List.mem_map.1 ht
  unfold subT
  cases u.st with
  | none=>exact fun h=>by cases h
  | some s=>exact fun h=>by cases h
 | none=>
  have e:∀u:TO,(subT qs none u).st=u.st:=fun u=>by unfold subT;cases u.st <;> rfl
  rcases h with h | h
  ·refine .inl fun t ht=>?_
   obtain ⟨u,hu,rfl⟩:=List.mem_map.1 ht
   rw [e]
   exact h u hu
  ·refine .inr fun t ht=>?_
   obtain ⟨u,hu,rfl⟩:=List.mem_map.1 ht
   rw [e]
   exact h u hu
theorem uns_rep {L:List TO} (h:UnS L) (n:Nat):UnS (List.replicate n L).flatten:=by
 have e:∀t∈(List.replicate n L).flatten,t∈L:=fun t ht=>by
  obtain ⟨l,hl,ht⟩:=List.mem_flatten.1 ht
  rw [(List.mem_replicate.1 hl).2] at ht
  exact ht
 rcases h with h | h
 ·exact .inl fun t ht=>h t (e t ht)
 ·exact .inr fun t ht=>h t (e t ht)
theorem rowP_rep {W:World} {n nn:Nat} {hi:HG} {sd:Sd} {a:Option Addr} {k c:Nat} {L L':List TO} (hn:(n:Int)≤9223372036854775807) (hmv:sd.m<18446744073709551616∧sd.v<18446744073709551616) (hp:PL W hi nn (.slice a k c) L') (ht:T4 L' L) (hs:L.map (subT [] (stO sd))=L) :
  RowP W hi nn ⟨sd,0,⟨#[]⟩,[],none,0,0,(n:Int),a,k,c⟩ (List.replicate n L).flatten:=by
 obtain ⟨a',k',c',e,_,hz⟩:=hp.shape
 cases e
 have h1:=ht.map (subT [] (stO sd))
 rw [hs] at h1
 refine ⟨L',_,⟨⟨Nat.le_refl _,fun k hk=>absurd hk (Nat.not_lt_zero _)⟩,fun b o e=>by cases e⟩,hp,rfl,?_,?_,⟨by simp,Nat.zero_le _,hn,fun h=>absurd rfl h,hmv,fun j hj=>by cases hj⟩,?_⟩
 ·show T4 (mean _ L') _
  unfold mean
  simp only [ne_eq,not_true_eq_false,if_false,List.nil_append,Int.toNat_natCast]
  exact h1.rep n
 ·show _↔mean _ L'=[]
  unfold mean
  simp only [ne_eq,not_true_eq_false,if_false,List.nil_append,Int.toNat_natCast,true_and]
  rw [hz]
  constructor
  ·rintro (h | h)
   ·have:n=0:=by omega
    subst this
    rfl
   ·rw [h]
    simp
  ·intro h
   rcases Nat.eq_zero_or_pos n with h0 | h0
   ·exact .inl (by omega)
   ·right
    obtain ⟨m,rfl⟩:∃m,n=m+1:=⟨n-1,by omega⟩
    rw [List.replicate_succ,List.flatten_cons] at h
    have:=(List.append_eq_nil_iff.1 h).1
    simpa using this
 ·show UnS (mean _ L')
  unfold mean
  simp only [ne_eq,not_true_eq_false,if_false,List.nil_append,Int.toNat_natCast]
  exact uns_rep (uns_sub hp.uns _ _) n
abbrev pzC:Array Value:=#[.int .i64 0,.int .i64 0,.bool false,.int .u64 0,.int .u64 0,.int .i64 0,.string ⟨#[]⟩,.slice none 0 0,.int .i64 0,.bool false,.int .u64 0,.int .u64 0,.int .i64 0,.slice none 0 0]
set_option maxHeartbeats 8000000 in
theorem repeat_any {w0 W:World} {lb mb N K:Nat} {hi:HG} {en:En} {pl:Int} {rec:RecT} (HB:FBody w0 lb mb K rec) (HS:RecSt rec) (H:LK w0 W lb mb hi N en pl) (hok:EnOk en) (r:Rw) (aa:Option Addr) (ac:Nat) (bv:Value) (body:List Rw) (hbv:SR w0 bv body) (hK:body.length<K) (hz:SzR body) (sd ins:Sd) (hins:ins=deeper sd) (hsp:sd.p=pl)
  (hr0: -9223372036854775808≤r.num) (hr1:r.num≤9223372036854775807) (hg:sd.g=true→en.pr≠[]) (hn:sd.n<6000000000000) (hm:sd.m<18446744073709551616) (hv:sd.v<18446744073709551616) (hN:N+2*body.length<4611686018427387904) :
  Calls Tryz.prog 86 #[.pointer (some ⟨lb,0,none⟩),rwV r aa ac,bv,sdV sd,sdV ins] W fun e W'=>RowO w0 W W' lb mb hi (N+2*body.length) (en,sd.g) (repR rec en sd r body) e:=by
 have HL:=hid H
 have F:=fun w1 (h:Below W.heap.size W w1)=>HB w1 _ N en pl bv body ins (H.cut h) hok hbv hK hz (by rw [hins];exact fun h=>⟨hg h,Nat.succ_ne_zero _⟩) (by rw [hins];show sd.n+1≤_;omega) (by rw [hins];exact hm) (by rw [hins];exact hv) hN
 have HREC:Hid (∀en1 L,rec en ins body=.ok (en1,L)→L.map (subT [] (stO sd))=L):=fun en1 L h=>HS.sub h (by rw [hins];rfl)
 have HR1:Hid (∀x,rec en ins body=.error x→¬r.num<0→repR rec en sd r body=.error x):=fun x h h2=>by unfold repR;rw [if_neg h2,←hins,h]
 have HR2:Hid (∀en1 L,rec en ins body=.ok (en1,L)→¬r.num<0→repR rec en sd r body=.ok (en1,(List.replicate r.num.toNat L).flatten)):=fun en1 L h h2=>by unfold repR;rw [if_neg h2,←hins,h]
 have HR0:Hid (r.num<0→repR rec en sd r body=.error (sd.p,112)):=fun h=>by unfold repR;rw [if_pos h]
 rw [show ins.g=sd.g by rw [hins];rfl] at F
 have HMV:=hid (And.intro hm hv)
 unfold BodyO at F
 obtain ⟨S,hS⟩:∃S,S=repR rec en sd r body:=⟨_,rfl⟩
 rw [←hS] at HR0 HR1 HR2 ⊢
 clear hins
 generalize rec en ins body=T at *
 obtain ⟨ba,bn,bc,rfl⟩:∃a n c,bv=.slice a n c:=by obtain ⟨a,c,vs,e,_⟩:=hbv;exact ⟨_,_,_,e⟩
 obtain ⟨k,nm,ar,nu,ro,pc⟩:=r
 obtain ⟨p,n,g,m,v⟩:=sd
 obtain ⟨p2,n2,g2,m2,v2⟩:=ins
 simp only at *
 clear hS HB HS H hbv hz hok hg hm hv hK
 subst hsp
 by_cases h0:nu<0
 ·have hSe:=HR0.out h0
  clear HR0 HR1 HR2 F HREC
  go_enter Tryz.func86,Tryz.ntmps86
  go_wp2
  refine bodyPost_ret (v:=.tuple #[ppV pp0,.int .i64 112]) (by simp [results,Tryz.results86,go_sem]) rfl ?_
  rw [hSe]
  exact rowO_bad HL.out (bal (bal (bal (bal (Below.refl _ _) _) _) _) _) (by decide)
 ·obtain ⟨nn,rfl⟩:∃nn:Nat,nu=(nn:Nat):=⟨nu.toNat,by omega⟩
  clear HR0
  obtain ⟨V,hV⟩:∃V,V=(((W.alloc (.cells #[.string k,.string nm,.slice aa ar.length ac,.int .i64 (nn:Nat),.int .i64 ro,.int .i64 pc] 79)).alloc (.cells #[.int .i64 p,.int .i64 (n:Nat),.bool g,.int .u64 (m:Nat),.int .u64 (v:Nat)] 69)).alloc (.cells #[.int .i64 p2,.int .i64 (n2:Nat),.bool g2,.int .u64 (m2:Nat),.int .u64 (v2:Nat)] 69)).alloc (.cells pzC 113):=⟨_,rfl⟩
  have hBV:Below W.heap.size W V:=by rw [hV];exact bal (bal (bal (bal (Below.refl _ _) _) _) _) _
  have b1:BK V W.heap.size #[.string k,.string nm,.slice aa ar.length ac,.int .i64 (nn:Nat),.int .i64 ro,.int .i64 pc] 79:=by rw [hV];exact (((bk_new W _ _).alloc _).alloc _).alloc _
  have b2:BK V (W.heap.size+1) #[.int .i64 p,.int .i64 (n:Nat),.bool g,.int .u64 (m:Nat),.int .u64 (v:Nat)] 69:=by rw [hV];exact ((bk_at _ _ (by simp)).alloc _).alloc _
  have b4:BK V (W.heap.size+1+1+1) pzC 113:=by rw [hV];exact bk_at _ _ (by simp)
  have hVs:V.heap.size=W.heap.size+1+1+1+1:=by rw [hV];simp
  have FV:=F V hBV
  have HV:=hid hV
  have hh:hi.h≤W.heap.size:=HL.out.o5
  clear hV F
  go_enter Tryz.func86,Tryz.ntmps86
  go_wp2_with (go_at_call 25;refine Hid.out ?_)
  refine hid ?_
  rw [show (((W.alloc (.cells #[.string k,.string nm,.slice aa ar.length ac,.int .i64 (nn:Nat),.int .i64 ro,.int .i64 pc] 79)).alloc (.cells #[.int .i64 p,.int .i64 (n:Nat),.bool g,.int .u64 (m:Nat),.int .u64 (v:Nat)] 69)).alloc (.cells #[.int .i64 p2,.int .i64 (n2:Nat),.bool g2,.int .u64 (m2:Nat),.int .u64 (v2:Nat)] 69)).alloc (.cells pzC 113)=V from HV.out.symm]
  refine FV.mono ?_
  rintro e w1 ⟨hF,hcase⟩
  have c1:BK w1 _ _ 79:=hF.bk b1 (.inr hh)
  have c2:BK w1 _ _ 69:=hF.bk b2 (.inr (by show hi.h≤_;omega))
  have c4:BK w1 _ _ 113:=hF.bk b4 (.inr (by show hi.h≤_;omega))
  have d1:=c1.cell
  have d2:=c2.cell
  have d4:=c4.cell
  have f4:=c4.free
  have l1:=c1.lt
  have l2:=c2.lt
  have l4:=c4.lt
  have HFW:Hid (Fr W w1 w0.heap.size hi.h):=(fr_of_below hBV).trans hF
  clear b1 b2 b4 c1 c2 c4 HV FV
  rcases hcase with ⟨x,v',hT,rfl,⟨a',n',c',rfl⟩,hx,hle⟩ | ⟨en1,L,v',L',pl',N',hT,rfl,hLK,hN',hok1,hpr,hP,hT4⟩
  ·have hSe:=HR1.out x hT h0
   clear HR1 HR2 HREC
   go_wp2
   refine bodyPost_ret (v:=.tuple #[ppV ⟨⟨p,n,g,m,v⟩,0,⟨#[]⟩,[],none,0,0,(nn:Int),a',n',c'⟩,.int .i64 (x.2:Nat)]) (by simp [results,Tryz.results86,go_sem, *]) rfl ?_
   change RowO w0 W (w1.setCells (W.heap.size+1+1+1) 0 (ppc ⟨⟨p,n,g,m,v⟩,0,⟨#[]⟩,[],none,0,0,(nn:Int),a',n',c'⟩)) lb mb hi (N+2*body.length) (en,g) S _
   have hl0:lb<hi.h:=HL.out.o3
   have gs:=(fr_sets (W.heap.size+1+1+1) (ppc ⟨⟨p,n,g,m,v⟩,0,⟨#[]⟩,[],none,0,0,(nn:Int),a',n',c'⟩) 0 w1).1
   exact ⟨HFW.out.sets (by omega) _,.inl ⟨x,hSe,⟨_,rfl⟩,hx,hle.fr gs (.inl (by omega)) (.inl (by have:=HL.out.o4;omega))⟩⟩
  ·have hSe:=HR2.out en1 L hT h0
   have hsub:=HREC.out en1 L hT
   obtain ⟨a',n',c',rfl,_⟩:=hP.shape
   have HK:=hid hLK
   have HPL:=hid hP
   have HO1:=hid hok1
   clear HR1 HR2 HREC hLK hP hok1
   go_wp2
   refine bodyPost_ret (v:=.tuple #[ppV ⟨⟨p,n,g,m,v⟩,0,⟨#[]⟩,[],none,0,0,(nn:Int),a',n',c'⟩,.int .i64 0]) (by simp [results,Tryz.results86,go_sem,d4]) rfl ?_
   change RowO w0 W (w1.setCells (W.heap.size+1+1+1) 0 (ppc ⟨⟨p,n,g,m,v⟩,0,⟨#[]⟩,[],none,0,0,(nn:Int),a',n',c'⟩)) lb mb hi (N+2*body.length) (en,g) S _
   have gs:=(fr_sets (W.heap.size+1+1+1) (ppc ⟨⟨p,n,g,m,v⟩,0,⟨#[]⟩,[],none,0,0,(nn:Int),a',n',c'⟩) 0 w1).1
   have hx:∀b,(hi.cut W.heap.size V.heap.size).G b→b<W.heap.size+1+1+1∨W.heap.size+1+1+1+1≤b:=fun b hb=>by rcases hb.2 with h | h <;> omega
   have hw:∀b,b<(w1.setCells (W.heap.size+1+1+1) 0 (ppc ⟨⟨p,n,g,m,v⟩,0,⟨#[]⟩,[],none,0,0,(nn:Int),a',n',c'⟩)).heap.size→(hi.cut W.heap.size V.heap.size).G b→hi.G b:=fun b _ hb=>hb.1
   have hK2:=(HK.out.far gs hx (by show hi.h≤_;omega)).wide (hi2:=hi) rfl hw (fun b hb=>HL.out.up b (Nat.le_trans (Nat.le_trans HFW.out.size gs.size) hb))
   rw [hSe,Int.toNat_natCast]
   exact ⟨HFW.out.sets (by omega) _,.inr ⟨en1,_,_,pl',N',rfl,rfl,hK2,hN',HO1.out,hpr,rowP_rep hr1 HMV.out ((HPL.out.far gs hx).wide hw) hT4 hsub⟩⟩
end Go.Proofs.YtdjfpghgklkejaaGreatDoor
