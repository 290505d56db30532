/-
  Put together of: F6 F7 F8.
-/
import Derived.Test.YtdjfpghgklkejaaGreatDoorYF
namespace Go.Proofs.YtdjfpghgklkejaaGreatDoor
open Go.RowKit Go.Sort
abbrev arV (a:Ar):Value:=.agg #[.string a.n,.int .i64 a.x]
def errN:Except Nat Nat→Nat
 | .error e=>e
 | .ok _=>0
def valE:Except Nat Nat→Nat
 | .error _=>0
 | .ok n=>n
structure EnOk (en:En):Prop where
 q:en.q≤64
 b:en.b≤64
 f:∀s m,en.nm s=some m→m.f≤64∧m.z≤6000000000000∧(m.s=1∨m.s=2→m.f+m.z≤64)∧m.d≤32∧m.s≠0∧m.s≤5
 d:en.d≤32
 r:∀s m,en.nm s=some m→m.s=1→m.f+m.z≤en.q
 l:∀s m,en.nm s=some m→∀t∈m.l,t.st=none
 z:∀s m,en.nm s=some m→m.s=3→0<m.z∧s.size≤281474976710656
theorem el_lt {en:En} {a:Ar} {q:Nat} (hok:EnOk en) (h:elE en a 1=.ok q):q<en.q:=by
 unfold elE at h
 split at h
 ·rename_i m hm
  split at h
  ·rename_i hs
   split at h
   ·cases h
   ·cases h
    have:=hok.r _ m hm hs
    omega
  ·cases h
 ·cases h
def nq (g:Bool) (en:En):Nat:=if g=true then en.pr.length else en.q
def Nx (pr:En × Bool) (en1:En):Prop:=(pr.2=true→en1.pr=pr.1.pr)∧pr.1.q≤en1.q
theorem nx_refl (en:En) (g:Bool):Nx (en,g) en:=⟨fun _=>rfl,Nat.le_refl _⟩
theorem Nx.nq {en en1:En} {g:Bool} (h:Nx (en,g) en1):nq g en≤nq g en1:=by
 unfold Go.Proofs.YtdjfpghgklkejaaGreatDoor.nq
 cases g with
 | true=>rw [if_pos rfl,if_pos rfl,h.1 rfl];exact Nat.le_refl _
 | false=>exact h.2
theorem Nx.trans {en en1 en2:En} {g:Bool} (h:Nx (en,g) en1) (h':Nx (en1,g) en2):Nx (en,g) en2:=⟨fun hg=>(h'.1 hg).trans (h.1 hg),Nat.le_trans h.2 h'.2⟩
set_option maxHeartbeats 4000000 in
theorem element_any {w0 W:World} {lb mb N:Nat} {hi:HG} {en:En} {pl:Int} (H:LK w0 W lb mb hi N en pl) (hok:EnOk en) (a:Ar) (hs:a.n.size≤maxLen) (s:Nat) (hs0:s=1∨s=2) :
  Calls Tryz.prog 139 #[.pointer (some ⟨lb,0,none⟩),arV a,.int .i64 (s:Nat)] W fun e W'=>e=.returned (.tuple #[.int .i64 (valE (elE en a s):Nat),.int .i64 (errN (elE en a s):Nat)])∧Below W.heap.size W W':=by
 obtain ⟨x0,x1,x2,x3,ba,bk,bc,L',hL,hx0,hsome,hnone,hP⟩:=H.name a.n hs
 obtain ⟨pv,k1,_⟩:=H.box
 have hmb:mb<W.heap.size:=Nat.lt_of_lt_of_le H.o4 H.o5
 have hres:(x0≠s∧elE en a s=.error 110)∨(x0=s∧(a.x<0∨(x2:Int)≤a.x)∧elE en a s=.error 112)∨(x0=s∧¬a.x<0∧¬(x2:Int)≤a.x∧elE en a s=.ok (x1+a.x.toNat)∧x1≤64∧x2≤64):=by
  unfold elE
  cases e:en.nm a.n with
  | none=>
   have:x0=0:=by rw [hx0];unfold srt;rw [e];rfl
   exact .inl ⟨by omega,rfl⟩
  | some m=>
   have e0:x0=m.s:=by rw [hx0];unfold srt;rw [e];rfl
   obtain ⟨e1,e2,_,_⟩:=hsome m e
   obtain ⟨f1,f2,f3,_⟩:=hok.f _ m e
   by_cases h1:m.s=s
   ·have f4:=f3 (by omega)
    by_cases h2:a.x<0∨(m.z:Int)≤a.x
    ·exact .inr (.inl ⟨by omega,by rw [e2];exact h2,by simp [h1,h2]⟩)
    ·have h3:¬a.x<0:=fun h=>h2 (.inl h)
     have h4:¬(m.z:Int)≤a.x:=fun h=>h2 (.inr h)
     exact .inr (.inr ⟨by omega,h3,by rw [e2];exact h4,by simp [h1,h3,h4,e1],by omega,by omega⟩)
   ·exact .inl ⟨by omega,by simp [h1]⟩
 have hsu:(x0:Int)=(s:Int)↔x0=s:=by omega
 have c0:W.cell? ⟨lb,0,none⟩=some (.map (some mb)):=k1.cell 0
 have l0:=k1.lt
 have hM:=H
 clear hx0 hsome hnone hP H hok k1
 obtain ⟨an,ax⟩:=a
 simp only at *
 have KP:∀w',Below W.heap.size W w'→Below W.heap.size W w'∧w'.cell? ⟨lb,0,none⟩=some (.map (some mb))∧lb<w'.heap.size∧(Instr.lookup 60 (.map (some mb)) (.string an) false).run Tryz.prog w'=.ok (.agg #[.int .i64 (x0:Nat),.int .i64 (x1:Nat),.int .i64 (x2:Nat),.int .i64 (x3:Nat),.slice ba bk bc]) w':=fun w' h=>⟨h,(h.cell (p:=⟨lb,0,none⟩) l0).trans c0,Nat.lt_of_lt_of_le l0 h.size,hL w' (h.block _ hmb)⟩
 have HKP:Hid (∀w',Below W.heap.size W w'→Below W.heap.size W w'∧w'.cell? ⟨lb,0,none⟩=some (.map (some mb))∧lb<w'.heap.size∧(Instr.lookup 60 (.map (some mb)) (.string an) false).run Tryz.prog w'=.ok (.agg #[.int .i64 (x0:Nat),.int .i64 (x1:Nat),.int .i64 (x2:Nat),.int .i64 (x3:Nat),.slice ba bk bc]) w'):=KP
 clear KP hM hL
 obtain ⟨X,hX⟩:∃X,X=elE en ⟨an,ax⟩ s:=⟨_,rfl⟩
 rw [←hX] at hres ⊢
 clear hX
 go_enter Tryz.func139,Tryz.ntmps139
 go_upto_region 1 with (fail)
 obtain ⟨V,hV⟩:∃V,V=W.alloc (.cells #[.string an,.int .i64 ax] 100):=⟨_,rfl⟩
 have bV:BK V W.heap.size #[.string an,.int .i64 ax] 100:=by rw [hV];exact bk_new _ _ _
 have hWV:Below W.heap.size W V:=by rw [hV];exact bal (Below.refl _ _) _
 have SK:Hid (∀w',Below V.heap.size V w'→Below V.heap.size V w'∧(w'.cell? ⟨lb,0,none⟩=some (.map (some mb))∧lb<w'.heap.size∧(Instr.lookup 60 (.map (some mb)) (.string an) false).run Tryz.prog w'=.ok (.agg #[.int .i64 (x0:Nat),.int .i64 (x1:Nat),.int .i64 (x2:Nat),.int .i64 (x3:Nat),.slice ba bk bc]) w')∧w'.cell? ⟨W.heap.size,0,none⟩=some (.string an)∧W.heap.size<w'.heap.size):=fun w' h=>⟨h,(HKP.out w' (btr hWV h)).2,(h.cell (p:=⟨W.heap.size,0,none⟩) bV.lt).trans (bV.cell 0),Nat.lt_of_lt_of_le bV.lt h.size⟩
 rw [←hV]
 have HBV:=hid bV
 have HWV:=hid hWV
 clear hV c0 l0 bV hWV
 go_region_held3 (fun w'=>Below V.heap.size V w'∧(w'.cell? ⟨lb,0,none⟩=some (.map (some mb))∧lb<w'.heap.size∧(Instr.lookup 60 (.map (some mb)) (.string an) false).run Tryz.prog w'=.ok (.agg #[.int .i64 (x0:Nat),.int .i64 (x1:Nat),.int .i64 (x2:Nat),.int .i64 (x3:Nat),.slice ba bk bc]) w')∧w'.cell? ⟨W.heap.size,0,none⟩=some (.string an)∧W.heap.size<w'.heap.size)
  ((refine SK.out _ ?_;first | exact below_drew (Below.refl _ _) | exact below_drew (bal (Below.refl _ _) _) | exact bal (below_drew (Below.refl _ _)) _ | exact bal (And.left (by assumption)) _ | exact And.left (by assumption)))
  (fail)
 all_goals
  obtain ⟨V2,hV2⟩:∃V2,V2=(V.alloc (.cells #[.int .i64 (x0:Nat),.int .i64 (x1:Nat),.int .i64 (x2:Nat),.int .i64 (x3:Nat),.slice ba bk bc] 109)).drew:=⟨_,rfl⟩
  have b2:BK V2 V.heap.size #[.int .i64 (x0:Nat),.int .i64 (x1:Nat),.int .i64 (x2:Nat),.int .i64 (x3:Nat),.slice ba bk bc] 109:=by rw [hV2];exact (bk_new V _ _).drew
  have hB2:Below V.heap.size V V2:=by rw [hV2];exact below_drew (bal (Below.refl _ _) _)
  have b1:BK V2 W.heap.size #[.string an,.int .i64 ax] 100:=(hB2.block _ HBV.out.lt).trans HBV.out
  rw [←hV2]
  have c1:=b1.cell
  have c2:=b2.cell
  have l1:=b1.lt
  have l2:=b2.lt
  have HB2:=hid (btr HWV.out hB2)
  clear hV2 b1 b2 hB2 HBV HWV SK
  rcases hres with ⟨h1,h2⟩ | ⟨h1,h2,h3⟩ | ⟨h1,h2,h3,h4,h5,h6⟩
  ·subst h2
   have n1:((x0:Int) != (s:Int))=true:=bne_iff_ne.2 (fun h=>h1 (hsu.1 h))
   clear h1 hsu
   go_wp2
   go_ret2
   exact ⟨rfl,HB2.out⟩
  ·subst h3
   have n1:((x0:Int) != (s:Int))=false:=by rw [h1];simp
   clear h1 hsu
   by_cases hx:ax<0
   ·go_wp2
    go_ret2
    exact ⟨rfl,HB2.out⟩
   ·have hx2:(x2:Int)≤ax:=by omega
    go_wp2
    go_ret2
    exact ⟨rfl,HB2.out⟩
  ·subst h4
   have n1:((x0:Int) != (s:Int))=false:=by rw [h1];simp
   obtain ⟨xn,rfl⟩:∃xn:Nat,ax=(xn:Nat):=⟨ax.toNat,by omega⟩
   clear h1 hsu
   go_wp2
   go_ret2
   exact ⟨by simp [valE,errN],HB2.out⟩
end Go.Proofs.YtdjfpghgklkejaaGreatDoor
namespace Go.Proofs.YtdjfpghgklkejaaGreatDoor
open Go.RowKit Go.Sort
set_option maxHeartbeats 4000000 in
theorem qubit_any {w0 W:World} {lb mb N:Nat} {hi:HG} {en:En} {pl:Int} (H:LK w0 W lb mb hi N en pl) (hok:EnOk en) (a:Ar) (hs:a.n.size≤maxLen) (sd:Sd) (hg:sd.g=true→en.pr≠[]) :
  Calls Tryz.prog 140 #[.pointer (some ⟨lb,0,none⟩),arV a,sdV sd] W fun e W'=>e=.returned (.tuple #[.int .i64 (valE (quE en sd.g a):Nat),.int .i64 (errN (quE en sd.g a):Nat)])∧Below W.heap.size W W':=by
 obtain ⟨p,n,g,m,v⟩:=sd
 simp only at *
 cases g with
 | false=>
  have e:quE en false a=elE en a 1:=rfl
  rw [e]
  clear e hg
  have F:=fun w1 (h:Below W.heap.size W w1)=>element_any (H.fr h) hok a hs 1 (.inl rfl)
  rw [show ((1:Nat):Int)=1 from rfl] at F
  obtain ⟨an,ax⟩:=a
  simp only at *
  generalize elE en ⟨an,ax⟩ 1=X at *
  clear H hok
  go_enter Tryz.func140,Tryz.ntmps140
  go_wp2_with (go_at_call 139;(with_reducible refine (F _ (bal (bal (Below.refl _ _) _) _)).mono ?_);rintro e w1 ⟨rfl,hB⟩)
  go_ret2
  exact ⟨rfl,btr (bal (bal (Below.refl _ _) _) _) hB⟩
 | true=>
  have hg:=hg rfl
  obtain ⟨pv,k1,hP⟩:=H.box
  rcases hP with ⟨hn,_⟩ | ⟨pb,pn,f,z,rfl,hpb,hM,hf⟩
  ·exact absurd hn hg
  have c3:W.cell? ⟨lb,3,none⟩=some (.map (some pb)):=k1.cell 3
  have l0:=k1.lt
  have hq:quE en true a=if a.x ≠ -1 then .error 112 else match idxN a.n en.pr with | some j=>.ok j | none=>.error 110:=by unfold quE;rw [if_pos rfl];rfl
  have hres:(a.x ≠ -1∧quE en true a=.error 112)∨(a.x= -1∧f a.n=none∧quE en true a=.error 110)∨(a.x= -1∧∃j:Nat,f a.n=some (.int .i64 (j:Nat))∧quE en true a=.ok j):=by
   by_cases h1:a.x= -1
   ·rw [hq,hf]
    cases e:idxN a.n en.pr with
    | none=>exact .inr (.inl ⟨h1,rfl,by simp [h1]⟩)
    | some j=>exact .inr (.inr ⟨h1,j,rfl,by simp [h1]⟩)
   ·exact .inl ⟨h1,by rw [hq];simp [h1]⟩
  have HM:=hid hM
  have HLT:=hid hM.lt
  obtain ⟨an,ax⟩:=a
  simp only at *
  obtain ⟨X,hX⟩:∃X,X=quE en true ⟨an,ax⟩:=⟨_,rfl⟩
  rw [←hX] at hres ⊢
  have HLO:Hid (∀w':World,Below W.heap.size W w'→(Instr.lookup 62 (.map (some pb)) (.string an) true).run Tryz.prog w'=.ok (.tuple #[(f an).getD (.int .i64 0),.bool (f an).isSome]) w'):=fun w' h=>(HM.out.block (h.block _ HM.out.lt)).lookOk Tryz.underlying62 (zero3 w') hs
  clear hX hq hM hf H hok HM k1
  rcases hres with ⟨h1,rfl⟩ | ⟨h1,h2,rfl⟩ | ⟨h1,j,h2,rfl⟩
  ·have h1':(ax != -1)=true:=bne_iff_ne.2 h1
   clear h1 HLO
   go_enter Tryz.func140,Tryz.ntmps140
   go_wp2
   go_ret2
   exact ⟨rfl,bal (bal (Below.refl _ _) _) _⟩
  all_goals
   subst h1
   obtain ⟨RV,hRV⟩:∃RV,RV=(f an).getD (.int .i64 0):=⟨_,rfl⟩
   obtain ⟨RB,hRB⟩:∃RB,RB=(f an).isSome:=⟨_,rfl⟩
   rw [←hRV,←hRB] at HLO
   rw [h2] at hRV hRB
   simp only [Option.getD_none,Option.getD_some,Option.isSome_none,Option.isSome_some] at hRV hRB
   obtain ⟨V,hV⟩:∃V,V=(W.alloc (.cells #[.string an,.int .i64 (-1)] 100)).alloc (.cells #[.int .i64 p,.int .i64 (n:Nat),.bool true,.int .u64 (m:Nat),.int .u64 (v:Nat)] 69):=⟨_,rfl⟩
   have hB:Below W.heap.size W V:=by rw [hV];exact bal (bal (Below.refl _ _) _) _
   have y1:V.cell? ⟨lb,3,none⟩=some (.map (some pb)):=(hB.cell (p:=⟨lb,3,none⟩) l0).trans c3
   have y2:lb<V.heap.size:=Nat.lt_of_lt_of_le l0 hB.size
   have b1:BK V W.heap.size #[.string an,.int .i64 (-1)] 100:=by rw [hV];exact (bk_new W _ _).alloc _
   have b2:BK V (W.heap.size+1) #[.int .i64 p,.int .i64 (n:Nat),.bool true,.int .u64 (m:Nat),.int .u64 (v:Nat)] 69:=by rw [hV];exact bk_at _ _ (by simp)
   have d1:=b1.cell
   have d2:=b2.cell
   have d3:=b2.lt
   have d4:=b1.lt
   clear b1 b2
   go_enter Tryz.func140,Tryz.ntmps140
   go_upto_region 1 with (fail)
   rw [←hV]
   have SK:Hid (∀w',Below V.heap.size V w'→Below V.heap.size V w'∧(w'.cell? ⟨lb,3,none⟩=some (.map (some pb))∧lb<w'.heap.size)∧(Instr.lookup 62 (.map (some pb)) (.string an) true).run Tryz.prog w'=.ok (.tuple #[RV,.bool RB]) w'∧w'.cell? ⟨W.heap.size,0,none⟩=some (.string an)∧W.heap.size<w'.heap.size):=fun w' h=>⟨h,⟨(h.cell (p:=⟨lb,3,none⟩) y2).trans y1,Nat.lt_of_lt_of_le y2 h.size⟩,HLO.out w' (btr hB h),(h.cell (p:=⟨W.heap.size,0,none⟩) d4).trans (d1 0),Nat.lt_of_lt_of_le d4 h.size⟩
   have HB:=hid hB
   clear hV c3 l0 HLO y1 y2 hB
   go_upto_region 5 with (fail)
   go_region_held3 (fun w'=>Below V.heap.size V w'∧(w'.cell? ⟨lb,3,none⟩=some (.map (some pb))∧lb<w'.heap.size)∧(Instr.lookup 62 (.map (some pb)) (.string an) true).run Tryz.prog w'=.ok (.tuple #[RV,.bool RB]) w'∧w'.cell? ⟨W.heap.size,0,none⟩=some (.string an)∧W.heap.size<w'.heap.size)
    ((refine SK.out _ ?_;first | exact below_drew (Below.refl _ _) | exact And.left (by assumption)))
    (fail)
   all_goals
    subst hRV hRB
    go_wp2
    go_ret2
    exact ⟨rfl,btr HB.out (below_drew (Below.refl _ _))⟩
end Go.Proofs.YtdjfpghgklkejaaGreatDoor
namespace Go.Proofs.YtdjfpghgklkejaaGreatDoor
open Go.RowKit Go.Sort
abbrev pp0:PP:=⟨⟨0,0,false,0,0⟩,0,⟨#[]⟩,[],none,0,0,0,none,0,0⟩
def RowP (W:World) (hi:HG) (nn:Nat) (p:PP) (L:List TO):Prop:=
 ∃Lb L',QSh W hi p.qa p.qc p.qs∧PL W hi (nbq nn p.qs) (.slice p.ba p.bn p.bc) Lb∧L'=mean p Lb∧T4 L' L∧(p.k=0∧(p.t≤0∨p.bn=0)↔L'=[])∧PQ nn p∧UnS L'
def LE (W:World) (lb mb M:Nat) (pl:Int):Prop:=∃(q b pv:Value) (d:Int) (N:Nat) (f:ByteArray→Option Value) (z:Nat),BK W lb #[.map (some mb),q,b,pv,.int .i64 d,.int .i64 pl] 64∧MF W mb N f z∧N≤M
theorem LK.le {w0 W:World} {lb mb N M:Nat} {hi:HG} {en:En} {pl:Int} (h:LK w0 W lb mb hi N en pl) (hN:N≤M):LE W lb mb M pl:=by
 obtain ⟨pv,k1,_⟩:=h.box
 obtain ⟨f,z,h1,_⟩:=h.nm
 exact ⟨_,_,pv,_,N,f,z,k1,h1,hN⟩
theorem LE.fr {W W':World} {lb mb M lo up:Nat} {pl:Int} (h:LE W lb mb M pl) (g:Fr W W' lo up) (h1:lb<lo∨up≤lb) (h2:mb<lo∨up≤mb):LE W' lb mb M pl:=by
 obtain ⟨q,b,pv,d,N,f,z,k1,k2,k3⟩:=h
 exact ⟨q,b,pv,d,N,f,z,g.bk k1 h1,k2.block (g.block _ k2.lt h2),k3⟩
theorem LE.mono {W:World} {lb mb M M':Nat} {pl:Int} (h:LE W lb mb M pl) (hM:M≤M'):LE W lb mb M' pl:=by
 obtain ⟨q,b,pv,d,N,f,z,k1,k2,k3⟩:=h
 exact ⟨q,b,pv,d,N,f,z,k1,k2,Nat.le_trans k3 hM⟩
def RowO (w0 W W':World) (lb mb:Nat) (hi:HG) (M:Nat) (pr:En × Bool) (S:Except Fa (En × List TO)) (e:Ending):Prop:=
 Fr W W' w0.heap.size hi.h∧((∃x,S=.error x∧(∃p,e=.returned (.tuple #[ppV p,.int .i64 (x.2:Nat)]))∧x.2≠0∧LE W' lb mb M x.1) ∨
  (∃en1 L p pl N,S=.ok (en1,L)∧e=.returned (.tuple #[ppV p,.int .i64 0])∧LK w0 W' lb mb hi N en1 pl∧N≤M∧EnOk en1∧Nx pr en1∧RowP W' hi (nq pr.2 en1) p L))
theorem sa_at {W:World} {v:Value} {l:List Ar} (h:SA W v l) {k:Nat} (hk:k<l.length):∃b o c,v=.slice (some ⟨b,o,none⟩) l.length c∧l.length≤c∧W.cell? ⟨b,o+k*2,none⟩=some (.string l[k].n)∧W.cell? ⟨b,o+k*2+1,none⟩=some (.int .i64 l[k].x)∧b<W.heap.size:=by
 obtain ⟨a,c,rfl,hc,hr⟩:=h
 obtain ⟨b,o,rfl,r⟩:=hr k hk
 exact ⟨b,o,c,rfl,hc,r.c0 k hk,r.c1 k hk,r.lt⟩
theorem rowP_none (W:World) (hi:HG) (nn:Nat):RowP W hi nn pp0 []:=⟨[],[],⟨⟨Nat.le_refl _,fun k hk=>absurd hk (Nat.not_lt_zero _)⟩,fun b o e=>by cases e⟩,pl_nil _ _ _ _ _,rfl,rfl,by simp,⟨by simp,by decide,by decide,fun h=>absurd rfl h,⟨by decide,by decide⟩,fun j hj=>by cases hj⟩,uns_nil⟩
theorem uns_one (t:TO):UnS [t]:=by
 cases e:t.st with
 | none=>exact .inl fun u hu=>by rw [List.mem_singleton] at hu;rw [hu,e]
 | some s=>exact .inr fun u hu=>by rw [List.mem_singleton] at hu;rw [hu,e];exact fun h=>by cases h
theorem rowP_one {W:World} {hi:HG} {nn:Nat} {p:PP} (hq:QSh W hi p.qa p.qc p.qs) (hk:p.k≠0) (ht:p.t=0) (hb:p.bn=0) (hpq:PQ nn p):RowP W hi nn p [⟨p.k,p.n,p.qs,p.b,stO p.sd⟩]:=by
 refine ⟨[],_,hq,by rw [hb];exact pl_nil _ _ _ _ _,rfl,?_,?_,hpq,?_⟩
 ·simp [mean,hk,ht,T4]
 ·simp [mean,hk]
 ·have e:mean p []=[⟨p.k,p.n,p.qs,p.b,stO p.sd⟩]:=by simp [mean,hk,ht]
  rw [e]
  exact uns_one _
def rstR (en:En) (sd:Sd) (r:Rw):Except Fa (En × List TO):=
 match r.args with
 | [a]=>match elE en a 1 with
  | .error e=>.error (sd.p,e)
  | .ok q=>.ok (en,[⟨3,⟨#[]⟩,[(q:Int)],0,stO sd⟩])
 | _=>.error (sd.p,111)
theorem rst_no {en:En} {sd:Sd} {r:Rw} (h:r.args.length≠1):rstR en sd r=.error (sd.p,111):=by
 unfold rstR
 match hr:r.args,h with
 | [],_=>rfl
 | [_],h=>exact absurd rfl h
 | _::_::_,_=>rfl
theorem rst_err {en:En} {sd:Sd} {r:Rw} {a:Ar} {e:Nat} (h:r.args=[a]) (he:elE en a 1=.error e):rstR en sd r=.error (sd.p,e):=by
 unfold rstR
 rw [h]
 simp only [he]
theorem rst_ok {en:En} {sd:Sd} {r:Rw} {a:Ar} {q:Nat} (h:r.args=[a]) (he:elE en a 1=.ok q):rstR en sd r=.ok (en,[⟨3,⟨#[]⟩,[(q:Int)],0,stO sd⟩]):=by
 unfold rstR
 rw [h]
 simp only [he]
theorem el_err {en:En} {a:Ar} {s e:Nat} (h:elE en a s=.error e):e≠0:=by
 unfold elE at h
 split at h
 ·split at h
  ·split at h
   ·cases h;decide
   ·cases h
  ·cases h;decide
 ·cases h;decide
theorem qsh_one {W:World} {hi:HG} (hi':hi.G W.heap.size) (x:Int) (W':World) (hb:Below (W.alloc (.cells #[.int .i64 x] 3)).heap.size (W.alloc (.cells #[.int .i64 x] 3)) W'):QSh W' hi (some ⟨W.heap.size,0,none⟩) 1 [x]:=by
 have b:BK W' W.heap.size #[.int .i64 x] 3:=(hb.block _ (bk_new W _ _).lt).trans (bk_new W _ _)
 refine ⟨⟨by simp,fun k hk=>⟨_,0,rfl,fun j hj=>?_,b.lt⟩⟩,fun c o e _=>by cases e;exact hi'⟩
 obtain rfl:j=0:=by simp at hj;omega
 exact b.cell 0
theorem rowO_bad {w0 W W':World} {lb mb N M:Nat} {hi:HG} {en:En} {pl:Int} {e:Nat} {p:PP} {pr:En × Bool} (H:LK w0 W lb mb hi N en pl) (hB:Below W.heap.size W W') (he:e≠0) (hNM:N≤M:=by omega):RowO w0 W W' lb mb hi M pr (.error (pl,e)) (.returned (.tuple #[ppV p,.int .i64 (e:Nat)])):=
 ⟨fr_of_below hB,.inl ⟨(pl,e),rfl,⟨p,rfl⟩,he,(H.fr hB).le hNM⟩⟩
theorem tri_box {w w1:World} {c1 c2 c3:Array Value} {T U V:TypeId} (h:Below (((w.alloc (.cells c1 T)).alloc (.cells c2 U)).alloc (.cells c3 V)).heap.size (((w.alloc (.cells c1 T)).alloc (.cells c2 U)).alloc (.cells c3 V)) w1):Below w.heap.size w w1∧BK w1 w.heap.size c1 T∧BK w1 (w.heap.size+1) c2 U∧BK w1 (w.heap.size+1+1) c3 V:=by
 have e1:=((bk_new w c1 T).alloc (.cells c2 U)).alloc (.cells c3 V)
 have e2:BK (((w.alloc (.cells c1 T)).alloc (.cells c2 U)).alloc (.cells c3 V)) (w.heap.size+1) c2 U:=(bk_at c2 U (by simp)).alloc _
 have e3:BK (((w.alloc (.cells c1 T)).alloc (.cells c2 U)).alloc (.cells c3 V)) (w.heap.size+1+1) c3 V:=bk_at c3 V (by simp)
 exact ⟨btr (bal (bal (bal (Below.refl _ _) _) _) _) h,(h.block _ e1.lt).trans e1,(h.block _ e2.lt).trans e2,(h.block _ e3.lt).trans e3⟩
theorem fr_sets (b:Nat):∀(us:List Value) (k:Nat) (W:World),Fr W (W.setCells b k us) b (b+1)∧(W.setCells b k us).heap.size=W.heap.size
 | [],_,W=>⟨Fr.refl W _ _,rfl⟩
 | u::us,k,W=>by
  obtain ⟨h1,h2⟩:=fr_sets b us (k+1) (W.setCell ⟨b,k,none⟩ u)
  exact ⟨((Fr.refl W b (b+1)).set b k u (.inl ⟨Nat.le_refl _,Nat.lt_succ_self _⟩)).trans h1,h2.trans (by simp [World.setCell])⟩
theorem below_sets {W w1:World} (hB1:Below W.heap.size W w1) {b:Nat} (hb:W.heap.size≤b) (us:List Value):Below W.heap.size W (w1.setCells b 0 us):=below_fr hB1 (fr_sets b us 0 w1).1 hb
theorem rowO_one {w0 W w1:World} {lb mb N:Nat} {hi:HG} {en:En} {pl:Int} (H:LK w0 W lb mb hi N en pl) (hok:EnOk en) (hB1:Below W.heap.size W w1) {b:Nat} (hb:W.heap.size≤b) (us:List Value) (x:Int) (k:Int) (nm:ByteArray) (bt:Int) (sd:Sd) (hk:k≠0) (hnm:nm.size≤281474976710656) (hmv:sd.m<18446744073709551616∧sd.v<18446744073709551616) (hgf:sd.g=false) (hx0:0≤x) (hx1:x<(en.q:Int)) :
  RowO w0 W ((w1.setCells b 0 us).alloc (.cells #[.int .i64 x] 3)) lb mb hi N (en,sd.g) (.ok (en,[⟨k,nm,[x],bt,stO sd⟩])) (.returned (.tuple #[ppV ⟨sd,k,nm,[x],some ⟨w1.heap.size,0,none⟩,1,bt,0,none,0,0⟩,.int .i64 0])):=by
 have hB:=bal (below_sets hB1 hb us) (.cells #[.int .i64 x] 3)
 have hs:=(fr_sets b us 0 w1).2
 have hq:QSh ((w1.setCells b 0 us).alloc (.cells #[.int .i64 x] 3)) hi (some ⟨w1.heap.size,0,none⟩) 1 [x]:=by
  have:=qsh_one (W:=w1.setCells b 0 us) (hi:=hi) (by rw [hs];exact H.up _ hB1.size) x _ (Below.refl _ _)
  rwa [hs] at this
 exact ⟨fr_of_below hB,.inr ⟨en,_,_,pl,N,rfl,rfl,H.fr hB,Nat.le_refl _,hok,nx_refl _ _,rowP_one (p:=⟨sd,k,nm,[x],some ⟨w1.heap.size,0,none⟩,1,bt,0,none,0,0⟩) hq hk rfl rfl ⟨by show 1≤6000000000000;decide,hnm,by show (0:Int)≤_;decide,fun _ h=>(by cases h),hmv,fun j hj=>by rw [List.mem_singleton] at hj;rw [hj,hgf];exact ⟨hx0,hx1⟩⟩⟩⟩
set_option maxHeartbeats 4000000 in
theorem reset_any {w0 W:World} {lb mb N:Nat} {hi:HG} {en:En} {pl:Int} (H:LK w0 W lb mb hi N en pl) (hok:EnOk en) (r:Rw) (aa:Option Addr) (ac:Nat) (sd:Sd) (hmv:sd.m<18446744073709551616∧sd.v<18446744073709551616) (hgf:sd.g=false) (hsp:sd.p=pl) (hA:SA w0 (.slice aa r.args.length ac) r.args) (hsz:∀a∈r.args,a.n.size≤maxLen) :
  Calls Tryz.prog 89 #[.pointer (some ⟨lb,0,none⟩),rwV r aa ac,sdV sd] W fun e W'=>RowO w0 W W' lb mb hi N (en,sd.g) (rstR en sd r) e:=by
 have HL:=hid H
 have HA:=hid hA
 have HGF:=hid hgf
 have HMV:=hid hmv
 clear hgf hmv
 obtain ⟨k,nm,ar,nu,ro,pc⟩:=r
 obtain ⟨p,n,g,m,v⟩:=sd
 simp only at *
 subst hsp
 by_cases hl:ar.length=1
 case neg=>
  rw [rst_no (r:=⟨k,nm,ar,nu,ro,pc⟩) hl]
  have hl':((ar.length:Int) != 1)=true:=bne_iff_ne.2 (by omega)
  clear hl H hA hok
  go_enter Tryz.func89,Tryz.ntmps89
  go_wp2
  refine bodyPost_ret (v:=.tuple #[ppV pp0,.int .i64 111]) (by simp [results,Tryz.results89,go_sem]) rfl ?_
  exact rowO_bad HL.out (bal (bal (bal (Below.refl _ _) _) _) _) (by decide)
 obtain ⟨ag,har⟩:∃ag,ar=[ag]:=by
  match ar,hl with
  | [ag],_=>exact ⟨ag,rfl⟩
 have hag:=hsz ag (by simp [har])
 have F:=fun w1 (h:Below W.heap.size W w1)=>element_any (H.fr h) hok ag hag 1 (.inl rfl)
 rw [show ((1:Nat):Int)=1 from rfl] at F
 obtain ⟨b,o,c,e1,hc,a0,a1,al⟩:=sa_at (hA.below H.below) (k:=0) (by omega)
 cases e1
 have ez:ar[0]'(by omega)=ag:=by simp [har]
 rw [ez,Nat.zero_mul,Nat.add_zero] at a0 a1
 have h1:((ar.length:Int) != 1)=false:=by rw [hl];rfl
 have h0:0<ar.length:=by omega
 have al1:b<W.heap.size+1:=by omega
 have al2:b<W.heap.size+1+1:=by omega
 have al3:b<W.heap.size+1+1+1:=by omega
 have HOK:=hid hok
 have HAR:=hid har
 clear H hA hsz hok ez har hl
 cases hX:elE en ag 1 with
 | error x=>
  rw [rst_err (r:=⟨k,nm,ar,nu,ro,pc⟩) HAR.out hX]
  have hx:=el_err hX
  rw [hX] at F
  simp only [valE,errN] at F
  obtain ⟨an,ax⟩:=ag
  simp only at *
  clear hX
  go_enter Tryz.func89,Tryz.ntmps89
  go_wp2_with (go_at_call 139;(with_reducible refine (F _ (bal (bal (bal (Below.refl _ _) _) _) _)).mono ?_);rintro e w1 ⟨rfl,hB⟩;obtain ⟨hB1,k1,k2,k3⟩:=tri_box hB;have q1:=k1.cell;have q2:=k2.cell;have q3:=k3.cell;have f3:=k3.free;have l1:=k1.lt;have l2:=k2.lt;have l3:=k3.lt;clear k1 k2 k3)
  refine bodyPost_ret (v:=.tuple #[ppV ⟨⟨p,n,g,m,v⟩,3,⟨#[]⟩,[0],some ⟨w1.heap.size,0,none⟩,1,0,0,none,0,0⟩,.int .i64 (x:Nat)]) (by simp [results,Tryz.results89,go_sem, *]) rfl ?_
  change RowO w0 W ((w1.setCells (W.heap.size+1+1) 0 (ppc ⟨⟨p,n,g,m,v⟩,3,⟨#[]⟩,[0],some ⟨w1.heap.size,0,none⟩,1,0,0,none,0,0⟩)).alloc (.cells #[.int .i64 0] 3)) lb mb hi N (en,g) _ _
  exact rowO_bad HL.out (bal (below_sets hB1 (by omega) _) _) hx
 | ok q=>
  rw [rst_ok (r:=⟨k,nm,ar,nu,ro,pc⟩) HAR.out hX]
  have HQL:Hid ((q:Int)<(en.q:Int)):=by have:=el_lt HOK.out hX;show (q:Int)<(en.q:Int);omega
  rw [hX] at F
  simp only [valE,errN] at F
  obtain ⟨an,ax⟩:=ag
  simp only at *
  clear hX
  go_enter Tryz.func89,Tryz.ntmps89
  go_wp2_with (go_at_call 139;(with_reducible refine (F _ (bal (bal (bal (Below.refl _ _) _) _) _)).mono ?_);rintro e w1 ⟨rfl,hB⟩;obtain ⟨hB1,k1,k2,k3⟩:=tri_box hB;have q1:=k1.cell;have q2:=k2.cell;have q3:=k3.cell;have f3:=k3.free;have l1:=k1.lt;have l2:=k2.lt;have l3:=k3.lt;clear k1 k2 k3)
  refine bodyPost_ret (v:=.tuple #[ppV ⟨⟨p,n,g,m,v⟩,3,⟨#[]⟩,[(q:Int)],some ⟨w1.heap.size,0,none⟩,1,0,0,none,0,0⟩,.int .i64 0]) (by simp [results,Tryz.results89,go_sem, *]) rfl ?_
  change RowO w0 W ((w1.setCells (W.heap.size+1+1) 0 (ppc ⟨⟨p,n,g,m,v⟩,3,⟨#[]⟩,[(q:Int)],some ⟨w1.heap.size,0,none⟩,1,0,0,none,0,0⟩)).alloc (.cells #[.int .i64 (q:Int)] 3)) lb mb hi N (en,g) _ _
  exact rowO_one HL.out HOK.out hB1 (by omega) _ (q:Int) 3 ⟨#[]⟩ 0 ⟨p,n,g,m,v⟩ (by decide) (by decide) HMV.out HGF.out (by omega) HQL.out
end Go.Proofs.YtdjfpghgklkejaaGreatDoor
