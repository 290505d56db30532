/-
  Put together of: FP.
-/
import Derived.Test.YtdjfpghgklkejaaGreatDoorYU
import Derived.Test.YtdjfpghgklkejaaGreatDoorYO
namespace Go.Proofs.YtdjfpghgklkejaaGreatDoor
open Go.RowKit Go.Sort
def DefO (w0 W W':World) (lb mb:Nat) (hi:HG) (M:Nat) (en:En) (S:Except Fa (En × List TO)) (e:Ending):Prop:=
 Fr W W' w0.heap.size hi.h∧((∃x,S=.error x∧e=.returned (.int .i64 (x.2:Nat))∧x.2≠0∧LE W' lb mb M x.1) ∨
  (∃en1 pl N,S=.ok (en1,[])∧e=.returned (.int .i64 0)∧LK w0 W' lb mb hi N en1 pl∧N≤M∧EnOk en1∧en.q≤en1.q))
theorem Fr.widen {V W:World} {lo up lo' up':Nat} (h:Fr V W lo up) (h1:lo'≤lo) (h2:up≤up'):Fr V W lo' up':=⟨h.os,h.tape,h.output,h.size,fun k hk hw=>h.block k hk (by omega)⟩
theorem def_bad {w0 W W':World} {lb mb N M:Nat} {hi:HG} {en:En} {pl:Int} {e:Nat} (H:LK w0 W lb mb hi N en pl) (hB:Below W.heap.size W W') (he:e≠0) (hNM:N≤M):DefO w0 W W' lb mb hi M en (.error (pl,e)) (.returned (.int .i64 (e:Nat))):=⟨fr_of_below hB,.inl ⟨(pl,e),rfl,rfl,he,(H.fr hB).le hNM⟩⟩
theorem def_bad2 {w0 W W':World} {lb mb N M pb k:Nat} {hi:HG} {en:En} {pl:Int} {l:List ByteArray} {RB SB:Array Value} {e:Nat} (H:LK w0 W lb mb hi N en pl) (hD:DL W W' lb mb en pl l RB SB pb k) (he:e≠0) (hNM:N≤M):DefO w0 W W' lb mb hi M en (.error (pl,e)) (.returned (.int .i64 (e:Nat))):=⟨hD.fr.widen H.o1 H.o3,.inl ⟨(pl,e),rfl,rfl,he,hD.le H hNM⟩⟩
theorem def_name {rec:RecT} {en:En} {sd:Sd} {r:Rw} {body:List Rw} (h:srt en r.name≠0):defR rec en sd r body=.error (sd.p,110):=by
 have e:defE en r=110:=by unfold defE;rw [if_pos h]
 unfold defR
 rw [e]
 rfl
theorem def_none {rec:RecT} {en:En} {sd:Sd} {r:Rw} {body:List Rw} (h:srt en r.name=0) (ha:r.args=[]):defR rec en sd r body=.error (sd.p,111):=by
 have e:defE en r=111:=by unfold defE;rw [if_neg (by omega),if_pos ha]
 unfold defR
 rw [e]
 rfl
theorem def_index {rec:RecT} {en:En} {sd:Sd} {r:Rw} {body:List Rw} (h:srt en r.name=0) (ha:r.args≠[]) {a:Ar} (hm:a∈r.args) (hx:a.x ≠ -1):defR rec en sd r body=.error (sd.p,112):=by
 have e:defE en r=112:=by
  unfold defE
  rw [if_neg (by omega),if_neg ha,if_pos]
  exact List.any_eq_true.2 ⟨a,hm,decide_eq_true hx⟩
 unfold defR
 rw [e]
 rfl
theorem def_rest {en:En} {r:Rw} (h:srt en r.name=0) (ha:r.args≠[]) (hx:∀a∈r.args,a.x= -1):defE en r=if (r.args.map Ar.n).Nodup then 0 else 113:=by
 unfold defE
 rw [if_neg (by omega),if_neg ha,if_neg]
 intro h
 obtain ⟨a,h1,h2⟩:=List.any_eq_true.1 h
 exact (of_decide_eq_true h2) (hx a h1)
theorem def_same {rec:RecT} {en:En} {sd:Sd} {r:Rw} {body:List Rw} (h:srt en r.name=0) (ha:r.args≠[]) (hx:∀a∈r.args,a.x= -1) (hd:¬(r.args.map Ar.n).Nodup):defR rec en sd r body=.error (sd.p,113):=by
 have e:defE en r=113:=by rw [def_rest h ha hx,if_neg hd]
 unfold defR
 rw [e]
 rfl
theorem def_body {rec:RecT} {en:En} {sd:Sd} {r:Rw} {body:List Rw} (h:srt en r.name=0) (ha:r.args≠[]) (hx:∀a∈r.args,a.x= -1) (hd:(r.args.map Ar.n).Nodup):defR rec en sd r body=match rec ⟨putN en.nm r.name ⟨4,0,0,0,[]⟩,en.q,en.b,r.args.map Ar.n,1⟩ ⟨sd.p,sd.n+1,true,sd.m,sd.v⟩ body with
  | .error e=>.error e
  | .ok (en1,L)=>.ok (⟨putN en1.nm r.name ⟨5,0,r.args.length,en1.d,L⟩,en1.q,en1.b,en1.pr,en1.d⟩,[]):=by
 have e:defE en r=0:=by rw [def_rest h ha hx,if_pos hd]
 unfold defR
 rw [e,if_neg (by simp)]
 rfl
theorem begun_ok {en:En} (hok:EnOk en) (s:ByteArray) (l:List ByteArray):EnOk ⟨putN en.nm s ⟨4,0,0,0,[]⟩,en.q,en.b,l,1⟩:=by
 refine ⟨hok.q,hok.b,fun t m hm=>?_,by show 1≤32;decide,fun t m hm h1=>?_,fun t m hm=>?_,fun t m hm h3=>?_⟩
 all_goals
  have hm:putN en.nm s ⟨4,0,0,0,[]⟩ t=some m:=hm
  unfold putN at hm
  split at hm
 ·cases hm;exact ⟨Nat.zero_le _,Nat.zero_le _,fun _=>Nat.zero_le _,Nat.zero_le _,by show (4:Nat)≠0;decide,by show (4:Nat)≤5;decide⟩
 ·exact hok.f t m hm
 ·cases hm;cases h1
 ·exact hok.r t m hm h1
 ·cases hm;exact fun t ht=>by cases ht
 ·exact hok.l t m hm
 ·cases hm;cases h3
 ·exact hok.z t m hm h3
theorem defined_ok {en:En} (hok:EnOk en) (s:ByteArray) (z:Nat) (L:List TO) (hz:z≤6000000000000) (hL:∀t∈L,t.st=none):EnOk ⟨putN en.nm s ⟨5,0,z,en.d,L⟩,en.q,en.b,en.pr,en.d⟩:=by
 refine ⟨hok.q,hok.b,fun t m hm=>?_,hok.d,fun t m hm h1=>?_,fun t m hm=>?_,fun t m hm h3=>?_⟩
 all_goals
  have hm:putN en.nm s ⟨5,0,z,en.d,L⟩ t=some m:=hm
  unfold putN at hm
  split at hm
 ·cases hm;exact ⟨Nat.zero_le _,hz,fun h=>(by rcases h with h | h <;> cases h),hok.d,by show (5:Nat)≠0;decide,by show (5:Nat)≤5;decide⟩
 ·exact hok.f t m hm
 ·cases hm;cases h1
 ·exact hok.r t m hm h1
 ·cases hm;exact hL
 ·exact hok.l t m hm
 ·cases hm;cases h3
 ·exact hok.z t m hm h3
theorem below_bk {V W:World} {b:Nat} {cs:Array Value} {T:TypeId} (h:BK V b cs T) (g:Below V.heap.size V W):BK W b cs T:=(g.block _ h.lt).trans h
set_option maxHeartbeats 4000000 in
set_option maxRecDepth 100000 in
theorem define_any {w0 W:World} {lb mb N K:Nat} {hi:HG} {en:En} {pl:Int} {rec:RecT} (HB:FBody w0 lb mb K rec) (HLr:RecL rec) (H:LK w0 W lb mb hi N en pl) (hok:EnOk en) (r:Rw) (aa:Option Addr) (ac:Nat) (bv:Value) (body:List Rw) (hbv:SR w0 bv body) (hK:body.length<K) (hz:SzR body) (sd ins:Sd) (hins:ins=⟨sd.p,sd.n+1,true,sd.m,sd.v⟩) (hsp:sd.p=pl) (hA:SA w0 (.slice aa r.args.length ac) r.args) (hs:r.name.size≤maxLen) (hal:r.args.length≤6000000000000) (hsz:∀a∈r.args,a.n.size≤maxLen)
  (hn:sd.n<6000000000000) (hm:sd.m<18446744073709551616) (hv:sd.v<18446744073709551616) (hN:N+2+2*body.length<4611686018427387904) :
  Calls Tryz.prog 85 #[.pointer (some ⟨lb,0,none⟩),rwV r aa ac,bv,sdV ins] W fun e W'=>DefO w0 W W' lb mb hi (N+2+2*body.length) en (defR rec en sd r body) e:=by
 obtain ⟨x0,x1,x2,x3,ba,bk,bc,LN,hL,hx0,hsome,hnone,hP⟩:=H.name r.name hs
 obtain ⟨pv,k1,kp⟩:=H.box
 have hmb:mb<W.heap.size:=Nat.lt_of_lt_of_le H.o4 H.o5
 have HL:=hid H
 have HOK:=hid hok
 have HSN:=hid hs
 have HKB:Hid (BK W lb #[.map (some mb),.int .i64 (en.q:Nat),.int .i64 (en.b:Nat),pv,.int .i64 (en.d:Nat),.int .i64 pl] 64):=k1
 have c0:W.cell? ⟨lb,0,none⟩=some (.map (some mb)):=k1.cell 0
 have l0:=k1.lt
 have HN0:Hid (x0≠0→defR rec en sd r body=.error (sd.p,110)):=fun h=>def_name (by omega)
 have HN1:Hid (x0=0→r.args=[]→defR rec en sd r body=.error (sd.p,111)):=fun h ha=>def_none (by omega) ha
 have HN2:Hid (x0=0→r.args≠[]→∀a∈r.args,a.x ≠ -1→defR rec en sd r body=.error (sd.p,112)):=fun h ha a hm hx=>def_index (by omega) ha hm hx
 have HN3:Hid (x0=0→r.args≠[]→(∀a∈r.args,a.x= -1)→¬(r.args.map Ar.n).Nodup→defR rec en sd r body=.error (sd.p,113)):=fun h ha hx hd=>def_same (by omega) ha hx hd
 have HN4:Hid (x0=0→r.args≠[]→(∀a∈r.args,a.x= -1)→(r.args.map Ar.n).Nodup→(∀x,rec ⟨putN en.nm r.name ⟨4,0,0,0,[]⟩,en.q,en.b,r.args.map Ar.n,1⟩ ins body=.error x→defR rec en sd r body=.error x)∧∀en1 L,rec ⟨putN en.nm r.name ⟨4,0,0,0,[]⟩,en.q,en.b,r.args.map Ar.n,1⟩ ins body=.ok (en1,L)→defR rec en sd r body=.ok (⟨putN en1.nm r.name ⟨5,0,r.args.length,en1.d,L⟩,en1.q,en1.b,en1.pr,en1.d⟩,[])∧∀t∈L,t.st=none):=fun h ha hx hd=>by
  have hb:=def_body (rec:=rec) (sd:=sd) (body:=body) (show srt en r.name=0 by omega) ha hx hd
  rw [←hins] at hb
  refine ⟨fun x hx=>by rw [hb,hx],fun en1 L hx=>⟨by rw [hb,hx],?_⟩⟩
  exact (HLr _ _ _ _ _ hx (begun_ok hok r.name (r.args.map Ar.n)).l).2 (by rw [hins])
 have HZ:Hid (∀a∈r.args,a.n.size≤maxLen):=hsz
 have HA:=hid hA
 have HAL:=hid hal
 have FB:Hid (r.args≠[]→∀w1,LK w0 w1 lb mb hi (N+1) ⟨putN en.nm r.name ⟨4,0,0,0,[]⟩,en.q,en.b,r.args.map Ar.n,1⟩ pl→Calls Tryz.prog 25 #[.pointer (some ⟨lb,0,none⟩),bv,sdV ins] w1 fun e W'=>BodyO w0 w1 W' lb mb hi (N+1+2*body.length) (⟨putN en.nm r.name ⟨4,0,0,0,[]⟩,en.q,en.b,r.args.map Ar.n,1⟩,ins.g) (rec ⟨putN en.nm r.name ⟨4,0,0,0,[]⟩,en.q,en.b,r.args.map Ar.n,1⟩ ins body) e):=fun ha w1 h1=>HB w1 hi (N+1) _ pl bv body ins h1 (begun_ok hok r.name (r.args.map Ar.n)) hbv hK hz (by rw [hins];exact fun _=>⟨fun e=>ha (List.map_eq_nil_iff.1 e),Nat.succ_ne_zero _⟩) (by rw [hins];show sd.n+1≤_;omega) (by rw [hins];exact hm) (by rw [hins];exact hv) (by omega)
 obtain ⟨S,hS⟩:∃S,S=defR rec en sd r body:=⟨_,rfl⟩
 rw [←hS] at HN0 HN1 HN2 HN3 HN4 ⊢
 have HIG:Hid (ins.g=true):=by rw [hins];exact rfl
 have KP:Hid (∀w',Below W.heap.size W w'→Below W.heap.size W w'∧w'.cell? ⟨lb,0,none⟩=some (.map (some mb))∧lb<w'.heap.size∧(Instr.lookup 60 (.map (some mb)) (.string r.name) false).run Tryz.prog w'=.ok (.agg #[.int .i64 (x0:Nat),.int .i64 (x1:Nat),.int .i64 (x2:Nat),.int .i64 (x3:Nat),.slice ba bk bc]) w'):=fun w' h=>⟨h,(h.cell (p:=⟨lb,0,none⟩) l0).trans c0,Nat.lt_of_lt_of_le l0 h.size,hL w' (h.block _ hmb)⟩
 have HLB:=hid l0
 have HNN:=hid hN
 obtain ⟨bba,bbn,bbc,rfl⟩:∃a n c,bv=.slice a n c:=by obtain ⟨a,c,vs,e,_⟩:=hbv;exact ⟨_,_,_,e⟩
 clear hL hx0 hsome hnone hP k1 kp c0 l0 H hok hsz hA hs hS hins hn hm hv hN hK hz HB HLr hbv hal
 obtain ⟨k,nm,ar,nu,ro,pc⟩:=r
 obtain ⟨p,n,g,m,v⟩:=sd
 obtain ⟨p2,n2,g2,m2,v2⟩:=ins
 simp only at *
 subst hsp
 generalize hMX:rec ⟨putN en.nm nm ⟨4,0,0,0,[]⟩,en.q,en.b,ar.map Ar.n,1⟩ ⟨p2,n2,g2,m2,v2⟩ body=T at *
 clear hMX
 generalize hQ:(fun e W'=>DefO w0 W W' lb mb hi (N+2+2*body.length) en S e)=Q
 have HQ:=hid hQ
 clear hQ
 obtain ⟨V,hV⟩:∃V,V=(W.alloc (.cells #[.string k,.string nm,.slice aa ar.length ac,.int .i64 nu,.int .i64 ro,.int .i64 pc] 79)).alloc (.cells #[.int .i64 p2,.int .i64 (n2:Nat),.bool g2,.int .u64 (m2:Nat),.int .u64 (v2:Nat)] 69):=⟨_,rfl⟩
 have hWV:Below W.heap.size W V:=by rw [hV];exact bal (bal (Below.refl _ _) _) _
 have b1:BK V W.heap.size #[.string k,.string nm,.slice aa ar.length ac,.int .i64 nu,.int .i64 ro,.int .i64 pc] 79:=by rw [hV];exact (bk_new W _ _).alloc _
 have b2:BK V (W.heap.size+1) #[.int .i64 p2,.int .i64 (n2:Nat),.bool g2,.int .u64 (m2:Nat),.int .u64 (v2:Nat)] 69:=by rw [hV];exact bk_at _ _ (by simp)
 have hVs:V.heap.size=W.heap.size+1+1:=by rw [hV];simp
 have SK:Hid (∀w',Below V.heap.size V w'→Below V.heap.size V w'∧(w'.cell? ⟨lb,0,none⟩=some (.map (some mb))∧lb<w'.heap.size∧(Instr.lookup 60 (.map (some mb)) (.string nm) false).run Tryz.prog w'=.ok (.agg #[.int .i64 (x0:Nat),.int .i64 (x1:Nat),.int .i64 (x2:Nat),.int .i64 (x3:Nat),.slice ba bk bc]) w')∧w'.cell? ⟨W.heap.size,1,none⟩=some (.string nm)∧W.heap.size<w'.heap.size):=fun w' h=>⟨h,(KP.out w' (btr hWV h)).2,(h.cell (p:=⟨W.heap.size,1,none⟩) b1.lt).trans (b1.cell 1),Nat.lt_of_lt_of_le b1.lt h.size⟩
 have fld:∀w:World,(Instr.field 109 (.agg #[.int .i64 (x0:Nat),.int .i64 (x1:Nat),.int .i64 (x2:Nat),.int .i64 (x3:Nat),.slice ba bk bc]) 0).run Tryz.prog w=.ok (.int .i64 (x0:Nat)) w:=fun w=>by kernel_rfl
 have HWV:=hid hWV
 have HB1:=hid b1
 have HB2:=hid b2
 have HVe:=hid hV
 have HVS:=hid hVs
 clear hV hWV b1 b2 KP hVs
 go_enter Tryz.func85,Tryz.ntmps85
 go_upto_region 1 with (fail)
 rw [show (W.alloc (.cells #[.string k,.string nm,.slice aa ar.length ac,.int .i64 nu,.int .i64 ro,.int .i64 pc] 79)).alloc (.cells #[.int .i64 p2,.int .i64 (n2:Nat),.bool g2,.int .u64 (m2:Nat),.int .u64 (v2:Nat)] 69)=V from HVe.out.symm]
 clear HVe
 go_region_held3 (fun w'=>Below V.heap.size V w'∧(w'.cell? ⟨lb,0,none⟩=some (.map (some mb))∧lb<w'.heap.size∧(Instr.lookup 60 (.map (some mb)) (.string nm) false).run Tryz.prog w'=.ok (.agg #[.int .i64 (x0:Nat),.int .i64 (x1:Nat),.int .i64 (x2:Nat),.int .i64 (x3:Nat),.slice ba bk bc]) w')∧w'.cell? ⟨W.heap.size,1,none⟩=some (.string nm)∧W.heap.size<w'.heap.size)
  ((refine SK.out _ ?_;first | exact below_drew (Below.refl _ _) | exact And.left (by assumption)))
  (fail)
 all_goals
  obtain ⟨V1,hV1⟩:∃V1,V1=V.drew:=⟨_,rfl⟩
  rw [←hV1]
  have hBV:Below V.heap.size V V1:=by rw [hV1];exact below_drew (Below.refl _ _)
  have HW1:=hid (btr HWV.out hBV)
  have HC1:=hid (below_bk HB1.out hBV)
  have HC2:=hid (below_bk HB2.out hBV)
  have HS1:Hid (W.heap.size+1+1≤V1.heap.size):=by have h1:=HVS.out;have h2:=hBV.size;show _≤_;omega
  clear hV1 hBV HB1 HB2 HVS SK HWV fld
  have c1:=HC1.out.cell
  have l1:=HC1.out.lt
  by_cases hx:x0=0
  case neg=>
   have hx':((x0:Int) != 0)=true:=bne_iff_ne.2 (by omega)
   have hSe:=hid (HN0.out hx)
   clear hx
   go_wp2
   rw [←HQ.out,hSe.out]
   exact def_bad HL.out HW1.out (by decide) (by omega)
  have hx':((x0:Int) != 0)=false:=by rw [hx];rfl
  have HX0:=hid hx
  clear hx
  by_cases ha:ar=[]
  ·have hSe:=hid (HN1.out HX0.out ha)
   have ha':((ar.length:Int)==0)=true:=by rw [ha];rfl
   clear ha
   go_wp2
   rw [←HQ.out,hSe.out]
   exact def_bad HL.out HW1.out (by decide) (by omega)
  have ha':((ar.length:Int)==0)=false:=by
   have:ar.length≠0:=fun e=>ha (List.eq_nil_of_length_eq_zero e)
   simp
   omega
  have HAN:=hid ha
  clear ha HN0 HN1
  have hmk:=fun w n=>zmap62 w n
  have hkV:=hid (below_bk HKB.out HW1.out)
  have e3:∀j,V1.cell? ⟨lb,j,none⟩=_:=hkV.out.cell
  have f3:∀j,V1.frozen? ⟨lb,j,none⟩=false:=hkV.out.free
  have l3:=hkV.out.lt
  go_wp2
  rw [hx']
  obtain ⟨W5,hW5⟩:∃W5,W5=((V1.setCell ⟨lb,3,none⟩ (.map (some V1.heap.size))).setCell ⟨lb,4,none⟩ (.int .i64 1)).alloc (.map #[] 0):=⟨_,rfl⟩
  obtain ⟨pb,hpb⟩:∃pb,pb=V1.heap.size:=⟨_,rfl⟩
  have HD0:Hid (DL W W5 lb mb en p (ar.map Ar.n) #[.string k,.string nm,.slice aa ar.length ac,.int .i64 nu,.int .i64 ro,.int .i64 pc] #[.int .i64 p2,.int .i64 (n2:Nat),.bool g2,.int .u64 (m2:Nat),.int .u64 (v2:Nat)] pb 0):=by rw [hW5,hpb];exact dl_new HL.out HW1.out HC1.out HC2.out HS1.out
  rw [←hW5]
  clear hW5 hmk e3 f3 l3 c1 l1 hpb
  go_loopw [39] (fun s wr=>∃kk:Nat,kk≤ar.length∧s=.int .i64 (kk:Nat)∧Hid (DL W wr lb mb en p (ar.map Ar.n) #[.string k,.string nm,.slice aa ar.length ac,.int .i64 nu,.int .i64 ro,.int .i64 pc] #[.int .i64 p2,.int .i64 (n2:Nat),.bool g2,.int .u64 (m2:Nat),.int .u64 (v2:Nat)] pb kk)∧Hid (∀j (h:j<ar.length),j<kk→ar[j].x= -1)) (fun s _=>ar.length-(intOf s).toNat)
  case atStart=>exact ⟨0,Nat.zero_le _,rfl,HD0,fun j h hj=>absurd hj (Nat.not_lt_zero _)⟩
  case round=>
   obtain ⟨kk,hk,rfl,hD,hXs⟩:=hrel
   clear HD0
   by_cases hlt:kk<ar.length
   ·obtain ⟨ab,ao,acp,e1,hac,a0,a1,al⟩:=sa_at HA.out hlt
    have hla:aa=some ⟨ab,ao,none⟩:=by cases e1;rfl
    subst hla
    have hBw:=hid (below_fr HL.out.below hD.out.fr HL.out.o1)
    have b0:wr.cell? ⟨ab,ao+kk*2,none⟩=some (.string ar[kk].n):=(hBw.out.cell (p:=⟨ab,ao+kk*2,none⟩) al).trans a0
    have b1:wr.cell? ⟨ab,ao+kk*2+1,none⟩=some (.int .i64 ar[kk].x):=(hBw.out.cell (p:=⟨ab,ao+kk*2+1,none⟩) al).trans a1
    have al2:ab<wr.heap.size:=Nat.lt_of_lt_of_le al hBw.out.size
    have hkb:kk+1≤6000000000000:=by have:=HAL.out;omega
    have HSZ:=hid (HZ.out ar[kk] (List.getElem_mem hlt))
    have HNE:=hid (HN2.out HX0.out HAN.out ar[kk] (List.getElem_mem hlt))
    have HPUT:Hid (∀w',Below wr.heap.size wr w'→∃W',(Instr.mapUpdate 62 (.map (some pb)) (.string ar[kk].n) (.int .i64 (kk:Nat))).run Tryz.prog w'=.ok () W'∧DL W W' lb mb en p (ar.map Ar.n) #[.string k,.string nm,.slice (some ⟨ab,ao,none⟩) ar.length ac,.int .i64 nu,.int .i64 ro,.int .i64 pc] #[.int .i64 p2,.int .i64 (n2:Nat),.bool g2,.int .u64 (m2:Nat),.int .u64 (v2:Nat)] pb (kk+1)):=fun w' h=>by
     have hl:kk<(ar.map Ar.n).length:=by rw [List.length_map];exact hlt
     have e:(ar.map Ar.n)[kk]=ar[kk].n:=by simp
     obtain ⟨W',h1,h2,_⟩:=(hD.out.on h).put HLB.out hl (by unfold maxLen;omega) (by rw [e];exact HSZ.out)
     rw [e] at h1
     exact ⟨W',h1,h2⟩
    have HXN:Hid (ar[kk].x= -1→∀j (h:j<ar.length),j<kk+1→ar[j].x= -1):=fun hx j h hj=>by
     by_cases e:j<kk
     ·exact hXs.out j h e
     ·obtain rfl:j=kk:=by omega
      exact hx
    clear e1 a0 a1 al hac hBw
    generalize ar[kk]=ag at *
    obtain ⟨an,ax⟩:=ag
    simp only at *
    have e3:wr.cell? ⟨lb,3,none⟩=some (.map (some pb)):=hD.out.box.cell 3
    have l3:=hD.out.box.lt
    by_cases hax:ax= -1
    case neg=>
     have hSe:=hid (HNE.out hax)
     have hax':(ax != -1)=true:=bne_iff_ne.2 hax
     clear hax
     go_wp2
     rw [←HQ.out,hSe.out]
     exact def_bad2 HL.out (hD.out.on (bal (Below.refl _ _) _)) (by decide) (by omega)
    ·have hax':(ax != -1)=false:=by rw [hax];rfl
     have HXQ:=hid (HXN.out hax)
     clear hax HNE HXN
     go_upto_region 11 with (fail)
     obtain ⟨W6,hW6⟩:∃W6,W6=wr.alloc (.cells #[.string an,.int .i64 ax] 100):=⟨_,rfl⟩
     have hB6:Below wr.heap.size wr W6:=by rw [hW6];exact bal (Below.refl _ _) _
     have bx:BK W6 wr.heap.size #[.string an,.int .i64 ax] 100:=by rw [hW6];exact bk_new _ _ _
     obtain ⟨W7,hr7,hD7⟩:=HPUT.out W6.drew (below_drew hB6)
     have S11K:Hid ((W6.drew.cell? ⟨lb,3,none⟩=some (.map (some pb))∧lb<W6.drew.heap.size)∧W6.drew.cell? ⟨wr.heap.size,0,none⟩=some (.string an)∧wr.heap.size<W6.drew.heap.size):=⟨⟨(hB6.cell (p:=⟨lb,3,none⟩) l3).trans e3,Nat.lt_of_lt_of_le l3 hB6.size⟩,bx.cell 0,bx.lt⟩
     rw [←hW6]
     have HD7:=hid hD7
     clear hW6 hB6 bx hD7 e3 l3 HPUT
     refine wp_region_noPanic ?_
     refine region_z (S:=fun w'=>(w'.cell? ⟨lb,3,none⟩=some (.map (some pb))∧lb<w'.heap.size)∧w'.cell? ⟨wr.heap.size,0,none⟩=some (.string an)∧wr.heap.size<w'.heap.size) 7 (by kernel_rfl) (S11K.out) (fun hHeld=>?_)
     refine zqq 0 (v:=?_) rfl (Or.inl ⟨by rfl,?_⟩) (by assumption) ?_
     rotate_left
     (intro w0 hSw;(try dsimp only at hSw);go_simp;try (with_reducible rfl))
     (try simp only [Act.put])
     refine zqq 1 (v:=?_) rfl (Or.inl ⟨by rfl,?_⟩) (by assumption) ?_
     rotate_left
     (intro w0 hSw;(try dsimp only at hSw);go_simp;try (with_reducible rfl))
     (try simp only [Act.put])
     refine zqq 2 (v:=?_) rfl (Or.inl ⟨by rfl,?_⟩) (by assumption) ?_
     rotate_left
     (intro w0 hSw;(try dsimp only at hSw);go_simp;try (with_reducible rfl))
     (try simp only [Act.put])
     refine zqq 3 (v:=?_) rfl (Or.inl ⟨by rfl,?_⟩) (by assumption) ?_
     rotate_left
     (intro w0 hSw;(try dsimp only at hSw);go_simp;try (with_reducible rfl))
     (try simp only [Act.put])
     refine zqq 4 (v:=?_) rfl (Or.inl ⟨by rfl,?_⟩) (by assumption) ?_
     rotate_left
     (intro w0 hSw;(try dsimp only at hSw);go_simp;try (with_reducible rfl))
     (try simp only [Act.put])
     refine zqq 5 (v:=?_) rfl (Or.inl ⟨by rfl,?_⟩) (by assumption) ?_
     rotate_left
     (intro w0 hSw;(try dsimp only at hSw);go_simp;try (with_reducible rfl))
     (try simp only [Act.put])
     refine zqq 6 (v:=?_) rfl (Or.inl ⟨by rfl,?_⟩) (by assumption) ?_
     rotate_left
     (intro w0 hSw;(try dsimp only at hSw);go_simp;try (with_reducible rfl))
     (try simp only [Act.put])
     refine zAny_ready (rs := [7]) (by kernel_rfl) (by simp) (zReady.cons (o := { dst := none, op := Op.mapUpdate 62 (Operand.tmp 50) (Operand.tmp 52) (Operand.tmp 53), type := 0, pos := "kinds.go:36", after := #[{ on := 3, ground := Ground.data }, { on := 5, ground := Ground.data }, { on := 6, ground := Ground.data }, { on := 0, ground := Ground.phase }, { on := 1, ground := Ground.phase }, { on := 2, ground := Ground.phase }, { on := 3, ground := Ground.phase }, { on := 4, ground := Ground.phase }, { on := 5, ground := Ground.phase }, { on := 6, ground := Ground.phase }], guard := none }) rfl (fun K hK => ?_) zReady.nil)
     go_simp
     refine hK.out _ _ (fun h=>absurd rfl h) (fun _=>?_)
     clear hK K hHeld
     (try simp only [Act.put])
     refine zAny_done (by kernel_rfl) ?_ _
     refine NoPanic.normal ?_
     clear hr7
     go_wp2
     go_round
     case rel=>exact ⟨kk+1,by omega,by go_num,HD7,HXQ⟩
     case measure=>simp [intOf];omega
   ·obtain rfl:kk=ar.length:=by omega
    have HXA:Hid (∀a∈ar,a.x= -1):=fun a hm=>by
     obtain ⟨j,hj,e⟩:=List.mem_iff_getElem.1 hm
     rw [←e]
     exact hXs.out j hj hj
    obtain ⟨zz,hzz⟩:∃zz,zz=prZ (ar.map Ar.n) ar.length:=⟨_,rfl⟩
    have HND:Hid (zz=ar.length↔(ar.map Ar.n).Nodup):=by
     have h1:=prZ_eq (l:=ar.map Ar.n) (k:=ar.length) (by rw [List.length_map];exact Nat.le_refl _)
     rw [←hzz] at h1
     rw [show (ar.map Ar.n).take ar.length=ar.map Ar.n from List.take_of_length_le (by rw [List.length_map];exact Nat.le_refl _)] at h1
     exact h1
    have HZL:Hid (zz≤ar.length):=by rw [hzz];exact prZ_le _ _
    have S13K:Hid (∀w',Below wr.heap.size wr w'→(Below wr.heap.size wr w'∧(w'.cell? ⟨lb,3,none⟩=some (.map (some pb))∧lb<w'.heap.size)∧(Builtin.len_ #[62] 3 #[.map (some pb)]).run Tryz.prog w'=.ok (.int .i64 (zz:Nat)) w'∧w'.cell? ⟨W.heap.size,2,none⟩=some (.slice aa ar.length ac)∧W.heap.size<w'.heap.size)):=fun w' h=>by
     have hd:=hD.out.on h
     have hm:=hd.mf
     rw [←hzz] at hm
     exact ⟨h,⟨hd.box.cell 3,hd.box.lt⟩,hm.len (t:=62) (e:=3) (by kernel_rfl) 3,hd.b1.cell 2,hd.b1.lt⟩
    clear hzz hlt hXs
    go_upto_region 13 with (fail)
    go_region_held3 (fun w'=>Below wr.heap.size wr w'∧(w'.cell? ⟨lb,3,none⟩=some (.map (some pb))∧lb<w'.heap.size)∧(Builtin.len_ #[62] 3 #[.map (some pb)]).run Tryz.prog w'=.ok (.int .i64 (zz:Nat)) w'∧w'.cell? ⟨W.heap.size,2,none⟩=some (.slice aa ar.length ac)∧W.heap.size<w'.heap.size)
     ((refine S13K.out _ ?_;first | exact below_drew (Below.refl _ _) | exact And.left (by assumption)))
     (fail)
    all_goals
     obtain ⟨W8,hW8⟩:∃W8,W8=wr.drew:=⟨_,rfl⟩
     have HD8:Hid (DL W W8 lb mb en p (ar.map Ar.n) #[.string k,.string nm,.slice aa ar.length ac,.int .i64 nu,.int .i64 ro,.int .i64 pc] #[.int .i64 p2,.int .i64 (n2:Nat),.bool g2,.int .u64 (m2:Nat),.int .u64 (v2:Nat)] pb ar.length):=by rw [hW8];exact hD.out.on (below_drew (Below.refl _ _))
     rw [←hW8]
     clear hW8 hD S13K
     by_cases hnd:(ar.map Ar.n).Nodup
     case neg=>
      have hz':(zz:Int)<(ar.length:Int):=by
       have h1:=HZL.out
       have h2:zz≠ar.length:=fun e=>hnd (HND.out.1 e)
       omega
      have hSe:=hid (HN3.out HX0.out HAN.out HXA.out hnd)
      clear hnd
      go_wp2
      rw [←HQ.out,hSe.out]
      exact def_bad2 HL.out HD8.out (by decide) (by omega)
     have hz':¬(zz:Int)<(ar.length:Int):=by
      have h2:=HND.out.2 hnd
      omega
     have HREC:=hid (HN4.out HX0.out HAN.out HXA.out hnd)
     have HK8:=hid (HD8.out.lk (by rw [List.length_map]) HL.out hnd)
     clear hnd HND HZL HN2 HN3 HN4
     go_upto_region 15 with (fail)
     obtain ⟨W9,hr9,hK9,hG9⟩:=(HK8.out.fr (W':=W8.drew) (below_drew (Below.refl _ _))).take (by have:=HNN.out;unfold maxLen;omega) nm HSN.out ⟨4,0,0,0,[]⟩ (.agg #[.int .i64 4,.int .i64 0,.int .i64 0,.int .i64 0,.slice none 0 0]) ⟨none,0,0,[],rfl,pl_nil _ _ _ _ _,T4.refl _⟩
     have hne:mb<W.heap.size:=hmb
     have S15K:Hid ((W8.drew.cell? ⟨lb,0,none⟩=some (.map (some mb))∧lb<W8.drew.heap.size)∧W8.drew.cell? ⟨W.heap.size,1,none⟩=some (.string nm)∧W.heap.size<W8.drew.heap.size):=⟨⟨HD8.out.box.cell 0,HD8.out.box.lt⟩,HD8.out.b1.cell 1,HD8.out.b1.lt⟩
     have HF9:Hid (Fr W W9 w0.heap.size hi.h):=((HD8.out.fr.widen HL.out.o1 HL.out.o3).blw (below_drew (Below.refl _ _))).grown hG9 (fun b e=>by cases e;exact .inl ⟨HL.out.o2,HL.out.o4⟩)
     have f9:Fr W8.drew W9 mb (mb+1):=(Fr.refl _ _ _).grown hG9 (fun b e=>by cases e;exact .inl ⟨Nat.le_refl _,Nat.lt_succ_self _⟩)
     have HG1:=hid (f9.bk HD8.out.b1.drew (.inr (by omega)))
     have HG2:=hid (f9.bk HD8.out.b2.drew (.inr (by omega)))
     have HK9:=hid hK9
     clear hG9 f9 hK9 HK8
     refine wp_region_noPanic ?_
     refine region_z (S:=fun w'=>(w'.cell? ⟨lb,0,none⟩=some (.map (some mb))∧lb<w'.heap.size)∧w'.cell? ⟨W.heap.size,1,none⟩=some (.string nm)∧W.heap.size<w'.heap.size) 7 (by kernel_rfl) (S15K.out) (fun hHeld=>?_)
     refine zqq 0 (v:=?_) rfl (Or.inl ⟨by rfl,?_⟩) (by assumption) ?_
     rotate_left
     (intro w0 hSw;(try dsimp only at hSw);go_simp;try (with_reducible rfl))
     (try simp only [Act.put])
     refine zqq 1 (v:=?_) rfl (Or.inl ⟨by rfl,?_⟩) (by assumption) ?_
     rotate_left
     (intro w0 hSw;(try dsimp only at hSw);go_simp;try (with_reducible rfl))
     (try simp only [Act.put])
     refine zqq 2 (v:=?_) rfl (Or.inl ⟨by rfl,?_⟩) (by assumption) ?_
     rotate_left
     (intro w0 hSw;(try dsimp only at hSw);go_simp;try (with_reducible rfl))
     (try simp only [Act.put])
     refine zqq 3 (v:=?_) rfl (Or.inl ⟨by rfl,?_⟩) (by assumption) ?_
     rotate_left
     (intro w0 hSw;(try dsimp only at hSw);go_simp;try (with_reducible rfl))
     (try simp only [Act.put])
     refine zqq 4 (v:=?_) rfl (Or.inl ⟨by rfl,?_⟩) (by assumption) ?_
     rotate_left
     (intro w0 hSw;(try dsimp only at hSw);go_simp;try (with_reducible rfl))
     (try simp only [Act.put])
     refine zqq 5 (v:=?_) rfl (Or.inl ⟨by rfl,?_⟩) (by assumption) ?_
     rotate_left
     (intro w0 hSw;(try dsimp only at hSw);go_simp;try (with_reducible rfl))
     (try simp only [Act.put])
     refine zqq 6 (v:=?_) rfl (Or.inl ⟨by rfl,?_⟩) (by assumption) ?_
     rotate_left
     (intro w0 hSw;(try dsimp only at hSw);go_simp;try (with_reducible rfl))
     (try simp only [Act.put])
     refine zAny_ready (rs := [7]) (by kernel_rfl) (by simp) (zReady.cons (o := { dst := none, op := Op.mapUpdate 60 (Operand.tmp 67) (Operand.tmp 69) (Operand.tmp 70), type := 0, pos := "kinds.go:41", after := #[{ on := 3, ground := Ground.data }, { on := 5, ground := Ground.data }, { on := 6, ground := Ground.data }, { on := 0, ground := Ground.phase }, { on := 1, ground := Ground.phase }, { on := 2, ground := Ground.phase }, { on := 3, ground := Ground.phase }, { on := 4, ground := Ground.phase }, { on := 5, ground := Ground.phase }, { on := 6, ground := Ground.phase }], guard := none }) rfl (fun K hK => ?_) zReady.nil)
     go_simp
     refine hK.out _ _ (fun h=>absurd rfl h) (fun _=>?_)
     clear hK K hHeld
     (try simp only [Act.put])
     refine zAny_done (by kernel_rfl) ?_ _
     refine NoPanic.normal ?_
     clear hr9
     have c2:=HG2.out.cell
     have l2:=HG2.out.lt
     have FB9:=hid (FB.out HAN.out W9 HK9.out)
     clear FB
     go_wp2_with (go_at_call 25;refine Hid.out ?_)
     refine hid ?_
     refine FB9.out.mono ?_
     unfold BodyO
     rintro e w1 ⟨hF,hcase⟩
     have hh:hi.h≤W.heap.size:=HL.out.o5
     have HH1:=hid (hF.bk HG1.out (.inr hh))
     have HFW:Hid (Fr W w1 w0.heap.size hi.h):=HF9.out.trans hF
     clear c2 l2 HG1 HG2 hF HF9 HK9 FB9 HD8 S15K
     rcases hcase with ⟨x,v',hT,rfl,⟨a1,n1,c1,rfl⟩,hx,hle⟩ | ⟨en1,L,v',L',pl',N',hT,rfl,hLK,hN',hok1,hpr,hP,hT4⟩
     ·have hSe:=hid (HREC.out.1 x hT)
      obtain ⟨q,b,pv',dd,N',f,z,kb,km,kN⟩:=hle
      have kmd:MF w1.drew mb N' f z:=km
      obtain ⟨W10,hr10,hm10,hg10⟩:=kmd.put Tryz.underlying60 (by have:=HNN.out;unfold maxLen;omega) HSN.out (.agg #[.int .i64 5,.int .i64 0,.int .i64 (ar.length:Nat),.int .i64 dd,.slice a1 n1 c1])
      have S17K:Hid ((w1.drew.cell? ⟨lb,0,none⟩=some (.map (some mb))∧w1.drew.cell? ⟨lb,4,none⟩=some (.int .i64 dd)∧lb<w1.drew.heap.size)∧(w1.drew.cell? ⟨W.heap.size,1,none⟩=some (.string nm)∧w1.drew.cell? ⟨W.heap.size,2,none⟩=some (.slice aa ar.length ac))∧W.heap.size<w1.drew.heap.size):=⟨⟨kb.cell 0,kb.cell 4,kb.lt⟩,⟨HH1.out.cell 1,HH1.out.cell 2⟩,HH1.out.lt⟩
      have f10:Fr w1.drew W10 mb (mb+1):=(Fr.refl _ _ _).grown hg10 (fun b e=>by cases e;exact .inl ⟨Nat.le_refl _,Nat.lt_succ_self _⟩)
      have HKB10:Hid (BK W10 lb _ 64):=f10.bk kb.drew (by have:=HL.out.o6;omega)
      have HM10:=hid hm10
      have HFE:Hid (Fr W W10 w0.heap.size hi.h):=(HFW.out.blw (below_drew (Below.refl _ _))).grown hg10 (fun b e=>by cases e;exact .inl ⟨HL.out.o2,HL.out.o4⟩)
      have HKN:=hid kN
      clear kb km kmd hm10 hg10 f10 hT kN
      go_upto_region 17 with (fail)
      refine wp_region_noPanic ?_
      refine region_z (S:=fun w'=>(w'.cell? ⟨lb,0,none⟩=some (.map (some mb))∧w'.cell? ⟨lb,4,none⟩=some (.int .i64 dd)∧lb<w'.heap.size)∧(w'.cell? ⟨W.heap.size,1,none⟩=some (.string nm)∧w'.cell? ⟨W.heap.size,2,none⟩=some (.slice aa ar.length ac))∧W.heap.size<w'.heap.size) 15 (by kernel_rfl) (S17K.out) (fun hHeld=>?_)
      refine zqq 0 (v:=?_) rfl (Or.inl ⟨by rfl,?_⟩) (by assumption) ?_
      rotate_left
      (intro w0 hSw;(try dsimp only at hSw);go_simp;try (with_reducible rfl))
      (try simp only [Act.put])
      refine zqq 1 (v:=?_) rfl (Or.inl ⟨by rfl,?_⟩) (by assumption) ?_
      rotate_left
      (intro w0 hSw;(try dsimp only at hSw);go_simp;try (with_reducible rfl))
      (try simp only [Act.put])
      refine zqq 2 (v:=?_) rfl (Or.inl ⟨by rfl,?_⟩) (by assumption) ?_
      rotate_left
      (intro w0 hSw;(try dsimp only at hSw);go_simp;try (with_reducible rfl))
      (try simp only [Act.put])
      refine zqq 3 (v:=?_) rfl (Or.inl ⟨by rfl,?_⟩) (by assumption) ?_
      rotate_left
      (intro w0 hSw;(try dsimp only at hSw);go_simp;try (with_reducible rfl))
      (try simp only [Act.put])
      refine zqq 4 (v:=?_) rfl (Or.inl ⟨by rfl,?_⟩) (by assumption) ?_
      rotate_left
      (intro w0 hSw;(try dsimp only at hSw);go_simp;try (with_reducible rfl))
      (try simp only [Act.put])
      refine zqq 5 (v:=?_) rfl (Or.inl ⟨by rfl,?_⟩) (by assumption) ?_
      rotate_left
      (intro w0 hSw;(try dsimp only at hSw);go_simp;try (with_reducible rfl))
      (try simp only [Act.put])
      refine zqq 6 (v:=?_) rfl (Or.inl ⟨by rfl,?_⟩) (by assumption) ?_
      rotate_left
      (intro w0 hSw;(try dsimp only at hSw);go_simp;try (with_reducible rfl))
      (try simp only [Act.put])
      refine zqq 7 (v:=?_) rfl (Or.inl ⟨by rfl,?_⟩) (by assumption) ?_
      rotate_left
      (intro w0 hSw;(try dsimp only at hSw);go_simp;try (with_reducible rfl))
      (try simp only [Act.put])
      refine zqq 8 (v:=?_) rfl (Or.inl ⟨by rfl,?_⟩) (by assumption) ?_
      rotate_left
      (intro w0 hSw;(try dsimp only at hSw);go_simp;try (with_reducible rfl))
      (try simp only [Act.put])
      refine zqq 9 (v:=?_) rfl (Or.inl ⟨by rfl,?_⟩) (by assumption) ?_
      rotate_left
      (intro w0 hSw;(try dsimp only at hSw);go_simp;try (with_reducible rfl))
      (try simp only [Act.put])
      refine zqq 10 (v:=?_) rfl (Or.inl ⟨by rfl,?_⟩) (by assumption) ?_
      rotate_left
      (intro w0 hSw;(try dsimp only at hSw);go_simp;try (with_reducible rfl))
      (try simp only [Act.put])
      refine zqq 11 (v:=?_) rfl (Or.inl ⟨by rfl,?_⟩) (by assumption) ?_
      rotate_left
      (intro w0 hSw;(try dsimp only at hSw);go_simp;try (with_reducible rfl))
      (try simp only [Act.put])
      refine zqq 12 (v:=?_) rfl (Or.inl ⟨by rfl,?_⟩) (by assumption) ?_
      rotate_left
      (intro w0 hSw;(try dsimp only at hSw);go_simp;try (with_reducible rfl))
      (try simp only [Act.put])
      refine zqq 13 (v:=?_) rfl (Or.inl ⟨by rfl,?_⟩) (by assumption) ?_
      rotate_left
      (intro w0 hSw;(try dsimp only at hSw);go_simp;try (with_reducible rfl))
      (try simp only [Act.put])
      refine zqq 14 (v:=?_) rfl (Or.inl ⟨by rfl,?_⟩) (by assumption) ?_
      rotate_left
      (intro w0 hSw;(try dsimp only at hSw);go_simp;try (with_reducible rfl))
      (try simp only [Act.put])
      refine zAny_ready (rs := [15]) (by kernel_rfl) (by simp) (zReady.cons (o := { dst := none, op := Op.mapUpdate 60 (Operand.tmp 81) (Operand.tmp 83) (Operand.tmp 92), type := 0, pos := "kinds.go:43", after := #[{ on := 3, ground := Ground.data }, { on := 5, ground := Ground.data }, { on := 14, ground := Ground.data }, { on := 0, ground := Ground.phase }, { on := 1, ground := Ground.phase }, { on := 2, ground := Ground.phase }, { on := 3, ground := Ground.phase }, { on := 4, ground := Ground.phase }, { on := 5, ground := Ground.phase }, { on := 6, ground := Ground.phase }, { on := 7, ground := Ground.phase }, { on := 8, ground := Ground.phase }, { on := 9, ground := Ground.phase }, { on := 10, ground := Ground.phase }, { on := 11, ground := Ground.phase }, { on := 12, ground := Ground.phase }, { on := 13, ground := Ground.phase }, { on := 14, ground := Ground.phase }], guard := none }) rfl (fun K hK => ?_) zReady.nil)
      go_simp
      refine hK.out _ _ (fun h=>absurd rfl h) (fun _=>?_)
      clear hK K hHeld
      (try simp only [Act.put])
      refine zAny_done (by kernel_rfl) ?_ _
      refine NoPanic.normal ?_
      clear hr10
      go_wp2
      rw [←HQ.out,hSe.out]
      exact ⟨HFE.out,.inl ⟨x,rfl,rfl,hx,_,_,_,_,_,_,_,HKB10.out,HM10.out,by have:=HKN.out;omega⟩⟩
     ·obtain ⟨hSe0,hLn⟩:=HREC.out.2 en1 L hT
      have hSe:=hid hSe0
      have HLn:=hid hLn
      obtain ⟨a1,n1,c1,rfl,_⟩:=hP.shape
      have hlen:nq g2 en1=ar.length:=by
       have hg2:g2=true:=HIG.out
       unfold nq
       rw [if_pos hg2,hpr.1 hg2]
       simp
      have hP2:PL w1.drew hi ar.length (.slice a1 n1 c1) L':=by
       have h:=hP
       rw [show nq (({ nm:=putN en.nm nm { s:=4,f:=0,z:=0,d:=0,l:=[] },q:=en.q,b:=en.b,pr:=List.map Ar.n ar,d:=1 }:En),g2).2 en1=ar.length from hlen] at h
       exact h.far (lo':=0) (hi':=0) (fr_of_below (below_drew (Below.refl _ _))) (fun _ _=>.inr (Nat.zero_le _))
      obtain ⟨pv1,kb,_⟩:=hLK.box
      obtain ⟨dd,hdd⟩:∃dd:Int,dd=(en1.d:Nat):=⟨_,rfl⟩
      obtain ⟨W10,hr10,hK10,hg10⟩:=(hLK.fr (W':=w1.drew) (below_drew (Below.refl _ _))).take (by have:=HNN.out;unfold maxLen;omega) nm HSN.out ⟨5,0,ar.length,en1.d,L⟩ (.agg #[.int .i64 5,.int .i64 0,.int .i64 (ar.length:Nat),.int .i64 dd,.slice a1 n1 c1]) ⟨a1,n1,c1,L',by rw [hdd];rfl,hP2,hT4⟩
      have S17K:Hid ((w1.drew.cell? ⟨lb,0,none⟩=some (.map (some mb))∧w1.drew.cell? ⟨lb,4,none⟩=some (.int .i64 dd)∧lb<w1.drew.heap.size)∧(w1.drew.cell? ⟨W.heap.size,1,none⟩=some (.string nm)∧w1.drew.cell? ⟨W.heap.size,2,none⟩=some (.slice aa ar.length ac))∧W.heap.size<w1.drew.heap.size):=⟨⟨kb.cell 0,by rw [hdd];exact kb.cell 4,kb.lt⟩,⟨HH1.out.cell 1,HH1.out.cell 2⟩,HH1.out.lt⟩
      have HFE:Hid (Fr W W10 w0.heap.size hi.h):=(HFW.out.blw (below_drew (Below.refl _ _))).grown hg10 (fun b e=>by cases e;exact .inl ⟨HL.out.o2,HL.out.o4⟩)
      have HK10:=hid hK10
      have HO1:=hid (defined_ok hok1 nm ar.length L HAL.out HLn.out)
      have HQQ:=hid hpr.2
      have HN1':=hid hN'
      clear kb hK10 hg10 hT hLK hok1 hP hP2 hT4 hlen hdd hSe0 hLn hpr hN'
      go_upto_region 17 with (fail)
      refine wp_region_noPanic ?_
      refine region_z (S:=fun w'=>(w'.cell? ⟨lb,0,none⟩=some (.map (some mb))∧w'.cell? ⟨lb,4,none⟩=some (.int .i64 dd)∧lb<w'.heap.size)∧(w'.cell? ⟨W.heap.size,1,none⟩=some (.string nm)∧w'.cell? ⟨W.heap.size,2,none⟩=some (.slice aa ar.length ac))∧W.heap.size<w'.heap.size) 15 (by kernel_rfl) (S17K.out) (fun hHeld=>?_)
      refine zqq 0 (v:=?_) rfl (Or.inl ⟨by rfl,?_⟩) (by assumption) ?_
      rotate_left
      (intro w0 hSw;(try dsimp only at hSw);go_simp;try (with_reducible rfl))
      (try simp only [Act.put])
      refine zqq 1 (v:=?_) rfl (Or.inl ⟨by rfl,?_⟩) (by assumption) ?_
      rotate_left
      (intro w0 hSw;(try dsimp only at hSw);go_simp;try (with_reducible rfl))
      (try simp only [Act.put])
      refine zqq 2 (v:=?_) rfl (Or.inl ⟨by rfl,?_⟩) (by assumption) ?_
      rotate_left
      (intro w0 hSw;(try dsimp only at hSw);go_simp;try (with_reducible rfl))
      (try simp only [Act.put])
      refine zqq 3 (v:=?_) rfl (Or.inl ⟨by rfl,?_⟩) (by assumption) ?_
      rotate_left
      (intro w0 hSw;(try dsimp only at hSw);go_simp;try (with_reducible rfl))
      (try simp only [Act.put])
      refine zqq 4 (v:=?_) rfl (Or.inl ⟨by rfl,?_⟩) (by assumption) ?_
      rotate_left
      (intro w0 hSw;(try dsimp only at hSw);go_simp;try (with_reducible rfl))
      (try simp only [Act.put])
      refine zqq 5 (v:=?_) rfl (Or.inl ⟨by rfl,?_⟩) (by assumption) ?_
      rotate_left
      (intro w0 hSw;(try dsimp only at hSw);go_simp;try (with_reducible rfl))
      (try simp only [Act.put])
      refine zqq 6 (v:=?_) rfl (Or.inl ⟨by rfl,?_⟩) (by assumption) ?_
      rotate_left
      (intro w0 hSw;(try dsimp only at hSw);go_simp;try (with_reducible rfl))
      (try simp only [Act.put])
      refine zqq 7 (v:=?_) rfl (Or.inl ⟨by rfl,?_⟩) (by assumption) ?_
      rotate_left
      (intro w0 hSw;(try dsimp only at hSw);go_simp;try (with_reducible rfl))
      (try simp only [Act.put])
      refine zqq 8 (v:=?_) rfl (Or.inl ⟨by rfl,?_⟩) (by assumption) ?_
      rotate_left
      (intro w0 hSw;(try dsimp only at hSw);go_simp;try (with_reducible rfl))
      (try simp only [Act.put])
      refine zqq 9 (v:=?_) rfl (Or.inl ⟨by rfl,?_⟩) (by assumption) ?_
      rotate_left
      (intro w0 hSw;(try dsimp only at hSw);go_simp;try (with_reducible rfl))
      (try simp only [Act.put])
      refine zqq 10 (v:=?_) rfl (Or.inl ⟨by rfl,?_⟩) (by assumption) ?_
      rotate_left
      (intro w0 hSw;(try dsimp only at hSw);go_simp;try (with_reducible rfl))
      (try simp only [Act.put])
      refine zqq 11 (v:=?_) rfl (Or.inl ⟨by rfl,?_⟩) (by assumption) ?_
      rotate_left
      (intro w0 hSw;(try dsimp only at hSw);go_simp;try (with_reducible rfl))
      (try simp only [Act.put])
      refine zqq 12 (v:=?_) rfl (Or.inl ⟨by rfl,?_⟩) (by assumption) ?_
      rotate_left
      (intro w0 hSw;(try dsimp only at hSw);go_simp;try (with_reducible rfl))
      (try simp only [Act.put])
      refine zqq 13 (v:=?_) rfl (Or.inl ⟨by rfl,?_⟩) (by assumption) ?_
      rotate_left
      (intro w0 hSw;(try dsimp only at hSw);go_simp;try (with_reducible rfl))
      (try simp only [Act.put])
      refine zqq 14 (v:=?_) rfl (Or.inl ⟨by rfl,?_⟩) (by assumption) ?_
      rotate_left
      (intro w0 hSw;(try dsimp only at hSw);go_simp;try (with_reducible rfl))
      (try simp only [Act.put])
      refine zAny_ready (rs := [15]) (by kernel_rfl) (by simp) (zReady.cons (o := { dst := none, op := Op.mapUpdate 60 (Operand.tmp 81) (Operand.tmp 83) (Operand.tmp 92), type := 0, pos := "kinds.go:43", after := #[{ on := 3, ground := Ground.data }, { on := 5, ground := Ground.data }, { on := 14, ground := Ground.data }, { on := 0, ground := Ground.phase }, { on := 1, ground := Ground.phase }, { on := 2, ground := Ground.phase }, { on := 3, ground := Ground.phase }, { on := 4, ground := Ground.phase }, { on := 5, ground := Ground.phase }, { on := 6, ground := Ground.phase }, { on := 7, ground := Ground.phase }, { on := 8, ground := Ground.phase }, { on := 9, ground := Ground.phase }, { on := 10, ground := Ground.phase }, { on := 11, ground := Ground.phase }, { on := 12, ground := Ground.phase }, { on := 13, ground := Ground.phase }, { on := 14, ground := Ground.phase }], guard := none }) rfl (fun K hK => ?_) zReady.nil)
      go_simp
      refine hK.out _ _ (fun h=>absurd rfl h) (fun _=>?_)
      clear hK K hHeld
      (try simp only [Act.put])
      refine zAny_done (by kernel_rfl) ?_ _
      refine NoPanic.normal ?_
      clear hr10
      go_wp2
      rw [←HQ.out,hSe.out]
      exact ⟨HFE.out,.inr ⟨_,_,_,rfl,rfl,HK10.out,by have:=HN1'.out;omega,HO1.out,HQQ.out⟩⟩
end Go.Proofs.YtdjfpghgklkejaaGreatDoor
