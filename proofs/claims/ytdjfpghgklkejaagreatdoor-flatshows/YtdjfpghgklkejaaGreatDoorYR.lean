/-
  Put together of: FQa FQ FR FTa.
-/
import Derived.Test.YtdjfpghgklkejaaGreatDoorYB
import Derived.Test.YtdjfpghgklkejaaGreatDoorYX
import Derived.Test.YtdjfpghgklkejaaGreatDoorXT
import Derived.Test.YtdjfpghgklkejaaGreatDoorXU
import Derived.Test.YtdjfpghgklkejaaGreatDoorYU
import Derived.Test.YtdjfpghgklkejaaGreatDoorYO
import Derived.Test.YtdjfpghgklkejaaGreatDoorYY
namespace Go.Proofs.YtdjfpghgklkejaaGreatDoor
open Go.RowKit Go.Sort
theorem RowO.shape {w0 W W':World} {lb mb M:Nat} {hi:HG} {pr:En × Bool} {S:Except Fa (En × List TO)} {e:Ending} (h:RowO w0 W W' lb mb hi M pr S e):∃p x,e=.returned (.tuple #[ppV p,.int .i64 x]):=by
 rcases h.2 with ⟨x,_,⟨p,rfl⟩,_⟩ | ⟨_,_,p,_,_,_,rfl,_⟩
 ·exact ⟨p,_,rfl⟩
 ·exact ⟨p,_,rfl⟩
structure BX (w0 W V w1:World) (hi:HG) (b:Nat):Prop where
 below:Below W.heap.size W V
 fr:Fr V w1 w0.heap.size hi.h
 b0:W.heap.size≤b
 b1:b<V.heap.size
 h:hi.h≤W.heap.size
 up:∀b,W.heap.size≤b→hi.G b
section
variable {w0 W V w1 : World} {lb mb N M : Nat} {hi : HG} {b : Nat} {en : En} {pl : Int}
theorem BX.hx (B:BX w0 W V w1 hi b):∀c,(hi.cut W.heap.size V.heap.size).G c→c<b∨b+1≤c:=fun c hc=>by
 have h1:=B.b0
 have h2:=B.b1
 rcases hc.2 with h | h <;> omega
theorem BX.lk (B:BX w0 W V w1 hi b) (us:List Value) (H:LK w0 w1 lb mb (hi.cut W.heap.size V.heap.size) N en pl):LK w0 (w1.setCells b 0 us) lb mb hi N en pl:=by
 have gs:=(fr_sets b us 0 w1).1
 have hb:=B.b0
 have hh:=B.h
 exact (H.far gs B.hx (by show hi.h≤b;omega)).wide (hi2:=hi) rfl (fun c _ hc=>hc.1) (fun c hc=>B.up c (Nat.le_trans B.below.size (Nat.le_trans (Nat.le_trans B.fr.size gs.size) hc)))
theorem BX.fw (B:BX w0 W V w1 hi b) (us:List Value):Fr W (w1.setCells b 0 us) w0.heap.size hi.h:=((fr_of_below B.below).trans B.fr).sets B.b0 us
theorem BX.le (B:BX w0 W V w1 hi b) (us:List Value) (h:LE w1 lb mb M pl) (h1:lb<hi.h) (h2:mb<hi.h):LE (w1.setCells b 0 us) lb mb M pl:=by
 have hb:=B.b0
 have hh:=B.h
 exact h.fr (fr_sets b us 0 w1).1 (.inl (by omega)) (.inl (by omega))
theorem BX.rowP (B:BX w0 W V w1 hi b) (us:List Value) {nn:Nat} {p:PP} {L:List TO} (h:RowP w1 (hi.cut W.heap.size V.heap.size) nn p L):RowP (w1.setCells b 0 us) hi nn p L:=by
 have gs:=(fr_sets b us 0 w1).1
 obtain ⟨Lb,L',h1,h2,h3,h4,h5,h6,h7⟩:=h
 exact ⟨Lb,L',(h1.far gs B.hx).wide (fun c _ hc=>hc.1),(h2.far gs B.hx).wide (fun c _ hc=>hc.1),h3,h4,h5,h6,h7⟩
theorem rowO_up {pr:En × Bool} {S:Except Fa (En × List TO)} {e:Ending} (B:BX w0 W V w1 hi b) (us:List Value) (h:RowO w0 V w1 lb mb (hi.cut W.heap.size V.heap.size) M pr S e) (h1:lb<hi.h) (h2:mb<hi.h) {M':Nat} (hM:M≤M'):RowO w0 W (w1.setCells b 0 us) lb mb hi M' pr S e:=by
 refine ⟨B.fw us,?_⟩
 rcases h.2 with ⟨x,e1,e2,e3,e4⟩ | ⟨en1,L,p,pl,N,e1,e2,e3,e4,e5,e6,e7⟩
 ·exact .inl ⟨x,e1,e2,e3,(B.le us e4 h1 h2).mono hM⟩
 ·exact .inr ⟨en1,L,p,pl,N,e1,e2,B.lk us e3,Nat.le_trans e4 hM,e5,e6,B.rowP us e7⟩
def decR (en:En) (sd:Sd) (r:Rw) (s:Nat):Except Fa (En × List TO):=if decE en r (allN en s)≠0 then .error (sd.p,decE en r (allN en s)) else .ok (addN ⟨putN en.nm r.name ⟨s,allN en s,r.num.toNat,0,[]⟩,en.q,en.b,en.pr,en.d⟩ s r.num.toNat,[])
theorem rowR_qubits (rec:RecT) (en:En) (sd:Sd) (r:Rw) (body:List Rw) (h:r.kind=wQubits):rowR rec en sd r body=decR en sd r 1:=by
 unfold rowR decR
 rw [if_pos h]
 rfl
theorem rowR_bits (rec:RecT) (en:En) (sd:Sd) (r:Rw) (body:List Rw) (h:r.kind=wBits):rowR rec en sd r body=decR en sd r 2:=by
 unfold rowR decR
 rw [if_neg (by rw [h];decide),if_pos h]
 rfl
theorem dec_up {sd:Sd} {r:Rw} {s:Nat} {e:Ending} (B:BX w0 W V w1 hi b) (h:DecO w0 V w1 lb mb (hi.cut W.heap.size V.heap.size) N en pl r s e) (hs:s=1∨s=2) (hsp:sd.p=pl) (h1:lb<hi.h) (h2:mb<hi.h) {M':Nat} (hM:N+1≤M') :
  RowO w0 W (w1.setCells b 0 (ppc pp0)) lb mb hi M' (en,sd.g) (decR en sd r s) (.returned (.tuple #[ppV pp0,.int .i64 (decE en r (allN en s):Nat)])):=by
 refine ⟨B.fw _,?_⟩
 by_cases hd:decE en r (allN en s)=0
 ·obtain ⟨k1,k2⟩:=h.2.2.2 hd
  refine .inr ⟨_,[],pp0,pl,N+1,by unfold decR;rw [if_neg (by simpa using hd)],by rw [hd];rfl,B.lk _ k1,hM,k2,?_,rowP_none _ _ _⟩
  rcases hs with rfl | rfl
  ·exact ⟨fun _=>rfl,Nat.le_add_right _ _⟩
  ·exact ⟨fun _=>rfl,Nat.le_refl _⟩
 ·exact .inl ⟨_,by unfold decR;rw [if_pos hd],⟨pp0,rfl⟩,hd,by rw [hsp];exact B.le _ ((h.2.2.1 hd).le (by omega)) h1 h2⟩
theorem DefO.shape {S:Except Fa (En × List TO)} {e:Ending} (h:DefO w0 W w1 lb mb hi M en S e):∃x,e=.returned (.int .i64 x):=by
 rcases h.2 with ⟨x,_,rfl,_⟩ | ⟨_,_,_,_,rfl,_⟩
 ·exact ⟨_,rfl⟩
 ·exact ⟨_,rfl⟩
theorem def_up {S:Except Fa (En × List TO)} {x:Int} (B:BX w0 W V w1 hi b) (h:DefO w0 V w1 lb mb (hi.cut W.heap.size V.heap.size) M en S (.returned (.int .i64 x))) (h1:lb<hi.h) (h2:mb<hi.h):RowO w0 W (w1.setCells b 0 (ppc pp0)) lb mb hi M (en,false) S (.returned (.tuple #[ppV pp0,.int .i64 x])):=by
 refine ⟨B.fw _,?_⟩
 rcases h.2 with ⟨y,e1,e2,e3,e4⟩ | ⟨en1,pl',N',e1,e2,e3,e4,e5,e6⟩
 ·injection e2 with e2
  exact .inl ⟨y,e1,⟨pp0,by rw [e2]⟩,e3,B.le _ e4 h1 h2⟩
 ·injection e2 with e2
  exact .inr ⟨en1,[],pp0,pl',N',e1,by rw [e2],B.lk _ e3,e4,e5,⟨fun h=>(by cases h),e6⟩,rowP_none _ _ _⟩
end
end Go.Proofs.YtdjfpghgklkejaaGreatDoor
namespace Go.Proofs.YtdjfpghgklkejaaGreatDoor
open Go.RowKit Go.Sort
set_option maxHeartbeats 2000000 in
set_option maxRecDepth 100000 in
theorem rowW_repeat {W:World} {lb:Nat} (nm:ByteArray) (aa:Option Addr) (al ac:Nat) (nu ro pc:Int) (bba:Option Addr) (bbn bbc:Nat) (p:Int) (n:Nat) (g:Bool) (m v:Nat) (hn:n≤32) (Q:Ending→World→Prop) (V:World) (hV:V=(((W.alloc (.cells #[.string wRepeat,.string nm,.slice aa al ac,.int .i64 nu,.int .i64 ro,.int .i64 pc] 79)).alloc (.cells #[.int .i64 p,.int .i64 (n:Nat),.bool g,.int .u64 (m:Nat),.int .u64 (v:Nat)] 69)).alloc (.cells pzC 113)).alloc (.cells #[.int .i64 p,.int .i64 ((n:Int)+1),.bool g,.int .u64 (m:Nat),.int .u64 (v:Nat)] 69)) (post:Ending→World→Prop) (F:Calls Tryz.prog 86 #[.pointer (some ⟨lb,0,none⟩),.agg #[.string wRepeat,.string nm,.slice aa al ac,.int .i64 nu,.int .i64 ro,.int .i64 pc],.slice bba bbn bbc,.agg #[.int .i64 p,.int .i64 (n:Nat),.bool g,.int .u64 (m:Nat),.int .u64 (v:Nat)],.agg #[.int .i64 p,.int .i64 ((n:Int)+1),.bool g,.int .u64 (m:Nat),.int .u64 (v:Nat)]] V post)
  (hsh:∀e w1,post e w1→(∃p x,e=.returned (.tuple #[ppV p,.int .i64 x]))∧BK w1 (W.heap.size+1+1) pzC 113)
  (hQ:∀p x w1,post (.returned (.tuple #[ppV p,.int .i64 x])) w1→Q (.returned (.tuple #[ppV p,.int .i64 x])) (w1.setCells (W.heap.size+1+1) 0 (ppc p))) :
  Calls Tryz.prog 54 #[.pointer (some ⟨lb,0,none⟩),.agg #[.string wRepeat,.string nm,.slice aa al ac,.int .i64 nu,.int .i64 ro,.int .i64 pc],.slice bba bbn bbc,.agg #[.int .i64 p,.int .i64 (n:Nat),.bool g,.int .u64 (m:Nat),.int .u64 (v:Nat)]] W Q:=by
 have HSH:=hid hsh
 have HQ:=hid hQ
 have HV:=hid hV
 clear hsh hQ hV
 go_enter Tryz.func54,Tryz.ntmps54
 go_wp2_with (go_at_call 86;refine Hid.out ?_)
 refine hid ?_
 rw [show (((W.alloc (.cells #[.string wRepeat,.string nm,.slice aa al ac,.int .i64 nu,.int .i64 ro,.int .i64 pc] 79)).alloc (.cells #[.int .i64 p,.int .i64 (n:Nat),.bool g,.int .u64 (m:Nat),.int .u64 (v:Nat)] 69)).alloc (.cells pzC 113)).alloc (.cells #[.int .i64 p,.int .i64 ((n:Int)+1),.bool g,.int .u64 (m:Nat),.int .u64 (v:Nat)] 69)=V from HV.out.symm]
 clear HV
 refine F.mono ?_
 rintro e w1 hP
 obtain ⟨⟨pp,x,rfl⟩,bk⟩:=HSH.out e w1 hP
 have HP:=hid (HQ.out pp x w1 hP)
 obtain ⟨⟨q1,q2,q3,q4,q5⟩,q6,q7,q8,q9,q10,q11,q12,q13,q14,q15⟩:=pp
 have d3:=bk.cell
 have f3:=bk.free
 have l3:=bk.lt
 clear bk hP HSH HQ F
 go_wp2
 refine bodyPost_ret (v:=.tuple #[ppV ⟨⟨q1,q2,q3,q4,q5⟩,q6,q7,q8,q9,q10,q11,q12,q13,q14,q15⟩,.int .i64 x]) (by simp [results,Tryz.results54,go_sem,d3]) rfl ?_
 exact HP.out
set_option maxHeartbeats 2000000 in
set_option maxRecDepth 100000 in
theorem rowW_if {W:World} {lb:Nat} (nm:ByteArray) (aa:Option Addr) (al ac:Nat) (nu ro pc:Int) (bba:Option Addr) (bbn bbc:Nat) (p:Int) (n:Nat) (g:Bool) (m v:Nat) (hn:n≤32) (Q:Ending→World→Prop) (V:World) (hV:V=(((W.alloc (.cells #[.string wIf,.string nm,.slice aa al ac,.int .i64 nu,.int .i64 ro,.int .i64 pc] 79)).alloc (.cells #[.int .i64 p,.int .i64 (n:Nat),.bool g,.int .u64 (m:Nat),.int .u64 (v:Nat)] 69)).alloc (.cells pzC 113)).alloc (.cells #[.int .i64 p,.int .i64 ((n:Int)+1),.bool g,.int .u64 (m:Nat),.int .u64 (v:Nat)] 69)) (post:Ending→World→Prop) (F:Calls Tryz.prog 87 #[.pointer (some ⟨lb,0,none⟩),.agg #[.string wIf,.string nm,.slice aa al ac,.int .i64 nu,.int .i64 ro,.int .i64 pc],.slice bba bbn bbc,.agg #[.int .i64 p,.int .i64 (n:Nat),.bool g,.int .u64 (m:Nat),.int .u64 (v:Nat)],.agg #[.int .i64 p,.int .i64 ((n:Int)+1),.bool g,.int .u64 (m:Nat),.int .u64 (v:Nat)]] V post)
  (hsh:∀e w1,post e w1→(∃p x,e=.returned (.tuple #[ppV p,.int .i64 x]))∧BK w1 (W.heap.size+1+1) pzC 113)
  (hQ:∀p x w1,post (.returned (.tuple #[ppV p,.int .i64 x])) w1→Q (.returned (.tuple #[ppV p,.int .i64 x])) (w1.setCells (W.heap.size+1+1) 0 (ppc p))) :
  Calls Tryz.prog 54 #[.pointer (some ⟨lb,0,none⟩),.agg #[.string wIf,.string nm,.slice aa al ac,.int .i64 nu,.int .i64 ro,.int .i64 pc],.slice bba bbn bbc,.agg #[.int .i64 p,.int .i64 (n:Nat),.bool g,.int .u64 (m:Nat),.int .u64 (v:Nat)]] W Q:=by
 have HSH:=hid hsh
 have HQ:=hid hQ
 have HV:=hid hV
 clear hsh hQ hV
 go_enter Tryz.func54,Tryz.ntmps54
 go_wp2_with (go_at_call 87;refine Hid.out ?_)
 refine hid ?_
 rw [show (((W.alloc (.cells #[.string wIf,.string nm,.slice aa al ac,.int .i64 nu,.int .i64 ro,.int .i64 pc] 79)).alloc (.cells #[.int .i64 p,.int .i64 (n:Nat),.bool g,.int .u64 (m:Nat),.int .u64 (v:Nat)] 69)).alloc (.cells pzC 113)).alloc (.cells #[.int .i64 p,.int .i64 ((n:Int)+1),.bool g,.int .u64 (m:Nat),.int .u64 (v:Nat)] 69)=V from HV.out.symm]
 clear HV
 refine F.mono ?_
 rintro e w1 hP
 obtain ⟨⟨pp,x,rfl⟩,bk⟩:=HSH.out e w1 hP
 have HP:=hid (HQ.out pp x w1 hP)
 obtain ⟨⟨q1,q2,q3,q4,q5⟩,q6,q7,q8,q9,q10,q11,q12,q13,q14,q15⟩:=pp
 have d3:=bk.cell
 have f3:=bk.free
 have l3:=bk.lt
 clear bk hP HSH HQ F
 go_wp2
 refine bodyPost_ret (v:=.tuple #[ppV ⟨⟨q1,q2,q3,q4,q5⟩,q6,q7,q8,q9,q10,q11,q12,q13,q14,q15⟩,.int .i64 x]) (by simp [results,Tryz.results54,go_sem,d3]) rfl ?_
 exact HP.out
set_option maxHeartbeats 2000000 in
set_option maxRecDepth 100000 in
theorem rowW_measure {W:World} {lb:Nat} (nm:ByteArray) (aa:Option Addr) (al ac:Nat) (nu ro pc:Int) (bba:Option Addr) (bbn bbc:Nat) (p:Int) (n:Nat) (g:Bool) (m v:Nat) (hn:n≤32) (Q:Ending→World→Prop) (V:World) (hV:V=(((W.alloc (.cells #[.string wMeasure,.string nm,.slice aa al ac,.int .i64 nu,.int .i64 ro,.int .i64 pc] 79)).alloc (.cells #[.int .i64 p,.int .i64 (n:Nat),.bool g,.int .u64 (m:Nat),.int .u64 (v:Nat)] 69)).alloc (.cells pzC 113)).alloc (.cells #[.int .i64 p,.int .i64 ((n:Int)+1),.bool g,.int .u64 (m:Nat),.int .u64 (v:Nat)] 69)) (post:Ending→World→Prop) (F:Calls Tryz.prog 88 #[.pointer (some ⟨lb,0,none⟩),.agg #[.string wMeasure,.string nm,.slice aa al ac,.int .i64 nu,.int .i64 ro,.int .i64 pc],.agg #[.int .i64 p,.int .i64 (n:Nat),.bool g,.int .u64 (m:Nat),.int .u64 (v:Nat)]] V post)
  (hsh:∀e w1,post e w1→(∃p x,e=.returned (.tuple #[ppV p,.int .i64 x]))∧BK w1 (W.heap.size+1+1) pzC 113)
  (hQ:∀p x w1,post (.returned (.tuple #[ppV p,.int .i64 x])) w1→Q (.returned (.tuple #[ppV p,.int .i64 x])) (w1.setCells (W.heap.size+1+1) 0 (ppc p))) :
  Calls Tryz.prog 54 #[.pointer (some ⟨lb,0,none⟩),.agg #[.string wMeasure,.string nm,.slice aa al ac,.int .i64 nu,.int .i64 ro,.int .i64 pc],.slice bba bbn bbc,.agg #[.int .i64 p,.int .i64 (n:Nat),.bool g,.int .u64 (m:Nat),.int .u64 (v:Nat)]] W Q:=by
 have HSH:=hid hsh
 have HQ:=hid hQ
 have HV:=hid hV
 clear hsh hQ hV
 go_enter Tryz.func54,Tryz.ntmps54
 go_wp2_with (go_at_call 88;refine Hid.out ?_)
 refine hid ?_
 rw [show (((W.alloc (.cells #[.string wMeasure,.string nm,.slice aa al ac,.int .i64 nu,.int .i64 ro,.int .i64 pc] 79)).alloc (.cells #[.int .i64 p,.int .i64 (n:Nat),.bool g,.int .u64 (m:Nat),.int .u64 (v:Nat)] 69)).alloc (.cells pzC 113)).alloc (.cells #[.int .i64 p,.int .i64 ((n:Int)+1),.bool g,.int .u64 (m:Nat),.int .u64 (v:Nat)] 69)=V from HV.out.symm]
 clear HV
 refine F.mono ?_
 rintro e w1 hP
 obtain ⟨⟨pp,x,rfl⟩,bk⟩:=HSH.out e w1 hP
 have HP:=hid (HQ.out pp x w1 hP)
 obtain ⟨⟨q1,q2,q3,q4,q5⟩,q6,q7,q8,q9,q10,q11,q12,q13,q14,q15⟩:=pp
 have d3:=bk.cell
 have f3:=bk.free
 have l3:=bk.lt
 clear bk hP HSH HQ F
 go_wp2
 refine bodyPost_ret (v:=.tuple #[ppV ⟨⟨q1,q2,q3,q4,q5⟩,q6,q7,q8,q9,q10,q11,q12,q13,q14,q15⟩,.int .i64 x]) (by simp [results,Tryz.results54,go_sem,d3]) rfl ?_
 exact HP.out
set_option maxHeartbeats 2000000 in
set_option maxRecDepth 100000 in
theorem rowW_reset {W:World} {lb:Nat} (nm:ByteArray) (aa:Option Addr) (al ac:Nat) (nu ro pc:Int) (bba:Option Addr) (bbn bbc:Nat) (p:Int) (n:Nat) (g:Bool) (m v:Nat) (hn:n≤32) (Q:Ending→World→Prop) (V:World) (hV:V=(((W.alloc (.cells #[.string wReset,.string nm,.slice aa al ac,.int .i64 nu,.int .i64 ro,.int .i64 pc] 79)).alloc (.cells #[.int .i64 p,.int .i64 (n:Nat),.bool g,.int .u64 (m:Nat),.int .u64 (v:Nat)] 69)).alloc (.cells pzC 113)).alloc (.cells #[.int .i64 p,.int .i64 ((n:Int)+1),.bool g,.int .u64 (m:Nat),.int .u64 (v:Nat)] 69)) (post:Ending→World→Prop) (F:Calls Tryz.prog 89 #[.pointer (some ⟨lb,0,none⟩),.agg #[.string wReset,.string nm,.slice aa al ac,.int .i64 nu,.int .i64 ro,.int .i64 pc],.agg #[.int .i64 p,.int .i64 (n:Nat),.bool g,.int .u64 (m:Nat),.int .u64 (v:Nat)]] V post)
  (hsh:∀e w1,post e w1→(∃p x,e=.returned (.tuple #[ppV p,.int .i64 x]))∧BK w1 (W.heap.size+1+1) pzC 113)
  (hQ:∀p x w1,post (.returned (.tuple #[ppV p,.int .i64 x])) w1→Q (.returned (.tuple #[ppV p,.int .i64 x])) (w1.setCells (W.heap.size+1+1) 0 (ppc p))) :
  Calls Tryz.prog 54 #[.pointer (some ⟨lb,0,none⟩),.agg #[.string wReset,.string nm,.slice aa al ac,.int .i64 nu,.int .i64 ro,.int .i64 pc],.slice bba bbn bbc,.agg #[.int .i64 p,.int .i64 (n:Nat),.bool g,.int .u64 (m:Nat),.int .u64 (v:Nat)]] W Q:=by
 have HSH:=hid hsh
 have HQ:=hid hQ
 have HV:=hid hV
 clear hsh hQ hV
 go_enter Tryz.func54,Tryz.ntmps54
 go_wp2_with (go_at_call 89;refine Hid.out ?_)
 refine hid ?_
 rw [show (((W.alloc (.cells #[.string wReset,.string nm,.slice aa al ac,.int .i64 nu,.int .i64 ro,.int .i64 pc] 79)).alloc (.cells #[.int .i64 p,.int .i64 (n:Nat),.bool g,.int .u64 (m:Nat),.int .u64 (v:Nat)] 69)).alloc (.cells pzC 113)).alloc (.cells #[.int .i64 p,.int .i64 ((n:Int)+1),.bool g,.int .u64 (m:Nat),.int .u64 (v:Nat)] 69)=V from HV.out.symm]
 clear HV
 refine F.mono ?_
 rintro e w1 hP
 obtain ⟨⟨pp,x,rfl⟩,bk⟩:=HSH.out e w1 hP
 have HP:=hid (HQ.out pp x w1 hP)
 obtain ⟨⟨q1,q2,q3,q4,q5⟩,q6,q7,q8,q9,q10,q11,q12,q13,q14,q15⟩:=pp
 have d3:=bk.cell
 have f3:=bk.free
 have l3:=bk.lt
 clear bk hP HSH HQ F
 go_wp2
 refine bodyPost_ret (v:=.tuple #[ppV ⟨⟨q1,q2,q3,q4,q5⟩,q6,q7,q8,q9,q10,q11,q12,q13,q14,q15⟩,.int .i64 x]) (by simp [results,Tryz.results54,go_sem,d3]) rfl ?_
 exact HP.out
set_option maxHeartbeats 2000000 in
set_option maxRecDepth 100000 in
theorem rowW_use {W:World} {lb:Nat} (nm:ByteArray) (aa:Option Addr) (al ac:Nat) (nu ro pc:Int) (bba:Option Addr) (bbn bbc:Nat) (p:Int) (n:Nat) (g:Bool) (m v:Nat) (hn:n≤32) (Q:Ending→World→Prop) (V:World) (hV:V=(((W.alloc (.cells #[.string wUse,.string nm,.slice aa al ac,.int .i64 nu,.int .i64 ro,.int .i64 pc] 79)).alloc (.cells #[.int .i64 p,.int .i64 (n:Nat),.bool g,.int .u64 (m:Nat),.int .u64 (v:Nat)] 69)).alloc (.cells pzC 113)).alloc (.cells #[.int .i64 p,.int .i64 ((n:Int)+1),.bool g,.int .u64 (m:Nat),.int .u64 (v:Nat)] 69)) (post:Ending→World→Prop) (F:Calls Tryz.prog 90 #[.pointer (some ⟨lb,0,none⟩),.agg #[.string wUse,.string nm,.slice aa al ac,.int .i64 nu,.int .i64 ro,.int .i64 pc],.agg #[.int .i64 p,.int .i64 (n:Nat),.bool g,.int .u64 (m:Nat),.int .u64 (v:Nat)]] V post)
  (hsh:∀e w1,post e w1→(∃p x,e=.returned (.tuple #[ppV p,.int .i64 x]))∧BK w1 (W.heap.size+1+1) pzC 113)
  (hQ:∀p x w1,post (.returned (.tuple #[ppV p,.int .i64 x])) w1→Q (.returned (.tuple #[ppV p,.int .i64 x])) (w1.setCells (W.heap.size+1+1) 0 (ppc p))) :
  Calls Tryz.prog 54 #[.pointer (some ⟨lb,0,none⟩),.agg #[.string wUse,.string nm,.slice aa al ac,.int .i64 nu,.int .i64 ro,.int .i64 pc],.slice bba bbn bbc,.agg #[.int .i64 p,.int .i64 (n:Nat),.bool g,.int .u64 (m:Nat),.int .u64 (v:Nat)]] W Q:=by
 have HSH:=hid hsh
 have HQ:=hid hQ
 have HV:=hid hV
 clear hsh hQ hV
 go_enter Tryz.func54,Tryz.ntmps54
 go_wp2_with (go_at_call 90;refine Hid.out ?_)
 refine hid ?_
 rw [show (((W.alloc (.cells #[.string wUse,.string nm,.slice aa al ac,.int .i64 nu,.int .i64 ro,.int .i64 pc] 79)).alloc (.cells #[.int .i64 p,.int .i64 (n:Nat),.bool g,.int .u64 (m:Nat),.int .u64 (v:Nat)] 69)).alloc (.cells pzC 113)).alloc (.cells #[.int .i64 p,.int .i64 ((n:Int)+1),.bool g,.int .u64 (m:Nat),.int .u64 (v:Nat)] 69)=V from HV.out.symm]
 clear HV
 refine F.mono ?_
 rintro e w1 hP
 obtain ⟨⟨pp,x,rfl⟩,bk⟩:=HSH.out e w1 hP
 have HP:=hid (HQ.out pp x w1 hP)
 obtain ⟨⟨q1,q2,q3,q4,q5⟩,q6,q7,q8,q9,q10,q11,q12,q13,q14,q15⟩:=pp
 have d3:=bk.cell
 have f3:=bk.free
 have l3:=bk.lt
 clear bk hP HSH HQ F
 go_wp2
 refine bodyPost_ret (v:=.tuple #[ppV ⟨⟨q1,q2,q3,q4,q5⟩,q6,q7,q8,q9,q10,q11,q12,q13,q14,q15⟩,.int .i64 x]) (by simp [results,Tryz.results54,go_sem,d3]) rfl ?_
 exact HP.out
set_option maxHeartbeats 2000000 in
set_option maxRecDepth 100000 in
theorem rowW_gate {W:World} {lb:Nat} (nm:ByteArray) (aa:Option Addr) (al ac:Nat) (nu ro pc:Int) (bba:Option Addr) (bbn bbc:Nat) (p:Int) (n:Nat) (g:Bool) (m v:Nat) (hn:n≤32) (Q:Ending→World→Prop) (V:World) (hV:V=(((W.alloc (.cells #[.string wGate,.string nm,.slice aa al ac,.int .i64 nu,.int .i64 ro,.int .i64 pc] 79)).alloc (.cells #[.int .i64 p,.int .i64 (n:Nat),.bool g,.int .u64 (m:Nat),.int .u64 (v:Nat)] 69)).alloc (.cells pzC 113)).alloc (.cells #[.int .i64 p,.int .i64 ((n:Int)+1),.bool true,.int .u64 (m:Nat),.int .u64 (v:Nat)] 69)) (post:Ending→World→Prop) (F:Calls Tryz.prog 85 #[.pointer (some ⟨lb,0,none⟩),.agg #[.string wGate,.string nm,.slice aa al ac,.int .i64 nu,.int .i64 ro,.int .i64 pc],.slice bba bbn bbc,.agg #[.int .i64 p,.int .i64 ((n:Int)+1),.bool true,.int .u64 (m:Nat),.int .u64 (v:Nat)]] V post)
  (hsh:∀e w1,post e w1→(∃x,e=.returned (.int .i64 x))∧BK w1 (W.heap.size+1+1) pzC 113)
  (hQ:∀x w1,post (.returned (.int .i64 x)) w1→Q (.returned (.tuple #[ppV pp0,.int .i64 x])) (w1.setCells (W.heap.size+1+1) 0 (ppc pp0))) :
  Calls Tryz.prog 54 #[.pointer (some ⟨lb,0,none⟩),.agg #[.string wGate,.string nm,.slice aa al ac,.int .i64 nu,.int .i64 ro,.int .i64 pc],.slice bba bbn bbc,.agg #[.int .i64 p,.int .i64 (n:Nat),.bool g,.int .u64 (m:Nat),.int .u64 (v:Nat)]] W Q:=by
 have HSH:=hid hsh
 have HQ:=hid hQ
 have HV:=hid hV
 clear hsh hQ hV
 go_enter Tryz.func54,Tryz.ntmps54
 go_wp2_with (go_at_call 85;refine Hid.out ?_)
 refine hid ?_
 rw [show (((W.alloc (.cells #[.string wGate,.string nm,.slice aa al ac,.int .i64 nu,.int .i64 ro,.int .i64 pc] 79)).alloc (.cells #[.int .i64 p,.int .i64 (n:Nat),.bool g,.int .u64 (m:Nat),.int .u64 (v:Nat)] 69)).alloc (.cells pzC 113)).alloc (.cells #[.int .i64 p,.int .i64 ((n:Int)+1),.bool true,.int .u64 (m:Nat),.int .u64 (v:Nat)] 69)=V from HV.out.symm]
 clear HV
 refine F.mono ?_
 rintro e w1 hP
 obtain ⟨⟨x,rfl⟩,bk⟩:=HSH.out e w1 hP
 have HP:=hid (HQ.out x w1 hP)
 have d3:=bk.cell
 have f3:=bk.free
 have l3:=bk.lt
 clear bk hP HSH HQ F
 go_wp2
 refine bodyPost_ret (v:=.tuple #[ppV pp0,.int .i64 x]) (by simp [results,Tryz.results54,go_sem,d3]) rfl ?_
 exact HP.out
set_option maxHeartbeats 2000000 in
set_option maxRecDepth 100000 in
theorem rowW_qubits {W:World} {lb:Nat} (nm:ByteArray) (aa:Option Addr) (al ac:Nat) (nu ro pc:Int) (bba:Option Addr) (bbn bbc:Nat) (p:Int) (n:Nat) (g:Bool) (m v:Nat) (hn:n≤32) (Q:Ending→World→Prop) (V:World) (hV:V=(((W.alloc (.cells #[.string wQubits,.string nm,.slice aa al ac,.int .i64 nu,.int .i64 ro,.int .i64 pc] 79)).alloc (.cells #[.int .i64 p,.int .i64 (n:Nat),.bool g,.int .u64 (m:Nat),.int .u64 (v:Nat)] 69)).alloc (.cells pzC 113)).alloc (.cells #[.int .i64 p,.int .i64 ((n:Int)+1),.bool g,.int .u64 (m:Nat),.int .u64 (v:Nat)] 69)) (post:Ending→World→Prop) (F:Calls Tryz.prog 84 #[.pointer (some ⟨lb,0,none⟩),.agg #[.string wQubits,.string nm,.slice aa al ac,.int .i64 nu,.int .i64 ro,.int .i64 pc],.int .i64 1,.pointer (some ⟨lb,1,none⟩),.int .i64 64] V.drew post)
  (hsh:∀e w1,post e w1→(∃x,e=.returned (.int .i64 x))∧BK w1 (W.heap.size+1+1) pzC 113∧BK w1 W.heap.size #[.string wQubits,.string nm,.slice aa al ac,.int .i64 nu,.int .i64 ro,.int .i64 pc] 79)
  (hQ:∀x w1,post (.returned (.int .i64 x)) w1→Q (.returned (.tuple #[ppV pp0,.int .i64 x])) (w1.setCells (W.heap.size+1+1) 0 (ppc pp0))) :
  Calls Tryz.prog 54 #[.pointer (some ⟨lb,0,none⟩),.agg #[.string wQubits,.string nm,.slice aa al ac,.int .i64 nu,.int .i64 ro,.int .i64 pc],.slice bba bbn bbc,.agg #[.int .i64 p,.int .i64 (n:Nat),.bool g,.int .u64 (m:Nat),.int .u64 (v:Nat)]] W Q:=by
 have HSH:=hid hsh
 have HQ:=hid hQ
 have HV:=hid hV
 have b1:BK V W.heap.size #[.string wQubits,.string nm,.slice aa al ac,.int .i64 nu,.int .i64 ro,.int .i64 pc] 79:=by rw [hV];exact (((bk_new W _ _).alloc _).alloc _).alloc _
 have SK:Hid ((V.drew.cell? ⟨W.heap.size,0,none⟩=some (.string wQubits)∧V.drew.cell? ⟨W.heap.size,1,none⟩=some (.string nm)∧V.drew.cell? ⟨W.heap.size,2,none⟩=some (.slice aa al ac)∧V.drew.cell? ⟨W.heap.size,3,none⟩=some (.int .i64 nu)∧V.drew.cell? ⟨W.heap.size,4,none⟩=some (.int .i64 ro)∧V.drew.cell? ⟨W.heap.size,5,none⟩=some (.int .i64 pc))∧W.heap.size<V.drew.heap.size):=⟨⟨b1.cell 0,b1.cell 1,b1.cell 2,b1.cell 3,b1.cell 4,b1.cell 5⟩,b1.lt⟩
 clear hsh hQ hV b1
 go_enter Tryz.func54,Tryz.ntmps54
 go_upto_region 5 with (fail)
 rw [show (((W.alloc (.cells #[.string wQubits,.string nm,.slice aa al ac,.int .i64 nu,.int .i64 ro,.int .i64 pc] 79)).alloc (.cells #[.int .i64 p,.int .i64 (n:Nat),.bool g,.int .u64 (m:Nat),.int .u64 (v:Nat)] 69)).alloc (.cells pzC 113)).alloc (.cells #[.int .i64 p,.int .i64 ((n:Int)+1),.bool g,.int .u64 (m:Nat),.int .u64 (v:Nat)] 69)=V from HV.out.symm]
 clear HV
 refine wp_region_noPanic ?_
 refine wp_region_held_drew (S:=fun w'=>(w'.cell? ⟨W.heap.size,0,none⟩=some (.string wQubits)∧w'.cell? ⟨W.heap.size,1,none⟩=some (.string nm)∧w'.cell? ⟨W.heap.size,2,none⟩=some (.slice aa al ac)∧w'.cell? ⟨W.heap.size,3,none⟩=some (.int .i64 nu)∧w'.cell? ⟨W.heap.size,4,none⟩=some (.int .i64 ro)∧w'.cell? ⟨W.heap.size,5,none⟩=some (.int .i64 pc))∧W.heap.size<w'.heap.size) (by kernel_rfl) (by exact SK.out) (fun hHeld=>?_)
 refine zt 0 (v:=?_) rfl (Or.inl ⟨by rfl,?_⟩) (by assumption) ?_
 rotate_left
 (intro w0 hSw;(try dsimp only at hSw);go_simp;try (with_reducible rfl))
 (try simp only [Act.put])
 refine zt 1 (v:=?_) rfl (Or.inl ⟨by rfl,?_⟩) (by assumption) ?_
 rotate_left
 (intro w0 hSw;(try dsimp only at hSw);go_simp;try (with_reducible rfl))
 (try simp only [Act.put])
 refine zt 2 (v:=?_) rfl (Or.inl ⟨by rfl,?_⟩) (by assumption) ?_
 rotate_left
 (intro w0 hSw;(try dsimp only at hSw);go_simp;try (with_reducible rfl))
 (try simp only [Act.put])
 refine zt 3 (v:=?_) rfl (Or.inl ⟨by rfl,?_⟩) (by assumption) ?_
 rotate_left
 (intro w0 hSw;(try dsimp only at hSw);go_simp;try (with_reducible rfl))
 (try simp only [Act.put])
 refine zt 4 (v:=?_) rfl (Or.inl ⟨by rfl,?_⟩) (by assumption) ?_
 rotate_left
 (intro w0 hSw;(try dsimp only at hSw);go_simp;try (with_reducible rfl))
 (try simp only [Act.put])
 refine zt 5 (v:=?_) rfl (Or.inl ⟨by rfl,?_⟩) (by assumption) ?_
 rotate_left
 (intro w0 hSw;(try dsimp only at hSw);go_simp;try (with_reducible rfl))
 (try simp only [Act.put])
 refine wpAnyH_ready (rs := [6]) (by kernel_rfl) (by simp) (AllReadyH.cons (o := { dst := some 26, op := Op.call { callee := Callee.value (Operand.func 84), args := #[Operand.tmp 21, Operand.tmp 22, Operand.const (Value.int IntKind.i64 1), Operand.tmp 25, Operand.const (Value.int IntKind.i64 64)], argTypes := #[110, 79, 3, 166, 3] }, type := 30, pos := "look.go:90", after := #[{ on := 1, ground := Ground.data }, { on := 2, ground := Ground.data }, { on := 5, ground := Ground.data }], guard := none }) rfl (fun K hK => ?_) AllReadyH.nil)
 go_simp
 refine F.mono ?_;rintro e w1 hP;obtain ⟨⟨x,rfl⟩,bk,ck⟩:=HSH.out e w1 hP;have HP:=hid (HQ.out x w1 hP);have d3:=bk.cell;have f3:=bk.free;have l3:=bk.lt;have CK:=hid ck;clear bk hP HSH HQ F ck;try go_simp
 refine hK.out _ _ (by exact ⟨⟨CK.out.cell 0,CK.out.cell 1,CK.out.cell 2,CK.out.cell 3,CK.out.cell 4,CK.out.cell 5⟩,CK.out.lt⟩) (fun hHeld=>?_)
 clear hK K
 (try simp only [Act.put])
 refine wpAnyH_ready (rs := [7]) (by kernel_rfl) (by simp) (AllReadyH.cons (o := { dst := none, op := Op.store 113 (Operand.tmp 8) (Operand.tmp 20), type := 0, pos := "look.go:90", after := #[{ on := 0, ground := Ground.data }, { on := 6, ground := Ground.chain }, { on := 0, ground := Ground.phase }, { on := 1, ground := Ground.textOnly Departure.lateStores }, { on := 2, ground := Ground.textOnly Departure.lateStores }, { on := 3, ground := Ground.textOnly Departure.lateStores }, { on := 4, ground := Ground.textOnly Departure.lateStores }, { on := 5, ground := Ground.textOnly Departure.lateStores }, { on := 6, ground := Ground.textOnly Departure.lateStoresUnsure }], guard := none }) rfl (fun K hK => ?_) AllReadyH.nil)
 go_simp
 refine hK.out _ _ (by have ck2:=(fr_sets (W.heap.size+1+1) (ppc pp0) 0 w1).1.bk CK.out (.inl (by omega));exact ⟨⟨ck2.cell 0,ck2.cell 1,ck2.cell 2,ck2.cell 3,ck2.cell 4,ck2.cell 5⟩,ck2.lt⟩) (fun hHeld=>?_)
 clear hK K
 (try simp only [Act.put])
 refine wpAnyH_ready (rs := [8]) (by kernel_rfl) (by simp) (AllReadyH.cons (o := { dst := some 9, op := Op.assign (Operand.tmp 26), type := 30, pos := "look.go:90", after := #[{ on := 6, ground := Ground.data }, { on := 7, ground := Ground.chain }, { on := 0, ground := Ground.phase }, { on := 1, ground := Ground.phase }, { on := 2, ground := Ground.phase }, { on := 3, ground := Ground.phase }, { on := 4, ground := Ground.phase }, { on := 5, ground := Ground.phase }, { on := 6, ground := Ground.phase }, { on := 7, ground := Ground.phase }], guard := none }) rfl (fun K hK => ?_) AllReadyH.nil)
 go_simp
 refine hK.out _ _ (by exact hHeld) (fun hHeld=>?_)
 clear hK K
 (try simp only [Act.put])
 refine wpAnyH_done (by kernel_rfl) ?_ _
 refine NoPanic.normal ?_
 go_wp2
 refine bodyPost_ret (v:=.tuple #[ppV pp0,.int .i64 x]) (by simp [results,Tryz.results54,go_sem,d3]) rfl ?_
 exact HP.out
set_option maxHeartbeats 2000000 in
set_option maxRecDepth 100000 in
theorem rowW_bits {W:World} {lb:Nat} (nm:ByteArray) (aa:Option Addr) (al ac:Nat) (nu ro pc:Int) (bba:Option Addr) (bbn bbc:Nat) (p:Int) (n:Nat) (g:Bool) (m v:Nat) (hn:n≤32) (Q:Ending→World→Prop) (V:World) (hV:V=(((W.alloc (.cells #[.string wBits,.string nm,.slice aa al ac,.int .i64 nu,.int .i64 ro,.int .i64 pc] 79)).alloc (.cells #[.int .i64 p,.int .i64 (n:Nat),.bool g,.int .u64 (m:Nat),.int .u64 (v:Nat)] 69)).alloc (.cells pzC 113)).alloc (.cells #[.int .i64 p,.int .i64 ((n:Int)+1),.bool g,.int .u64 (m:Nat),.int .u64 (v:Nat)] 69)) (post:Ending→World→Prop) (F:Calls Tryz.prog 84 #[.pointer (some ⟨lb,0,none⟩),.agg #[.string wBits,.string nm,.slice aa al ac,.int .i64 nu,.int .i64 ro,.int .i64 pc],.int .i64 2,.pointer (some ⟨lb,2,none⟩),.int .i64 64] V.drew post)
  (hsh:∀e w1,post e w1→(∃x,e=.returned (.int .i64 x))∧BK w1 (W.heap.size+1+1) pzC 113∧BK w1 W.heap.size #[.string wBits,.string nm,.slice aa al ac,.int .i64 nu,.int .i64 ro,.int .i64 pc] 79)
  (hQ:∀x w1,post (.returned (.int .i64 x)) w1→Q (.returned (.tuple #[ppV pp0,.int .i64 x])) (w1.setCells (W.heap.size+1+1) 0 (ppc pp0))) :
  Calls Tryz.prog 54 #[.pointer (some ⟨lb,0,none⟩),.agg #[.string wBits,.string nm,.slice aa al ac,.int .i64 nu,.int .i64 ro,.int .i64 pc],.slice bba bbn bbc,.agg #[.int .i64 p,.int .i64 (n:Nat),.bool g,.int .u64 (m:Nat),.int .u64 (v:Nat)]] W Q:=by
 have HSH:=hid hsh
 have HQ:=hid hQ
 have HV:=hid hV
 have b1:BK V W.heap.size #[.string wBits,.string nm,.slice aa al ac,.int .i64 nu,.int .i64 ro,.int .i64 pc] 79:=by rw [hV];exact (((bk_new W _ _).alloc _).alloc _).alloc _
 have SK:Hid ((V.drew.cell? ⟨W.heap.size,0,none⟩=some (.string wBits)∧V.drew.cell? ⟨W.heap.size,1,none⟩=some (.string nm)∧V.drew.cell? ⟨W.heap.size,2,none⟩=some (.slice aa al ac)∧V.drew.cell? ⟨W.heap.size,3,none⟩=some (.int .i64 nu)∧V.drew.cell? ⟨W.heap.size,4,none⟩=some (.int .i64 ro)∧V.drew.cell? ⟨W.heap.size,5,none⟩=some (.int .i64 pc))∧W.heap.size<V.drew.heap.size):=⟨⟨b1.cell 0,b1.cell 1,b1.cell 2,b1.cell 3,b1.cell 4,b1.cell 5⟩,b1.lt⟩
 clear hsh hQ hV b1
 go_enter Tryz.func54,Tryz.ntmps54
 go_upto_region 7 with (fail)
 rw [show (((W.alloc (.cells #[.string wBits,.string nm,.slice aa al ac,.int .i64 nu,.int .i64 ro,.int .i64 pc] 79)).alloc (.cells #[.int .i64 p,.int .i64 (n:Nat),.bool g,.int .u64 (m:Nat),.int .u64 (v:Nat)] 69)).alloc (.cells pzC 113)).alloc (.cells #[.int .i64 p,.int .i64 ((n:Int)+1),.bool g,.int .u64 (m:Nat),.int .u64 (v:Nat)] 69)=V from HV.out.symm]
 clear HV
 refine wp_region_noPanic ?_
 refine wp_region_held_drew (S:=fun w'=>(w'.cell? ⟨W.heap.size,0,none⟩=some (.string wBits)∧w'.cell? ⟨W.heap.size,1,none⟩=some (.string nm)∧w'.cell? ⟨W.heap.size,2,none⟩=some (.slice aa al ac)∧w'.cell? ⟨W.heap.size,3,none⟩=some (.int .i64 nu)∧w'.cell? ⟨W.heap.size,4,none⟩=some (.int .i64 ro)∧w'.cell? ⟨W.heap.size,5,none⟩=some (.int .i64 pc))∧W.heap.size<w'.heap.size) (by kernel_rfl) (by exact SK.out) (fun hHeld=>?_)
 refine zt 0 (v:=?_) rfl (Or.inl ⟨by rfl,?_⟩) (by assumption) ?_
 rotate_left
 (intro w0 hSw;(try dsimp only at hSw);go_simp;try (with_reducible rfl))
 (try simp only [Act.put])
 refine zt 1 (v:=?_) rfl (Or.inl ⟨by rfl,?_⟩) (by assumption) ?_
 rotate_left
 (intro w0 hSw;(try dsimp only at hSw);go_simp;try (with_reducible rfl))
 (try simp only [Act.put])
 refine zt 2 (v:=?_) rfl (Or.inl ⟨by rfl,?_⟩) (by assumption) ?_
 rotate_left
 (intro w0 hSw;(try dsimp only at hSw);go_simp;try (with_reducible rfl))
 (try simp only [Act.put])
 refine zt 3 (v:=?_) rfl (Or.inl ⟨by rfl,?_⟩) (by assumption) ?_
 rotate_left
 (intro w0 hSw;(try dsimp only at hSw);go_simp;try (with_reducible rfl))
 (try simp only [Act.put])
 refine zt 4 (v:=?_) rfl (Or.inl ⟨by rfl,?_⟩) (by assumption) ?_
 rotate_left
 (intro w0 hSw;(try dsimp only at hSw);go_simp;try (with_reducible rfl))
 (try simp only [Act.put])
 refine zt 5 (v:=?_) rfl (Or.inl ⟨by rfl,?_⟩) (by assumption) ?_
 rotate_left
 (intro w0 hSw;(try dsimp only at hSw);go_simp;try (with_reducible rfl))
 (try simp only [Act.put])
 refine wpAnyH_ready (rs := [6]) (by kernel_rfl) (by simp) (AllReadyH.cons (o := { dst := some 35, op := Op.call { callee := Callee.value (Operand.func 84), args := #[Operand.tmp 30, Operand.tmp 31, Operand.const (Value.int IntKind.i64 2), Operand.tmp 34, Operand.const (Value.int IntKind.i64 64)], argTypes := #[110, 79, 3, 166, 3] }, type := 30, pos := "look.go:92", after := #[{ on := 1, ground := Ground.data }, { on := 2, ground := Ground.data }, { on := 5, ground := Ground.data }], guard := none }) rfl (fun K hK => ?_) AllReadyH.nil)
 go_simp
 refine F.mono ?_;rintro e w1 hP;obtain ⟨⟨x,rfl⟩,bk,ck⟩:=HSH.out e w1 hP;have HP:=hid (HQ.out x w1 hP);have d3:=bk.cell;have f3:=bk.free;have l3:=bk.lt;have CK:=hid ck;clear bk hP HSH HQ F ck;try go_simp
 refine hK.out _ _ (by exact ⟨⟨CK.out.cell 0,CK.out.cell 1,CK.out.cell 2,CK.out.cell 3,CK.out.cell 4,CK.out.cell 5⟩,CK.out.lt⟩) (fun hHeld=>?_)
 clear hK K
 (try simp only [Act.put])
 refine wpAnyH_ready (rs := [7]) (by kernel_rfl) (by simp) (AllReadyH.cons (o := { dst := none, op := Op.store 113 (Operand.tmp 8) (Operand.tmp 29), type := 0, pos := "look.go:92", after := #[{ on := 0, ground := Ground.data }, { on := 6, ground := Ground.chain }, { on := 0, ground := Ground.phase }, { on := 1, ground := Ground.textOnly Departure.lateStores }, { on := 2, ground := Ground.textOnly Departure.lateStores }, { on := 3, ground := Ground.textOnly Departure.lateStores }, { on := 4, ground := Ground.textOnly Departure.lateStores }, { on := 5, ground := Ground.textOnly Departure.lateStores }, { on := 6, ground := Ground.textOnly Departure.lateStoresUnsure }], guard := none }) rfl (fun K hK => ?_) AllReadyH.nil)
 go_simp
 refine hK.out _ _ (by have ck2:=(fr_sets (W.heap.size+1+1) (ppc pp0) 0 w1).1.bk CK.out (.inl (by omega));exact ⟨⟨ck2.cell 0,ck2.cell 1,ck2.cell 2,ck2.cell 3,ck2.cell 4,ck2.cell 5⟩,ck2.lt⟩) (fun hHeld=>?_)
 clear hK K
 (try simp only [Act.put])
 refine wpAnyH_ready (rs := [8]) (by kernel_rfl) (by simp) (AllReadyH.cons (o := { dst := some 9, op := Op.assign (Operand.tmp 35), type := 30, pos := "look.go:92", after := #[{ on := 6, ground := Ground.data }, { on := 7, ground := Ground.chain }, { on := 0, ground := Ground.phase }, { on := 1, ground := Ground.phase }, { on := 2, ground := Ground.phase }, { on := 3, ground := Ground.phase }, { on := 4, ground := Ground.phase }, { on := 5, ground := Ground.phase }, { on := 6, ground := Ground.phase }, { on := 7, ground := Ground.phase }], guard := none }) rfl (fun K hK => ?_) AllReadyH.nil)
 go_simp
 refine hK.out _ _ (by exact hHeld) (fun hHeld=>?_)
 clear hK K
 (try simp only [Act.put])
 refine wpAnyH_done (by kernel_rfl) ?_ _
 refine NoPanic.normal ?_
 go_wp2
 refine bodyPost_ret (v:=.tuple #[ppV pp0,.int .i64 x]) (by simp [results,Tryz.results54,go_sem,d3]) rfl ?_
 exact HP.out
end Go.Proofs.YtdjfpghgklkejaaGreatDoor
namespace Go.Proofs.YtdjfpghgklkejaaGreatDoor
open Go.RowKit Go.Sort
theorem may_no {k:ByteArray} {sd:Sd} (h1:(decide (k=wUse) || decide (k=wRepeat))=false) (h2:(decide (k=wQubits) || decide (k=wBits) || decide (k=wGate))=false) (h:mayB k sd=true):sd.g=false:=by
 unfold mayB at h
 rw [if_neg (by rw [h1];decide),if_neg (by rw [h2];decide)] at h
 simpa using h
set_option maxHeartbeats 2000000 in
theorem row_any {w0 W:World} {lb mb N K:Nat} {hi:HG} {en:En} {pl:Int} {rec:RecT} (HB:FBody w0 lb mb K rec) (HS:RecSt rec) (HLr:RecL rec) (H:LK w0 W lb mb hi N en pl) (hok:EnOk en) (r:Rw) (aa:Option Addr) (ac:Nat) (bv:Value) (body:List Rw) (hbv:SR w0 bv body) (hK:body.length<K) (hz:SzR body) (sd:Sd) (hsp:sd.p=pl) (hA:SA w0 (.slice aa r.args.length ac) r.args) (hzr:SzR [r]) (hform:(hasB r.kind || hasN r.kind)=true) (hmay:mayB r.kind sd=true)
  (hg:sd.g=true→en.pr≠[]∧sd.n≠0) (hn:sd.n≤32) (hm:sd.m<18446744073709551616) (hv:sd.v<18446744073709551616) (hN:N+2+2*body.length<4611686018427387904) :
  Calls Tryz.prog 54 #[.pointer (some ⟨lb,0,none⟩),rwV r aa ac,bv,sdV sd] W fun e W'=>RowO w0 W W' lb mb hi (N+2+2*body.length) (en,sd.g) (rowR rec en sd r body) e:=by
 obtain ⟨z1,z2,z3,z4,z5,z6,z7⟩:=hzr r (List.mem_singleton.2 rfl)
 obtain ⟨bba,bbn,bbc,rfl⟩:∃a n c,bv=.slice a n c:=by obtain ⟨a,c,vs,e,_⟩:=hbv;exact ⟨_,_,_,e⟩
 have h1:=H.o3
 have h2:=H.o4
 have h5:=H.o5
 obtain ⟨k,nm,ar,nu,ro,pc⟩:=r
 obtain ⟨p,n,g,m,v⟩:=sd
 simp only at *
 have bx3:∀(V:World) (si:Array Value) (kd:ByteArray),V=(((W.alloc (.cells #[.string kd,.string nm,.slice aa ar.length ac,.int .i64 nu,.int .i64 ro,.int .i64 pc] 79)).alloc (.cells #[.int .i64 p,.int .i64 (n:Nat),.bool g,.int .u64 (m:Nat),.int .u64 (v:Nat)] 69)).alloc (.cells pzC 113)).alloc (.cells si 69) →
   Below W.heap.size W V∧BK V (W.heap.size+1+1) pzC 113∧BK V W.heap.size #[.string kd,.string nm,.slice aa ar.length ac,.int .i64 nu,.int .i64 ro,.int .i64 pc] 79∧V.heap.size=W.heap.size+1+1+1+1:=fun V si kd e=>by
  subst e
  exact ⟨bal (bal (bal (bal (Below.refl _ _) _) _) _) _,(bk_at _ _ (by simp)).alloc _,(((bk_new W _ _).alloc _).alloc _).alloc _,by simp⟩
 have mkB:∀(V w1:World),Below W.heap.size W V→V.heap.size=W.heap.size+1+1+1+1→Fr V w1 w0.heap.size hi.h→BX w0 W V w1 hi (W.heap.size+1+1):=fun V w1 hb hs hf=>⟨hb,hf,by omega,by omega,h5,fun b hb'=>H.up b hb'⟩
 rcases shp_cases k with ⟨rfl,_⟩ | ⟨rfl,_⟩ | ⟨rfl,_⟩ | ⟨rfl,_⟩ | ⟨rfl,_⟩ | ⟨rfl,_⟩ | ⟨rfl,_⟩ | ⟨rfl,_⟩ | ⟨k1,k2,k3,k4,k5,k6,k7,k8,_⟩
 ·-- qubits
  rw [rowR_qubits _ _ _ _ _ rfl]
  obtain ⟨V,hV⟩:∃V,V=(((W.alloc (.cells #[.string wQubits,.string nm,.slice aa ar.length ac,.int .i64 nu,.int .i64 ro,.int .i64 pc] 79)).alloc (.cells #[.int .i64 p,.int .i64 (n:Nat),.bool g,.int .u64 (m:Nat),.int .u64 (v:Nat)] 69)).alloc (.cells pzC 113)).alloc (.cells #[.int .i64 p,.int .i64 ((n:Int)+1),.bool g,.int .u64 (m:Nat),.int .u64 (v:Nat)] 69):=⟨_,rfl⟩
  obtain ⟨hb,b3,b1,hs⟩:=bx3 V _ _ hV
  have hbd:=below_drew hb
  refine rowW_qubits nm aa ar.length ac nu ro pc bba bbn bbc p n g m v hn _ V hV _ (declare_any (H.cut hbd) hok (by unfold maxLen;omega) ⟨wQubits,nm,ar,nu,ro,pc⟩ aa ac z1 1 (.inl rfl)) (fun e w1 hp=>⟨⟨_,hp.2.1⟩,hp.1.bk b3.drew (.inr (by show hi.h≤_;omega)),hp.1.bk b1.drew (.inr (by show hi.h≤_;omega))⟩) (fun x w1 hp=>?_)
  have e:=hp.2.1
  injection e with e
  rw [e]
  exact dec_up (mkB V.drew w1 hbd hs hp.1) hp (.inl rfl) hsp h1 h2 (by omega)
 ·-- bits
  rw [rowR_bits _ _ _ _ _ rfl]
  obtain ⟨V,hV⟩:∃V,V=(((W.alloc (.cells #[.string wBits,.string nm,.slice aa ar.length ac,.int .i64 nu,.int .i64 ro,.int .i64 pc] 79)).alloc (.cells #[.int .i64 p,.int .i64 (n:Nat),.bool g,.int .u64 (m:Nat),.int .u64 (v:Nat)] 69)).alloc (.cells pzC 113)).alloc (.cells #[.int .i64 p,.int .i64 ((n:Int)+1),.bool g,.int .u64 (m:Nat),.int .u64 (v:Nat)] 69):=⟨_,rfl⟩
  obtain ⟨hb,b3,b1,hs⟩:=bx3 V _ _ hV
  have hbd:=below_drew hb
  refine rowW_bits nm aa ar.length ac nu ro pc bba bbn bbc p n g m v hn _ V hV _ (declare_any (H.cut hbd) hok (by unfold maxLen;omega) ⟨wBits,nm,ar,nu,ro,pc⟩ aa ac z1 2 (.inr rfl)) (fun e w1 hp=>⟨⟨_,hp.2.1⟩,hp.1.bk b3.drew (.inr (by show hi.h≤_;omega)),hp.1.bk b1.drew (.inr (by show hi.h≤_;omega))⟩) (fun x w1 hp=>?_)
  have e:=hp.2.1
  injection e with e
  rw [e]
  exact dec_up (mkB V.drew w1 hbd hs hp.1) hp (.inr rfl) hsp h1 h2 (by omega)
 ·-- gate
  have hgf:g=false:=by
   have h0:n=0:=by simpa [mayB] using hmay
   cases g with
   | false=>rfl
   | true=>exact absurd h0 (hg rfl).2
  subst hgf
  rw [rowR_gate _ _ _ _ _ rfl]
  obtain ⟨V,hV⟩:∃V,V=(((W.alloc (.cells #[.string wGate,.string nm,.slice aa ar.length ac,.int .i64 nu,.int .i64 ro,.int .i64 pc] 79)).alloc (.cells #[.int .i64 p,.int .i64 (n:Nat),.bool false,.int .u64 (m:Nat),.int .u64 (v:Nat)] 69)).alloc (.cells pzC 113)).alloc (.cells #[.int .i64 p,.int .i64 ((n:Int)+1),.bool true,.int .u64 (m:Nat),.int .u64 (v:Nat)] 69):=⟨_,rfl⟩
  obtain ⟨hb,b3,b1,hs⟩:=bx3 V _ _ hV
  refine rowW_gate nm aa ar.length ac nu ro pc bba bbn bbc p n false m v hn _ V hV _ (define_any HB HLr (H.cut hb) hok ⟨wGate,nm,ar,nu,ro,pc⟩ aa ac (.slice bba bbn bbc) body hbv hK hz ⟨p,n,false,m,v⟩ ⟨p,n+1,true,m,v⟩ rfl hsp hA z1 z2 z3 (by show n<_;omega) hm hv hN) (fun e w1 hp=>⟨hp.shape,hp.1.bk b3 (.inr (by show hi.h≤_;omega))⟩) (fun x w1 hp=>?_)
  exact def_up (mkB V w1 hb hs hp.1) hp h1 h2
 ·-- repeat
  rw [rowR_repeat _ _ _ _ _ rfl]
  obtain ⟨V,hV⟩:∃V,V=(((W.alloc (.cells #[.string wRepeat,.string nm,.slice aa ar.length ac,.int .i64 nu,.int .i64 ro,.int .i64 pc] 79)).alloc (.cells #[.int .i64 p,.int .i64 (n:Nat),.bool g,.int .u64 (m:Nat),.int .u64 (v:Nat)] 69)).alloc (.cells pzC 113)).alloc (.cells #[.int .i64 p,.int .i64 ((n:Int)+1),.bool g,.int .u64 (m:Nat),.int .u64 (v:Nat)] 69):=⟨_,rfl⟩
  obtain ⟨hb,b3,b1,hs⟩:=bx3 V _ _ hV
  refine rowW_repeat nm aa ar.length ac nu ro pc bba bbn bbc p n g m v hn _ V hV _ (repeat_any HB HS (H.cut hb) hok ⟨wRepeat,nm,ar,nu,ro,pc⟩ aa ac (.slice bba bbn bbc) body hbv hK hz ⟨p,n,g,m,v⟩ ⟨p,n+1,g,m,v⟩ rfl hsp z4 z5 (fun h=>(hg h).1) (by show n<_;omega) hm hv (by omega)) (fun e w1 hp=>⟨hp.shape,hp.1.bk b3 (.inr (by show hi.h≤_;omega))⟩) (fun pp x w1 hp=>?_)
  exact rowO_up (mkB V w1 hb hs hp.1) _ hp h1 h2 (by omega)
 ·-- if
  rw [rowR_if _ _ _ _ _ rfl]
  obtain ⟨V,hV⟩:∃V,V=(((W.alloc (.cells #[.string wIf,.string nm,.slice aa ar.length ac,.int .i64 nu,.int .i64 ro,.int .i64 pc] 79)).alloc (.cells #[.int .i64 p,.int .i64 (n:Nat),.bool g,.int .u64 (m:Nat),.int .u64 (v:Nat)] 69)).alloc (.cells pzC 113)).alloc (.cells #[.int .i64 p,.int .i64 ((n:Int)+1),.bool g,.int .u64 (m:Nat),.int .u64 (v:Nat)] 69):=⟨_,rfl⟩
  obtain ⟨hb,b3,b1,hs⟩:=bx3 V _ _ hV
  refine rowW_if nm aa ar.length ac nu ro pc bba bbn bbc p n g m v hn _ V hV _ (when_any HB HS (H.cut hb) hok ⟨wIf,nm,ar,nu,ro,pc⟩ aa ac (.slice bba bbn bbc) body hbv hK hz ⟨p,n,g,m,v⟩ ⟨p,n+1,g,m,v⟩ rfl hsp z1 z4 z5 (fun h=>(hg h).1) (by show n<_;omega) hm hv (by omega)) (fun e w1 hp=>⟨hp.shape,hp.1.bk b3 (.inr (by show hi.h≤_;omega))⟩) (fun pp x w1 hp=>?_)
  exact rowO_up (mkB V w1 hb hs hp.1) _ hp h1 h2 (by omega)
 ·-- measure
  have hgf:g=false:=may_no (k:=wMeasure) (sd:=⟨p,n,g,m,v⟩) (by decide) (by decide) hmay
  rw [rowR_measure _ _ _ _ _ rfl]
  obtain ⟨V,hV⟩:∃V,V=(((W.alloc (.cells #[.string wMeasure,.string nm,.slice aa ar.length ac,.int .i64 nu,.int .i64 ro,.int .i64 pc] 79)).alloc (.cells #[.int .i64 p,.int .i64 (n:Nat),.bool g,.int .u64 (m:Nat),.int .u64 (v:Nat)] 69)).alloc (.cells pzC 113)).alloc (.cells #[.int .i64 p,.int .i64 ((n:Int)+1),.bool g,.int .u64 (m:Nat),.int .u64 (v:Nat)] 69):=⟨_,rfl⟩
  obtain ⟨hb,b3,b1,hs⟩:=bx3 V _ _ hV
  refine rowW_measure nm aa ar.length ac nu ro pc bba bbn bbc p n g m v hn _ V hV _ (measure_any (H.cut hb) hok ⟨wMeasure,nm,ar,nu,ro,pc⟩ aa ac ⟨p,n,g,m,v⟩ ⟨hm,hv⟩ hgf hsp hA z3) (fun e w1 hp=>⟨hp.shape,hp.1.bk b3 (.inr (by show hi.h≤_;omega))⟩) (fun pp x w1 hp=>?_)
  exact rowO_up (mkB V w1 hb hs hp.1) _ hp h1 h2 (by omega)
 ·-- reset
  have hgf:g=false:=may_no (k:=wReset) (sd:=⟨p,n,g,m,v⟩) (by decide) (by decide) hmay
  rw [rowR_reset _ _ _ _ _ rfl]
  obtain ⟨V,hV⟩:∃V,V=(((W.alloc (.cells #[.string wReset,.string nm,.slice aa ar.length ac,.int .i64 nu,.int .i64 ro,.int .i64 pc] 79)).alloc (.cells #[.int .i64 p,.int .i64 (n:Nat),.bool g,.int .u64 (m:Nat),.int .u64 (v:Nat)] 69)).alloc (.cells pzC 113)).alloc (.cells #[.int .i64 p,.int .i64 ((n:Int)+1),.bool g,.int .u64 (m:Nat),.int .u64 (v:Nat)] 69):=⟨_,rfl⟩
  obtain ⟨hb,b3,b1,hs⟩:=bx3 V _ _ hV
  refine rowW_reset nm aa ar.length ac nu ro pc bba bbn bbc p n g m v hn _ V hV _ (reset_any (H.cut hb) hok ⟨wReset,nm,ar,nu,ro,pc⟩ aa ac ⟨p,n,g,m,v⟩ ⟨hm,hv⟩ hgf hsp hA z3) (fun e w1 hp=>⟨hp.shape,hp.1.bk b3 (.inr (by show hi.h≤_;omega))⟩) (fun pp x w1 hp=>?_)
  exact rowO_up (mkB V w1 hb hs hp.1) _ hp h1 h2 (by omega)
 ·-- use
  rw [rowR_use _ _ _ _ _ rfl]
  obtain ⟨V,hV⟩:∃V,V=(((W.alloc (.cells #[.string wUse,.string nm,.slice aa ar.length ac,.int .i64 nu,.int .i64 ro,.int .i64 pc] 79)).alloc (.cells #[.int .i64 p,.int .i64 (n:Nat),.bool g,.int .u64 (m:Nat),.int .u64 (v:Nat)] 69)).alloc (.cells pzC 113)).alloc (.cells #[.int .i64 p,.int .i64 ((n:Int)+1),.bool g,.int .u64 (m:Nat),.int .u64 (v:Nat)] 69):=⟨_,rfl⟩
  obtain ⟨hb,b3,b1,hs⟩:=bx3 V _ _ hV
  refine rowW_use nm aa ar.length ac nu ro pc bba bbn bbc p n g m v hn _ V hV _ (use_any (H.cut hb) hok ⟨wUse,nm,ar,nu,ro,pc⟩ aa ac ⟨p,n,g,m,v⟩ ⟨hm,hv⟩ hsp hA z1 z2 z3 (fun h=>(hg h).1)) (fun e w1 hp=>⟨hp.shape,hp.1.bk b3 (.inr (by show hi.h≤_;omega))⟩) (fun pp x w1 hp=>?_)
  exact rowO_up (mkB V w1 hb hs hp.1) _ hp h1 h2 (by omega)
 ·exfalso
  simp [hasB,hasN,k1,k2,k3,k4,k5,k6,k7,k8] at hform
end Go.Proofs.YtdjfpghgklkejaaGreatDoor
namespace Go.Proofs.YtdjfpghgklkejaaGreatDoor
open Go.RowKit Go.Sort
theorem LK.at_ {w0 W:World} {lb mb N:Nat} {hi:HG} {en:En} {pl:Int} (h:LK w0 W lb mb hi N en pl) (pc:Int):LK w0 (W.setCell ⟨lb,5,none⟩ (.int .i64 pc)) lb mb hi N en pc:=by
 have g:Fr W (W.setCell ⟨lb,5,none⟩ (.int .i64 pc)) lb (lb+1):=(Fr.refl W lb (lb+1)).set lb 5 _ (.inl ⟨Nat.le_refl _,Nat.lt_succ_self _⟩)
 have hx:∀b,hi.G b→b<lb∨lb+1≤b:=fun b hb=>.inr (by have:=hi.le b hb;have:=h.o3;omega)
 obtain ⟨pv,k1,k2⟩:=h.box
 have hmb:(W.setCell ⟨lb,5,none⟩ (.int .i64 pc)).heap[mb]?=W.heap[mb]?:=g.block _ (Nat.lt_of_lt_of_le h.o4 h.o5) (by have:=h.o6;omega)
 exact ⟨below_fr h.below g h.o1,⟨pv,k1.set 5 (.int .i64 pc),k2.far g hx⟩,h.nm.far g hx hmb,h.o1,h.o2,h.o3,h.o4,Nat.le_trans h.o5 g.size,h.o6,fun b hb=>h.up b (Nat.le_trans g.size hb)⟩
abbrev atC (p:Int) (n:Nat) (g:Bool) (m v:Nat):Array Value:=#[.int .i64 p,.int .i64 (n:Nat),.bool g,.int .u64 (m:Nat),.int .u64 (v:Nat)]
structure BS (w0 W wr:World) (lb mb:Nat) (hi:HG) (n:Nat) (g:Bool) (m v:Nat) (p':Int) (en0:En) (N':Nat) (en':En) (pl':Int) (pv:Value) (L:List TO):Prop where
 fr:Fr W wr w0.heap.size hi.h
 at_:BK wr W.heap.size (atC p' n g m v) 69
 lk:LK w0 wr lb mb ((hi.cut W.heap.size (W.heap.size+1)).but pv.ownBlock) N' en' pl'
 ok:EnOk en'
 nx:Nx (en0,g) en'
 pt:PT wr ((hi.cut W.heap.size (W.heap.size+1)).but pv.ownBlock) (nq g en') (W.heap.size+1) pv L
 cls:∀t∈L,(t.st=none↔g=true)
 hh:hi.h≤W.heap.size
 up:∀b,W.heap.size≤b→hi.G b
section
variable {w0 W wr W' : World} {lb mb n m v N' : Nat} {hi : HG} {g : Bool} {p' pl' : Int} {en0 en' : En} {pv : Value} {L : List TO}
theorem BS.on (h:BS w0 W wr lb mb hi n g m v p' en0 N' en' pl' pv L) (hb:Below wr.heap.size wr W'):BS w0 W W' lb mb hi n g m v p' en0 N' en' pl' pv L:=
 ⟨h.fr.blw hb,(hb.block _ h.at_.lt).trans h.at_,h.lk.fr hb,h.ok,h.nx,h.pt.below hb,h.cls,h.hh,h.up⟩
theorem BS.place (h:BS w0 W wr lb mb hi n g m v p' en0 N' en' pl' pv L) (pc:Int):BS w0 W ((wr.setCell ⟨lb,5,none⟩ (.int .i64 pc)).setCell ⟨W.heap.size,0,none⟩ (.int .i64 pc)) lb mb hi n g m v pc en0 N' en' pc pv L:=by
 have h3:lb<hi.h:=h.lk.o3
 have h4:mb<hi.h:=h.lk.o4
 have hh:=h.hh
 have g1:Fr wr (wr.setCell ⟨lb,5,none⟩ (.int .i64 pc)) lb (lb+1):=(Fr.refl wr _ _).set lb 5 _ (.inl ⟨Nat.le_refl _,Nat.lt_succ_self _⟩)
 have g2:Fr (wr.setCell ⟨lb,5,none⟩ (.int .i64 pc)) ((wr.setCell ⟨lb,5,none⟩ (.int .i64 pc)).setCell ⟨W.heap.size,0,none⟩ (.int .i64 pc)) W.heap.size (W.heap.size+1):=(Fr.refl _ _ _).set W.heap.size 0 _ (.inl ⟨Nat.le_refl _,Nat.lt_succ_self _⟩)
 have hx1:∀b,((hi.cut W.heap.size (W.heap.size+1)).but pv.ownBlock).G b→b<lb∨lb+1≤b:=fun b hb=>.inr (by have:=hi.le b hb.1.1;omega)
 have hx2:∀b,((hi.cut W.heap.size (W.heap.size+1)).but pv.ownBlock).G b→b<W.heap.size∨W.heap.size+1≤b:=fun b hb=>hb.1.2
 refine ⟨(h.fr.set lb 5 _ (.inl ⟨h.lk.o1,h3⟩)).set W.heap.size 0 _ (.inr (Nat.le_refl _)),?_,(h.lk.at_ pc).far g2 hx2 (by show hi.h≤W.heap.size;exact hh),h.ok,h.nx,(h.pt.far g1 hx1 (by omega)).far g2 hx2 (Nat.le_refl _),h.cls,hh,h.up⟩
 exact ((h.at_.far (by omega) 5 _).set 0 (.int .i64 pc))
theorem BS.row {M:Nat} {S:Except Fa (En × List TO)} {e:Ending} (h:BS w0 W wr lb mb hi n g m v p' en0 N' en' pl' pv L) (hR:RowO w0 wr W' lb mb ((hi.cut W.heap.size (W.heap.size+1)).but pv.ownBlock) M (en',g) S e) :
  (∃x,S=.error x∧(∃p,e=.returned (.tuple #[ppV p,.int .i64 (x.2:Nat)]))∧x.2≠0∧LE W' lb mb M x.1∧Fr W W' w0.heap.size hi.h) ∨
  (∃en1 L1 p pl1 N1,S=.ok (en1,L1)∧e=.returned (.tuple #[ppV p,.int .i64 0])∧N1≤M∧BS w0 W W' lb mb hi n g m v p' en0 N1 en1 pl1 pv L∧RowP W' ((hi.cut W.heap.size (W.heap.size+1)).but pv.ownBlock) (nq g en1) p L1):=by
 have hF:Fr wr W' w0.heap.size hi.h:=hR.1
 have hx:∀b,((hi.cut W.heap.size (W.heap.size+1)).but pv.ownBlock).G b→b<w0.heap.size∨hi.h≤b:=fun b hb=>.inr (hi.le b hb.1.1)
 have hh:=h.hh
 rcases hR.2 with ⟨x,e1,e2,e3,e4⟩ | ⟨en1,L1,p,pl1,N1,e1,e2,e3,e4,e5,e6,e7⟩
 ·exact .inl ⟨x,e1,e2,e3,e4,h.fr.trans hF⟩
 ·exact .inr ⟨en1,L1,p,pl1,N1,e1,e2,e4,⟨h.fr.trans hF,hF.bk h.at_ (.inr hh),e3,e5,h.nx.trans e6,(h.pt.far hF hx (by omega)).mono e6.nq,h.cls,hh,h.up⟩,e7⟩
theorem cls_of {M L1:List TO} (hu:UnS M) (ht:T4 M L1) (hc:∀t∈L1,(t.st=none↔g=true)):∀t∈M,(t.st=none↔g=true):=by
 intro t htm
 cases M with
 | nil=>cases htm
 | cons a M=>
  cases L1 with
  | nil=>
   have:=ht.nil_iff.2 rfl
   cases this
  | cons b L1=>
   have e:a=b:=by
    unfold T4 at ht
    rw [List.take_succ_cons,List.take_succ_cons] at ht
    exact (List.cons.inj ht).1
   have hb:=hc b (List.mem_cons_self)
   rw [←e] at hb
   rcases hu with hu | hu
   ·rw [hu a List.mem_cons_self] at hb
    rw [hu t htm]
    simpa using hb
   ·have h1:=hu a List.mem_cons_self
    have h2:=hu t htm
    constructor
    ·intro h;exact absurd h h2
    ·intro h;exact absurd (hb.2 h) h1
theorem BS.put {v':Value} {ps:List PP} {Ls:List (List TO)} {p:PP} {L1 Lp:List TO} (h:BS w0 W wr lb mb hi n g m v p' en0 N' en' pl' pv L) (h2:ps.length<4097) (h3:Ls.length=ps.length)
  (h4:∀k (h:k<ps.length) (h':k<Ls.length),QSh wr ((hi.cut W.heap.size (W.heap.size+1)).but pv.ownBlock) ps[k].qa ps[k].qc ps[k].qs∧PL wr ((hi.cut W.heap.size (W.heap.size+1)).but pv.ownBlock) (nbq (nq g en') ps[k].qs) (.slice ps[k].ba ps[k].bn ps[k].bc) Ls[k]∧mean ps[k] Ls[k]≠[]∧PQ (nq g en') ps[k])
  (h5:L=((ps.zip Ls).map fun x=>mean x.1 x.2).flatten) (q1:QSh wr ((hi.cut W.heap.size (W.heap.size+1)).but pv.ownBlock) p.qa p.qc p.qs) (q2:PL wr ((hi.cut W.heap.size (W.heap.size+1)).but pv.ownBlock) (nbq (nq g en') p.qs) (.slice p.ba p.bn p.bc) Lp) (q3:mean p Lp≠[]) (q4:PQ (nq g en') p) (hu:UnS (mean p Lp)) (ht:T4 (mean p Lp) L1) (hc:∀t∈L1,(t.st=none↔g=true))
  (ho:W'.ownsRow (W.heap.size+1) 113 14 v' (ps.length+1) (ppw ps++ppc p)) (hg:wr.grownBy W' pv.ownBlock) (hl:v'.ownBlock=pv.ownBlock∨v'.ownBlock=some wr.heap.size):BS w0 W W' lb mb hi n g m v p' en0 N' en' pl' v' (L++mean p Lp):=by
 have hG:Gw wr W' pv v':=⟨hg,hl,fun b e=>(ho.lt b e).2⟩
 have hlt:=h.pt.lt
 have hh:=h.hh
 have hws:W.heap.size≤wr.heap.size:=h.fr.size
 refine ⟨h.fr.grown hg (fun b e=>.inr (by have:=(hlt b e).1;omega)),?_,h.lk.gw hG (fun b e=>by have:=(hlt b e).1;show hi.h≤b;omega) (fun b hb=>⟨h.up b (Nat.le_trans hws hb),.inr (by have:=h.at_.lt;omega)⟩),h.ok,h.nx,PT.put h2 h3 h4 h5 q1 q2 q3 q4 ho hG,fun t ht'=>?_,hh,h.up⟩
 ·exact (hg.block _ h.at_.lt (fun e=>by have:=(hlt _ e.symm).1;omega)).trans h.at_
 ·rcases List.mem_append.1 ht' with h' | h'
  ·exact h.cls t h'
  ·exact cls_of hu ht hc t h'
theorem BS.fin (h:BS w0 W wr lb mb hi n g m v p' en0 N' en' pl' pv L):LK w0 wr lb mb hi N' en' pl'∧PL wr hi (nq g en') pv L:=by
 have hws:W.heap.size≤wr.heap.size:=h.fr.size
 refine ⟨h.lk.wide rfl (fun b _ hb=>hb.1.1) (fun b hb=>h.up b (Nat.le_trans hws hb)),?_⟩
 have hu:UnS L:=by
  cases g with
  | true=>exact .inl fun t ht=>(h.cls t ht).2 rfl
  | false=>exact .inr fun t ht e=>by have:=(h.cls t ht).1 e;cases this
 exact (h.pt.pl hu (fun b hb=>⟨h.up b (by omega),.inr hb⟩)).wide (fun b _ hb=>hb.1)
end
def cmb (L:List TO):Except Fa (En × List TO)→Except Fa (En × List TO)
 | .error e=>.error e
 | .ok (en,L2)=>.ok (en,L++L2)
theorem cmb_cmb (L L2:List TO) (S:Except Fa (En × List TO)):cmb L (cmb L2 S)=cmb (L++L2) S:=by
 cases S with
 | error e=>rfl
 | ok x=>obtain ⟨en,L3⟩:=x;show Except.ok (en,L++(L2++L3))=.ok (en,L++L2++L3);rw [List.append_assoc]
theorem lookB_cons (k:Nat) (en:En) (sd:Sd) (r:Rw) (rs:List Rw) (h:rs.length<k):lookB (k+1) en sd (r::rs) =
  if formE r rs.length sd≠0 then .error (r.place,formE r rs.length sd)
  else match rowR (lookB k) en ⟨r.place,sd.n,sd.g,sd.m,sd.v⟩ r (rs.take r.rows.toNat) with
   | .error e=>.error e
   | .ok (en1,L1)=>cmb L1 (lookB (k+1) en1 sd (rs.drop r.rows.toNat)):=by
 have hd:∀en1,lookB (k+1) en1 sd (rs.drop r.rows.toNat)=lookB k en1 sd (rs.drop r.rows.toNat):=fun en1=>lookB_fuel _ _ _ (by rw [List.length_drop];omega) (by rw [List.length_drop];omega) en1 sd
 rw [lookB]
 split
 ·rfl
 ·split
  ·rename_i h1;rw [h1]
  ·rename_i en1 L1 h1
   rw [h1]
   simp only
   rw [hd en1]
   cases lookB k en1 sd (rs.drop r.rows.toNat) with
   | error e=>rfl
   | ok x=>rfl
theorem form_p (r:Rw) (b:Nat) (sd sd':Sd) (h1:sd.n=sd'.n) (h2:sd.g=sd'.g):formE r b sd=formE r b sd':=by
 unfold formE mayB
 rw [h1,h2]
theorem form_ok {r:Rw} {b:Nat} {sd:Sd} (h:formE r b sd=0):(hasB r.kind || hasN r.kind)=true∧mayB r.kind sd=true∧sd.n≤32∧0≤r.rows∧r.rows≤(b:Int):=by
 unfold formE at h
 split at h
 ·cases h
 ·rename_i h1
  split at h
  ·cases h
  ·rename_i h2
   split at h
   ·rename_i h3
    unfold badF at h1
    refine ⟨?_,h3,by omega,?_⟩
    ·cases hb:hasB r.kind with
     | true=>rfl
     | false=>
      cases hn:hasN r.kind with
      | true=>rfl
      | false=>rw [hb,hn] at h1;simp at h1
    ·cases hb:hasB r.kind with
     | true=>
      rw [hb] at h1
      simp at h1
      omega
     | false=>
      cases hn:hasN r.kind with
      | true=>rw [hb,hn] at h1;simp at h1;omega
      | false=>rw [hb,hn] at h1;simp at h1
   ·cases h
theorem row_cls {k:Nat} {en en1:En} {sd:Sd} {r:Rw} {body:List Rw} {L:List TO} (h:rowR (lookB k) en sd r body=.ok (en1,L)) (hl:EnL en):∀t∈L,(t.st=none↔sd.g=true):=by
 intro t ht
 cases hg:sd.g with
 | true=>exact ⟨fun _=>rfl,fun _=>(rowR_L (lookB_L k) h hl).2 hg t ht⟩
 | false=>exact ⟨fun e=>absurd e (rowR_st (lookB_st k) h hg t ht),fun h=>by cases h⟩
theorem sr_head {W:World} {v:Value} {r:Rw} {rs:List Rw} (h:SR W v (r::rs)):∃b o c aa ac,v=.slice (some ⟨b,o,none⟩) (rs.length+1) c∧SA W (.slice aa r.args.length ac) r.args∧(W.cell? ⟨b,o,none⟩=some (.string r.kind)∧W.cell? ⟨b,o+1,none⟩=some (.string r.name)∧W.cell? ⟨b,o+2,none⟩=some (.slice aa r.args.length ac)∧W.cell? ⟨b,o+3,none⟩=some (.int .i64 r.num)∧W.cell? ⟨b,o+4,none⟩=some (.int .i64 r.rows)∧W.cell? ⟨b,o+5,none⟩=some (.int .i64 r.place))∧b<W.heap.size:=by
 obtain ⟨a,c,vs,e,hc,hv,ha,hr⟩:=h
 obtain ⟨b,o,rfl,q⟩:=hr 0 (by simp)
 cases vs with
 | nil=>cases hv
 | cons v0 vs=>
  have h0:=ha 0 (by simp) (by simp)
  obtain ⟨aa,ac,e2,_⟩:=id h0
  have e2:v0=.slice aa r.args.length ac:=e2
  have h0:SA W v0 r.args:=h0
  subst e2
  have c0:=q.c0 0 (by simp)
  have c1:=q.c1 0 (by simp)
  have c2:=q.c2 0 (by simp) (by simp)
  have c3:=q.c3 0 (by simp)
  have c4:=q.c4 0 (by simp)
  have c5:=q.c5 0 (by simp)
  rw [Nat.zero_mul,Nat.add_zero] at c0 c1 c2 c3 c4 c5
  exact ⟨b,o,c,aa,ac,e,h0,⟨c0,c1,c2,c3,c4,c5⟩,q.lt⟩
theorem RowO.on {w0 W w1 w2:World} {lb mb M:Nat} {hi:HG} {pr:En × Bool} {S:Except Fa (En × List TO)} {e:Ending} (h:RowO w0 W w1 lb mb hi M pr S e) (hb:Below w1.heap.size w1 w2):RowO w0 W w2 lb mb hi M pr S e:=by
 have f:Fr w1 w2 0 0:=fr_of_below hb
 have hx:∀b,hi.G b→b<0∨0≤b:=fun b _=>.inr (Nat.zero_le _)
 refine ⟨h.1.blw hb,?_⟩
 rcases h.2 with ⟨x,e1,e2,e3,e4⟩ | ⟨en1,L,p,pl,N,e1,e2,e3,e4,e5,e6,Lb,L',e7,e8,e9⟩
 ·exact .inl ⟨x,e1,e2,e3,e4.fr f (.inr (Nat.zero_le _)) (.inr (Nat.zero_le _))⟩
 ·exact .inr ⟨en1,L,p,pl,N,e1,e2,e3.fr hb,e4,e5,e6,Lb,L',e7.far f hx,e8.far f hx,e9⟩
theorem Tryz.info113:(Tryz.prog.info? 113).map (fun i=>(i.zero,i.size,i.bytes))=some (some (.agg pzC),14,152):=by kernel_rfl
theorem new_pp (w4:World) (b:Nat) (hb:b=w4.heap.size) (p:PP):∀j u,(ppc p)[j]?=some u→(w4.alloc (.cells (ppc p).toArray 113)).cell? ((⟨b,0,none⟩:Addr).add j)=some u:=by
 intro j u hj
 subst hb
 rw [WideShapes.add_plain,Nat.zero_add,(bk_new w4 (ppc p).toArray 113).cell j]
 simpa using hj
theorem one_pp (p:PP):∀u∈ppc p,u.oneCell'=true:=fun u hu=>by
 simp at hu
 rcases hu with rfl | rfl | rfl | rfl | rfl | rfl | rfl | rfl | rfl | rfl | rfl | rfl | rfl | rfl <;> rfl
theorem bk_sets {b:Nat} {T:TypeId}:∀(us:List Value) (k:Nat) (W:World) (cs:List Value),BK W b cs.toArray T→k+us.length≤cs.length→BK (W.setCells b k us) b (cs.take k++us++cs.drop (k+us.length)).toArray T
 | [],k,W,cs,h,_=>by
  have e:cs.take k++([]:List Value)++cs.drop (k+([]:List Value).length)=cs:=by simp
  rw [e]
  exact h
 | u::us,k,W,cs,h,hl=>by
  rw [List.length_cons] at hl
  have h1:=h.set k u
  rw [List.setIfInBounds_toArray] at h1
  have h2:=bk_sets us (k+1) (W.setCell ⟨b,k,none⟩ u) (cs.set k u) h1 (by rw [List.length_set];omega)
  have e:(cs.set k u).take (k+1)++us++(cs.set k u).drop (k+1+us.length)=cs.take k++u::us++cs.drop (k+(u::us).length):=by
   rw [List.take_succ_eq_append_getElem (by rw [List.length_set];omega),List.getElem_set_self,List.take_set_of_le (Nat.le_refl _),List.drop_set_of_lt (by omega),List.length_cons,show k+1+us.length=k+(us.length+1) by omega]
   simp
  rw [e] at h2
  exact h2
theorem bk_pp {W:World} {b:Nat} (h:BK W b pzC 113) (p:PP):BK (W.setCells b 0 (ppc p)) b (ppc p).toArray 113:=by
 have h2:=bk_sets (ppc p) 0 W pzC.toList (by simpa using h) (Nat.le_refl _)
 have e:pzC.toList.take 0++ppc p++pzC.toList.drop (0+(ppc p).length)=ppc p:=by
  rw [show pzC.toList.drop (0+(ppc p).length)=[] from rfl]
  simp
 rw [e] at h2
 exact h2
end Go.Proofs.YtdjfpghgklkejaaGreatDoor
