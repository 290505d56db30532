/-
  Put together of: LB8 LB8s5 HQ.
-/
import Derived.Test.YtdjfpghgklkejaaGreatDoorYL
import Derived.Test.YtdjfpghgklkejaaGreatDoorYF
import Derived.Lib.ItoaLen
import Derived.Test.YtdjfpghgklkejaaGreatDoorXF
import Derived.Test.YtdjfpghgklkejaaGreatDoorYP
namespace Go.Proofs.YtdjfpghgklkejaaGreatDoor
open Go.RowKit Go.Sort
def lastOf (e:ByteArray):List Tk→ByteArray
 | []=>e
 | t::ts=>lastOf t.t ts
theorem lineB_app:∀(e:ByteArray) (xs ys:List Tk),lineB e (xs++ys)=lineB e xs++lineB (lastOf e xs) ys
 | _,[],_=>rfl
 | e,x::xs,ys=>by
  show tokB e x.t++lineB x.t (xs++ys)=(tokB e x.t++lineB x.t xs)++lineB (lastOf x.t xs) ys
  rw [lineB_app x.t xs ys,List.append_assoc]
theorem lastOf_app (e:ByteArray) (xs:List Tk) (t:Tk):lastOf e (xs++[t])=t.t:=by
 induction xs generalizing e with
 | nil=>rfl
 | cons x xs ih=>exact ih x.t
def TS (w W:World) (b:Nat) (bs:List UInt8) (ts:List Tk):Prop:=WS w W b (bs++lineB ⟨#[]⟩ ts) (lastOf ⟨#[]⟩ ts)∧(bs++lineB ⟨#[]⟩ ts).length≤65536
theorem TS.on {w W W':World} {b:Nat} {bs:List UInt8} {ts:List Tk} (h:TS w W b bs ts) (hb:Below W.heap.size W W'):TS w W' b bs ts:=⟨h.1.on hb,h.2⟩
structure SX (w X:World) (b:Nat) (W:World):Prop where
 below:Below w.heap.size w W
 ok:Lib.OthersKept 5 (some b) X W
 size:X.heap.size≤W.heap.size
theorem SX.on {w X W W':World} {b:Nat} (h:SX w X b W) (hb:Below W.heap.size W W'):SX w X b W':=⟨btr h.below hb,Lib.OthersKept.trans h.ok (ok_below _ hb),Nat.le_trans h.size hb.size⟩
theorem tok_ts {X:World} (w W:World) (b:Nat) (bs:List UInt8) (ts:List Tk) (s:ByteArray) (t:Tk) (e:t.t=s) (h:TS w W b bs ts) (hs:SX w X b W) (hz:s.size≤9223372036854775807) :
  Calls Tryz.prog 123 #[.pointer (some ⟨b,0,none⟩),.string s] W fun x W'=>SX w X b W'∧Lib.OthersKept 5 (some b) W W'∧((x=.returned (.tuple #[])∧TS w W' b bs (ts++[t]))∨(65536<bs.length+(lineB ⟨#[]⟩ (ts++[t])).length∧x=.panicked [flt (0,1)])):=by
 refine (token_any w W b _ _ s h.1 h.2 hz).mono ?_
 rintro x W' ⟨h1,h2,h3,h4⟩
 have E:bs++lineB ⟨#[]⟩ (ts++[t])=bs++lineB ⟨#[]⟩ ts++tokB (lastOf ⟨#[]⟩ ts) s:=by
  rw [lineB_app,←List.append_assoc]
  show _++(tokB (lastOf ⟨#[]⟩ ts) t.t++[])=_
  rw [List.append_nil,e]
 have EL:=congrArg List.length E
 rw [List.length_append,List.length_append] at EL
 refine ⟨⟨h1,Lib.OthersKept.trans hs.ok h3,Nat.le_trans hs.size h2⟩,h3,?_⟩
 rcases h4 with ⟨h5,h6,h7⟩ | ⟨h5,h6⟩
 ·refine .inl ⟨h6,?_,?_⟩
  ·rw [E,lastOf_app,e];exact h7
  ·rw [List.length_append,EL];exact h5
 ·exact .inr ⟨by omega,h6⟩
theorem below_grow (w:World) (k:Nat) (os:Array Obj):Below w.heap.size w (grow (w.drewN k) os):=
 ⟨rfl,rfl,rfl,by simp [grow],fun i hi=>by simp [grow,Array.getElem?_append,hi]⟩
theorem itoa_any (n:Int) (w:World) (h0: -9223372036854775808≤n) (h1:n≤9223372036854775807) (hT:VR w) :
  Calls Tryz.prog 65 #[.int .i64 n] w fun e w'=>e=.returned (.string (numT n))∧Below w.heap.size w w':=
 (Tryz.strconv_Itoa n h0 h1 w hT.pow).mono fun e w' ⟨he,k,os,hw⟩=>⟨he,by rw [hw];exact below_grow w k os⟩
theorem num_size (n:Int) (h0: -9223372036854775808≤n) (h1:n≤9223372036854775807):(numT n).size≤9223372036854775807:=by
 have:=Lib.itoa_length_le n h0 h1
 show (Lib.itoa n).toArray.size≤_
 rw [List.size_toArray]
 omega
theorem numOk_p2 {x:Int} (h:numOk x=true):0≤x∧x≤9007199254740991:=by simpa [numOk] using h
end Go.Proofs.YtdjfpghgklkejaaGreatDoor
namespace Go.Proofs.YtdjfpghgklkejaaGreatDoor
open Go.RowKit Go.Sort
set_option maxHeartbeats 4000000 in
set_option maxRecDepth 100000 in
theorem st_5 (nm:ByteArray) (ag:List Ar) (nu ro pl:Int) (sa:Int) (sx sb:Bool) (av:Value) (w W:World) (b:Nat) (bs:List UInt8) (hv:VR w) (H:WS w W b bs ⟨#[]⟩) (hb:bs.length≤65536) (hS:SA w av ag) (hnz:nm.size≤9223372036854775807) (hl:ag.length≤9223372036854775807) (hz:∀a∈ag,a.n.size≤9223372036854775807) (hx:∀a∈ag,a.x≤9007199254740991) :
  Calls Tryz.prog 121 #[.pointer (some ⟨b,0,none⟩),.agg #[.string ⟨#[117,115,101]⟩,.string nm,av,.int .i64 nu,.int .i64 ro,.int .i64 pl],.agg #[.bool true,.int .i64 sa,.bool sx,.bool false,.bool sb]] W (WR w W b bs (lineB ⟨#[]⟩ (headK ⟨⟨#[117,115,101]⟩,nm,ag,nu,ro,pl⟩ ⟨true,sa,sx,false,sb⟩)) (lastS ⟨true,sa,sx,false,sb⟩)):=by
 obtain ⟨aa,ac,rfl,hac,hr⟩:=hS
 have HR:Hid (∀k,k<ag.length→∃b o,aa=some ⟨b,o,none⟩∧RA w b o ag):=hr
 have HZ:Hid (∀a∈ag,a.n.size≤9223372036854775807):=hz
 have HXX:Hid (∀a∈ag,a.x≤9007199254740991):=hx
 have HV:Hid (VR w):=hv
 obtain ⟨T,hT⟩:∃T,T=headK (⟨⟨#[117,115,101]⟩,nm,ag,nu,ro,pl⟩:Rw) ⟨true,sa,sx,false,sb⟩:=⟨_,rfl⟩
 have HT:Hid (T=[tkN nm]++argsT ag++[tkS (lastS ⟨true,sa,sx,false,sb⟩)]):=by
  show T=_
  rw [hT]
  unfold headK kindT nameT numTk
  rw [if_pos rfl]
  simp
 rw [←hT]
 obtain ⟨L,hL⟩:∃L,L=lastS ⟨true,sa,sx,false,sb⟩:=⟨_,rfl⟩
 have HL:Hid (L=lastS ⟨true,sa,sx,false,sb⟩):=hL
 have hLz:L.size≤9223372036854775807:=by
  rw [hL]
  cases sb
  ·show wSemi.size≤_;decide
  ·show wOpen.size≤_;decide
 have LA:∀w,Calls Tryz.prog 151 #[.agg #[.bool true,.int .i64 sa,.bool sx,.bool false,.bool sb]] w fun e w'=>e=.returned (.string L)∧Below w.heap.size w w':=fun w=>by rw [hL];exact last_any ⟨true,sa,sx,false,sb⟩ w
 rw [←hL]
 clear hT hL hr hz hx hv
 obtain ⟨X,hX⟩:∃X,X=(W.alloc (.cells #[.string ⟨#[117,115,101]⟩,.string nm,.slice aa ag.length ac,.int .i64 nu,.int .i64 ro,.int .i64 pl] 79)).alloc (.cells #[.bool true,.int .i64 sa,.bool sx,.bool false,.bool sb] 187):=⟨_,rfl⟩
 have HX:Hid (X=(W.alloc (.cells #[.string ⟨#[117,115,101]⟩,.string nm,.slice aa ag.length ac,.int .i64 nu,.int .i64 ro,.int .i64 pl] 79)).alloc (.cells #[.bool true,.int .i64 sa,.bool sx,.bool false,.bool sb] 187)):=hX
 have XB:Below W.heap.size W X:=by rw [hX];exact bal (bal (Below.refl _ _) _) _
 have XS:X.heap.size=W.heap.size+1+1:=by rw [hX];simp
 obtain ⟨_,_,hbW⟩:=H.cell2
 have hT0:TS w X b bs []:=⟨by show WS w X b (bs++[]) _;rw [List.append_nil];exact H.on XB,by show (bs++[]).length≤_;rw [List.append_nil];exact hb⟩
 have hX0:SX w X b X:=⟨hT0.1.below,Lib.OthersKept.refl _ _ _,Nat.le_refl _⟩
 have FC:∀ {wr:World},SX w X b wr→wr.cell? ⟨W.heap.size,0,none⟩=some (.string ⟨#[117,115,101]⟩)∧wr.cell? ⟨W.heap.size,1,none⟩=some (.string nm)∧wr.cell? ⟨W.heap.size,2,none⟩=some (.slice aa ag.length ac)∧wr.cell? ⟨W.heap.size,3,none⟩=some (.int .i64 nu)∧wr.cell? ⟨W.heap.size+1,0,none⟩=some (.bool true)∧wr.cell? ⟨W.heap.size+1,1,none⟩=some (.int .i64 sa)∧wr.cell? ⟨W.heap.size+1,2,none⟩=some (.bool sx)∧wr.cell? ⟨W.heap.size+1,3,none⟩=some (.bool false)∧wr.cell? ⟨W.heap.size+1,4,none⟩=some (.bool sb)∧W.heap.size+1<wr.heap.size:=fun h=>by
  have hh:Below X.heap.size X X:=Below.refl _ _
  rw [hX] at hh
  obtain ⟨b0,b1⟩:=two_bk W _ _ _ _ hh
  rw [←hX] at b0 b1
  have d0:=ok_bk h.ok b0 (by omega) (by decide)
  have d1:=ok_bk h.ok b1 (by omega) (by decide)
  exact ⟨d0.cell 0,d0.cell 1,d0.cell 2,d0.cell 3,d1.cell 0,d1.cell 1,d1.cell 2,d1.cell 3,d1.cell 4,d1.lt⟩
 have PAN:Hid (∀ {wr:World} (ts rest:List Tk),T=ts++rest→65536<bs.length+(lineB ⟨#[]⟩ ts).length→SX w X b wr→WR w W b bs (lineB ⟨#[]⟩ T) L (.panicked [flt (0,1)]) wr):=fun {wr} ts rest e h hs=>by
  refine ⟨hs.below,Nat.le_trans XB.size hs.size,Lib.OthersKept.trans (ok_below _ XB) hs.ok,.inr ⟨?_,rfl⟩⟩
  rw [e,lineB_app,List.length_append]
  omega
 have FIN:Hid (∀ {wr:World} (ts:List Tk),TS w wr b bs (ts++[tkS L])→T=ts++[tkS L]→SX w X b wr→WR w W b bs (lineB ⟨#[]⟩ T) L (.returned (.tuple #[])) wr):=fun {wr} ts h e hs=>by
  refine ⟨hs.below,Nat.le_trans XB.size hs.size,Lib.OthersKept.trans (ok_below _ XB) hs.ok,.inl ⟨?_,rfl,?_⟩⟩
  ·rw [e,←List.length_append];exact h.2
  ·have:=h.1
   rw [lastOf_app] at this
   rw [e]
   exact this
 have TK:=fun (W':World) (ts:List Tk) (s:ByteArray) (t:Tk) (e:t.t=s) (h:TS w W' b bs ts) (hs:SX w X b W') (hz:s.size≤9223372036854775807)=>tok_ts (X:=X) w W' b bs ts s t e h hs hz
 rw [←HL.out] at HT
 obtain ⟨x0,x1,x2,x3,x4,x5,x6,x7,x8,x9⟩:=FC hX0
 clear hX H XB
 go_enter Tryz.func121,Tryz.ntmps121
 go_upto_region 1 with (fail)
 rw [←HX.out]
 go_upto_region 5 with (go_at_call 123;(with_reducible refine (TK _ [] nm (tkN nm) rfl hT0 hX0 hnz).mono ?_);rintro e w1 ⟨hS1,_,hE1⟩;rcases hE1 with ⟨rfl,hT1⟩ | ⟨hP1,rfl⟩)
 rotate_left
 ·exact ⟨rfl,PAN.out [tkN nm] ([]++argsT ag++[tkS L]) (by rw [HT.out];simp) hP1 hS1⟩
 clear x0 x1 x2 x3 x4 x5 x6 x7 x8 x9
 obtain ⟨x0,x1,x2,x3,x4,x5,x6,x7,x8,x9⟩:=FC hS1
 go_upto_region 6 with (fail)
 go_loopw [24] (fun v wr=>∃k:Nat,k≤ag.length∧v=.int .i64 k∧Hid (SX w X b wr∧TS w wr b bs ([tkN nm]++argsT (ag.take k)))) (fun v _=>ag.length-(intOf v).toNat)
 case atStart=>exact ⟨0,Nat.zero_le _,rfl,hS1,by rw [List.take_zero];exact hT1⟩
 case round=>
  clear x0 x1 x2 x3 x4 x5 x6 x7 x8 x9
  obtain ⟨k,hk,rfl,hI⟩:=hrel
  obtain ⟨x0,x1,x2,x3,x4,x5,x6,x7,x8,x9⟩:=FC hI.out.1
  by_cases hlt:k<ag.length
  case neg=>
   obtain rfl:k=ag.length:=by omega
   have hTA:TS w wr b bs ([tkN nm]++argsT ag):=by have:=hI.out.2;rwa [List.take_length] at this
   go_wp2_with (first | (go_at_call 151;(with_reducible refine (LA _).mono ?_);rintro e wl ⟨rfl,hBl⟩;have hSl:=hI.out.1.on hBl;have hTl:=hTA.on hBl) | (go_at_call 123;(with_reducible refine (TK _ _ L (tkS L) rfl hTl hSl hLz).mono ?_);rintro e wz ⟨hSz,_,hEz⟩;rcases hEz with ⟨rfl,hTz⟩ | ⟨hPz,rfl⟩))
   ·go_end0
    exact FIN.out _ hTz (by rw [HT.out]) hSz
   ·exact ⟨rfl,PAN.out _ [] (by rw [HT.out];simp) hPz hSz⟩
  case pos=>
  obtain ⟨rb,rO,rfl,ra0⟩:=HR.out k hlt
  have ra:=ra0.below hI.out.1.below
  have l0:=ra.c0 k hlt
  have l1:=ra.c1 k hlt
  have l2:=ra.lt
  have hmem:=List.getElem_mem hlt
  have haz:=HZ.out _ hmem
  have hax:=HXX.out _ hmem
  have hbr:b<wr.heap.size:=(hI.out.2.1.cell2).2.2
  have hV:Hid (SX w X b (wr.alloc (.cells #[.string ag[k].n,.int .i64 ag[k].x] 100))):=hI.out.1.on (bal (Below.refl _ _) _)
  have hU:Hid (TS w (wr.alloc (.cells #[.string ag[k].n,.int .i64 ag[k].x] 100)) b bs ([tkN nm]++argsT (ag.take k))):=hI.out.2.on (bal (Below.refl _ _) _)
  have bx:=bk_new wr #[.string ag[k].n,.int .i64 ag[k].x] 100
  have HTK:Hid (argsT (ag.take (k+1))=argsT (ag.take k)++argK ag[k]):=by show _=_;rw [List.take_succ_eq_append_getElem hlt];unfold argsT;rw [List.flatMap_append];simp
  have HTR:Hid (∃R,argsT ag=argsT (ag.take k)++argK ag[k]++R):=⟨argsT (ag.drop (k+1)),by
   rw [←HTK.out];unfold argsT;rw [←List.flatMap_append,List.take_append_drop]⟩
  have HK:Hid (argK ag[k]=tkN ag[k].n::(if 0≤ag[k].x then [tkS wLeft,tkD ag[k].x,tkS wRight] else [])):=rfl
  clear ra ra0 hmem
  generalize argK ag[k]=AK at *
  generalize ag[k].n=an at *
  generalize ag[k].x=ax at *
  obtain ⟨R,hR⟩:=HTR.out
  have HRR:Hid (argsT ag=argsT (ag.take k)++AK++R):=hR
  clear hR HTR
  have BX:∀ {w9:World},Lib.OthersKept 5 (some b) (wr.alloc (.cells #[.string an,.int .i64 ax] 100)) w9→w9.cell? ⟨wr.heap.size,1,none⟩=some (.int .i64 ax)∧wr.heap.size<w9.heap.size:=fun h=>by
   have b2:=ok_bk h bx (by omega) (by decide)
   exact ⟨b2.cell 1,b2.lt⟩
  clear bx
  by_cases hxx:0≤ax
  case neg=>
   have HK2:Hid (AK=[tkN an]):=by show _=_;rw [HK.out,if_neg hxx]
   go_wp2_with (go_at_call 123;(with_reducible refine (TK _ _ an (tkN an) rfl hU.out hV.out haz).mono ?_);rintro e w5 ⟨hS5,hO5,hE5⟩;obtain ⟨z1,z2⟩:=BX hO5;rcases hE5 with ⟨rfl,hT5⟩ | ⟨hP5,rfl⟩)
   ·go_roundw
    case rel=>exact ⟨k+1,by omega,by go_num,hS5,by rw [HTK.out,HK2.out,←List.append_assoc];exact hT5⟩
    case measure=>simp [intOf];omega
   ·exact ⟨rfl,PAN.out _ (R++[tkS L]) (by rw [HT.out,HRR.out,HK2.out];simp) hP5 hS5⟩
  case pos=>
   have HK2:Hid (AK=[tkN an,tkS wLeft,tkD ax,tkS wRight]):=by show _=_;rw [HK.out,if_pos hxx]
   have IT:=fun w' (h:Below w.heap.size w w')=>itoa_any ax w' (by omega) (by omega) (HV.out.below h)
   have hiz:=num_size ax (by omega) (by omega)
   go_upto_region 9 with (go_at_call 123;(with_reducible refine (TK _ _ an (tkN an) rfl hU.out hV.out haz).mono ?_);rintro e w5 ⟨hS5,hO5,hE5⟩;obtain ⟨z1,z2⟩:=BX hO5;rcases hE5 with ⟨rfl,hT5⟩ | ⟨hP5,rfl⟩)
   rotate_left
   ·exact ⟨rfl,PAN.out _ ([tkS wLeft,tkD ax,tkS wRight]++R++[tkS L]) (by rw [HT.out,HRR.out,HK2.out];simp) hP5 hS5⟩
   go_upto_region 11 with (go_at_call 123;(with_reducible refine (TK _ _ wLeft (tkS wLeft) rfl hT5 hS5 (by decide)).mono ?_);rintro e w6 ⟨hS6,hO6,hE6⟩;obtain ⟨z3,z4⟩:=BX (Lib.OthersKept.trans hO5 hO6);rcases hE6 with ⟨rfl,hT6⟩ | ⟨hP6,rfl⟩)
   rotate_left
   ·exact ⟨rfl,PAN.out _ ([tkD ax,tkS wRight]++R++[tkS L]) (by rw [HT.out,HRR.out,HK2.out];simp) hP6 hS6⟩
   go_upto_region 12 with (first | (go_at_call 65;(with_reducible refine (IT _ hS6.below).mono ?_);rintro e wi ⟨rfl,hBi⟩;have hSi:=hS6.on hBi;have hTi:=hT6.on hBi) | (go_at_call 123;(with_reducible refine (TK _ _ (numT ax) (tkD ax) rfl hTi hSi hiz).mono ?_);rintro e w7 ⟨hS7,hO7,hE7⟩;rcases hE7 with ⟨rfl,hT7⟩ | ⟨hP7,rfl⟩))
   rotate_left
   ·exact ⟨rfl,PAN.out _ ([tkS wRight]++R++[tkS L]) (by rw [HT.out,HRR.out,HK2.out];simp) hP7 hS7⟩
   go_wp2_with (go_at_call 123;(with_reducible refine (TK _ _ wRight (tkS wRight) rfl hT7 hS7 (by decide)).mono ?_);rintro e w8 ⟨hS8,hO8,hE8⟩;rcases hE8 with ⟨rfl,hT8⟩ | ⟨hP8,rfl⟩)
   ·go_roundw
    case rel=>exact ⟨k+1,by omega,by go_num,hS8,by rw [HTK.out,HK2.out];simpa using hT8⟩
    case measure=>simp [intOf];omega
   ·exact ⟨rfl,PAN.out _ (R++[tkS L]) (by rw [HT.out,HRR.out,HK2.out];simp) hP8 hS8⟩
end Go.Proofs.YtdjfpghgklkejaaGreatDoor
namespace Go.Proofs.YtdjfpghgklkejaaGreatDoor
open Go.RowKit Go.Sort
structure CB (w W:World) (c:Ci) (a:Option Addr) (k:Nat):Prop where
 below:Below w.heap.size w W
 box:BK W w.heap.size (cic c a k) 27
theorem CB.on {w W W':World} {c:Ci} {a:Option Addr} {k:Nat} (h:CB w W c a k) (hb:Below W.heap.size W W'):CB w W' c a k:=
 ⟨btr h.below hb,(hb.block _ h.box.lt).trans h.box⟩
theorem CB.new (w:World) (c:Ci) (a:Option Addr) (k:Nat):CB w (w.alloc (.cells (cic c a k) 27)) c a k:=⟨bal (Below.refl _ _) _,bk_new w _ 27⟩
abbrev OC (V W:World) (h:Nat) (a:Option Addr) (n cp:Nat) (q:Int) (bn:Nat) (b' k o':Nat) (o:Oq) (ak:Option Addr) (ck:Nat):Prop:=
 Below V.heap.size V W∧W.cell? ⟨h,0,none⟩=some (.int .i64 q)∧W.cell? ⟨h,1,none⟩=some (.int .i64 (bn:Nat))∧W.cell? ⟨h,2,none⟩=some (.slice a n cp) ∧
 W.cell? ⟨b',o'+k*7,none⟩=some (.int .i64 o.k)∧W.cell? ⟨b',o'+k*7+1,none⟩=some (.string o.n)∧W.cell? ⟨b',o'+k*7+2,none⟩=some (.slice ak o.qs.length ck)∧W.cell? ⟨b',o'+k*7+3,none⟩=some (.int .i64 o.b) ∧
 W.cell? ⟨b',o'+k*7+4,none⟩=some (.bool o.f)∧W.cell? ⟨b',o'+k*7+5,none⟩=some (.int .u64 o.m)∧W.cell? ⟨b',o'+k*7+6,none⟩=some (.int .u64 o.v)
theorem oc_keep {V W:World} {h:Nat} {a:Option Addr} {n cp:Nat} {q:Int} {bn b' k o':Nat} {o:Oq} {ak:Option Addr} {ck:Nat} (H:OC V V h a n cp q bn b' k o' o ak ck) (h1:h<V.heap.size) (h2:b'<V.heap.size) (hb:Below V.heap.size V W):OC V W h a n cp q bn b' k o' o ak ck:=by
 obtain ⟨_,c0,c1,c2,e0,e1,e2,e3,e4,e5,e6⟩:=H
 have g:∀x y,x<V.heap.size→W.cell? ⟨x,y,none⟩=V.cell? ⟨x,y,none⟩:=fun x y hx=>hb.cell (p:=⟨x,y,none⟩) hx
 exact ⟨hb,(g _ _ h1).trans c0,(g _ _ h1).trans c1,(g _ _ h1).trans c2,(g _ _ h2).trans e0,(g _ _ h2).trans e1,(g _ _ h2).trans e2,(g _ _ h2).trans e3,(g _ _ h2).trans e4,(g _ _ h2).trans e5,(g _ _ h2).trans e6⟩
set_option maxHeartbeats 4000000 in
set_option maxRecDepth 100000 in
theorem rcheck_any (c:Ci) (a:Option Addr) (cp:Nat) (A:Nat→Option Addr) (C:Nat→Nat) (w:World) (H:OS w a cp c.ops A C) :
  Calls Tryz.prog 23 #[civ c a cp] w fun e w'=>e=.returned (.tuple #[.int .i64 ((lk c).1:Nat),.int .i64 ((lk c).2.2:Nat)])∧Below w.heap.size w w':=by
 by_cases hbad:badC c
 ·have e:lk c=(0,0,2):=by unfold lk;rw [if_pos ((bad_iff c).2 hbad)]
  rw [e]
  have hw:c.q<0∨(¬c.q<0∧64<c.q)∨(¬c.q<0∧¬64<c.q∧c.b<0)∨(¬c.q<0∧¬64<c.q∧¬c.b<0∧64<c.b):=by unfold badC at hbad;omega
  clear e hbad H
  rcases hw with h1 | ⟨h1,h2⟩ | ⟨h1,h2,h3⟩ | ⟨h1,h2,h3,h4⟩
  all_goals
   go_enter Tryz.func23,Tryz.ntmps23
   go_wp2
   go_ret2
   exact ⟨rfl,bal (Below.refl _ _) _⟩
 obtain ⟨q,b,os⟩:=c
 simp only at H
 unfold badC at hbad
 simp only at hbad
 have h1:¬q<0:=by omega
 have h2:¬64<q:=by omega
 have h3:¬b<0:=by omega
 have h4:¬64<b:=by omega
 have hl:=H.l
 by_cases hm:4096<os.length
 ·have e:lk ⟨q,b,os⟩=(0,0,115):=by unfold lk;rw [if_neg (by rw [bad_iff];unfold badC;exact hbad),if_pos hm]
  rw [e]
  have hm2:(4096:Int)<(os.length:Int):=by omega
  clear e hbad H
  go_enter Tryz.func23,Tryz.ntmps23
  go_wp2
  go_ret2
  exact ⟨rfl,bal (Below.refl _ _) _⟩
 have hm2:¬(4096:Int)<(os.length:Int):=by omega
 obtain ⟨bn,hbn⟩:∃bn:Nat,b=(bn:Int):=⟨b.toNat,by omega⟩
 subst hbn
 have hb64:bn≤64:=by omega
 have HLK:Hid (lk ⟨q,bn,os⟩=lkF q bn os 0 0):=by
  show _=_
  unfold lk
  rw [if_neg (by rw [bad_iff];unfold badC;exact hbad),if_neg hm]
  rfl
 generalize lk ⟨q,bn,os⟩=R at *
 have HO:Hid (OS w a cp os A C):=H
 have hcap:=H.cap
 have HCB:Hid (CB w (w.alloc (.cells (cic ⟨q,bn,os⟩ a cp) 27)) ⟨q,bn,os⟩ a cp):=CB.new _ _ _ _
 clear hbad H hm
 go_enter Tryz.func23,Tryz.ntmps23
 go_wp2
 go_loopw [4,5] (fun v4 v5 wr=>∃k h:Nat,k≤os.length∧h≤36∧v4=.int .i64 h∧v5=.int .i64 k∧Hid (CB w wr ⟨q,bn,os⟩ a cp)∧Hid (R=lkF q bn (os.drop k) k h)) (fun _ v5 _=>os.length-(intOf v5).toNat)
 case atStart=>exact ⟨0,0,Nat.zero_le _,Nat.zero_le _,rfl,rfl,HCB,HLK⟩
 case round=>
  clear HCB HLK
  obtain ⟨k,h,hk,hh,rfl,rfl,hL,hR⟩:=hrel
  have d2:wr.cell? ⟨w.heap.size,2,none⟩=some (.slice a os.length cp):=hL.out.box.cell 2
  have d1:wr.cell? ⟨w.heap.size,1,none⟩=some (.int .i64 (bn:Nat)):=hL.out.box.cell 1
  have d0:wr.cell? ⟨w.heap.size,0,none⟩=some (.int .i64 q):=hL.out.box.cell 0
  have dz:=hL.out.box.lt
  by_cases hlt:k<os.length
  case neg=>
   obtain rfl:k=os.length:=by omega
   obtain rfl:R=(0,h,0):=by rw [hR.out,List.drop_of_length_le (Nat.le_refl _)];rfl
   go_wp2
   go_ret2
   exact ⟨rfl,hL.out.below⟩
  have hO:=HO.out.below hL.out.below
  obtain ⟨b',o',rfl,r⟩:=hO.at_ k hlt
  have hQ:=HO.out.qs k hlt
  have hF:=HO.out.fit k hlt
  have m0:=r.c0 k hlt
  have m1:=r.c1 k hlt
  have m2:=r.c2 k hlt
  have m3:=r.c3 k hlt
  have m4:=r.c4 k hlt
  have m5:=r.c5 k hlt
  have m6:=r.c6 k hlt
  have hbl:=r.lt
  have hR2:=hR.out
  rw [lk_drop hlt] at hR2
  clear r hO hR
  generalize os[k]=o at *
  generalize A k=ak at *
  generalize C k=ck at *
  have hE3:=opE_le o q bn (opN o)
  have hH:=opH_le o
  have HQ:Hid (QS w ak ck o.qs):=hQ
  have HF:Hid (Fit o):=hF
  have FA:=fun w1 h=>fault_any o ak ck q bn w1 HF.out h hb64
  have HA:=fun w1=>rhalvesOp_any o ak ck w1
  clear hQ hF
  generalize opE o q bn (opN o)=E at *
  generalize opH o=hv at *
  have HR2:Hid (R=if E≠0 then (k,0,E) else if 36<h+hv then (k,0,116) else lkF q bn (os.drop (k+1)) (k+1) (h+hv)):=hR2
  clear hR2
  have hOC:Hid (OC wr wr w.heap.size (some ⟨b',o',none⟩) os.length cp q bn b' k o' o ak ck):=⟨Below.refl _ _,d0,d1,d2,m0,m1,m2,m3,m4,m5,m6⟩
  have hV:=Below.refl wr.heap.size wr
  clear d0 d1 m0 m1 m2 m3 m4 m5 m6
  have hcases:(E≠0)∨(E=0∧36<h+hv)∨(E=0∧¬36<h+hv):=by omega
  rcases hcases with hE | ⟨rfl,hE⟩ | ⟨rfl,hE⟩
  ·obtain rfl:R=(k,0,E):=by rw [HR2.out,if_pos hE]
   have hE1:((E:Int) != 0)=true:=bne_iff_ne.2 (by omega)
   clear HR2 hE
   go_upto_region 9 with (fail)
   go_region_held3 (fun w'=>OC wr w' w.heap.size (some ⟨b',o',none⟩) os.length cp q bn b' k o' o ak ck)
    ((refine oc_keep hOC.out dz hbl ?_;first | exact below_drew hV | exact btr (And.left (by assumption)) hN))
    (first | (go_at_call 49;(with_reducible refine (FA _ (HQ.out.below (hL.out.on (And.left (by assumption))).below)).mono ?_);rintro e w1 ⟨rfl,hN⟩))
   obtain ⟨hb1,s0,s1,s2,e0,e1,e2,e3,e4,e5,e6⟩:OC wr w1 w.heap.size (some ⟨b',o',none⟩) os.length cp q bn b' k o' o ak ck:=oc_keep hOC.out dz hbl (by first | exact And.left (by assumption) | exact btr (below_drew hV) hN)
   have z1:=Nat.lt_of_lt_of_le dz hb1.size
   have z2:=Nat.lt_of_lt_of_le hbl hb1.size
   go_wp2
   go_ret2
   exact ⟨rfl,(hL.out.on hb1).below⟩
  ·obtain rfl:R=(k,0,116):=by rw [HR2.out,if_neg (by simp),if_pos hE]
   have hE2:(36:Int)<(h:Int)+(hv:Int):=by omega
   clear HR2 hE
   go_upto_region 9 with (fail)
   go_region_held3 (fun w'=>OC wr w' w.heap.size (some ⟨b',o',none⟩) os.length cp q bn b' k o' o ak ck)
    ((refine oc_keep hOC.out dz hbl ?_;first | exact below_drew hV | exact btr (And.left (by assumption)) hN))
    (first | (go_at_call 49;(with_reducible refine (FA _ (HQ.out.below (hL.out.on (And.left (by assumption))).below)).mono ?_);rintro e w1 ⟨rfl,hN⟩))
   obtain ⟨hb1,s0,s1,s2,e0,e1,e2,e3,e4,e5,e6⟩:OC wr w1 w.heap.size (some ⟨b',o',none⟩) os.length cp q bn b' k o' o ak ck:=oc_keep hOC.out dz hbl (by first | exact And.left (by assumption) | exact btr (below_drew hV) hN)
   have z1:=Nat.lt_of_lt_of_le dz hb1.size
   have z2:=Nat.lt_of_lt_of_le hbl hb1.size
   go_wp2_with (go_at_call 50;(with_reducible refine (HA _).mono ?_);rintro e w2 ⟨rfl,hN2⟩)
   go_ret2
   exact ⟨rfl,(hL.out.on (btr hb1 hN2)).below⟩
  ·have HR3:Hid (R=lkF q bn (os.drop (k+1)) (k+1) (h+hv)):=by show _=_;rw [HR2.out,if_neg (by simp),if_neg hE]
   have hE2:¬(36:Int)<(h:Int)+(hv:Int):=by omega
   clear HR2
   go_upto_region 9 with (fail)
   go_region_held3 (fun w'=>OC wr w' w.heap.size (some ⟨b',o',none⟩) os.length cp q bn b' k o' o ak ck)
    ((refine oc_keep hOC.out dz hbl ?_;first | exact below_drew hV | exact btr (And.left (by assumption)) hN))
    (first | (go_at_call 49;(with_reducible refine (FA _ (HQ.out.below (hL.out.on (And.left (by assumption))).below)).mono ?_);rintro e w1 ⟨rfl,hN⟩))
   obtain ⟨hb1,s0,s1,s2,e0,e1,e2,e3,e4,e5,e6⟩:OC wr w1 w.heap.size (some ⟨b',o',none⟩) os.length cp q bn b' k o' o ak ck:=oc_keep hOC.out dz hbl (by first | exact And.left (by assumption) | exact btr (below_drew hV) hN)
   have z1:=Nat.lt_of_lt_of_le dz hb1.size
   have z2:=Nat.lt_of_lt_of_le hbl hb1.size
   go_wp2_with (go_at_call 50;(with_reducible refine (HA _).mono ?_);rintro e w2 ⟨rfl,hN2⟩)
   go_roundw
   case rel=>exact ⟨k+1,h+hv,by omega,by omega,by go_num,by go_num,hL.out.on (btr hb1 hN2),HR3⟩
   case measure=>simp [intOf];omega
end Go.Proofs.YtdjfpghgklkejaaGreatDoor
