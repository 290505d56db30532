/-
  Put together of: LB8s2 LB8s4 F5.
-/
import Derived.Test.YtdjfpghgklkejaaGreatDoorYM
import Derived.Test.YtdjfpghgklkejaaGreatDoorYF
namespace Go.Proofs.YtdjfpghgklkejaaGreatDoor
open Go.RowKit Go.Sort
set_option maxHeartbeats 4000000 in
set_option maxRecDepth 100000 in
theorem st_2 (kd:ByteArray) (nm:ByteArray) (ag:List Ar) (nu ro pl:Int) (sa:Int) (sx sb:Bool) (av:Value) (w W:World) (b:Nat) (bs:List UInt8) (hv:VR w) (H:WS w W b bs ⟨#[]⟩) (hb:bs.length≤65536) (hS:SA w av ag) (hk:kd≠wUse) (hkz:kd.size≤9223372036854775807) (hnz:nm.size≤9223372036854775807) (hl:ag.length≤9223372036854775807) (hz:∀a∈ag,a.n.size≤9223372036854775807) (hx:∀a∈ag,a.x≤9007199254740991) :
  Calls Tryz.prog 121 #[.pointer (some ⟨b,0,none⟩),.agg #[.string kd,.string nm,av,.int .i64 nu,.int .i64 ro,.int .i64 pl],.agg #[.bool true,.int .i64 sa,.bool sx,.bool false,.bool sb]] W (WR w W b bs (lineB ⟨#[]⟩ (headK ⟨kd,nm,ag,nu,ro,pl⟩ ⟨true,sa,sx,false,sb⟩)) (lastS ⟨true,sa,sx,false,sb⟩)):=by
 obtain ⟨aa,ac,rfl,hac,hr⟩:=hS
 have HR:Hid (∀k,k<ag.length→∃b o,aa=some ⟨b,o,none⟩∧RA w b o ag):=hr
 have HZ:Hid (∀a∈ag,a.n.size≤9223372036854775807):=hz
 have HXX:Hid (∀a∈ag,a.x≤9007199254740991):=hx
 have HV:Hid (VR w):=hv
 obtain ⟨T,hT⟩:∃T,T=headK (⟨kd,nm,ag,nu,ro,pl⟩:Rw) ⟨true,sa,sx,false,sb⟩:=⟨_,rfl⟩
 have HT:Hid (T=[tkN kd,tkN nm]++argsT ag++[tkS (lastS ⟨true,sa,sx,false,sb⟩)]):=by
  show T=_
  rw [hT]
  unfold headK kindT nameT numTk
  rw [if_neg hk]
  simp
 rw [←hT]
 obtain ⟨L,hL⟩:∃L,L=lastS ⟨true,sa,sx,false,sb⟩:=⟨_,rfl⟩
 have HL:Hid (L=lastS ⟨true,sa,sx,false,sb⟩):=hL
 have hLz:L.size≤9223372036854775807:=by
  rw [hL]
  cases sb
  ·show wSemi.size≤_;decide
  ·show wOpen.size≤_;decide
 have LA:∀w,Calls Tryz.prog 151 #[.agg #[.bool true,.int .i64 sa,.bool sx,.bool false,.bool sb]] w fun e w'=>e=.returned (.string L)∧Below w.heap.size w w':=fun w=>by rw [hL];exact last_any ⟨true,sa,sx,false,sb⟩ w
 rw [←hL]
 clear hT hL hr hz hx hv
 have q0:=ne_lit hk
 clear hk
 obtain ⟨X,hX⟩:∃X,X=(W.alloc (.cells #[.string kd,.string nm,.slice aa ag.length ac,.int .i64 nu,.int .i64 ro,.int .i64 pl] 79)).alloc (.cells #[.bool true,.int .i64 sa,.bool sx,.bool false,.bool sb] 187):=⟨_,rfl⟩
 have HX:Hid (X=(W.alloc (.cells #[.string kd,.string nm,.slice aa ag.length ac,.int .i64 nu,.int .i64 ro,.int .i64 pl] 79)).alloc (.cells #[.bool true,.int .i64 sa,.bool sx,.bool false,.bool sb] 187)):=hX
 have XB:Below W.heap.size W X:=by rw [hX];exact bal (bal (Below.refl _ _) _) _
 have XS:X.heap.size=W.heap.size+1+1:=by rw [hX];simp
 obtain ⟨_,_,hbW⟩:=H.cell2
 have hT0:TS w X b bs []:=⟨by show WS w X b (bs++[]) _;rw [List.append_nil];exact H.on XB,by show (bs++[]).length≤_;rw [List.append_nil];exact hb⟩
 have hX0:SX w X b X:=⟨hT0.1.below,Lib.OthersKept.refl _ _ _,Nat.le_refl _⟩
 have FC:∀ {wr:World},SX w X b wr→wr.cell? ⟨W.heap.size,0,none⟩=some (.string kd)∧wr.cell? ⟨W.heap.size,1,none⟩=some (.string nm)∧wr.cell? ⟨W.heap.size,2,none⟩=some (.slice aa ag.length ac)∧wr.cell? ⟨W.heap.size,3,none⟩=some (.int .i64 nu)∧wr.cell? ⟨W.heap.size+1,0,none⟩=some (.bool true)∧wr.cell? ⟨W.heap.size+1,1,none⟩=some (.int .i64 sa)∧wr.cell? ⟨W.heap.size+1,2,none⟩=some (.bool sx)∧wr.cell? ⟨W.heap.size+1,3,none⟩=some (.bool false)∧wr.cell? ⟨W.heap.size+1,4,none⟩=some (.bool sb)∧W.heap.size+1<wr.heap.size:=fun h=>by
  have hh:Below X.heap.size X X:=Below.refl _ _
  rw [hX] at hh
  obtain ⟨b0,b1⟩:=two_bk W _ _ _ _ hh
  rw [←hX] at b0 b1
  have d0:=ok_bk h.ok b0 (by omega) (by decide)
  have d1:=ok_bk h.ok b1 (by omega) (by decide)
  exact ⟨d0.cell 0,d0.cell 1,d0.cell 2,d0.cell 3,d1.cell 0,d1.cell 1,d1.cell 2,d1.cell 3,d1.cell 4,d1.lt⟩
 have PAN:Hid (∀ {wr:World} (ts rest:List Tk),T=ts++rest→65536<bs.length+(lineB ⟨#[]⟩ ts).length→SX w X b wr→WR w W b bs (lineB ⟨#[]⟩ T) L (.panicked [flt (0,1)]) wr):=fun {wr} ts rest e h hs=>by
  refine ⟨hs.below,Nat.le_trans XB.size hs.size,Lib.OthersKept.trans (ok_below _ XB) hs.ok,.inr ⟨?_,rfl⟩⟩
  rw [e,lineB_app,List.length_append]
  omega
 have FIN:Hid (∀ {wr:World} (ts:List Tk),TS w wr b bs (ts++[tkS L])→T=ts++[tkS L]→SX w X b wr→WR w W b bs (lineB ⟨#[]⟩ T) L (.returned (.tuple #[])) wr):=fun {wr} ts h e hs=>by
  refine ⟨hs.below,Nat.le_trans XB.size hs.size,Lib.OthersKept.trans (ok_below _ XB) hs.ok,.inl ⟨?_,rfl,?_⟩⟩
  ·rw [e,←List.length_append];exact h.2
  ·have:=h.1
   rw [lastOf_app] at this
   rw [e]
   exact this
 have TK:=fun (W':World) (ts:List Tk) (s:ByteArray) (t:Tk) (e:t.t=s) (h:TS w W' b bs ts) (hs:SX w X b W') (hz:s.size≤9223372036854775807)=>tok_ts (X:=X) w W' b bs ts s t e h hs hz
 rw [←HL.out] at HT
 obtain ⟨x0,x1,x2,x3,x4,x5,x6,x7,x8,x9⟩:=FC hX0
 clear hX H XB
 go_enter Tryz.func121,Tryz.ntmps121
 go_upto_region 1 with (fail)
 rw [←HX.out]
 go_upto_region 3 with (go_at_call 123;(with_reducible refine (TK _ [] kd (tkN kd) rfl hT0 hX0 hkz).mono ?_);rintro e w1 ⟨hS1,_,hE1⟩;rcases hE1 with ⟨rfl,hT1⟩ | ⟨hP1,rfl⟩)
 rotate_left
 ·exact ⟨rfl,PAN.out [tkN kd] ([tkN nm]++argsT ag++[tkS L]) (by rw [HT.out];simp) hP1 hS1⟩
 clear x0 x1 x2 x3 x4 x5 x6 x7 x8 x9
 obtain ⟨x0,x1,x2,x3,x4,x5,x6,x7,x8,x9⟩:=FC hS1
 go_upto_region 5 with (go_at_call 123;(with_reducible refine (TK _ [tkN kd] nm (tkN nm) rfl hT1 hS1 hnz).mono ?_);rintro e w2 ⟨hS2,_,hE2⟩;rcases hE2 with ⟨rfl,hT2⟩ | ⟨hP2,rfl⟩)
 rotate_left
 ·exact ⟨rfl,PAN.out [tkN kd,tkN nm] ([]++argsT ag++[tkS L]) (by rw [HT.out];simp) hP2 hS2⟩
 clear x0 x1 x2 x3 x4 x5 x6 x7 x8 x9
 obtain ⟨x0,x1,x2,x3,x4,x5,x6,x7,x8,x9⟩:=FC hS2
 go_upto_region 6 with (fail)
 go_loopw [24] (fun v wr=>∃k:Nat,k≤ag.length∧v=.int .i64 k∧Hid (SX w X b wr∧TS w wr b bs ([tkN kd,tkN nm]++argsT (ag.take k)))) (fun v _=>ag.length-(intOf v).toNat)
 case atStart=>exact ⟨0,Nat.zero_le _,rfl,hS2,by rw [List.take_zero];exact hT2⟩
 case round=>
  clear x0 x1 x2 x3 x4 x5 x6 x7 x8 x9
  obtain ⟨k,hk,rfl,hI⟩:=hrel
  obtain ⟨x0,x1,x2,x3,x4,x5,x6,x7,x8,x9⟩:=FC hI.out.1
  by_cases hlt:k<ag.length
  case neg=>
   obtain rfl:k=ag.length:=by omega
   have hTA:TS w wr b bs ([tkN kd,tkN nm]++argsT ag):=by have:=hI.out.2;rwa [List.take_length] at this
   go_wp2_with (first | (go_at_call 151;(with_reducible refine (LA _).mono ?_);rintro e wl ⟨rfl,hBl⟩;have hSl:=hI.out.1.on hBl;have hTl:=hTA.on hBl) | (go_at_call 123;(with_reducible refine (TK _ _ L (tkS L) rfl hTl hSl hLz).mono ?_);rintro e wz ⟨hSz,_,hEz⟩;rcases hEz with ⟨rfl,hTz⟩ | ⟨hPz,rfl⟩))
   ·go_end0
    exact FIN.out _ hTz (by rw [HT.out]) hSz
   ·exact ⟨rfl,PAN.out _ [] (by rw [HT.out];simp) hPz hSz⟩
  case pos=>
  obtain ⟨rb,rO,rfl,ra0⟩:=HR.out k hlt
  have ra:=ra0.below hI.out.1.below
  have l0:=ra.c0 k hlt
  have l1:=ra.c1 k hlt
  have l2:=ra.lt
  have hmem:=List.getElem_mem hlt
  have haz:=HZ.out _ hmem
  have hax:=HXX.out _ hmem
  have hbr:b<wr.heap.size:=(hI.out.2.1.cell2).2.2
  have hV:Hid (SX w X b (wr.alloc (.cells #[.string ag[k].n,.int .i64 ag[k].x] 100))):=hI.out.1.on (bal (Below.refl _ _) _)
  have hU:Hid (TS w (wr.alloc (.cells #[.string ag[k].n,.int .i64 ag[k].x] 100)) b bs ([tkN kd,tkN nm]++argsT (ag.take k))):=hI.out.2.on (bal (Below.refl _ _) _)
  have bx:=bk_new wr #[.string ag[k].n,.int .i64 ag[k].x] 100
  have HTK:Hid (argsT (ag.take (k+1))=argsT (ag.take k)++argK ag[k]):=by show _=_;rw [List.take_succ_eq_append_getElem hlt];unfold argsT;rw [List.flatMap_append];simp
  have HTR:Hid (∃R,argsT ag=argsT (ag.take k)++argK ag[k]++R):=⟨argsT (ag.drop (k+1)),by
   rw [←HTK.out];unfold argsT;rw [←List.flatMap_append,List.take_append_drop]⟩
  have HK:Hid (argK ag[k]=tkN ag[k].n::(if 0≤ag[k].x then [tkS wLeft,tkD ag[k].x,tkS wRight] else [])):=rfl
  clear ra ra0 hmem
  generalize argK ag[k]=AK at *
  generalize ag[k].n=an at *
  generalize ag[k].x=ax at *
  obtain ⟨R,hR⟩:=HTR.out
  have HRR:Hid (argsT ag=argsT (ag.take k)++AK++R):=hR
  clear hR HTR
  have BX:∀ {w9:World},Lib.OthersKept 5 (some b) (wr.alloc (.cells #[.string an,.int .i64 ax] 100)) w9→w9.cell? ⟨wr.heap.size,1,none⟩=some (.int .i64 ax)∧wr.heap.size<w9.heap.size:=fun h=>by
   have b2:=ok_bk h bx (by omega) (by decide)
   exact ⟨b2.cell 1,b2.lt⟩
  clear bx
  by_cases hxx:0≤ax
  case neg=>
   have HK2:Hid (AK=[tkN an]):=by show _=_;rw [HK.out,if_neg hxx]
   go_wp2_with (go_at_call 123;(with_reducible refine (TK _ _ an (tkN an) rfl hU.out hV.out haz).mono ?_);rintro e w5 ⟨hS5,hO5,hE5⟩;obtain ⟨z1,z2⟩:=BX hO5;rcases hE5 with ⟨rfl,hT5⟩ | ⟨hP5,rfl⟩)
   ·go_roundw
    case rel=>exact ⟨k+1,by omega,by go_num,hS5,by rw [HTK.out,HK2.out,←List.append_assoc];exact hT5⟩
    case measure=>simp [intOf];omega
   ·exact ⟨rfl,PAN.out _ (R++[tkS L]) (by rw [HT.out,HRR.out,HK2.out];simp) hP5 hS5⟩
  case pos=>
   have HK2:Hid (AK=[tkN an,tkS wLeft,tkD ax,tkS wRight]):=by show _=_;rw [HK.out,if_pos hxx]
   have IT:=fun w' (h:Below w.heap.size w w')=>itoa_any ax w' (by omega) (by omega) (HV.out.below h)
   have hiz:=num_size ax (by omega) (by omega)
   go_upto_region 9 with (go_at_call 123;(with_reducible refine (TK _ _ an (tkN an) rfl hU.out hV.out haz).mono ?_);rintro e w5 ⟨hS5,hO5,hE5⟩;obtain ⟨z1,z2⟩:=BX hO5;rcases hE5 with ⟨rfl,hT5⟩ | ⟨hP5,rfl⟩)
   rotate_left
   ·exact ⟨rfl,PAN.out _ ([tkS wLeft,tkD ax,tkS wRight]++R++[tkS L]) (by rw [HT.out,HRR.out,HK2.out];simp) hP5 hS5⟩
   go_upto_region 11 with (go_at_call 123;(with_reducible refine (TK _ _ wLeft (tkS wLeft) rfl hT5 hS5 (by decide)).mono ?_);rintro e w6 ⟨hS6,hO6,hE6⟩;obtain ⟨z3,z4⟩:=BX (Lib.OthersKept.trans hO5 hO6);rcases hE6 with ⟨rfl,hT6⟩ | ⟨hP6,rfl⟩)
   rotate_left
   ·exact ⟨rfl,PAN.out _ ([tkD ax,tkS wRight]++R++[tkS L]) (by rw [HT.out,HRR.out,HK2.out];simp) hP6 hS6⟩
   go_upto_region 12 with (first | (go_at_call 65;(with_reducible refine (IT _ hS6.below).mono ?_);rintro e wi ⟨rfl,hBi⟩;have hSi:=hS6.on hBi;have hTi:=hT6.on hBi) | (go_at_call 123;(with_reducible refine (TK _ _ (numT ax) (tkD ax) rfl hTi hSi hiz).mono ?_);rintro e w7 ⟨hS7,hO7,hE7⟩;rcases hE7 with ⟨rfl,hT7⟩ | ⟨hP7,rfl⟩))
   rotate_left
   ·exact ⟨rfl,PAN.out _ ([tkS wRight]++R++[tkS L]) (by rw [HT.out,HRR.out,HK2.out];simp) hP7 hS7⟩
   go_wp2_with (go_at_call 123;(with_reducible refine (TK _ _ wRight (tkS wRight) rfl hT7 hS7 (by decide)).mono ?_);rintro e w8 ⟨hS8,hO8,hE8⟩;rcases hE8 with ⟨rfl,hT8⟩ | ⟨hP8,rfl⟩)
   ·go_roundw
    case rel=>exact ⟨k+1,by omega,by go_num,hS8,by rw [HTK.out,HK2.out];simpa using hT8⟩
    case measure=>simp [intOf];omega
   ·exact ⟨rfl,PAN.out _ (R++[tkS L]) (by rw [HT.out,HRR.out,HK2.out];simp) hP8 hS8⟩
end Go.Proofs.YtdjfpghgklkejaaGreatDoor
namespace Go.Proofs.YtdjfpghgklkejaaGreatDoor
open Go.RowKit Go.Sort
set_option maxHeartbeats 4000000 in
set_option maxRecDepth 100000 in
theorem st_4 (kd:ByteArray) (nm:ByteArray) (ag:List Ar) (nu ro pl:Int) (sa:Int) (sx sb:Bool) (av:Value) (w W:World) (b:Nat) (bs:List UInt8) (hv:VR w) (H:WS w W b bs ⟨#[]⟩) (hb:bs.length≤65536) (hS:SA w av ag) (hk:kd≠wUse) (hkz:kd.size≤9223372036854775807) (hl:ag.length≤9223372036854775807) (hz:∀a∈ag,a.n.size≤9223372036854775807) (hx:∀a∈ag,a.x≤9007199254740991) :
  Calls Tryz.prog 121 #[.pointer (some ⟨b,0,none⟩),.agg #[.string kd,.string nm,av,.int .i64 nu,.int .i64 ro,.int .i64 pl],.agg #[.bool false,.int .i64 sa,.bool sx,.bool false,.bool sb]] W (WR w W b bs (lineB ⟨#[]⟩ (headK ⟨kd,nm,ag,nu,ro,pl⟩ ⟨false,sa,sx,false,sb⟩)) (lastS ⟨false,sa,sx,false,sb⟩)):=by
 obtain ⟨aa,ac,rfl,hac,hr⟩:=hS
 have HR:Hid (∀k,k<ag.length→∃b o,aa=some ⟨b,o,none⟩∧RA w b o ag):=hr
 have HZ:Hid (∀a∈ag,a.n.size≤9223372036854775807):=hz
 have HXX:Hid (∀a∈ag,a.x≤9007199254740991):=hx
 have HV:Hid (VR w):=hv
 obtain ⟨T,hT⟩:∃T,T=headK (⟨kd,nm,ag,nu,ro,pl⟩:Rw) ⟨false,sa,sx,false,sb⟩:=⟨_,rfl⟩
 have HT:Hid (T=[tkN kd]++argsT ag++[tkS (lastS ⟨false,sa,sx,false,sb⟩)]):=by
  show T=_
  rw [hT]
  unfold headK kindT nameT numTk
  rw [if_neg hk]
  simp
 rw [←hT]
 obtain ⟨L,hL⟩:∃L,L=lastS ⟨false,sa,sx,false,sb⟩:=⟨_,rfl⟩
 have HL:Hid (L=lastS ⟨false,sa,sx,false,sb⟩):=hL
 have hLz:L.size≤9223372036854775807:=by
  rw [hL]
  cases sb
  ·show wSemi.size≤_;decide
  ·show wOpen.size≤_;decide
 have LA:∀w,Calls Tryz.prog 151 #[.agg #[.bool false,.int .i64 sa,.bool sx,.bool false,.bool sb]] w fun e w'=>e=.returned (.string L)∧Below w.heap.size w w':=fun w=>by rw [hL];exact last_any ⟨false,sa,sx,false,sb⟩ w
 rw [←hL]
 clear hT hL hr hz hx hv
 have q0:=ne_lit hk
 clear hk
 obtain ⟨X,hX⟩:∃X,X=(W.alloc (.cells #[.string kd,.string nm,.slice aa ag.length ac,.int .i64 nu,.int .i64 ro,.int .i64 pl] 79)).alloc (.cells #[.bool false,.int .i64 sa,.bool sx,.bool false,.bool sb] 187):=⟨_,rfl⟩
 have HX:Hid (X=(W.alloc (.cells #[.string kd,.string nm,.slice aa ag.length ac,.int .i64 nu,.int .i64 ro,.int .i64 pl] 79)).alloc (.cells #[.bool false,.int .i64 sa,.bool sx,.bool false,.bool sb] 187)):=hX
 have XB:Below W.heap.size W X:=by rw [hX];exact bal (bal (Below.refl _ _) _) _
 have XS:X.heap.size=W.heap.size+1+1:=by rw [hX];simp
 obtain ⟨_,_,hbW⟩:=H.cell2
 have hT0:TS w X b bs []:=⟨by show WS w X b (bs++[]) _;rw [List.append_nil];exact H.on XB,by show (bs++[]).length≤_;rw [List.append_nil];exact hb⟩
 have hX0:SX w X b X:=⟨hT0.1.below,Lib.OthersKept.refl _ _ _,Nat.le_refl _⟩
 have FC:∀ {wr:World},SX w X b wr→wr.cell? ⟨W.heap.size,0,none⟩=some (.string kd)∧wr.cell? ⟨W.heap.size,1,none⟩=some (.string nm)∧wr.cell? ⟨W.heap.size,2,none⟩=some (.slice aa ag.length ac)∧wr.cell? ⟨W.heap.size,3,none⟩=some (.int .i64 nu)∧wr.cell? ⟨W.heap.size+1,0,none⟩=some (.bool false)∧wr.cell? ⟨W.heap.size+1,1,none⟩=some (.int .i64 sa)∧wr.cell? ⟨W.heap.size+1,2,none⟩=some (.bool sx)∧wr.cell? ⟨W.heap.size+1,3,none⟩=some (.bool false)∧wr.cell? ⟨W.heap.size+1,4,none⟩=some (.bool sb)∧W.heap.size+1<wr.heap.size:=fun h=>by
  have hh:Below X.heap.size X X:=Below.refl _ _
  rw [hX] at hh
  obtain ⟨b0,b1⟩:=two_bk W _ _ _ _ hh
  rw [←hX] at b0 b1
  have d0:=ok_bk h.ok b0 (by omega) (by decide)
  have d1:=ok_bk h.ok b1 (by omega) (by decide)
  exact ⟨d0.cell 0,d0.cell 1,d0.cell 2,d0.cell 3,d1.cell 0,d1.cell 1,d1.cell 2,d1.cell 3,d1.cell 4,d1.lt⟩
 have PAN:Hid (∀ {wr:World} (ts rest:List Tk),T=ts++rest→65536<bs.length+(lineB ⟨#[]⟩ ts).length→SX w X b wr→WR w W b bs (lineB ⟨#[]⟩ T) L (.panicked [flt (0,1)]) wr):=fun {wr} ts rest e h hs=>by
  refine ⟨hs.below,Nat.le_trans XB.size hs.size,Lib.OthersKept.trans (ok_below _ XB) hs.ok,.inr ⟨?_,rfl⟩⟩
  rw [e,lineB_app,List.length_append]
  omega
 have FIN:Hid (∀ {wr:World} (ts:List Tk),TS w wr b bs (ts++[tkS L])→T=ts++[tkS L]→SX w X b wr→WR w W b bs (lineB ⟨#[]⟩ T) L (.returned (.tuple #[])) wr):=fun {wr} ts h e hs=>by
  refine ⟨hs.below,Nat.le_trans XB.size hs.size,Lib.OthersKept.trans (ok_below _ XB) hs.ok,.inl ⟨?_,rfl,?_⟩⟩
  ·rw [e,←List.length_append];exact h.2
  ·have:=h.1
   rw [lastOf_app] at this
   rw [e]
   exact this
 have TK:=fun (W':World) (ts:List Tk) (s:ByteArray) (t:Tk) (e:t.t=s) (h:TS w W' b bs ts) (hs:SX w X b W') (hz:s.size≤9223372036854775807)=>tok_ts (X:=X) w W' b bs ts s t e h hs hz
 rw [←HL.out] at HT
 obtain ⟨x0,x1,x2,x3,x4,x5,x6,x7,x8,x9⟩:=FC hX0
 clear hX H XB
 go_enter Tryz.func121,Tryz.ntmps121
 go_upto_region 1 with (fail)
 rw [←HX.out]
 go_upto_region 3 with (go_at_call 123;(with_reducible refine (TK _ [] kd (tkN kd) rfl hT0 hX0 hkz).mono ?_);rintro e w1 ⟨hS1,_,hE1⟩;rcases hE1 with ⟨rfl,hT1⟩ | ⟨hP1,rfl⟩)
 rotate_left
 ·exact ⟨rfl,PAN.out [tkN kd] ([]++argsT ag++[tkS L]) (by rw [HT.out];simp) hP1 hS1⟩
 clear x0 x1 x2 x3 x4 x5 x6 x7 x8 x9
 obtain ⟨x0,x1,x2,x3,x4,x5,x6,x7,x8,x9⟩:=FC hS1
 go_upto_region 6 with (fail)
 go_loopw [24] (fun v wr=>∃k:Nat,k≤ag.length∧v=.int .i64 k∧Hid (SX w X b wr∧TS w wr b bs ([tkN kd]++argsT (ag.take k)))) (fun v _=>ag.length-(intOf v).toNat)
 case atStart=>exact ⟨0,Nat.zero_le _,rfl,hS1,by rw [List.take_zero];exact hT1⟩
 case round=>
  clear x0 x1 x2 x3 x4 x5 x6 x7 x8 x9
  obtain ⟨k,hk,rfl,hI⟩:=hrel
  obtain ⟨x0,x1,x2,x3,x4,x5,x6,x7,x8,x9⟩:=FC hI.out.1
  by_cases hlt:k<ag.length
  case neg=>
   obtain rfl:k=ag.length:=by omega
   have hTA:TS w wr b bs ([tkN kd]++argsT ag):=by have:=hI.out.2;rwa [List.take_length] at this
   go_wp2_with (first | (go_at_call 151;(with_reducible refine (LA _).mono ?_);rintro e wl ⟨rfl,hBl⟩;have hSl:=hI.out.1.on hBl;have hTl:=hTA.on hBl) | (go_at_call 123;(with_reducible refine (TK _ _ L (tkS L) rfl hTl hSl hLz).mono ?_);rintro e wz ⟨hSz,_,hEz⟩;rcases hEz with ⟨rfl,hTz⟩ | ⟨hPz,rfl⟩))
   ·go_end0
    exact FIN.out _ hTz (by rw [HT.out]) hSz
   ·exact ⟨rfl,PAN.out _ [] (by rw [HT.out];simp) hPz hSz⟩
  case pos=>
  obtain ⟨rb,rO,rfl,ra0⟩:=HR.out k hlt
  have ra:=ra0.below hI.out.1.below
  have l0:=ra.c0 k hlt
  have l1:=ra.c1 k hlt
  have l2:=ra.lt
  have hmem:=List.getElem_mem hlt
  have haz:=HZ.out _ hmem
  have hax:=HXX.out _ hmem
  have hbr:b<wr.heap.size:=(hI.out.2.1.cell2).2.2
  have hV:Hid (SX w X b (wr.alloc (.cells #[.string ag[k].n,.int .i64 ag[k].x] 100))):=hI.out.1.on (bal (Below.refl _ _) _)
  have hU:Hid (TS w (wr.alloc (.cells #[.string ag[k].n,.int .i64 ag[k].x] 100)) b bs ([tkN kd]++argsT (ag.take k))):=hI.out.2.on (bal (Below.refl _ _) _)
  have bx:=bk_new wr #[.string ag[k].n,.int .i64 ag[k].x] 100
  have HTK:Hid (argsT (ag.take (k+1))=argsT (ag.take k)++argK ag[k]):=by show _=_;rw [List.take_succ_eq_append_getElem hlt];unfold argsT;rw [List.flatMap_append];simp
  have HTR:Hid (∃R,argsT ag=argsT (ag.take k)++argK ag[k]++R):=⟨argsT (ag.drop (k+1)),by
   rw [←HTK.out];unfold argsT;rw [←List.flatMap_append,List.take_append_drop]⟩
  have HK:Hid (argK ag[k]=tkN ag[k].n::(if 0≤ag[k].x then [tkS wLeft,tkD ag[k].x,tkS wRight] else [])):=rfl
  clear ra ra0 hmem
  generalize argK ag[k]=AK at *
  generalize ag[k].n=an at *
  generalize ag[k].x=ax at *
  obtain ⟨R,hR⟩:=HTR.out
  have HRR:Hid (argsT ag=argsT (ag.take k)++AK++R):=hR
  clear hR HTR
  have BX:∀ {w9:World},Lib.OthersKept 5 (some b) (wr.alloc (.cells #[.string an,.int .i64 ax] 100)) w9→w9.cell? ⟨wr.heap.size,1,none⟩=some (.int .i64 ax)∧wr.heap.size<w9.heap.size:=fun h=>by
   have b2:=ok_bk h bx (by omega) (by decide)
   exact ⟨b2.cell 1,b2.lt⟩
  clear bx
  by_cases hxx:0≤ax
  case neg=>
   have HK2:Hid (AK=[tkN an]):=by show _=_;rw [HK.out,if_neg hxx]
   go_wp2_with (go_at_call 123;(with_reducible refine (TK _ _ an (tkN an) rfl hU.out hV.out haz).mono ?_);rintro e w5 ⟨hS5,hO5,hE5⟩;obtain ⟨z1,z2⟩:=BX hO5;rcases hE5 with ⟨rfl,hT5⟩ | ⟨hP5,rfl⟩)
   ·go_roundw
    case rel=>exact ⟨k+1,by omega,by go_num,hS5,by rw [HTK.out,HK2.out,←List.append_assoc];exact hT5⟩
    case measure=>simp [intOf];omega
   ·exact ⟨rfl,PAN.out _ (R++[tkS L]) (by rw [HT.out,HRR.out,HK2.out];simp) hP5 hS5⟩
  case pos=>
   have HK2:Hid (AK=[tkN an,tkS wLeft,tkD ax,tkS wRight]):=by show _=_;rw [HK.out,if_pos hxx]
   have IT:=fun w' (h:Below w.heap.size w w')=>itoa_any ax w' (by omega) (by omega) (HV.out.below h)
   have hiz:=num_size ax (by omega) (by omega)
   go_upto_region 9 with (go_at_call 123;(with_reducible refine (TK _ _ an (tkN an) rfl hU.out hV.out haz).mono ?_);rintro e w5 ⟨hS5,hO5,hE5⟩;obtain ⟨z1,z2⟩:=BX hO5;rcases hE5 with ⟨rfl,hT5⟩ | ⟨hP5,rfl⟩)
   rotate_left
   ·exact ⟨rfl,PAN.out _ ([tkS wLeft,tkD ax,tkS wRight]++R++[tkS L]) (by rw [HT.out,HRR.out,HK2.out];simp) hP5 hS5⟩
   go_upto_region 11 with (go_at_call 123;(with_reducible refine (TK _ _ wLeft (tkS wLeft) rfl hT5 hS5 (by decide)).mono ?_);rintro e w6 ⟨hS6,hO6,hE6⟩;obtain ⟨z3,z4⟩:=BX (Lib.OthersKept.trans hO5 hO6);rcases hE6 with ⟨rfl,hT6⟩ | ⟨hP6,rfl⟩)
   rotate_left
   ·exact ⟨rfl,PAN.out _ ([tkD ax,tkS wRight]++R++[tkS L]) (by rw [HT.out,HRR.out,HK2.out];simp) hP6 hS6⟩
   go_upto_region 12 with (first | (go_at_call 65;(with_reducible refine (IT _ hS6.below).mono ?_);rintro e wi ⟨rfl,hBi⟩;have hSi:=hS6.on hBi;have hTi:=hT6.on hBi) | (go_at_call 123;(with_reducible refine (TK _ _ (numT ax) (tkD ax) rfl hTi hSi hiz).mono ?_);rintro e w7 ⟨hS7,hO7,hE7⟩;rcases hE7 with ⟨rfl,hT7⟩ | ⟨hP7,rfl⟩))
   rotate_left
   ·exact ⟨rfl,PAN.out _ ([tkS wRight]++R++[tkS L]) (by rw [HT.out,HRR.out,HK2.out];simp) hP7 hS7⟩
   go_wp2_with (go_at_call 123;(with_reducible refine (TK _ _ wRight (tkS wRight) rfl hT7 hS7 (by decide)).mono ?_);rintro e w8 ⟨hS8,hO8,hE8⟩;rcases hE8 with ⟨rfl,hT8⟩ | ⟨hP8,rfl⟩)
   ·go_roundw
    case rel=>exact ⟨k+1,by omega,by go_num,hS8,by rw [HTK.out,HK2.out];simpa using hT8⟩
    case measure=>simp [intOf];omega
   ·exact ⟨rfl,PAN.out _ (R++[tkS L]) (by rw [HT.out,HRR.out,HK2.out];simp) hP8 hS8⟩
end Go.Proofs.YtdjfpghgklkejaaGreatDoor
namespace Go.Proofs.YtdjfpghgklkejaaGreatDoor
open Go.RowKit Go.Sort
theorem two_blk {w w1 : World} {cs ds : Array Value} {T U : TypeId} (h : Below ((w.alloc (.cells cs T)).alloc (.cells ds U)).heap.size ((w.alloc (.cells cs T)).alloc (.cells ds U)) w1) : Below w.heap.size w w1 := btr (bal (bal (Below.refl _ _) _) _) h
set_option maxHeartbeats 4000000 in
theorem form_any (r : Rw) (a : Option Addr) (c behind : Nat) (sd : Sd) (w : World) :
    Calls Tryz.prog 53 #[rwV r a c, .int .i64 (behind : Nat), sdV sd] w fun e w' => e = .returned (.int .i64 (formE r behind sd : Nat)) ∧ Below w.heap.size w w' := by
  have MA := fun w => may_any r.kind sd w
  have hF : formE r behind sd = if badF r behind = true then 100 else if 32 < sd.n then 102 else if mayB r.kind sd = true then 0 else 100 := rfl
  have hK : badF r behind = if hasB r.kind = true then decide (r.rows < 0) || decide ((behind : Int) < r.rows) else if hasN r.kind = true then decide (r.rows ≠ 0) else true := rfl
  obtain ⟨k, nm, ar, nu, ro, pl⟩ := r
  obtain ⟨p, n, g, m, v⟩ := sd
  simp only at *
  generalize mayB k ⟨p, n, g, m, v⟩ = M at *
  generalize badF ⟨k, nm, ar, nu, ro, pl⟩ behind = BF at *
  generalize formE ⟨k, nm, ar, nu, ro, pl⟩ behind ⟨p, n, g, m, v⟩ = FE at *
  have hn : (32 : Int) < (n : Int) ↔ 32 < n := by omega
  rcases shp_cases k with ⟨rfl, h, _⟩ | ⟨rfl, h, _⟩ | ⟨rfl, h, _⟩ | ⟨rfl, h, _⟩ | ⟨rfl, h, _⟩ | ⟨rfl, h, _⟩ | ⟨rfl, h, _⟩ | ⟨rfl, h, _⟩ | ⟨h1, h2, h3, h4, h5, h6, h7, h8, h, _⟩
  case inr.inr.inr.inr.inr.inr.inr.inr =>
    have e1 : hasB k = false := by simp [hasB, h3, h4, h5]
    have e2 : hasN k = false := by simp [hasN, h1, h2, h6, h7, h8]
    rw [e1, e2] at hK
    simp at hK
    subst hK
    simp at hF
    subst hF
    have g1 := ne_lit h1
    have g2 := ne_lit h2
    have g3 := ne_lit h3
    have g4 := ne_lit h4
    have g5 := ne_lit h5
    have g6 := ne_lit h6
    have g7 := ne_lit h7
    have g8 := ne_lit h8
    clear h1 h2 h3 h4 h5 h6 h7 h8 h e1 e2
    go_enter Tryz.func53, Tryz.ntmps53
    go_wp2
    go_ret
    exact ⟨rfl, bal (bal (Below.refl _ _) _) _⟩
  all_goals clear h
  all_goals simp [hasB, hasN] at hK
  all_goals
    by_cases hb : BF = true
    · subst hb
      simp at hF
      subst hF
      first
        | (have hro : ro ≠ 0 := (by simpa using hK)
           have hr1 : (ro != 0) = true := bne_iff_ne.2 hro
           clear hK hn
           go_enter Tryz.func53, Tryz.ntmps53
           go_wp2
           go_ret
           exact ⟨rfl, bal (bal (Below.refl _ _) _) _⟩)
        | (have hro : ro < 0 ∨ (behind : Int) < ro := (by simpa using hK)
           clear hK hn
           by_cases hr : ro < 0
           · go_enter Tryz.func53, Tryz.ntmps53
             go_wp2
             go_ret
             exact ⟨rfl, bal (bal (Below.refl _ _) _) _⟩
           · have hr2 : (behind : Int) < ro := (by omega)
             go_enter Tryz.func53, Tryz.ntmps53
             go_wp2
             go_ret
             exact ⟨rfl, bal (bal (Below.refl _ _) _) _⟩)
    · have hb2 : BF = false := (by simpa using hb)
      subst hb2
      simp at hF
      clear hb
      first
        | (have x1 : (ro != 0) = false := (by simp at hK; simp [hK])
           clear hK
           by_cases hd : 32 < n
           · have hd' := hn.2 hd
             rw [if_pos hd] at hF
             subst hF
             clear hn hd
             go_enter Tryz.func53, Tryz.ntmps53
             go_wp2
             go_ret
             exact ⟨rfl, bal (bal (Below.refl _ _) _) _⟩
           · have hd' : ¬ (32 : Int) < (n : Int) := fun h => hd (hn.1 h)
             rw [if_neg hd] at hF
             clear hn hd
             cases M
             all_goals
               simp at hF
               subst hF
               go_enter Tryz.func53, Tryz.ntmps53
               go_wp2_with (go_at_call 83; (with_reducible refine (MA _).mono ?_); rintro e w1 ⟨rfl, hB⟩)
               go_ret
               exact ⟨rfl, two_blk hB⟩)
        | (have x1 : ¬ ro < 0 := (by simp at hK; omega)
           have x2 : ¬ (behind : Int) < ro := (by simp at hK; omega)
           clear hK
           by_cases hd : 32 < n
           · have hd' := hn.2 hd
             rw [if_pos hd] at hF
             subst hF
             clear hn hd
             go_enter Tryz.func53, Tryz.ntmps53
             go_wp2
             go_ret
             exact ⟨rfl, bal (bal (Below.refl _ _) _) _⟩
           · have hd' : ¬ (32 : Int) < (n : Int) := fun h => hd (hn.1 h)
             rw [if_neg hd] at hF
             clear hn hd
             cases M
             all_goals
               simp at hF
               subst hF
               go_enter Tryz.func53, Tryz.ntmps53
               go_wp2_with (go_at_call 83; (with_reducible refine (MA _).mono ?_); rintro e w1 ⟨rfl, hB⟩)
               go_ret
               exact ⟨rfl, two_blk hB⟩)
end Go.Proofs.YtdjfpghgklkejaaGreatDoor
