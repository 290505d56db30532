/-
  Put together of: LB4 LB5.
-/
import Derived.Test.YtdjfpghgklkejaaGreatDoorXH
import Derived.Test.YtdjfpghgklkejaaGreatDoorYU
import Derived.Shelf.Strings.Builder1
import Derived.Lib.OthersKept
namespace Go.Proofs.YtdjfpghgklkejaaGreatDoor
open Go.RowKit Go.Sort
structure WS (w W:World) (b:Nat) (bs:List UInt8) (last:ByteArray):Prop where
 below:Below w.heap.size w W
 ge:w.heap.size≤b
 ex:∃p v,BK W b #[p,v,.string last] 147∧(p=.pointer none∨p=.pointer (some ⟨b,0,none⟩))∧W.ownsRow w.heap.size 5 1 v bs.length (Lib.byteCells bs)
def WR (w W:World) (b:Nat) (bs add:List UInt8) (last:ByteArray) (e:Ending) (W':World):Prop:=
 Below w.heap.size w W'∧W.heap.size≤W'.heap.size∧Lib.OthersKept 5 (some b) W W'∧((bs.length+add.length≤65536∧e=.returned (.tuple #[])∧WS w W' b (bs++add) last)∨(65536<bs.length+add.length∧e=.panicked [flt (0,1)]))
theorem ok_bk {W W':World} {b k:Nat} {cs:Array Value} {T:TypeId} (h:Lib.OthersKept 5 (some b) W W') (hb:BK W k cs T) (hne:k≠b) (hT:T≠5):BK W' k cs T:=
 h k _ hb (fun e=>hne (Option.some.inj e)) (fun c fz e=>by injection e with _ e2 _;exact hT e2)
theorem ok_below {W W':World} (b:Option Nat) (h:Below W.heap.size W W'):Lib.OthersKept 5 b W W':=fun k _ hk _ _=>(h.block k (Array.getElem?_eq_some_iff.1 hk).1).trans hk
theorem WS.on {w W W':World} {b:Nat} {bs:List UInt8} {last:ByteArray} (h:WS w W b bs last) (hb:Below W.heap.size W W'):WS w W' b bs last:=by
 obtain ⟨p,v,h1,h2,h3⟩:=h.ex
 exact ⟨btr h.below hb,h.ge,p,v,(hb.block b h1.lt).trans h1,h2,own_below h3 hb⟩
theorem Tryz.infoB:(Tryz.prog.info? 145).map (·.size)=some 2:=by kernel_rfl
theorem Tryz.liesB:liesAt Tryz.prog Tryz.prog.depth 147 (3 / Tryz.prog.cellsOf 147) 0 145 1=true:=by kernel_rfl
theorem Tryz.info5:(Tryz.prog.info? 5).map (fun i=>(i.zero,i.size,i.bytes))=some (some (.int .u8 0),1,1):=by kernel_rfl
theorem conv_to (w:World) (b:Nat) (hsh:w.shape? b=some (147,3)):(convert 142 252 (.pointer (some ⟨b,0,none⟩))).run Tryz.prog w=.ok (.pointer (some ⟨b,0,none⟩)) w:=by
 obtain ⟨j,hj,hjs⟩:=Option.map_eq_some_iff.1 Tryz.infoB
 simp [convert,run_underlying Tryz.underlying142,run_underlying Tryz.underlying252,Conv.unsafePointer,Conv.seenAt,viewAt,cellsIn,hsh,Go.sizeOf,typeInfo,hj,hjs]
theorem conv_from (w:World) (b:Nat) (hsh:w.shape? b=some (147,3)):(convert 252 142 (.pointer (some ⟨b,0,none⟩))).run Tryz.prog w=.ok (.pointer (some ⟨b,0,none⟩)) w:=by
 obtain ⟨j,hj,hjs⟩:=Option.map_eq_some_iff.1 Tryz.infoB
 have hl:=Tryz.liesB
 simp [convert,run_underlying Tryz.underlying142,run_underlying Tryz.underlying252,Conv.unsafePointer,Conv.seenAt,viewAt,hsh,variablesAt,hl,Go.sizeOf,typeInfo,hj,hjs]
theorem ptr_same (w:World) (b:Nat):(binOp .neq 142 (.pointer (some ⟨b,0,none⟩)) (.pointer (some ⟨b,0,none⟩))).run Tryz.prog w=.ok (.bool false) w:=by
 obtain ⟨j,hj,_⟩:=Option.map_eq_some_iff.1 Tryz.infoB
 exact Lib.run_neq_ptr_same w _ Tryz.underlying142 hj
set_option maxHeartbeats 1000000 in
set_option maxRecDepth 100000 in
theorem cc_fresh (b:Nat) (w:World) (v u:Value) (h:BK w b #[.pointer none,v,u] 147) :
  Calls Tryz.prog 185 #[.pointer (some ⟨b,0,none⟩)] w fun e w'=>e=.returned (.tuple #[])∧w'=w.setCell ⟨b,0,none⟩ (.pointer (some ⟨b,0,none⟩)):=by
 have h0:w.cell? ⟨b,0,none⟩=some (.pointer none):=h.cell 0
 have hfz:=h.free 0
 have hsh:w.shape? b=some (147,3):=by simp [World.shape?,h]
 go_enter Tryz.func185,Tryz.ntmps185
 go_wp2
 rw [conv_to w b hsh]
 simp only [Result.andThen]
 rw [Oper.upon_value]
 go_wp2
 rw [run_callFunc_extern Tryz.func203 (by kernel_rfl) (by kernel_rfl) (by kernel_rfl) (e:=Extern.AbiNoEscape.same) (by kernel_rfl)]
 rw [Lib.run_noEscape]
 simp only [Result.andThen]
 rw [Oper.upon_value]
 go_wp2
 rw [conv_from w b hsh]
 simp only [Result.andThen]
 rw [Oper.upon_value]
 go_wp2
 go_end0
 exact ⟨rfl,rfl⟩
set_option maxHeartbeats 1000000 in
set_option maxRecDepth 100000 in
theorem cc_used (b:Nat) (w:World) (v u:Value) (h:BK w b #[.pointer (some ⟨b,0,none⟩),v,u] 147) :
  Calls Tryz.prog 185 #[.pointer (some ⟨b,0,none⟩)] w fun e w'=>e=.returned (.tuple #[])∧w'=w:=by
 have h0:w.cell? ⟨b,0,none⟩=some (.pointer (some ⟨b,0,none⟩)):=h.cell 0
 go_enter Tryz.func185,Tryz.ntmps185
 go_wp2
 rw [ptr_same w b]
 go_wp2
 go_end0
 exact ⟨rfl,rfl⟩
theorem cc_any (w W:World) (b:Nat) (bs:List UInt8) (last:ByteArray) (H:WS w W b bs last) :
  Calls Tryz.prog 185 #[.pointer (some ⟨b,0,none⟩)] W fun e W'=>e=.returned (.tuple #[])∧Below w.heap.size w W'∧W.heap.size≤W'.heap.size∧Lib.OthersKept 5 (some b) W W'∧∃v,BK W' b #[.pointer (some ⟨b,0,none⟩),v,.string last] 147∧W'.ownsRow w.heap.size 5 1 v bs.length (Lib.byteCells bs):=by
 obtain ⟨p,v,h1,h2,h3⟩:=H.ex
 rcases h2 with rfl | rfl
 ·refine (cc_fresh b W _ _ h1).mono ?_
  rintro e w' ⟨rfl,rfl⟩
  exact ⟨rfl,bset H.below _ _ _ H.ge,by simp [World.setCell],(Lib.OthersKept.refl _ _ W).setCell ⟨b,0,none⟩ rfl _,v,h1.set 0 _,own_kept h3 (grown_set W b 0 _) (own_ne h3 h1 (by decide))⟩
 ·refine (cc_used b W _ _ h1).mono ?_
  rintro e w' ⟨rfl,rfl⟩
  exact ⟨rfl,H.below,Nat.le_refl _,Lib.OthersKept.refl _ _ _,v,h1,h3⟩
set_option maxHeartbeats 2000000 in
theorem wstr_any (w W:World) (b:Nat) (bs:List UInt8) (last s:ByteArray) (H:WS w W b bs last) (hlen:bs.length+s.size≤65536) :
  Calls Tryz.prog 174 #[.pointer (some ⟨b,0,none⟩),.string s] W fun e W'=>e=.returned (.tuple #[.int .i64 s.size,.nilIface])∧W.heap.size≤W'.heap.size∧Lib.OthersKept 5 (some b) W W'∧WS w W' b (bs++s.data.toList) last:=by
 obtain ⟨i0,hi,hz0,hz1,hz2⟩:=info_parts Tryz.info5
 have CC:=cc_any w W b bs last H
 have hge:=H.ge
 have hl5:(Lib.byteCells bs).length=bs.length:=Lib.byteCells_length _
 clear H
 go_enter Tryz.func174,Tryz.ntmps174
 go_wp2_with (go_at_call 185;refine CC.mono ?_)
 rintro e w1 ⟨rfl,hb1,hsz1,hk1,v,hbk,hown⟩
 have c0:w1.cell? ⟨b,0,none⟩=some (.pointer (some ⟨b,0,none⟩)):=hbk.cell 0
 have c1:w1.cell? ⟨b,1,none⟩=some v:=hbk.cell 1
 have hne:=own_ne hown hbk (by decide)
 go_wp2_with (at_builtin;refine Lib.wpList_append_own_string _ rfl _ _ 143 9 rfl w.heap.size 5 i0 Tryz.underlying143 Tryz.underlying9 hi hz0 hz1 hz2 _ _ _ rfl hown s rfl ?c3 ?c4 ?c5 ?_)
 case c3=>unfold maxLen;omega
 case c4=>omega
 case c5=>exact hb1.size
 intro v' w2 hown' hgrow _
 have hb2:BK w2 b #[.pointer (some ⟨b,0,none⟩),v,.string last] 147:=(hgrow.block b hbk.lt (fun e=>hne b e.symm rfl)).trans hbk
 have d0:w2.cell? ⟨b,0,none⟩=some (.pointer (some ⟨b,0,none⟩)):=hb2.cell 0
 have d1:w2.cell? ⟨b,1,none⟩=some v:=hb2.cell 1
 have f1:w2.frozen? ⟨b,1,none⟩=false:=hb2.free 1
 obtain ⟨ao,n',cap,rfl⟩:∃ao n' cap,v'=.slice ao n' cap:=by
  rcases hown'.2 with ⟨hv,_⟩ | ⟨g,cap,cur,hv,_⟩
  ·exact ⟨_,_,_,hv⟩
  ·exact ⟨_,_,_,hv⟩
 go_wp2
 go_ret2
 have hg2:Below w.heap.size w w2:=hb1.grown hgrow hb1.size (fun k hk=>(hown.lt k hk).1)
 have hown2:w2.ownsRow w.heap.size 5 1 (.slice ao n' cap) (bs++s.data.toList).length (Lib.byteCells (bs++s.data.toList)):=by
  rw [List.length_append,Lib.byteCells_append,←Lib.strCells_eq]
  exact hown'
 refine ⟨rfl,?_,(hk1.grown hgrow (fun g hg=>by obtain ⟨cs,h⟩:=own_ty hown hg;exact ⟨cs,(0,0),h⟩)).setCell ⟨b,1,none⟩ rfl _,⟨bset hg2 _ _ _ hge,hge,_,_,hb2.set 1 _,.inr rfl,own_kept hown2 (grown_set w2 b 1 _) (own_ne hown2 hb2 (by decide))⟩⟩
 have:=hgrow.size
 simp [World.setCell]
 omega
set_option maxHeartbeats 1000000 in
theorem len_any (w W:World) (b:Nat) (bs:List UInt8) (last:ByteArray) (H:WS w W b bs last) :
  Calls Tryz.prog 173 #[.pointer (some ⟨b,0,none⟩)] W fun e W'=>e=.returned (.int .i64 bs.length)∧W'=W:=by
 obtain ⟨p,v,h1,h2,h3⟩:=H.ex
 obtain ⟨a,k,rfl⟩:=own_shape h3
 have c1:W.cell? ⟨b,1,none⟩=some (.slice a bs.length k):=h1.cell 1
 clear H h1 h2 h3
 go_enter Tryz.func173,Tryz.ntmps173
 go_wp2
 go_ret
 exact ⟨rfl,rfl⟩
set_option maxHeartbeats 1000000 in
theorem put_any (w W:World) (b:Nat) (bs:List UInt8) (last s:ByteArray) (H:WS w W b bs last) (hb:bs.length≤65536) (_hs:s.size≤9223372036854775807) :
  Calls Tryz.prog 160 #[.pointer (some ⟨b,0,none⟩),.string s] W (WR w W b bs s.data.toList last):=by
 have hz:s.data.toList.length=s.size:=rfl
 have LN:=len_any w W b bs last H
 have HH:Hid (WS w W b bs last):=H
 by_cases h:bs.length+s.size≤65536
 ·have WSt:=wstr_any w W b bs last s H h
  have hh:¬(65536-(bs.length:Int)<(s.size:Int)):=by omega
  clear H
  go_enter Tryz.func160,Tryz.ntmps160
  go_wp2_with (first | (go_at_call 173;(with_reducible refine LN.mono ?_);rintro e w1 ⟨rfl,rfl⟩) | (go_at_call 174;(with_reducible refine WSt.mono ?_);rintro e w2 ⟨rfl,hz2,hk2,hw2⟩))
  go_end0
  exact ⟨hw2.below,hz2,hk2,.inl ⟨by rw [hz];exact h,rfl,hw2⟩⟩
 ·have hh:65536-(bs.length:Int)<(s.size:Int):=by omega
  clear H
  go_enter Tryz.func160,Tryz.ntmps160
  go_wp2_with (go_at_call 173;(with_reducible refine LN.mono ?_);rintro e w1 ⟨rfl,rfl⟩)
  exact ⟨rfl,HH.out.below,Nat.le_refl _,Lib.OthersKept.refl _ _ _,.inr ⟨by rw [hz];omega,rfl⟩⟩
end Go.Proofs.YtdjfpghgklkejaaGreatDoor
namespace Go.Proofs.YtdjfpghgklkejaaGreatDoor
open Go.RowKit Go.Sort
theorem sep_ways (last t:ByteArray):(sepB last t=false∧(last=⟨#[]⟩∨last=wLeft∨(last≠⟨#[]⟩∧last≠wLeft∧(t=wSemi∨t=wLeft∨t=wRight))))∨(sepB last t=true∧last≠⟨#[]⟩∧last≠wLeft∧t≠wSemi∧t≠wLeft∧t≠wRight):=by
 by_cases h1:last=⟨#[]⟩
 ·exact .inl ⟨by unfold sepB;rw [decide_eq_true h1];rfl,.inl h1⟩
 by_cases h2:last=wLeft
 ·exact .inl ⟨by unfold sepB;rw [decide_eq_true h2];simp,.inr (.inl h2)⟩
 by_cases h3:t=wSemi
 ·exact .inl ⟨by unfold sepB;rw [decide_eq_true h3];simp,.inr (.inr ⟨h1,h2,.inl h3⟩)⟩
 by_cases h4:t=wLeft
 ·exact .inl ⟨by unfold sepB;rw [decide_eq_true h4];simp,.inr (.inr ⟨h1,h2,.inr (.inl h4)⟩)⟩
 by_cases h5:t=wRight
 ·exact .inl ⟨by unfold sepB;rw [decide_eq_true h5];simp,.inr (.inr ⟨h1,h2,.inr (.inr h5)⟩)⟩
 ·exact .inr ⟨by unfold sepB;rw [decide_eq_false h1,decide_eq_false h2,decide_eq_false h3,decide_eq_false h4,decide_eq_false h5];rfl,h1,h2,h3,h4,h5⟩
theorem WS.cell2 {w W:World} {b:Nat} {bs:List UInt8} {last:ByteArray} (h:WS w W b bs last):W.cell? ⟨b,2,none⟩=some (.string last)∧W.frozen? ⟨b,2,none⟩=false∧b<W.heap.size:=by
 obtain ⟨p,v,h1,h2,h3⟩:=h.ex
 exact ⟨h1.cell 2,h1.free 2,h1.lt⟩
theorem WS.set {w W:World} {b:Nat} {bs:List UInt8} {last:ByteArray} (h:WS w W b bs last) (t:ByteArray):WS w (W.setCell ⟨b,2,none⟩ (.string t)) b bs t:=by
 obtain ⟨p,v,h1,h2,h3⟩:=h.ex
 exact ⟨bset h.below _ _ _ h.ge,h.ge,p,v,h1.set 2 _,h2,own_kept h3 (grown_set W b 2 _) (own_ne h3 h1 (by decide))⟩
theorem WS.drewN {w W:World} {b:Nat} {bs:List UInt8} {last:ByteArray} (h:WS w W b bs last) (n:Nat):WS w (W.drewN n) b bs last:=h.on (below_drewN (Below.refl _ _) _)
theorem ok_set {W W':World} {b:Nat} (h:Lib.OthersKept 5 (some b) W W') (k:Nat) (v:Value):Lib.OthersKept 5 (some b) W (W'.setCell ⟨b,k,none⟩ v):=h.setCell ⟨b,k,none⟩ rfl _
theorem sz_set (W:World) (b k:Nat) (v:Value):(W.setCell ⟨b,k,none⟩ v).heap.size=W.heap.size:=by simp [World.setCell]
set_option maxHeartbeats 2000000 in
theorem token_any (w W:World) (b:Nat) (bs:List UInt8) (last t:ByteArray) (H:WS w W b bs last) (hb:bs.length≤65536) (ht:t.size≤9223372036854775807) :
  Calls Tryz.prog 123 #[.pointer (some ⟨b,0,none⟩),.string t] W (WR w W b bs (tokB last t) t):=by
 obtain ⟨c2,f2,hlt⟩:=H.cell2
 have hz:t.data.toList.length=t.size:=rfl
 have HH:Hid (WS w W b bs last):=H
 have P2:∀(W':World) (cs:List UInt8),WS w W' b cs last→cs.length≤65536→Calls Tryz.prog 160 #[.pointer (some ⟨b,0,none⟩),.string t] W' (WR w W' b cs t.data.toList last):=fun W' cs h h2=>put_any w W' b cs last t h h2 ht
 have P1:∀(W':World),WS w W' b bs last→Calls Tryz.prog 160 #[.pointer (some ⟨b,0,none⟩),.string ⟨#[32]⟩] W' (WR w W' b bs [32] last):=fun W' h=>put_any w W' b bs last ⟨#[32]⟩ h hb (by decide)
 rcases sep_ways last t with ⟨hs,hw⟩ | ⟨hs,g1,g2,g3,g4,g5⟩
 ·have ET:Hid (tokB last t=t.data.toList):=by show _=_;unfold tokB;rw [hs];rfl
  rw [ET.out]
  clear P1 hs ET H
  have FIN:∀ {W':World} {n:Nat} {e:Ending},WR w (W.drewN n) b bs t.data.toList last e W'→e=.returned (.tuple #[])→WR w W b bs t.data.toList t (.returned (.tuple #[])) (W'.setCell ⟨b,2,none⟩ (.string t)):=by
   intro W' n e ⟨h1,h2,h3,h4⟩ he
   rcases h4 with ⟨h5,_,h6⟩ | ⟨_,h5⟩
   ·exact ⟨bset h1 _ _ _ HH.out.ge,by rw [sz_set];exact h2,ok_set h3 2 _,.inl ⟨h5,rfl,h6.set t⟩⟩
   ·rw [he] at h5;cases h5
  have BADE:∀ {W':World} {n:Nat} {e:Ending},WR w (W.drewN n) b bs t.data.toList last e W'→e=.panicked [flt (0,1)]→WR w W b bs t.data.toList t (.panicked [flt (0,1)]) W':=by
   intro W' n e ⟨h1,h2,h3,h4⟩ he
   rcases h4 with ⟨h5,h6,_⟩ | ⟨h5,_⟩
   ·rw [he] at h6;cases h6
   ·exact ⟨h1,h2,h3,.inr ⟨h5,rfl⟩⟩
  have TWO:∀ {W':World} {n:Nat} {e:Ending},WR w (W.drewN n) b bs t.data.toList last e W'→(e=.returned (.tuple #[])∧WS w W' b (bs++t.data.toList) last)∨e=.panicked [flt (0,1)]:=by
   intro W' n e ⟨h1,h2,h3,h4⟩
   rcases h4 with ⟨h5,h6,h7⟩ | ⟨_,h5⟩
   ·exact .inl ⟨h6,h7⟩
   ·exact .inr h5
  have H2:=fun n=>HH.out.drewN n
  rcases hw with rfl | rfl | ⟨g1,g2,rfl | rfl | rfl⟩
  case inl | inr.inl=>
   go_enter Tryz.func123,Tryz.ntmps123
   go_upto_region 0 with (fail)
   go_quiet (fail)
   go_wp2_with (go_at_call 160;(with_reducible refine (P2 _ _ (H2 _) hb).mono ?_);intro e w2 hR;rcases TWO hR with ⟨rfl,hS⟩ | rfl;(obtain ⟨d2,e2,l2⟩:=hS.cell2))
   ·go_end0
    exact FIN hR rfl
   ·exact ⟨rfl,BADE hR rfl⟩
  all_goals
   have q1:=ne_lit g1
   have q2:=ne_lit g2
   clear g1 g2
   go_enter Tryz.func123,Tryz.ntmps123
   go_upto_region 0 with (fail)
   go_quiet (fail)
   go_wp2_with (go_at_call 160;(with_reducible refine (P2 _ _ (H2 _) hb).mono ?_);intro e w2 hR;rcases TWO hR with ⟨rfl,hS⟩ | rfl;(obtain ⟨d2,e2,l2⟩:=hS.cell2))
   ·go_end0
    exact FIN hR rfl
   ·exact ⟨rfl,BADE hR rfl⟩
 ·have ET:Hid (tokB last t=[32]++t.data.toList):=by show _=_;unfold tokB;rw [hs];rfl
  rw [ET.out]
  have q1:=ne_lit g1
  have q2:=ne_lit g2
  have q3:=ne_lit g3
  have q4:=ne_lit g4
  have q5:=ne_lit g5
  clear g1 g2 g3 g4 g5 hs ET H
  have T1:∀ {W':World} {n:Nat} {e:Ending},WR w (W.drewN n) b bs [32] last e W'→(e=.returned (.tuple #[])∧WS w W' b (bs++[32]) last∧(bs++[32]).length≤65536)∨(e=.panicked [flt (0,1)]∧WR w W b bs ([32]++t.data.toList) t (.panicked [flt (0,1)]) W'):=by
   intro W' n e ⟨h1,h2,h3,h4⟩
   rcases h4 with ⟨h5,h6,h7⟩ | ⟨h5,h6⟩
   ·exact .inl ⟨h6,h7,by rw [List.length_append];exact h5⟩
   ·exact .inr ⟨h6,h1,h2,h3,.inr ⟨by rw [List.length_append];omega,rfl⟩⟩
  have T2:∀ {W1 W':World} {n:Nat} {e e1:Ending},WR w (W.drewN n) b bs [32] last e1 W1→WR w W1 b (bs++[32]) t.data.toList last e W'→(e=.returned (.tuple #[])∧WS w W' b (bs++[32]++t.data.toList) last∧WR w W b bs ([32]++t.data.toList) t (.returned (.tuple #[])) (W'.setCell ⟨b,2,none⟩ (.string t)))∨(e=.panicked [flt (0,1)]∧WR w W b bs ([32]++t.data.toList) t (.panicked [flt (0,1)]) W'):=by
   intro W1 W' n e e1 ⟨k1,k2,k3,k4⟩ ⟨h1,h2,h3,h4⟩
   have hsz:W.heap.size≤W'.heap.size:=Nat.le_trans k2 h2
   have hok:Lib.OthersKept 5 (some b) W W':=Lib.OthersKept.trans k3 h3
   rw [List.length_append] at h4
   rcases h4 with ⟨h5,h6,h7⟩ | ⟨h5,h6⟩
   ·exact .inl ⟨h6,h7,bset h1 _ _ _ HH.out.ge,by rw [sz_set];exact hsz,ok_set hok 2 _,.inl ⟨by rw [List.length_append];omega,rfl,by rw [←List.append_assoc];exact h7.set t⟩⟩
   ·exact .inr ⟨h6,h1,hsz,hok,.inr ⟨by rw [List.length_append];omega,rfl⟩⟩
  have H2:=fun n=>HH.out.drewN n
  go_enter Tryz.func123,Tryz.ntmps123
  go_upto_region 0 with (fail)
  go_quiet (fail)
  go_upto_region 3 with (go_at_call 160;(with_reducible refine (P1 _ (H2 _)).mono ?_);intro e w1 hR1;rcases T1 hR1 with ⟨rfl,hS1,hl1⟩ | ⟨rfl,hE1⟩)
  ·go_wp2_with (go_at_call 160;(with_reducible refine (P2 _ _ hS1 hl1).mono ?_);intro e w2 hR;rcases T2 hR1 hR with ⟨rfl,hS,hF⟩ | ⟨rfl,hE⟩;(obtain ⟨d2,e2,l2⟩:=hS.cell2))
   ·go_end0
    exact hF
   ·exact ⟨rfl,hE⟩
  ·exact ⟨rfl,hE1⟩
set_option maxHeartbeats 1000000 in
theorem end_any (w W:World) (b:Nat) (bs:List UInt8) (last:ByteArray) (H:WS w W b bs last) (hb:bs.length≤65536) :
  Calls Tryz.prog 122 #[.pointer (some ⟨b,0,none⟩)] W (WR w W b bs [10] last):=by
 have P:=put_any w W b bs last ⟨#[10]⟩ H hb (by decide)
 clear H
 go_enter Tryz.func122,Tryz.ntmps122
 go_wp2_with (go_at_call 160;(with_reducible refine P.mono ?_);intro e w1 hR;have hR2:=hR;obtain ⟨_,_,_,h4⟩:=hR2;rcases h4 with ⟨_,rfl,_⟩ | ⟨_,rfl⟩)
 ·go_end0
  exact hR
 ·exact ⟨rfl,hR⟩
theorem ind_len (d:Nat):(indB d).length=2*d:=by unfold indB;rw [List.length_replicate]
theorem ind_succ (d:Nat):indB (d+1)=indB d++[32,32]:=by
 unfold indB
 rw [show 2*(d+1)=2*d+2 by omega,←List.replicate_append_replicate]
 rfl
set_option maxHeartbeats 1000000 in
theorem begin_any (w W:World) (b:Nat) (bs:List UInt8) (last:ByteArray) (d:Nat) (H:WS w W b bs last) (hb:bs.length≤65536) (hd:d≤1000) :
  Calls Tryz.prog 120 #[.pointer (some ⟨b,0,none⟩),.int .i64 d] W (WR w W b bs (indB d) ⟨#[]⟩):=by
 have P:=fun W' cs h hl=>put_any w W' b cs last ⟨#[32,32]⟩ h hl (by decide)
 have HH:Hid (WS w W b bs last):=H
 clear H
 go_enter Tryz.func120,Tryz.ntmps120
 go_upto_region 1 with (fail)
 go_loopw [5] (fun v wr=>∃k:Nat,k≤d∧v=.int .i64 k∧Hid (WS w wr b (bs++indB k) last∧(bs++indB k).length≤65536∧W.heap.size≤wr.heap.size∧Lib.OthersKept 5 (some b) W wr)) (fun v _=>d-(intOf v).toNat)
 case atStart=>exact ⟨0,Nat.zero_le _,rfl,by show WS w W b (bs++[]) last∧(bs++[]).length≤65536∧_;rw [List.append_nil];exact ⟨HH.out,hb,Nat.le_refl _,Lib.OthersKept.refl _ _ _⟩⟩
 case round=>
  obtain ⟨k,hk,rfl,hI⟩:=hrel
  by_cases hlt:k<d
  ·have P1:=P _ _ hI.out.1 hI.out.2.1
   have NX:Hid (∀e W',WR w wr b (bs++indB k) [32,32] last e W'→(e=.returned (.tuple #[])∧WS w W' b (bs++indB (k+1)) last∧(bs++indB (k+1)).length≤65536∧W.heap.size≤W'.heap.size∧Lib.OthersKept 5 (some b) W W')∨(e=.panicked [flt (0,1)]∧WR w W b bs (indB d) ⟨#[]⟩ (.panicked [flt (0,1)]) W')):=by
    intro e W' ⟨h1,h2,h3,h4⟩
    have hz:=Nat.le_trans hI.out.2.2.1 h2
    have ho:=Lib.OthersKept.trans hI.out.2.2.2 h3
    rcases h4 with ⟨h5,h6,h7⟩ | ⟨h5,h6⟩
    ·exact .inl ⟨h6,by rw [ind_succ,←List.append_assoc];exact h7,by rw [ind_succ,←List.append_assoc,List.length_append];exact h5,hz,ho⟩
    ·refine .inr ⟨h6,h1,hz,ho,.inr ⟨?_,rfl⟩⟩
     rw [List.length_append,ind_len] at h5
     rw [ind_len]
     simp at h5
     omega
   go_wp2_with (go_at_call 160;(with_reducible refine P1.mono ?_);intro e w1 hR;rcases NX.out _ _ hR with ⟨rfl,hN⟩ | ⟨rfl,hE⟩)
   ·go_roundw
    case rel=>exact ⟨k+1,by omega,by go_num,hN⟩
    case measure=>simp [intOf];omega
   ·exact ⟨rfl,hE⟩
  ·obtain rfl:k=d:=by omega
   obtain ⟨d2,e2,l2⟩:=hI.out.1.cell2
   have FI:Hid (WR w W b bs (indB k) ⟨#[]⟩ (.returned (.tuple #[])) (wr.setCell ⟨b,2,none⟩ (.string ⟨#[]⟩))):=
    ⟨bset hI.out.1.below _ _ _ HH.out.ge,by rw [sz_set];exact hI.out.2.2.1,ok_set hI.out.2.2.2 2 _,.inl ⟨by have:=hI.out.2.1;rwa [List.length_append] at this,rfl,hI.out.1.set _⟩⟩
   go_wp2
   go_end0
   exact FI.out
end Go.Proofs.YtdjfpghgklkejaaGreatDoor
