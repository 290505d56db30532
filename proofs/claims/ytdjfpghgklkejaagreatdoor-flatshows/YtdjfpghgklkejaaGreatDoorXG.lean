/-
  Put together of: F2 LN2 LP2 LP3.
-/
import Derived.Test.YtdjfpghgklkejaaGreatDoorXF
import Derived.Maps.OwnSet
import Derived.StringKeys
import Derived.Test.YtdjfpghgklkejaaGreatDoorXB
import Derived.Lib.ParseIntBTie
import Derived.Test.YtdjfpghgklkejaaGreatDoorXC
namespace Go.Proofs.YtdjfpghgklkejaaGreatDoor
open Go.RowKit Go.Sort Go.Maps
def hR (v:Value):Option (DataW Value × List MemPlace):=some (.held v,[])
abbrev kL (s:ByteArray):Lit:=.string s.data.toList
theorem kl_ne {s t:ByteArray} (h:t≠s):kL t≠kL s:=fun e=>h (by
 injection e with e
 exact ByteArray.ext (Array.ext' e))
def MF (W:World) (b n:Nat) (f:ByteArray→Option Value) (z:Nat):Prop:=
 ∃D:DataW Value,W.ownsMap Tryz.prog 9 hR b n D∧Maps.Tidy D∧Maps.size D=z∧(∀s:ByteArray,Maps.has D (kL s)=(f s).isSome)∧∀(s:ByteArray) (x:Value),D.atKey (kL s) (.held x)=.held ((f s).getD x)
theorem strK:Keyed Tryz.prog 9:=string_keyed Tryz.underlying9
section
variable {W W' : World} {b n z : Nat} {f : ByteArray → Option Value}
theorem mf_new (W:World):MF (W.alloc (.map #[] 0)) W.heap.size 0 (fun _=>none) 0:=
 ⟨.map [],World.ownsMap_made W _ _ _,Maps.tidy_empty,rfl,fun _=>rfl,fun _ _=>rfl⟩
theorem MF.lt (h:MF W b n f z):b<W.heap.size:=by obtain ⟨D,h,_⟩:=h;exact h.lt
theorem MF.block (h:MF W b n f z) (hb:W'.heap[b]?=W.heap[b]?):MF W' b n f z:=by
 obtain ⟨D,⟨es,clock,h1,h2⟩,h3⟩:=h
 exact ⟨D,⟨es,clock,hb.trans h1,h2⟩,h3⟩
theorem MF.look (h:MF W b n f z) {t e:TypeId} (ht:Tryz.prog.underlying t=some (.map 9 e)) {zv:Value} (hz:(zeroValue e).run Tryz.prog W=.ok zv W) {s:ByteArray} (hs:s.size≤maxLen) :
  (Instr.lookup t (.map (some b)) (.string s) false).run Tryz.prog W=.ok ((f s).getD zv) W:=by
 obtain ⟨D,h1,h2,h3,h4,h5⟩:=h
 obtain ⟨v,ps,hr,hv⟩:=h1.lookup strK ht hz (zd:=.held zv) (zp:=[]) rfl (Go.WideMaps.keyOf_string_mk Tryz.underlying9 hs)
 rw [h5 s zv] at hv
 simp only [hR,Option.some.injEq,Prod.mk.injEq,DataW.held.injEq] at hv
 rw [hr,hv.1]
theorem MF.lookOk (h:MF W b n f z) {t e:TypeId} (ht:Tryz.prog.underlying t=some (.map 9 e)) {zv:Value} (hz:(zeroValue e).run Tryz.prog W=.ok zv W) {s:ByteArray} (hs:s.size≤maxLen) :
  (Instr.lookup t (.map (some b)) (.string s) true).run Tryz.prog W=.ok (.tuple #[(f s).getD zv,.bool (f s).isSome]) W:=by
 obtain ⟨D,h1,h2,h3,h4,h5⟩:=h
 obtain ⟨v,ps,hr,hv⟩:=h1.look_ok strK ht hz (zd:=.held zv) (zp:=[]) rfl (Go.WideMaps.keyOf_string_mk Tryz.underlying9 hs)
 rw [h5 s zv] at hv
 simp only [hR,Option.some.injEq,Prod.mk.injEq,DataW.held.injEq] at hv
 rw [hr,hv.1,h4 s]
theorem MF.len (h:MF W b n f z) {t e:TypeId} (ht:Tryz.prog.underlying t=some (.map 9 e)) (ty:TypeId):(Builtin.len_ #[t] ty #[.map (some b)]).run Tryz.prog W=.ok (.int .i64 z) W:=by
 obtain ⟨D,h1,h2,h3,_⟩:=h
 rw [h1.len ht ty,h3]
theorem MF.put (h:MF W b n f z) {t e:TypeId} (ht:Tryz.prog.underlying t=some (.map 9 e)) (hn:n<maxLen) {s:ByteArray} (hs:s.size≤maxLen) (v:Value) :
  ∃W',(Instr.mapUpdate t (.map (some b)) (.string s) v).run Tryz.prog W=.ok () W'∧MF W' b (n+1) (fun t=>if t=s then some v else f t) (if (f s).isSome=true then z else z+1)∧W.grownBy W' (some b):=by
 obtain ⟨D,h1,h2,h3,h4,h5⟩:=h
 obtain ⟨W',hr,ho,hg⟩:=h1.update strK ht hn (Go.WideMaps.keyOf_string_mk Tryz.underlying9 hs) (val:=v) (d:=.held v) (ps:=[]) rfl
 have hk:WideAt.IsKeyLit (kL s):=trivial
 refine ⟨W',hr,⟨_,ho,h2.put hk _,?_,fun t=>?_,fun t x=>?_⟩,hg⟩
 ·rw [Maps.size_put h2,h3,h4 s]
 ·by_cases e:t=s
  ·subst e
   rw [Maps.has_put_same h2.isMap hk]
   simp
  ·rw [Maps.has_put_other (kl_ne e),h4 t]
   simp [e]
 ·by_cases e:t=s
  ·subst e
   rw [Maps.atKey_put_same h2.isMap hk]
   simp
  ·rw [Maps.atKey_put_other (kl_ne e),h5 t x]
   simp [e]
end
structure Fr (V W:World) (lo hi:Nat):Prop where
 os:W.os=V.os
 tape:W.tape=V.tape
 output:W.output=V.output
 size:V.heap.size≤W.heap.size
 block:∀k,k<V.heap.size→(k<lo∨hi≤k)→W.heap[k]?=V.heap[k]?
section
variable {V W W' : World} {lo hi : Nat}
theorem Fr.refl (W:World) (lo hi:Nat):Fr W W lo hi:=⟨rfl,rfl,rfl,Nat.le_refl _,fun _ _ _=>rfl⟩
theorem Fr.trans (h:Fr V W lo hi) (g:Fr W W' lo hi):Fr V W' lo hi:=⟨g.os.trans h.os,g.tape.trans h.tape,g.output.trans h.output,Nat.le_trans h.size g.size,fun k hk hw=>(g.block k (Nat.lt_of_lt_of_le hk h.size) hw).trans (h.block k hk hw)⟩
theorem Fr.set (h:Fr V W lo hi) (b k:Nat) (u:Value) (hb:(lo≤b∧b<hi)∨V.heap.size≤b):Fr V (W.setCell ⟨b,k,none⟩ u) lo hi:=
 ⟨h.os,h.tape,h.output,by simpa [World.setCell] using h.size,fun j hj hw=>(Below.heap_setCell W ⟨b,k,none⟩ u j (fun e=>by
  have e:j=b:=e
  rcases hb with hb | hb <;> rcases hw with hw | hw <;> omega)).trans (h.block j hj hw)⟩
theorem Fr.blw (h:Fr V W lo hi) (hb:Below W.heap.size W W'):Fr V W' lo hi:=
 ⟨hb.os.trans h.os,hb.tape.trans h.tape,hb.output.trans h.output,Nat.le_trans h.size hb.size,fun j hj hw=>(hb.block j (Nat.lt_of_lt_of_le hj h.size)).trans (h.block j hj hw)⟩
theorem Fr.alloc (h:Fr V W lo hi) (o:Obj):Fr V (W.alloc o) lo hi:=h.blw (bal (Below.refl _ _) o)
theorem Fr.grown {row:Option Nat} (h:Fr V W lo hi) (hg:W.grownBy W' row) (hr:∀b,row=some b→(lo≤b∧b<hi)∨V.heap.size≤b):Fr V W' lo hi:=
 ⟨hg.os.trans h.os,hg.tape.trans h.tape,hg.output.trans h.output,Nat.le_trans h.size hg.size,fun j hj hw=>(hg.block j (Nat.lt_of_lt_of_le hj h.size) (fun e=>by
  rcases hr j e.symm with hb | hb <;> rcases hw with hw | hw <;> omega)).trans (h.block j hj hw)⟩
theorem Fr.bk {b:Nat} {cs:Array Value} {T:TypeId} (h:Fr V W lo hi) (hb:BK V b cs T) (hw:b<lo∨hi≤b):BK W b cs T:=(h.block b hb.lt hw).trans hb
theorem fr_of_below (h:Below V.heap.size V W):Fr V W lo hi:=(Fr.refl V lo hi).blw h
theorem Fr.cell (h:Fr V W lo hi) {b o:Nat} (hb:b<V.heap.size) (hw:b<lo∨hi≤b):W.cell? ⟨b,o,none⟩=V.cell? ⟨b,o,none⟩:=World.cell?_of_block (a:=⟨b,o,none⟩) (h.block b hb hw)
theorem below_fr {w:World} (h:Below w.heap.size w V) (g:Fr V W lo hi) (hl:w.heap.size≤lo):Below w.heap.size w W:=
 ⟨g.os.trans h.os,g.tape.trans h.tape,g.output.trans h.output,Nat.le_trans h.size g.size,fun k hk=>(g.block k (Nat.lt_of_lt_of_le hk h.size) (.inl (by omega))).trans (h.block k hk)⟩
end
end Go.Proofs.YtdjfpghgklkejaaGreatDoor
namespace Go.Proofs.YtdjfpghgklkejaaGreatDoor
def Ds (l:List UInt8):Prop:=∀b∈l,48≤b.toNat∧b.toNat≤57
theorem fold_ge:∀(l:List UInt8) (a:Nat),a≤l.foldl (fun a b=>a*10+(b.toNat-48)) a
 | [],a=>Nat.le_refl _
 | b::l,a=>Nat.le_trans (by omega) (fold_ge l (a*10+(b.toNat-48)))
theorem uint_ds:∀(l:List UInt8) (a:Nat),Ds l→a≤18446744073709551615→Lib.parseUintM 18446744073709551615 a l=if l.foldl (fun a b=>a*10+(b.toNat-48)) a≤18446744073709551615 then .ok (l.foldl (fun a b=>a*10+(b.toNat-48)) a) else .range
 | [],a,_,ha=>by rw [if_pos (show ([]:List UInt8).foldl (fun a b=>a*10+(b.toNat-48)) a≤_ from ha)];rfl
 | b::l,a,hd,ha=>by
  have h1:=hd b (List.mem_cons_self)
  have h2:=fold_ge l (a*10+(b.toNat-48))
  rw [List.foldl_cons]
  unfold Lib.parseUintM
  rw [if_pos h1]
  by_cases h3:1844674407370955162≤a
  ·rw [if_pos h3,if_neg (by omega)]
  ·rw [if_neg h3]
   by_cases h4:18446744073709551615<a*10+(b.toNat-48)
   ·rw [if_pos h4,if_neg (by omega)]
   ·rw [if_neg h4]
    exact uint_ds l _ (fun c hc=>hd c (List.mem_cons_of_mem _ hc)) (by omega)
theorem int_ds (l:List UInt8) (hd:Ds l) (hn:l≠[]):Lib.parseIntB 64 l=if valL l<9223372036854775808 then .ok (valL l:Int) else .range:=by
 cases l with
 | nil=>exact absurd rfl hn
 | cons c r=>
  have hc:=hd c List.mem_cons_self
  have hu:Lib.parseUintB 64 (c::r)=if valL (c::r)≤18446744073709551615 then .ok (valL (c::r)) else .range:=by
   unfold Lib.parseUintB
   rw [if_neg hn,show (2 ^ 64-1:Nat)=18446744073709551615 from rfl]
   exact uint_ds (c::r) 0 hd (by omega)
  rw [Lib.parseIntB_plain 64 c r (by omega) (by omega),hu]
  generalize valL (c::r)=x
  by_cases h1:x≤18446744073709551615
  ·rw [if_pos h1]
   show (if 2 ^ 63≤x then Lib.NumEnd.range else .ok (x:Int))=_
   by_cases h2:x<9223372036854775808
   ·rw [if_neg (by omega),if_pos h2]
   ·rw [if_pos (by omega),if_neg h2]
  ·rw [if_neg h1,if_neg (by omega)]
   rfl
theorem nu_ds {s:ByteArray} (h:nuB s=true):Ds s.data.toList∧s.data.toList≠[]:=by
 unfold nuB at h
 obtain ⟨h1,h2⟩:0<s.size∧run isD s 0=s.size:=by simpa using h
 have he:=run_end isD6 (i:=0) (s:=s) (by omega)
 rw [h2] at he
 have hz:s.data.toList.length=s.size:=rfl
 refine ⟨fun b hb=>?_,fun e=>by rw [e] at hz;simp at hz;omega⟩
 obtain ⟨k,hk,rfl⟩:=List.getElem_of_mem hb
 have:=he.all k (by omega) (by rw [←hz];exact hk)
 rw [cb_list,List.getElem?_eq_getElem hk] at this
 exact isD_p.1 this
end Go.Proofs.YtdjfpghgklkejaaGreatDoor
namespace Go.Proofs.YtdjfpghgklkejaaGreatDoor
open Go.RowKit Go.Sort
theorem Tryz.iface_ne (t:TypeId) (a:Option Addr) (w:World):(binOp .neq 219 (.iface t (.pointer a)) .nilIface).run Tryz.prog w=.ok (.bool true) w:=by
 simp [go_sem]
theorem parse_ok (s:ByteArray) (hmax:s.size≤9223372036854775806) (v:Int) (h:Lib.parseIntB 64 s.data.toList=.ok v) (W:World) :
  Calls Tryz.prog 166 #[.string s,.int .i64 10,.int .i64 64] W fun e W'=>e=.returned (.tuple #[.int .i64 v,.nilIface])∧Below W.heap.size W W':=
 (Tryz.strconv_ParseInt_10_at64_ok s hmax v h W).mono fun e W' ⟨h1,h2⟩=>⟨h1,by
  rcases h2 with rfl | ⟨t,rfl⟩
  ·exact Below.refl _ _
  ·exact Lib.bytesWorld_below _ _ _⟩
set_option maxHeartbeats 1000000 in
theorem number_any (w W:World) (rb:Nat) (ts:Value) (l:List Tk) (n:Int) (i:Nat) (v:Value) (H:RS0 w W rb ts l n i v) :
  Calls Tryz.prog 149 #[.pointer (some ⟨rb,0,none⟩)] W (Told w W rb ts l n v (fun x:Nat=>.int .i64 x) (numP n (l.drop i))):=by
 have hlt:=H.blk.lt
 by_cases hi:i<l.length
 ·rw [drop_at hi]
  have TK:=take_ok w W rb ts l n i v H hi
  by_cases hk:l[i].k=2
  ·have hr:=H.all i hi
   have hs:=H.sz i hi
   unfold rightB at hr
   rw [if_neg (by omega),if_pos hk] at hr
   obtain ⟨hd,hne⟩:=nu_ds hr
   have hp:=int_ds _ hd hne
   clear hd hne hr
   by_cases hv:val l[i].t≤9007199254740991
   ·have e:numP n (l[i]::l.drop (i+1))=.ok (val l[i].t,l.drop (i+1)):=by simp only [numP,if_pos hk,if_pos hv]
    rw [e]
    rw [if_pos (show valL l[i].t.data.toList<9223372036854775808 by unfold val at hv;omega)] at hp
    have PI:=fun W=>parse_ok l[i].t (by omega) _ hp W
    clear e H hp
    have hv1:(valL l[i].t.data.toList:Int)≤9007199254740991:=by unfold val at hv;omega
    have hv2:0≤(valL l[i].t.data.toList:Int):=by omega
    have hv3:¬9007199254740991<valL l[i].t.data.toList:=by omega
    clear hv
    unfold Told
    show Calls _ _ _ _ fun e W'=>GB W W' rb∧((∃q,Except.ok (valL l[i].t.data.toList,l.drop (i+1))=Except.error q∧_)∨∃x j,Except.ok (valL l[i].t.data.toList,l.drop (i+1))=Except.ok (x,l.drop j)∧_)
    generalize valL l[i].t.data.toList=x at *
    go_enter Tryz.func149,Tryz.ntmps149
    go_wp2_with (first | (go_at_call 145;(with_reducible refine TK.mono ?_);rintro e w1 ⟨rfl,hG,hR⟩) | (go_at_call 166;(with_reducible refine (PI _).mono ?_);rintro e w2 ⟨rfl,hN⟩))
    go_ret
    exact ⟨gb_below (gb_alloc hG _) hN,.inr ⟨_,i+1,rfl,rfl,(hR.on (bal (Below.refl _ _) _)).on hN⟩⟩
   ·have e:numP n (l[i]::l.drop (i+1))=.error (l[i].p,1):=by simp only [numP,if_pos hk,if_neg hv]
    rw [e]
    by_cases hb:valL l[i].t.data.toList<9223372036854775808
    ·rw [if_pos hb] at hp
     have PI:=fun W=>parse_ok l[i].t (by omega) _ hp W
     have hv1:(9007199254740991:Int)<(valL l[i].t.data.toList:Int):=by unfold val at hv;omega
     have hv2:9007199254740991<valL l[i].t.data.toList:=by omega
     clear e H hp hv
     generalize valL l[i].t.data.toList=x at *
     unfold Told
     go_enter Tryz.func149,Tryz.ntmps149
     go_wp2_with (first | (go_at_call 145;(with_reducible refine TK.mono ?_);rintro e w1 ⟨rfl,hG,hR⟩) | (go_at_call 166;(with_reducible refine (PI _).mono ?_);rintro e w2 ⟨rfl,hN⟩;obtain ⟨hc,hf⟩:=bcell hN))
     exact ⟨rfl,gb_below (gb_alloc hG _) hN,.inl ⟨_,rfl,rfl⟩⟩
    ·rw [if_neg hb] at hp
     obtain ⟨te,pe,he⟩:=(H.vr.below H.below).ra
     have PI:=fun W hv=>Tryz.strconv_ParseInt_10_at64_range_var l[i].t (by omega) hp te pe W hv
     have VV : ∀ o W1, GB W W1 rb → RS0 w W1 rb ts l n (i + 1) v → (W1.alloc o).var? Tryz.prog "strconv.ErrRange" = some #[.iface te pe] := fun o W1 _ h => by
      have h0:=H.vr.ra
      obtain ⟨te0,pe0,h0⟩:=h0
      have h1:=Go.Joins.var_stays (g:=2) (by kernel_rfl) h0 H.below (Nat.le_refl _)
      rw [he] at h1
      cases h1
      exact Go.Joins.var_stays (g:=2) (by kernel_rfl) h0 (h.below.alloc h.below.size o) (Nat.le_refl _)
     clear e H hp hv hb he
     unfold Told
     have NE:=Tryz.iface_ne
     go_enter Tryz.func149,Tryz.ntmps149
     go_wp2_with (first | (go_at_call 145;(with_reducible refine TK.mono ?_);rintro e w1 ⟨rfl,hG,hR⟩) | (go_at_call 166;(with_reducible refine (PI _ (VV _ w1 hG hR)).mono ?_);rintro e w2 ⟨N,rfl,hN1,hN2,hN⟩;obtain ⟨hc,hf⟩:=bcell hN))
     exact ⟨rfl,gb_below (gb_alloc hG _) hN,.inl ⟨_,rfl,rfl⟩⟩
  ·have e:numP n (l[i]::l.drop (i+1))=.error (l[i].p,100):=by simp only [numP,if_neg hk]
   rw [e]
   have hk2:(l[i].k != 2)=true:=by simpa using hk
   clear e H hk
   unfold Told
   go_enter Tryz.func149,Tryz.ntmps149
   go_wp2_with (go_at_call 145;(with_reducible refine TK.mono ?_);rintro e w1 ⟨rfl,hG,hR⟩)
   exact ⟨rfl,gb_alloc hG _,.inl ⟨_,rfl,rfl⟩⟩
 ·rw [drop_out hi]
  have TK:=take_no w W rb ts l n i v H hi
  clear H
  unfold Told
  go_enter Tryz.func149,Tryz.ntmps149
  go_wp2_with (go_at_call 145;(with_reducible refine TK.mono ?_);rintro e w1 ⟨rfl,hG⟩)
  exact ⟨rfl,hG,.inl ⟨_,rfl,rfl⟩⟩
theorem told_err {α:Type} {w W:World} {rb:Nat} {ts:Value} {l:List Tk} {n:Int} {v:Value} {f:α→Value} {k:FuncId} {a:Array Value} {q:Fa} (h:Calls Tryz.prog k a W (Told w W rb ts l n v f (.error q))) :
  Calls Tryz.prog k a W fun e W'=>e=.panicked [flt q]∧GB W W' rb:=h.mono fun e W' ⟨hg,h⟩=>by
 rcases h with ⟨q',e1,e2⟩ | ⟨x,j,e1,_⟩
 ·cases e1;exact ⟨e2,hg⟩
 ·cases e1
theorem told_ok {α:Type} {w W:World} {rb:Nat} {ts:Value} {l:List Tk} {n:Int} {v:Value} {f:α→Value} {k:FuncId} {a:Array Value} {x:α} {r:List Tk} (h:Calls Tryz.prog k a W (Told w W rb ts l n v f (.ok (x,r)))) :
  Calls Tryz.prog k a W fun e W'=>e=.returned (f x)∧GB W W' rb∧∃j,r=l.drop j∧RS0 w W' rb ts l n j v:=h.mono fun e W' ⟨hg,h⟩=>by
 rcases h with ⟨q',e1,e2⟩ | ⟨x,j,e1,e2,hr⟩
 ·cases e1
 ·cases e1;exact ⟨e2,hg,j,rfl,hr⟩
end Go.Proofs.YtdjfpghgklkejaaGreatDoor
namespace Go.Proofs.YtdjfpghgklkejaaGreatDoor
open Go.RowKit Go.Sort
abbrev arc (a:Ar):List Value:=[.string a.n,.int .i64 a.x]
def ars (l:List Ar):List Value:=l.flatMap arc
theorem ars_put (l:List Ar) (t:Ar):ars (l++[t])=ars l++arc t:=by simp [ars,List.flatMap_append]
theorem ars_length (l:List Ar):(ars l).length=l.length*2:=by
 induction l with
 | nil=>rfl
 | cons t l ih=>show (arc t++ars l).length=_;rw [List.length_append,ih];show 2+_=(l.length+1)*2;omega
theorem ars_at (l:List Ar):∀(j:Nat) (h:j<l.length),(ars l)[j*2]?=some (.string l[j].n)∧(ars l)[j*2+1]?=some (.int .i64 l[j].x):=by
 induction l with
 | nil=>intro j h;exact absurd h (Nat.not_lt_zero _)
 | cons t l ih=>
  intro j h
  have e:ars (t::l)=arc t++ars l:=rfl
  cases j with
  | zero=>rw [e];exact ⟨rfl,rfl⟩
  | succ j=>
   have:=ih j (by simpa using h)
   rw [e,show (j+1)*2=j*2+2 by omega]
   exact this
abbrev zArg:Value:=.agg #[.string ⟨#[]⟩,.int .i64 0]
theorem Tryz.info100:(Tryz.prog.info? 100).map (fun i=>(i.zero,i.size,i.bytes))=some (some zArg,2,24):=by kernel_rfl
theorem new_arg (w4:World) (t:Ar):∀j u,(arc t)[j]?=some u→(w4.alloc (.cells (arc t).toArray 100)).cell? ((⟨w4.heap.size,0,none⟩:Addr).add j)=some u:=by
 intro j u hj
 rw [WideShapes.add_plain,Nat.zero_add]
 match j,hj with
 | 0,hj=>simp at hj;subst hj;simp [go_sem]
 | 1,hj=>simp at hj;subst hj;simp [go_sem]
theorem new_arg' (w4:World) (b:Nat) (hb:b=w4.heap.size) (t:Ar):∀j u,(arc t)[j]?=some u→(w4.alloc (.cells (arc t).toArray 100)).cell? ((⟨b,0,none⟩:Addr).add j)=some u:=by subst hb;exact new_arg w4 t
theorem one_arg (t:Ar):∀u∈arc t,u.oneCell'=true:=fun u hu=>by
 simp at hu
 rcases hu with rfl | rfl <;> rfl
theorem gb_own {W W1 W2:World} {rb:Nat} {row:Option Nat} (h:GB W W1 rb) (g:W1.grownBy W2 row) (hr:∀k,row=some k→W.heap.size≤k):GB W W2 rb:=
 ⟨g.os.trans h.os,g.tape.trans h.tape,g.output.trans h.output,Nat.le_trans h.size g.size,fun k hk hne=>(g.block k (Nat.lt_of_lt_of_le hk h.size) (fun e=>by have:=hr k e.symm;omega)).trans (h.block k hk hne)⟩
theorem RS0.own {w W W':World} {rb:Nat} {ts:Value} {l:List Tk} {n:Int} {i:Nat} {v:Value} {row:Option Nat} (H:RS0 w W rb ts l n i v) (g:W.grownBy W' row) (hr:∀k,row=some k→w.heap.size≤k∧k≠rb):RS0 w W' rb ts l n i v:=
 ⟨H.tok,H.below.grown g H.below.size (fun k e=>(hr k e).1),H.ge,(g.block rb H.blk.lt (fun e=>(hr rb e.symm).2 rfl)).trans H.blk,H.le,H.len,H.all,H.sz,H.vr⟩
theorem grown_set (W:World) (g k:Nat) (u:Value):W.grownBy (W.setCell ⟨g,k,none⟩ u) (some g):=
 ⟨rfl,rfl,rfl,by simp [World.setCell],fun i hi hne=>Below.heap_setCell W ⟨g,k,none⟩ u i (fun e=>hne (by rw [e]))⟩
structure AI (w W1 W:World) (rb:Nat) (ts:Value) (l:List Tk) (n:Int) (v:Value) (v5:Value) (acc:List Ar) (j:Nat):Prop where
 lt:rb<W1.heap.size
 g:GB W1 W rb
 r:RS0 w W rb ts l n j v
 o:W.ownsRow W1.heap.size 100 2 v5 acc.length (ars acc)
section
variable {w W1 W W' : World} {rb : Nat} {ts : Value} {l : List Tk} {n : Int} {v v5 : Value} {acc : List Ar} {j j' : Nat}
theorem AI.on (h:AI w W1 W rb ts l n v v5 acc j) (hb:Below W.heap.size W W'):AI w W1 W' rb ts l n v v5 acc j:=
 ⟨h.lt,gb_below h.g hb,h.r.on hb,own_below h.o hb⟩
theorem AI.alloc (h:AI w W1 W rb ts l n v v5 acc j) (o:Obj):AI w W1 (W.alloc o) rb ts l n v v5 acc j:=h.on (bal (Below.refl _ _) _)
theorem AI.drewN (h:AI w W1 W rb ts l n v v5 acc j) (m:Nat):AI w W1 (W.drewN m) rb ts l n v v5 acc j:=h.on (below_drewN (Below.refl _ _) _)
theorem AI.gb (h:AI w W1 W rb ts l n v v5 acc j) (g:GB W W' rb) (r:RS0 w W' rb ts l n j' v):AI w W1 W' rb ts l n v v5 acc j':=
 ⟨h.lt,gb_trans h.g g,r,own_kept h.o g (fun k e e2=>by have:=h.o.lt k e;have:=h.lt;cases e2;omega)⟩
theorem AI.set (h:AI w W1 W rb ts l n v v5 acc j) {b:Nat} (hb:W1.heap.size≤b) (hv:∀g,v5.ownBlock=some g→g≠b) (k:Nat) (x:Value):AI w W1 (W.setCell ⟨b,k,none⟩ x) rb ts l n v v5 acc j:=
 ⟨h.lt,gb_set h.g b k x (.inr hb),h.r.own (grown_set W b k x) (fun m e=>by cases e;have:=h.lt;have:=h.r.ge;exact ⟨by omega,by omega⟩),own_kept h.o (grown_set W b k x) (fun g e e2=>hv g e (by cases e2;rfl))⟩
theorem AI.put {a:Ar} {v5':Value} (h:AI w W1 W rb ts l n v v5 acc j) (hg:W.grownBy W' v5.ownBlock) (ho:W'.ownsRow W1.heap.size 100 2 v5' (acc.length+1) (ars acc++arc a)):AI w W1 W' rb ts l n v v5' (acc++[a]) j:=
 ⟨h.lt,gb_own h.g hg (fun k e=>(h.o.lt k e).1),h.r.own hg (fun k e=>by have:=(h.o.lt k e).1;have:=h.lt;have:=h.r.ge;exact ⟨by omega,by omega⟩),by rw [ars_put,List.length_append];exact ho⟩
theorem AI.form (h:AI w W1 W rb ts l n v v5 acc j) {fb:Nat} {a:Bool} {b:Int} {c d e:Bool} (hb:BK W1 fb #[.bool a,.int .i64 b,.bool c,.bool d,.bool e] 187) (hne:fb≠rb) :
  W.cell? ⟨fb,0,none⟩=some (.bool a)∧W.cell? ⟨fb,1,none⟩=some (.int .i64 b)∧W.cell? ⟨fb,2,none⟩=some (.bool c)∧W.cell? ⟨fb,3,none⟩=some (.bool d)∧W.cell? ⟨fb,4,none⟩=some (.bool e)∧fb<W.heap.size:=by
 have bx:=gb_bk h.g hb hne
 exact ⟨bx.cell 0,bx.cell 1,bx.cell 2,bx.cell 3,bx.cell 4,bx.lt⟩
end
set_option maxHeartbeats 4000000 in
set_option maxRecDepth 100000 in
theorem args_count (w W:World) (rb:Nat) (ts:Value) (l:List Tk) (n:Int) (i:Nat) (v:Value) (sa:Bool) (sb:Int) (sc sd se:Bool) (H:RS0 w W rb ts l n i v) (hs:0≤sb) (hs2:sb≤2) :
  Calls Tryz.prog 148 #[.pointer (some ⟨rb,0,none⟩),.agg #[.bool sa,.int .i64 sb,.bool sc,.bool sd,.bool se]] W fun e W'=>GB W W' rb ∧
   ((∃q,argsP n ⟨sa,sb,sc,sd,se⟩ ((l.drop i).length+1) [] (l.drop i)=.error q∧e=.panicked [flt q]) ∨
    ∃av aa j,argsP n ⟨sa,sb,sc,sd,se⟩ ((l.drop i).length+1) [] (l.drop i)=.ok (aa,l.drop j)∧e=.returned av∧RS0 w W' rb ts l n j v∧W'.ownsRow W.heap.size 100 2 av aa.length (ars aa)):=by
 obtain ⟨i6,hi6,hz6,hs6,hb6⟩:=info_parts Tryz.info100
 have hlt:=H.blk.lt
 have hfb:W.heap.size≠rb:=by omega
 have HR:Hid (RS0 w W rb ts l n i v):=H
 have hlen:=H.len
 have hbx:=bk_new W #[.bool sa,.int .i64 sb,.bool sc,.bool sd,.bool se] 187
 have hA0:Hid (AI w (W.alloc (.cells #[.bool sa,.int .i64 sb,.bool sc,.bool sd,.bool se] 187)) (W.alloc (.cells #[.bool sa,.int .i64 sb,.bool sc,.bool sd,.bool se] 187)) rb ts l n v (.slice none 0 0) [] i):=
  ⟨by simp;omega,gb_refl _ _,H.on (bal (Below.refl _ _) _),World.ownsRow_nil _ _ _ _⟩
 have own_out:∀ {W':World} {av:Value} {aa:List Ar},W'.ownsRow (W.alloc (.cells #[.bool sa,.int .i64 sb,.bool sc,.bool sd,.bool se] 187)).heap.size 100 2 av aa.length (ars aa)→W'.ownsRow W.heap.size 100 2 av aa.length (ars aa):=fun h=>⟨h.1,by
  rcases h.2 with h | ⟨g,cap,cur,e,h1,r⟩
  ·exact .inl h
  ·exact .inr ⟨g,cap,cur,e,by simp at h1;omega,r⟩⟩
 have gb_out:∀ {W':World},GB (W.alloc (.cells #[.bool sa,.int .i64 sb,.bool sc,.bool sd,.bool se] 187)) W' rb→GB W W' rb:=fun h=>gb_trans (gb_alloc (gb_refl _ _) _) h
 generalize hsp:(⟨sa,sb,sc,sd,se⟩:Sh)=sp at *
 have LA:∀w,Calls Tryz.prog 151 #[.agg #[.bool sa,.int .i64 sb,.bool sc,.bool sd,.bool se]] w fun e w'=>e=.returned (.string (lastS sp))∧Below w.heap.size w w':=fun w=>by subst hsp;exact last_any ⟨sa,sb,sc,sd,se⟩ w
 obtain ⟨lst,hlst⟩:∃lst,lst=lastS sp:=⟨_,rfl⟩
 rw [←hlst] at LA
 have HL:Hid (lst=lastS sp):=hlst
 have HS:Hid (⟨sa,sb,sc,sd,se⟩=sp):=hsp
 obtain ⟨F,hF⟩:∃F,F=(l.drop i).length+1:=⟨_,rfl⟩
 have HFF:Hid (F=(l.drop i).length+1):=hF
 clear hlst hsp H
 rw [←hF]
 clear hF
 go_enter Tryz.func148,Tryz.ntmps148
 go_upto_region 2 with (fail)
 go_loopg [5] F (fun g v5 wr=>∃(acc:List Ar) (j f0:Nat),f0=g∧acc.length+(l.drop j).length≤l.length∧(l.drop j).length<f0∧Hid (argsP n sp F [] (l.drop i)=argsP n sp f0 acc (l.drop j))∧Hid (AI w (W.alloc (.cells #[.bool sa,.int .i64 sb,.bool sc,.bool sd,.bool se] 187)) wr rb ts l n v v5 acc j))
 case atStart=>exact ⟨[],i,F,rfl,by simp,by rw [HFF.out];omega,rfl,hA0⟩
 case round=>
  clear hA0
  obtain ⟨acc,j,f0,rfl,hcount,hfuel,hP,hH⟩:=hrel
  obtain ⟨ava,avc,rfl⟩:=own_shape hH.out.o
  obtain ⟨q0,q1,q2,q3,q4,q5⟩:=hH.out.form hbx hfb
  obtain ⟨f,rfl⟩:∃f,f0=f+1:=⟨f0-1,by omega⟩
  have EP:Hid (argsP n sp (f+1) acc (l.drop j)=if moreB sp acc.length (l.drop j)=true then (match argP n sp.idx (l.drop j) with | .error e=>.error e | .ok (a,r)=>argsP n sp f (acc++[a]) r) else .ok (acc,l.drop j)):=rfl
  have EI:sp.idx=sc:=by rw [←HS.out]
  have EA:sp.args=sb:=by rw [←HS.out]
  by_cases hcnt:(acc.length:Int)<sb
  case neg=>
   have hmf:moreB sp acc.length (l.drop j)=false:=by
    unfold moreB
    rw [EA,decide_eq_false hcnt,decide_eq_false (by omega)]
    rfl
   have EQ:Hid (argsP n sp F [] (l.drop i)=.ok (acc,l.drop j)):=by show _=_;rw [hP.out,EP.out,hmf];rfl
   have hb1:(sb == -1)=false:=by simp;omega
   clear hP EP hmf
   go_wp2
   go_ret
   exact ⟨gb_out hH.out.g,.inr ⟨_,acc,j,EQ.out,rfl,hH.out.r,own_out hH.out.o⟩⟩
  case pos=>
   have hmt:moreB sp acc.length (l.drop j)=true:=by
    unfold moreB
    rw [EA,decide_eq_true hcnt]
    rfl
   have EP2:Hid (argsP n sp F [] (l.drop i)=(match argP n sc (l.drop j) with | .error e=>.error e | .ok (a,r)=>argsP n sp f (acc++[a]) r)):=by show _=_;rw [hP.out,EP.out,if_pos hmt,EI]
   clear hP EP hmt
   cases hn:nameP n (l.drop j) with
   | error q=>
    have EQ:Hid (argsP n sp F [] (l.drop i)=.error q):=by show _=_;rw [EP2.out];unfold argP;rw [hn]
    have NM:=fun W' (h:RS0 w W' rb ts l n j v)=>told_err (by have:=name_any w W' rb ts l n j v h;rwa [hn] at this)
    clear hn EP2
    go_wp2_with (first
     | (go_at_call 147;(with_reducible refine (NM _ hH.out.r).mono ?_);rintro e wB ⟨rfl,hGB⟩))
    exact ⟨rfl,gb_out (gb_trans hH.out.g hGB),.inl ⟨q,EQ.out,rfl⟩⟩
   | ok y=>
    obtain ⟨a1,r1⟩:=y
    have NM:=fun W' (h:RS0 w W' rb ts l n j v)=>told_ok (by have:=name_any w W' rb ts l n j v h;rwa [hn] at this)
    obtain ⟨t1,ht1,_,_⟩:=nameP_len hn
    have hlr1:r1.length+1=(l.drop j).length:=by rw [ht1];rfl
    have SL:∀W' {j1},RS0 w W' rb ts l n j1 v→r1=l.drop j1→Calls Tryz.prog 165 #[.pointer (some ⟨rb,0,none⟩),.string ⟨#[91]⟩] W' fun e W''=>e=.returned (.bool (seesB wLeft r1))∧∃m,W''=W'.drewN m:=fun W' j1 h e=>by rw [e];exact sees_any w W' rb ts l n j1 v wLeft h
    cases sc with
    | false=>
     have hr:argP n false (l.drop j)=.ok (⟨a1,-1⟩,r1):=by unfold argP;rw [hn];simp
     have EQ:Hid (argsP n sp F [] (l.drop i)=argsP n sp f (acc++[⟨a1,-1⟩]) r1):=by show _=_;rw [EP2.out,hr]
     clear EP2 hn hr ht1
     go_wp2_with (first
      | (go_at_call 147;(with_reducible refine (NM _ hH.out.r).mono ?_);rintro e wB ⟨rfl,hGB,j1,hj1,hRB⟩;have hB:=hH.out.gb hGB hRB;obtain ⟨q0,q1,q2,q3,q4,q5⟩:=hB.form hbx hfb;have hbw:=hB.r.blk.lt) | (at_builtin;have hV:=(hB.alloc (.cells #[.string a1,.int .i64 (-1)] 100)).alloc (.cells #[.string a1,.int .i64 (-1)] 100);refine wpList_append_own_at _ rfl _ _ 77 rfl _ 100 i6 zArg 2 24 Tryz.underlying77 hi6 hz6 hs6 hb6 rfl (by decide) _ acc.length (ars acc) rfl hV.o ⟨_,0,none⟩ 1 1 (arc ⟨a1,(-1)⟩) rfl rfl (new_arg' _ _ (by simp) ⟨a1,(-1)⟩) (one_arg _) (by unfold maxLen;omega) (by omega) hV.g.size ?_;intro v6 w6 hown6 hgrow6 hnil6 hloc6;have hZ:=hV.put hgrow6 hown6;clear hown6 hgrow6 hnil6 hloc6 hV))
     go_roundg f
     case measure=>omega
     case rel=>exact ⟨acc++[(⟨a1,-1⟩:Ar)],j1,f,rfl,by rw [←hj1,List.length_append];show acc.length+1+_≤_;omega,by rw [←hj1];omega,by rw [←hj1];exact EQ,hZ⟩
    | true=>
     cases hse:seesB wLeft r1 with
     | false=>
      rw [hse] at SL
      have hr:argP n true (l.drop j)=.ok (⟨a1,-1⟩,r1):=by unfold argP;rw [hn];simp [hse]
      have EQ:Hid (argsP n sp F [] (l.drop i)=argsP n sp f (acc++[⟨a1,-1⟩]) r1):=by show _=_;rw [EP2.out,hr]
      clear EP2 hn hr ht1 hse
      go_wp2_with (first
       | (go_at_call 147;(with_reducible refine (NM _ hH.out.r).mono ?_);rintro e wB ⟨rfl,hGB,j1,hj1,hRB⟩;have hB:=hH.out.gb hGB hRB;obtain ⟨q0,q1,q2,q3,q4,q5⟩:=hB.form hbx hfb;have hbw:=hB.r.blk.lt) | (go_at_call 165;(with_reducible refine (SL _ (hB.alloc (.cells #[.string a1,.int .i64 (-1)] 100)).r hj1).mono ?_);rintro e wT ⟨rfl,mT,rfl⟩;have hT:=(hB.alloc (.cells #[.string a1,.int .i64 (-1)] 100)).drewN mT) | (at_builtin;have hV:=(hT).alloc (.cells #[.string a1,.int .i64 (-1)] 100);refine wpList_append_own_at _ rfl _ _ 77 rfl _ 100 i6 zArg 2 24 Tryz.underlying77 hi6 hz6 hs6 hb6 rfl (by decide) _ acc.length (ars acc) rfl hV.o ⟨_,0,none⟩ 1 1 (arc ⟨a1,(-1)⟩) rfl rfl (new_arg' _ _ (by simp) ⟨a1,(-1)⟩) (one_arg _) (by unfold maxLen;omega) (by omega) hV.g.size ?_;intro v6 w6 hown6 hgrow6 hnil6 hloc6;have hZ:=hV.put hgrow6 hown6;clear hown6 hgrow6 hnil6 hloc6 hV))
      go_roundg f
      case measure=>omega
      case rel=>exact ⟨acc++[(⟨a1,-1⟩:Ar)],j1,f,rfl,by rw [←hj1,List.length_append];show acc.length+1+_≤_;omega,by rw [←hj1];omega,by rw [←hj1];exact EQ,hZ⟩
     | true=>
      rw [hse] at SL
      obtain ⟨t2,r2,rfl,ht2⟩:=seesB_cons hse
      have SG:∀W' {j1},RS0 w W' rb ts l n j1 v→t2::r2=l.drop j1→Calls Tryz.prog 150 #[.pointer (some ⟨rb,0,none⟩),.string ⟨#[91]⟩] W' fun e W''=>e=.returned (tv t2)∧GB W' W'' rb∧∃j2,r2=l.drop j2∧RS0 w W'' rb ts l n j2 v:=fun W' j1 h e=>told_ok (by
       have:=sign_any' w W' rb ts l n j1 v wLeft h
       have e2:signP n wLeft (l.drop j1)=.ok (t2,r2):=by rw [←e];simp only [signP,if_pos ht2]
       rwa [e2] at this)
      have hr:argP n true (l.drop j)=(match numP n r2 with | .error e=>.error e | .ok (x,r3)=>match signP n wRight r3 with | .error e=>.error e | .ok (_,r4)=>.ok (⟨a1,x⟩,r4)):=by
       unfold argP;rw [hn];simp only [hse,and_self,if_true,List.tail_cons];rfl
      have NUA:=fun W' j2 h=>number_any w W' rb ts l n j2 v h
      clear hse ht2
      cases hx:numP n r2 with
      | error q=>
       have EQ:Hid (argsP n sp F [] (l.drop i)=.error q):=by show _=_;rw [EP2.out,hr,hx]
       have NU:∀W' {j2},RS0 w W' rb ts l n j2 v→r2=l.drop j2→_:=fun W' j2 h e=>told_err (by have:=NUA W' j2 h;rw [←e,hx] at this;exact this)
       clear EP2 hn hr ht1 hx NUA
       go_wp2_with (first
        | (go_at_call 147;(with_reducible refine (NM _ hH.out.r).mono ?_);rintro e wB ⟨rfl,hGB,j1,hj1,hRB⟩;have hB:=hH.out.gb hGB hRB;obtain ⟨q0,q1,q2,q3,q4,q5⟩:=hB.form hbx hfb;have hbw:=hB.r.blk.lt) | (go_at_call 165;(with_reducible refine (SL _ (hB.alloc (.cells #[.string a1,.int .i64 (-1)] 100)).r hj1).mono ?_);rintro e wT ⟨rfl,mT,rfl⟩;have hT:=(hB.alloc (.cells #[.string a1,.int .i64 (-1)] 100)).drewN mT) | (go_at_call 150;(with_reducible refine (SG _ hT.r hj1).mono ?_);rintro e wC ⟨rfl,hGC,j2,hj2,hRC⟩;have hC:=hT.gb hGC hRC;have bC:=gb_bk hGC ((bk_new wB #[.string a1,.int .i64 (-1)] 100).drewN mT) (Nat.ne_of_gt hbw)) | (go_at_call 149;(with_reducible refine (NU _ hC.r hj2).mono ?_);rintro e wD ⟨rfl,hGD⟩))
       exact ⟨rfl,gb_out (gb_trans hC.g hGD),.inl ⟨q,EQ.out,rfl⟩⟩
      | ok y=>
       obtain ⟨x1,r3⟩:=y
       have NU:∀W' {j2},RS0 w W' rb ts l n j2 v→r2=l.drop j2→_:=fun W' j2 h e=>told_ok (by have:=NUA W' j2 h;rw [←e,hx] at this;exact this)
       obtain ⟨t3,rfl,_⟩:=numP_len hx
       have SRA:=fun W' j2 h=>sign_any' w W' rb ts l n j2 v wRight h
       cases hy:signP n wRight r3 with
       | error q=>
        have EQ:Hid (argsP n sp F [] (l.drop i)=.error q):=by show _=_;rw [EP2.out,hr,hx];simp only [hy]
        have SR:∀W' {j3},RS0 w W' rb ts l n j3 v→r3=l.drop j3→_:=fun W' j3 h e=>told_err (by have:=SRA W' j3 h;rw [←e,hy] at this;exact this)
        clear EP2 hn hr ht1 hx NUA SRA hy
        go_wp2_with (first
         | (go_at_call 147;(with_reducible refine (NM _ hH.out.r).mono ?_);rintro e wB ⟨rfl,hGB,j1,hj1,hRB⟩;have hB:=hH.out.gb hGB hRB;obtain ⟨q0,q1,q2,q3,q4,q5⟩:=hB.form hbx hfb;have hbw:=hB.r.blk.lt) | (go_at_call 165;(with_reducible refine (SL _ (hB.alloc (.cells #[.string a1,.int .i64 (-1)] 100)).r hj1).mono ?_);rintro e wT ⟨rfl,mT,rfl⟩;have hT:=(hB.alloc (.cells #[.string a1,.int .i64 (-1)] 100)).drewN mT) | (go_at_call 150;(with_reducible refine (SG _ hT.r hj1).mono ?_);rintro e wC ⟨rfl,hGC,j2,hj2,hRC⟩;have hC:=hT.gb hGC hRC;have bC:=gb_bk hGC ((bk_new wB #[.string a1,.int .i64 (-1)] 100).drewN mT) (Nat.ne_of_gt hbw)) | (go_at_call 149;(with_reducible refine (NU _ hC.r hj2).mono ?_);rintro e wD ⟨rfl,hGD,j3,hj3,hRD⟩;have hD:=hC.gb hGD hRD;have bD:=gb_bk hGD bC (Nat.ne_of_gt hbw);have u0:wD.cell? ⟨wB.heap.size,0,none⟩=some (.string a1):=bD.cell 0;have u1:wD.cell? ⟨wB.heap.size,1,none⟩=some (.int .i64 (-1)):=bD.cell 1;have u2:=bD.free 1;have hE:=hD.set (b:=wB.heap.size) hB.g.size (fun g e e2=>(by have:=hB.o.lt g e;omega)) 1 (.int .i64 x1)) | (go_at_call 150;(with_reducible refine (SR _ hE.r hj3).mono ?_);rintro e wE ⟨rfl,hGE⟩))
        exact ⟨rfl,gb_out (gb_trans hE.g hGE),.inl ⟨q,EQ.out,rfl⟩⟩
       | ok y=>
        obtain ⟨t4,r4⟩:=y
        have EQ:Hid (argsP n sp F [] (l.drop i)=argsP n sp f (acc++[⟨a1,x1⟩]) r4):=by show _=_;rw [EP2.out,hr,hx];simp only [hy]
        have SR:∀W' {j3},RS0 w W' rb ts l n j3 v→r3=l.drop j3→_:=fun W' j3 h e=>told_ok (by have:=SRA W' j3 h;rw [←e,hy] at this;exact this)
        obtain ⟨rfl,_⟩:=signP_len hy
        have hlr4:r4.length+4=(l.drop j).length:=by simp only [List.length_cons] at hlr1;omega
        clear EP2 hn hr ht1 hx NUA SRA hy
        go_wp2_with (first
         | (go_at_call 147;(with_reducible refine (NM _ hH.out.r).mono ?_);rintro e wB ⟨rfl,hGB,j1,hj1,hRB⟩;have hB:=hH.out.gb hGB hRB;obtain ⟨q0,q1,q2,q3,q4,q5⟩:=hB.form hbx hfb;have hbw:=hB.r.blk.lt) | (go_at_call 165;(with_reducible refine (SL _ (hB.alloc (.cells #[.string a1,.int .i64 (-1)] 100)).r hj1).mono ?_);rintro e wT ⟨rfl,mT,rfl⟩;have hT:=(hB.alloc (.cells #[.string a1,.int .i64 (-1)] 100)).drewN mT) | (go_at_call 150;(with_reducible refine (SG _ hT.r hj1).mono ?_);rintro e wC ⟨rfl,hGC,j2,hj2,hRC⟩;have hC:=hT.gb hGC hRC;have bC:=gb_bk hGC ((bk_new wB #[.string a1,.int .i64 (-1)] 100).drewN mT) (Nat.ne_of_gt hbw)) | (go_at_call 149;(with_reducible refine (NU _ hC.r hj2).mono ?_);rintro e wD ⟨rfl,hGD,j3,hj3,hRD⟩;have hD:=hC.gb hGD hRD;have bD:=gb_bk hGD bC (Nat.ne_of_gt hbw);have u0:wD.cell? ⟨wB.heap.size,0,none⟩=some (.string a1):=bD.cell 0;have u1:wD.cell? ⟨wB.heap.size,1,none⟩=some (.int .i64 (-1)):=bD.cell 1;have u2:=bD.free 1;have hE:=hD.set (b:=wB.heap.size) hB.g.size (fun g e e2=>(by have:=hB.o.lt g e;omega)) 1 (.int .i64 x1)) | (go_at_call 150;(with_reducible refine (SR _ hE.r hj3).mono ?_);rintro e wE ⟨rfl,hGE,j4,hj4,hRE⟩;have hF:=hE.gb hGE hRE;have bE:=gb_bk hGE (bD.set 1 (.int .i64 x1)) (Nat.ne_of_gt hbw);have u3:wE.cell? ⟨wB.heap.size,0,none⟩=some (.string a1):=bE.cell 0;have u4:wE.cell? ⟨wB.heap.size,1,none⟩=some (.int .i64 x1):=bE.cell 1;have u5:=bE.lt) | (at_builtin;have hV:=(hF).alloc (.cells #[.string a1,.int .i64 x1] 100);refine wpList_append_own_at _ rfl _ _ 77 rfl _ 100 i6 zArg 2 24 Tryz.underlying77 hi6 hz6 hs6 hb6 rfl (by decide) _ acc.length (ars acc) rfl hV.o ⟨_,0,none⟩ 1 1 (arc ⟨a1,x1⟩) rfl rfl (new_arg' _ _ (by simp) ⟨a1,x1⟩) (one_arg _) (by unfold maxLen;omega) (by omega) hV.g.size ?_;intro v6 w6 hown6 hgrow6 hnil6 hloc6;have hZ:=hV.put hgrow6 hown6;clear hown6 hgrow6 hnil6 hloc6 hV))
        go_roundg f
        case measure=>omega
        case rel=>exact ⟨acc++[(⟨a1,(x1:Int)⟩:Ar)],j4,f,rfl,by rw [←hj4,List.length_append];show acc.length+1+_≤_;omega,by rw [←hj4];omega,by rw [←hj4];exact EQ,hZ⟩
end Go.Proofs.YtdjfpghgklkejaaGreatDoor
