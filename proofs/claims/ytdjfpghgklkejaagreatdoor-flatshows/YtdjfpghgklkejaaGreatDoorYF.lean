/-
  Put together of: LQ1 LB6 F3 F4.
-/
import Derived.Test.YtdjfpghgklkejaaGreatDoorYC
import Derived.Test.YtdjfpghgklkejaaGreatDoorYU
import Derived.Test.YtdjfpghgklkejaaGreatDoorXG
namespace Go.Proofs.YtdjfpghgklkejaaGreatDoor
open Go.RowKit Go.Sort
structure RA (W:World) (b o:Nat) (l:List Ar):Prop where
 c0:∀j (h:j<l.length),W.cell? ⟨b,o+j*2,none⟩=some (.string l[j].n)
 c1:∀j (h:j<l.length),W.cell? ⟨b,o+j*2+1,none⟩=some (.int .i64 l[j].x)
 lt:b<W.heap.size
theorem RA.below {W W':World} {b o:Nat} {l:List Ar} (h:RA W b o l) (hb:Below W.heap.size W W'):RA W' b o l:=
 ⟨fun j hj=>(hb.cell (p:=⟨b,o+j*2,none⟩) h.lt).trans (h.c0 j hj),fun j hj=>(hb.cell (p:=⟨b,o+j*2+1,none⟩) h.lt).trans (h.c1 j hj),Nat.lt_of_lt_of_le h.lt hb.size⟩
def SA (W:World) (v:Value) (l:List Ar):Prop:=∃a c,v=.slice a l.length c∧l.length≤c∧∀k,k<l.length→∃b o,a=some ⟨b,o,none⟩∧RA W b o l
theorem SA.below {W W':World} {v:Value} {l:List Ar} (h:SA W v l) (hb:Below W.heap.size W W'):SA W' v l:=by
 obtain ⟨a,c,e,hc,hr⟩:=h
 exact ⟨a,c,e,hc,fun k hk=>by obtain ⟨b,o,e,r⟩:=hr k hk;exact ⟨b,o,e,r.below hb⟩⟩
theorem own_sa {W:World} {B:Nat} {v:Value} {l:List Ar} (h:W.ownsRow B 100 2 v l.length (ars l)):SA W v l:=by
 rcases Nat.eq_zero_or_pos l.length with h0 | h0
 ·obtain ⟨a,c,rfl⟩:=own_shape h
  rcases h.2 with ⟨e,_⟩ | ⟨g,cap,cur,e,_,_,hn,_⟩
  ·exact ⟨a,c,rfl,by omega,fun k hk=>by omega⟩
  ·exact ⟨a,c,rfl,by omega,fun k hk=>by omega⟩
 ·obtain ⟨g,cap,rfl,hc,_,hcell,_,hl⟩:=own_at h h0
  have hlen:=ars_length l
  refine ⟨_,cap,rfl,hc,fun _ _=>⟨g,0,rfl,fun j hj=>?_,fun j hj=>?_,hl⟩⟩
  ·have e:=(ars_at l j hj).1
   rw [List.getElem?_eq_getElem (by omega)] at e
   rw [Nat.zero_add,hcell (j*2) (by omega),Option.some.inj e]
  ·have e:=(ars_at l j hj).2
   rw [List.getElem?_eq_getElem (by omega)] at e
   rw [Nat.zero_add,hcell (j*2+1) (by omega),Option.some.inj e]
structure RR (W:World) (b o:Nat) (rs:List Rw) (vs:List Value):Prop where
 c0:∀j (h:j<rs.length),W.cell? ⟨b,o+j*6,none⟩=some (.string rs[j].kind)
 c1:∀j (h:j<rs.length),W.cell? ⟨b,o+j*6+1,none⟩=some (.string rs[j].name)
 c2:∀j (_:j<rs.length) (h':j<vs.length),W.cell? ⟨b,o+j*6+2,none⟩=some vs[j]
 c3:∀j (h:j<rs.length),W.cell? ⟨b,o+j*6+3,none⟩=some (.int .i64 rs[j].num)
 c4:∀j (h:j<rs.length),W.cell? ⟨b,o+j*6+4,none⟩=some (.int .i64 rs[j].rows)
 c5:∀j (h:j<rs.length),W.cell? ⟨b,o+j*6+5,none⟩=some (.int .i64 rs[j].place)
 lt:b<W.heap.size
theorem RR.below {W W':World} {b o:Nat} {rs:List Rw} {vs:List Value} (h:RR W b o rs vs) (hb:Below W.heap.size W W'):RR W' b o rs vs:=
 ⟨fun j hj=>(hb.cell (p:=⟨b,_,none⟩) h.lt).trans (h.c0 j hj),fun j hj=>(hb.cell (p:=⟨b,_,none⟩) h.lt).trans (h.c1 j hj),fun j hj hj'=>(hb.cell (p:=⟨b,_,none⟩) h.lt).trans (h.c2 j hj hj'),fun j hj=>(hb.cell (p:=⟨b,_,none⟩) h.lt).trans (h.c3 j hj),fun j hj=>(hb.cell (p:=⟨b,_,none⟩) h.lt).trans (h.c4 j hj),fun j hj=>(hb.cell (p:=⟨b,_,none⟩) h.lt).trans (h.c5 j hj),Nat.lt_of_lt_of_le h.lt hb.size⟩
def SR (W:World) (v:Value) (rs:List Rw):Prop:=∃a c vs,v=.slice a rs.length c∧rs.length≤c∧rs.length=List.length vs∧(∀k (h:k<rs.length) (h':k<vs.length),SA W vs[k] rs[k].args)∧∀k,k<rs.length→∃b o,a=some ⟨b,o,none⟩∧RR W b o rs vs
theorem SR.below {W W':World} {v:Value} {rs:List Rw} (h:SR W v rs) (hb:Below W.heap.size W W'):SR W' v rs:=by
 obtain ⟨a,c,vs,e,hc,hv,ha,hr⟩:=h
 exact ⟨a,c,vs,e,hc,hv,fun k h h'=>(ha k h h').below hb,fun k hk=>by obtain ⟨b,o,e,r⟩:=hr k hk;exact ⟨b,o,e,r.below hb⟩⟩
theorem OR.sr {W:World} {B:Nat} {v:Value} {rs:List Rw} (h:OR W B v rs):SR W v rs:=by
 obtain ⟨vs,h1,h2,h3⟩:=h
 rcases Nat.eq_zero_or_pos rs.length with h0 | h0
 ·obtain ⟨a,c,rfl⟩:=own_shape h2
  exact ⟨a,c,vs,rfl,by omega,h1,fun k hk hk'=>own_sa (h3 k hk hk'),fun k hk=>by omega⟩
 ·obtain ⟨g,cap,rfl,hc,_,hcell,_,hl⟩:=own_at h2 h0
  have hlen:=rws_length rs vs h1
  have get:∀(i:Nat) (x:Value),i<rs.length*6→(rws rs vs)[i]?=some x→W.cell? ⟨g,0+i,none⟩=some x:=fun i x hi e=>by
   rw [List.getElem?_eq_getElem (by omega)] at e
   rw [Nat.zero_add,hcell i (by omega),Option.some.inj e]
  refine ⟨_,cap,vs,rfl,hc,h1,fun k hk hk'=>own_sa (h3 k hk hk'),fun _ _=>⟨g,0,rfl,?_,?_,?_,?_,?_,?_,hl⟩⟩
  ·intro j hj;exact get _ _ (by omega) (rws_at rs vs h1 j hj (by omega)).1
  ·intro j hj;exact get _ _ (by omega) (rws_at rs vs h1 j hj (by omega)).2.1
  ·intro j hj hj';exact get _ _ (by omega) (rws_at rs vs h1 j hj hj').2.2.1
  ·intro j hj;exact get _ _ (by omega) (rws_at rs vs h1 j hj (by omega)).2.2.2.1
  ·intro j hj;exact get _ _ (by omega) (rws_at rs vs h1 j hj (by omega)).2.2.2.2.1
  ·intro j hj;exact get _ _ (by omega) (rws_at rs vs h1 j hj (by omega)).2.2.2.2.2
def rowSame (pl:Bool) (r s:Rw):Prop:=r.kind=s.kind∧r.name=s.name∧r.num=s.num∧r.rows=s.rows∧(pl=true→r.place=s.place)∧r.args=s.args
def SameP (pl:Bool) (a b:List Rw):Prop:=a.length=b.length∧∀k (h:k<a.length) (h':k<b.length),rowSame pl a[k] b[k]
def SameR (pl:Bool) (p q:List Rw) (e:Ending):Prop:=∃b:Bool,e=.returned (.bool b)∧(b=true↔SameP pl p q)
end Go.Proofs.YtdjfpghgklkejaaGreatDoor
namespace Go.Proofs.YtdjfpghgklkejaaGreatDoor
open Go.RowKit Go.Sort
theorem ne_empty {s:ByteArray} (h:0<s.size):(s.toList==[])=false:=by
 rw [ByteArray.toList_eq]
 cases e:s.data.toList with
 | nil=>
  have:s.data.toList.length=s.size:=rfl
  rw [e] at this
  simp at this
  omega
 | cons x r=>rfl
theorem isName_any (s:ByteArray) (w:World) (hs:s.size≤9223372036854775807) :
  Calls Tryz.prog 172 #[.string s] w fun e w'=>e=.returned (.bool (nmB s))∧w'=w:=by
 by_cases h0:0<s.size
 ·have LA:=fun w=>letter2_any s[0].toNat w
  have EN:∀w,Calls Tryz.prog 107 #[.string s,.int .i64 0] w fun e w'=>e=.returned (.int .i64 (run isN s 0:Nat))∧w'=w:=fun w=>nameEnd_any s 0 _ w hs (run_end isN6 (i:=0) (s:=s) (by omega))
  have hz:=ne_empty h0
  unfold nmB
  rw [cb_at h0]
  generalize run isN s 0=j at *
  cases hL:isL s[0].toNat with
  | true=>
   rw [hL] at LA
   clear hL
   go_enter Tryz.func172,Tryz.ntmps172
   go_wp2_with (first | (go_at_call 106;(with_reducible refine (LA _).mono ?_);rintro e w1 ⟨rfl,rfl⟩) | (go_at_call 107;(with_reducible refine (EN _).mono ?_);rintro e w1 ⟨rfl,rfl⟩))
   go_ret
   exact ⟨ret_b (by simp;omega),rfl⟩
  | false=>
   rw [hL] at LA
   clear hL
   go_enter Tryz.func172,Tryz.ntmps172
   go_wp2_with (first | (go_at_call 106;(with_reducible refine (LA _).mono ?_);rintro e w1 ⟨rfl,rfl⟩) | (go_at_call 107;(with_reducible refine (EN _).mono ?_);rintro e w1 ⟨rfl,rfl⟩))
   go_ret
   exact ⟨rfl,rfl⟩
 ·obtain rfl:s=⟨#[]⟩:=by
   apply ByteArray.ext
   exact Array.eq_empty_of_size_eq_zero (by show s.size=0;omega)
  go_enter Tryz.func172,Tryz.ntmps172
  go_wp2
  go_ret
  exact ⟨rfl,rfl⟩
theorem RR.drop {W:World} {b o:Nat} {rs:List Rw} {vs:List Value} (h:RR W b o rs vs) (k:Nat):RR W b (o+k*6) (rs.drop k) (vs.drop k):=by
 have e:∀j,o+k*6+j*6=o+(k+j)*6:=fun j=>by omega
 refine ⟨fun j hj=>?_,fun j hj=>?_,fun j hj hj'=>?_,fun j hj=>?_,fun j hj=>?_,fun j hj=>?_,h.lt⟩
 all_goals rw [e,List.getElem_drop]
 all_goals rw [List.length_drop] at hj
 ·exact h.c0 _ _
 ·exact h.c1 _ _
 ·exact h.c2 _ (by omega) _
 ·exact h.c3 _ _
 ·exact h.c4 _ _
 ·exact h.c5 _ _
theorem RR.take {W:World} {b o:Nat} {rs:List Rw} {vs:List Value} (h:RR W b o rs vs) (k:Nat):RR W b o (rs.take k) (vs.take k):=by
 refine ⟨fun j hj=>?_,fun j hj=>?_,fun j hj hj'=>?_,fun j hj=>?_,fun j hj=>?_,fun j hj=>?_,h.lt⟩
 all_goals rw [List.getElem_take]
 all_goals rw [List.length_take] at hj
 ·exact h.c0 _ _
 ·exact h.c1 _ _
 ·exact h.c2 _ (by omega) _
 ·exact h.c3 _ _
 ·exact h.c4 _ _
 ·exact h.c5 _ _
theorem SR.drop {W:World} {a:Option Addr} {c:Nat} {rs:List Rw} (h:SR W (.slice a rs.length c) rs) (k:Nat) (hk:k≤rs.length) :
  ∃a' c',(∀w,(Instr.slice 22 (.slice a rs.length c) (some (.int .i64 (k:Int))) none none).run Tryz.prog w=.ok (.slice a' (rs.drop k).length c') w)∧SR W (.slice a' (rs.drop k).length c') (rs.drop k):=by
 obtain ⟨a0,c0,vs,e,hc,hv,ha,hr⟩:=h
 cases e
 refine ⟨if c=k then a else a.map (·.add (k*6)),c-k,fun w=>?_,?_⟩
 ·rw [run_slice_l w 22 a rs.length c (by kernel_rfl) .i64 (k:Int) (by omega) (by omega)]
  rw [show Tryz.prog.elem 22=79 by kernel_rfl,Tryz.sizeOf79]
  simp only [Result.andThen,sliced,Int.toNat_natCast,List.length_drop]
 ·refine ⟨_,_,vs.drop k,rfl,by rw [List.length_drop];omega,by rw [List.length_drop,List.length_drop,hv],fun j h h'=>?_,fun j hj=>?_⟩
  ·rw [List.getElem_drop,List.getElem_drop]
   rw [List.length_drop] at h h'
   exact ha _ (by omega) (by omega)
  ·rw [List.length_drop] at hj
   obtain ⟨b,o,rfl,r⟩:=hr (k+j) (by omega)
   rw [if_neg (by omega)]
   exact ⟨b,o+k*6,by rw [Option.map_some,WideShapes.add_plain],r.drop k⟩
theorem SR.take {W:World} {a:Option Addr} {c:Nat} {rs:List Rw} (h:SR W (.slice a rs.length c) rs) (k:Nat) (hk:k≤rs.length) :
  ∃a' c',(∀w,(Instr.slice 22 (.slice a rs.length c) none (some (.int .i64 (k:Int))) none).run Tryz.prog w=.ok (.slice a' (rs.take k).length c') w)∧SR W (.slice a' (rs.take k).length c') (rs.take k):=by
 obtain ⟨a0,c0,vs,e,hc,hv,ha,hr⟩:=h
 cases e
 have hl:(rs.take k).length=k:=by rw [List.length_take];omega
 refine ⟨a,c,fun w=>?_,?_⟩
 ·rw [run_slice_h w 22 a rs.length c (by kernel_rfl) .i64 (k:Int) (by omega) (by omega)]
  rw [show Tryz.prog.elem 22=79 by kernel_rfl,Tryz.sizeOf79]
  simp only [Result.andThen,sliced,Int.toNat_natCast,hl,Nat.zero_mul,Nat.sub_zero]
  congr 2
  cases a with
  | none=>simp
  | some x=>simp [Addr.add]
 ·refine ⟨_,_,vs.take k,rfl,by rw [hl];omega,by rw [List.length_take,List.length_take,hv],fun j h h'=>?_,fun j hj=>?_⟩
  ·rw [List.getElem_take,List.getElem_take]
   rw [List.length_take] at h h'
   exact ha _ (by omega) (by omega)
  ·rw [hl] at hj
   obtain ⟨b,o,rfl,r⟩:=hr j (by omega)
   exact ⟨b,o,rfl,r.take k⟩
def Szs (rs:List Rw):Prop:=∀r∈rs,r.name.size≤9223372036854775807∧r.args.length≤9223372036854775807∧∀a∈r.args,a.n.size≤9223372036854775807
theorem Szs.drop {rs:List Rw} (h:Szs rs) (k:Nat):Szs (rs.drop k):=fun r hr=>h r (List.mem_of_mem_drop hr)
theorem Szs.take {rs:List Rw} (h:Szs rs) (k:Nat):Szs (rs.take k):=fun r hr=>h r (List.mem_of_mem_take hr)
set_option maxHeartbeats 1000000 in
theorem plain_any (s:ByteArray) (w:World) (hs:s.size≤9223372036854775807) :
  Calls Tryz.prog 158 #[.string s] w fun e w'=>e=.returned (.bool (plnN s))∧Below w.heap.size w w':=by
 have NA:=fun w=>isName_any s w hs
 have OA:=fun w=>isOwn_any s w
 unfold plnN
 cases hn:nmB s with
 | true=>
  rw [hn] at NA
  clear hn
  cases ho:ownB s with
  | true=>
   rw [ho] at OA
   clear ho
   go_enter Tryz.func158,Tryz.ntmps158
   go_wp2_with (first | (go_at_call 172;(with_reducible refine (NA _).mono ?_);rintro e w1 ⟨rfl,rfl⟩) | (go_at_call 146;(with_reducible refine (OA _).mono ?_);rintro e w2 ⟨rfl,hB⟩))
   go_ret
   exact ⟨rfl,hB⟩
  | false=>
   rw [ho] at OA
   clear ho
   go_enter Tryz.func158,Tryz.ntmps158
   go_wp2_with (first | (go_at_call 172;(with_reducible refine (NA _).mono ?_);rintro e w1 ⟨rfl,rfl⟩) | (go_at_call 146;(with_reducible refine (OA _).mono ?_);rintro e w2 ⟨rfl,hB⟩))
   go_ret
   exact ⟨rfl,hB⟩
 | false=>
  rw [hn] at NA
  clear hn
  go_enter Tryz.func158,Tryz.ntmps158
  go_wp2_with (first | (go_at_call 172;(with_reducible refine (NA _).mono ?_);rintro e w1 ⟨rfl,rfl⟩))
  go_ret
  exact ⟨rfl,Below.refl _ _⟩
theorem isnum_any (x:Int) (w:World):Calls Tryz.prog 159 #[.int .i64 x] w fun e w'=>e=.returned (.bool (numOk x))∧w'=w:=by
 unfold numOk
 by_cases h0:0≤x
 ·rw [decide_eq_true h0]
  by_cases h1:x≤9007199254740991
  ·rw [decide_eq_true h1]
   go_enter Tryz.func159,Tryz.ntmps159
   go_wp2
   go_ret
   exact ⟨rfl,rfl⟩
  ·rw [decide_eq_false h1]
   go_enter Tryz.func159,Tryz.ntmps159
   go_wp2
   go_ret
   exact ⟨rfl,rfl⟩
 ·rw [decide_eq_false h0]
  go_enter Tryz.func159,Tryz.ntmps159
  go_wp2
  go_ret
  exact ⟨rfl,rfl⟩
theorem two_bk (W:World) (a c:Array Value) (A C:TypeId) {wr:World} (h:Below ((W.alloc (.cells a A)).alloc (.cells c C)).heap.size ((W.alloc (.cells a A)).alloc (.cells c C)) wr):BK wr W.heap.size a A∧BK wr (W.heap.size+1) c C:=by
 have e1:(W.alloc (.cells a A)).heap.size=W.heap.size+1:=by simp
 have x0:=(bk_new W a A).alloc (.cells c C)
 have x1:=bk_new (W.alloc (.cells a A)) c C
 rw [e1] at x1
 exact ⟨(h.block _ x0.lt).trans x0,(h.block _ x1.lt).trans x1⟩
end Go.Proofs.YtdjfpghgklkejaaGreatDoor
namespace Go.Proofs.YtdjfpghgklkejaaGreatDoor
open Go.RowKit Go.Sort
abbrev sdV (s:Sd):Value:=.agg #[.int .i64 s.p,.int .i64 (s.n:Nat),.bool s.g,.int .u64 (s.m:Nat),.int .u64 (s.v:Nat)]
abbrev sdC (s:Sd):Array Value:=#[.int .i64 s.p,.int .i64 (s.n:Nat),.bool s.g,.int .u64 (s.m:Nat),.int .u64 (s.v:Nat)]
structure PP where
 sd:Sd
 k:Int
 n:ByteArray
 qs:List Int
 qa:Option Addr
 qc:Nat
 b:Int
 t:Int
 ba:Option Addr
 bn:Nat
 bc:Nat
abbrev ppc (p:PP):List Value:=[.int .i64 p.sd.p,.int .i64 (p.sd.n:Nat),.bool p.sd.g,.int .u64 (p.sd.m:Nat),.int .u64 (p.sd.v:Nat),.int .i64 p.k,.string p.n,.slice p.qa p.qs.length p.qc,.int .i64 p.b,.bool false,.int .u64 0,.int .u64 0,.int .i64 p.t,.slice p.ba p.bn p.bc]
abbrev ppV (p:PP):Value:=.agg (ppc p).toArray
def mean (p:PP) (L:List TO):List TO:=(if p.k≠0 then [⟨p.k,p.n,p.qs,p.b,stO p.sd⟩] else [])++(List.replicate p.t.toNat (L.map (subT p.qs (stO p.sd)))).flatten
structure HG where
 h:Nat
 G:Nat→Prop
 le:∀b,G b→h≤b
def QSh (W:World) (hi:HG) (a:Option Addr) (c:Nat) (l:List Int):Prop:=QS W a c l∧∀b o,a=some ⟨b,o,none⟩→0<l.length→hi.G b
theorem QSh.far {W W':World} {lo' hi':Nat} {hi:HG} {a:Option Addr} {c:Nat} {l:List Int} (h:QSh W hi a c l) (g:Fr W W' lo' hi') (hx:∀b,hi.G b→b<lo'∨hi'≤b):QSh W' hi a c l:=
 ⟨⟨h.1.cap,fun k hk=>by
  obtain ⟨b,o,e,r⟩:=h.1.at_ k hk
  have hb:=hx b (h.2 b o e (by omega))
  exact ⟨b,o,e,fun j hj=>(g.cell r.lt hb).trans (r.c j hj),Nat.lt_of_lt_of_le r.lt g.size⟩⟩,h.2⟩
theorem QSh.wide {W:World} {hi hi2:HG} {a:Option Addr} {c:Nat} {l:List Int} (h:QSh W hi a c l) (hx:∀b,b<W.heap.size→hi.G b→hi2.G b):QSh W hi2 a c l:=
 ⟨h.1,fun b o e hl=>by
  obtain ⟨b',o',e',r⟩:=h.1.at_ 0 hl
  rw [e] at e'
  cases e'
  exact hx b r.lt (h.2 b o e hl)⟩
def UnS (L:List TO):Prop:=(∀t∈L,t.st=none)∨∀t∈L,t.st≠none
theorem uns_nil:UnS []:=.inl fun t h=>by cases h
def PQ (n:Nat) (p:PP):Prop:=p.qs.length≤6000000000000∧p.n.size≤281474976710656∧p.t≤9223372036854775807∧(p.k≠0→p.qs≠[])∧(p.sd.m<18446744073709551616∧p.sd.v<18446744073709551616)∧∀j∈p.qs,0≤j∧j<(n:Int)
def nbq (n:Nat) (qs:List Int):Nat:=if qs=[] then n else qs.length
theorem PQ.mono {n n':Nat} {p:PP} (h:PQ n p) (hn:n≤n'):PQ n' p:=⟨h.1,h.2.1,h.2.2.1,h.2.2.2.1,h.2.2.2.2.1,fun j hj=>⟨(h.2.2.2.2.2 j hj).1,by have:=(h.2.2.2.2.2 j hj).2;omega⟩⟩
theorem nbq_mono {n n':Nat} (qs:List Int) (hn:n≤n'):nbq n qs≤nbq n' qs:=by unfold nbq;split <;> omega
def PLn:Nat→World→HG→Nat→Value→List TO→Prop
 | 0,_,_,_,v,L=>(∃a c,v=.slice a 0 c)∧L=[]
 | d+1,W,hi,n,v,L=>∃(a:Option Addr) (c:Nat) (ps:List PP) (Ls:List (List TO)),v=.slice a ps.length c∧ps.length≤c∧ps.length≤4097∧Ls.length=ps.length ∧
   (∀k,k<ps.length→∃b o,a=some ⟨b,o,none⟩∧hi.G b∧b<W.heap.size∧∀(i:Nat) (h:i<ps.length) (j:Nat),j<14→W.cell? ⟨b,o+i*14+j,none⟩=(ppc ps[i])[j]?) ∧
   (∀k (h:k<ps.length) (h':k<Ls.length),QSh W hi ps[k].qa ps[k].qc ps[k].qs∧PLn d W hi (nbq n ps[k].qs) (.slice ps[k].ba ps[k].bn ps[k].bc) Ls[k]∧mean ps[k] Ls[k]≠[]∧PQ n ps[k]) ∧
   L=((ps.zip Ls).map fun x=>mean x.1 x.2).flatten∧UnS L
theorem PLn.far {W W':World} {lo' hi':Nat} {hi:HG} (g:Fr W W' lo' hi') (hx:∀b,hi.G b→b<lo'∨hi'≤b):∀(d n:Nat) (v:Value) (L:List TO),PLn d W hi n v L→PLn d W' hi n v L
 | 0,_,_,_,h=>h
 | d+1,n,v,L,h=>by
  obtain ⟨a,c,ps,Ls,h1,h2,h2',h3,h4,h5,h6⟩:=h
  refine ⟨a,c,ps,Ls,h1,h2,h2',h3,fun k hk=>?_,fun k hk hk'=>?_,h6⟩
  ·obtain ⟨b,o,e,hb,hl,hc⟩:=h4 k hk
   exact ⟨b,o,e,hb,Nat.lt_of_lt_of_le hl g.size,fun i hi' j hj=>(g.cell hl (hx b hb)).trans (hc i hi' j hj)⟩
  ·obtain ⟨q1,q2,q3⟩:=h5 k hk hk'
   exact ⟨q1.far g hx,PLn.far g hx d _ _ _ q2,q3⟩
theorem PLn.wide {W:World} {hi hi2:HG} (hx:∀b,b<W.heap.size→hi.G b→hi2.G b):∀(d n:Nat) (v:Value) (L:List TO),PLn d W hi n v L→PLn d W hi2 n v L
 | 0,_,_,_,h=>h
 | d+1,n,v,L,h=>by
  obtain ⟨a,c,ps,Ls,h1,h2,h2',h3,h4,h5,h6⟩:=h
  refine ⟨a,c,ps,Ls,h1,h2,h2',h3,fun k hk=>?_,fun k hk hk'=>?_,h6⟩
  ·obtain ⟨b,o,e,hb,hl,hc⟩:=h4 k hk
   exact ⟨b,o,e,hx b hl hb,hl,hc⟩
  ·obtain ⟨q1,q2,q3⟩:=h5 k hk hk'
   exact ⟨q1.wide hx,PLn.wide hx d _ _ _ q2,q3⟩
theorem PLn.up {W:World} {hi:HG}:∀(d n:Nat) (v:Value) (L:List TO),PLn d W hi n v L→PLn (d+1) W hi n v L
 | 0,n,v,L,h=>by
  obtain ⟨⟨a,c,rfl⟩,rfl⟩:=h
  exact ⟨a,c,[],[],rfl,Nat.zero_le _,Nat.zero_le _,rfl,fun k hk=>absurd hk (Nat.not_lt_zero _),fun k hk=>absurd hk (Nat.not_lt_zero _),rfl,uns_nil⟩
 | d+1,n,v,L,h=>by
  obtain ⟨a,c,ps,Ls,h1,h2,h2',h3,h4,h5,h6⟩:=h
  exact ⟨a,c,ps,Ls,h1,h2,h2',h3,h4,fun k hk hk'=>⟨(h5 k hk hk').1,PLn.up d _ _ _ (h5 k hk hk').2.1,(h5 k hk hk').2.2⟩,h6⟩
theorem PLn.le {W:World} {hi:HG} {d d' n:Nat} {v:Value} {L:List TO} (h:PLn d W hi n v L) (hd:d≤d'):PLn d' W hi n v L:=by
 induction hd with
 | refl=>exact h
 | step _ ih=>exact PLn.up _ _ _ _ ih
theorem PLn.mono {W:World} {hi:HG}:∀(d n n':Nat) (v:Value) (L:List TO),n≤n'→PLn d W hi n v L→PLn d W hi n' v L
 | 0,_,_,_,_,_,h=>h
 | d+1,n,n',v,L,hn,h=>by
  obtain ⟨a,c,ps,Ls,h1,h2,h2',h3,h4,h5,h6⟩:=h
  exact ⟨a,c,ps,Ls,h1,h2,h2',h3,h4,fun k hk hk'=>⟨(h5 k hk hk').1,PLn.mono d _ _ _ _ (nbq_mono _ hn) (h5 k hk hk').2.1,(h5 k hk hk').2.2.1,(h5 k hk hk').2.2.2.mono hn⟩,h6⟩
theorem PLn.uns {W:World} {hi:HG} {d n:Nat} {v:Value} {L:List TO} (h:PLn d W hi n v L):UnS L:=by
 cases d with
 | zero=>obtain ⟨_,rfl⟩:=h;exact uns_nil
 | succ d=>
  obtain ⟨a,c,ps,Ls,h1,h2,h2',h3,h4,h5,h6⟩:=h
  exact h6.2
def PL (W:World) (hi:HG) (n:Nat) (v:Value) (L:List TO):Prop:=∃d,PLn d W hi n v L
theorem PL.mono {W:World} {hi:HG} {n n':Nat} {v:Value} {L:List TO} (h:PL W hi n v L) (hn:n≤n'):PL W hi n' v L:=by
 obtain ⟨d,h⟩:=h
 exact ⟨d,PLn.mono d n n' v L hn h⟩
theorem PL.uns {W:World} {hi:HG} {n:Nat} {v:Value} {L:List TO} (h:PL W hi n v L):UnS L:=by
 obtain ⟨d,h⟩:=h
 exact h.uns
theorem PL.far {W W':World} {lo' hi' n:Nat} {hi:HG} {v:Value} {L:List TO} (h:PL W hi n v L) (g:Fr W W' lo' hi') (hx:∀b,hi.G b→b<lo'∨hi'≤b):PL W' hi n v L:=by
 obtain ⟨d,h⟩:=h
 exact ⟨d,PLn.far g hx d n v L h⟩
theorem PL.wide {W:World} {n:Nat} {hi hi2:HG} {v:Value} {L:List TO} (h:PL W hi n v L) (hx:∀b,b<W.heap.size→hi.G b→hi2.G b):PL W hi2 n v L:=by
 obtain ⟨d,h⟩:=h
 exact ⟨d,PLn.wide hx d n v L h⟩
theorem PL.shape {W:World} {n:Nat} {hi:HG} {v:Value} {L:List TO} (h:PL W hi n v L):∃a n c,v=.slice a n c∧n≤4097∧(n=0↔L=[]):=by
 obtain ⟨d,h⟩:=h
 cases d with
 | zero=>obtain ⟨⟨a,c,rfl⟩,rfl⟩:=h;exact ⟨a,0,c,rfl,by omega,by simp⟩
 | succ d=>
  obtain ⟨a,c,ps,Ls,h1,h2,h2',h3,h4,h5,h6,_⟩:=h
  refine ⟨a,_,c,h1,h2',?_⟩
  cases ps with
  | nil=>simp at h6;simp [h6]
  | cons p ps=>
   cases Ls with
   | nil=>cases h3
   | cons L0 Ls=>
    have:=(h5 0 (by simp) (by simp)).2.2.1
    simp only [List.getElem_cons_zero] at this
    simp [h6,this]
theorem pl_nil (W:World) (hi:HG) (n:Nat) (a:Option Addr) (c:Nat):PL W hi n (.slice a 0 c) []:=⟨0,⟨a,c,rfl⟩,rfl⟩
def NMe (W:World) (hi:HG) (m:Mn) (v:Value):Prop:=∃a k c L',v=.agg #[.int .i64 (m.s:Nat),.int .i64 (m.f:Nat),.int .i64 (m.z:Nat),.int .i64 (m.d:Nat),.slice a k c]∧PL W hi m.z (.slice a k c) L'∧T4 L' m.l
def NM (W:World) (mb:Nat) (hi:HG) (N:Nat) (nm:ByteArray→Option Mn):Prop:=
 ∃(f:ByteArray→Option Value) (z:Nat),MF W mb N f z∧∀s,(nm s=none→f s=none)∧∀m,nm s=some m→∃v,f s=some v∧NMe W hi m v
theorem NMe.far {W W':World} {lo' hi':Nat} {hi:HG} {m:Mn} {v:Value} (h:NMe W hi m v) (g:Fr W W' lo' hi') (hx:∀b,hi.G b→b<lo'∨hi'≤b):NMe W' hi m v:=by
 obtain ⟨a,k,c,L',h1,h2,h3⟩:=h
 exact ⟨a,k,c,L',h1,h2.far g hx,h3⟩
theorem NM.far {W W':World} {lo' hi' mb N:Nat} {hi:HG} {nm:ByteArray→Option Mn} (h:NM W mb hi N nm) (g:Fr W W' lo' hi') (hx:∀b,hi.G b→b<lo'∨hi'≤b) (hb:W'.heap[mb]?=W.heap[mb]?):NM W' mb hi N nm:=by
 obtain ⟨f,z,h1,h2⟩:=h
 exact ⟨f,z,h1.block hb,fun s=>⟨(h2 s).1,fun m hm=>by obtain ⟨v,e,hv⟩:=(h2 s).2 m hm;exact ⟨v,e,hv.far g hx⟩⟩⟩
theorem NM.wide {W:World} {mb N:Nat} {hi hi2:HG} {nm:ByteArray→Option Mn} (h:NM W mb hi N nm) (hx:∀b,b<W.heap.size→hi.G b→hi2.G b):NM W mb hi2 N nm:=by
 obtain ⟨f,z,h1,h2⟩:=h
 refine ⟨f,z,h1,fun s=>⟨(h2 s).1,fun m hm=>?_⟩⟩
 obtain ⟨v,e,a,k,c,L',e1,e2,e3⟩:=(h2 s).2 m hm
 exact ⟨v,e,a,k,c,L',e1,e2.wide hx,e3⟩
def PRm (W:World) (hi:HG) (pv:Value) (pr:List ByteArray):Prop:=
 (pr=[]∧∃x,pv=.map x)∨∃pb n f z,pv=.map (some pb)∧hi.G pb∧MF W pb n f z∧∀s,f s=(idxN s pr).map fun (j:Nat)=>Value.int .i64 (j:Nat)
theorem PRm.far {W W':World} {lo' hi':Nat} {hi:HG} {pv:Value} {pr:List ByteArray} (h:PRm W hi pv pr) (g:Fr W W' lo' hi') (hx:∀b,hi.G b→b<lo'∨hi'≤b):PRm W' hi pv pr:=by
 rcases h with h | ⟨pb,n,f,z,h1,h2,h3,h4⟩
 ·exact .inl h
 ·exact .inr ⟨pb,n,f,z,h1,h2,h3.block (g.block pb h3.lt (hx pb h2)),h4⟩
theorem PRm.wide {W:World} {hi hi2:HG} {pv:Value} {pr:List ByteArray} (h:PRm W hi pv pr) (hx:∀b,b<W.heap.size→hi.G b→hi2.G b):PRm W hi2 pv pr:=by
 rcases h with h | ⟨pb,n,f,z,h1,h2,h3,h4⟩
 ·exact .inl h
 ·exact .inr ⟨pb,n,f,z,h1,hx pb h3.lt h2,h3,h4⟩
structure LK (w0 W:World) (lb mb:Nat) (hi:HG) (N:Nat) (en:En) (pl:Int):Prop where
 below:Below w0.heap.size w0 W
 box:∃pv,BK W lb #[.map (some mb),.int .i64 (en.q:Nat),.int .i64 (en.b:Nat),pv,.int .i64 (en.d:Nat),.int .i64 pl] 64∧PRm W hi pv en.pr
 nm:NM W mb hi N en.nm
 o1:w0.heap.size≤lb
 o2:w0.heap.size≤mb
 o3:lb<hi.h
 o4:mb<hi.h
 o5:hi.h≤W.heap.size
 o6:lb≠mb
 up:∀b,W.heap.size≤b→hi.G b
theorem LK.far {w0 W W':World} {lb mb N lo' hi':Nat} {hi:HG} {en:En} {pl:Int} (h:LK w0 W lb mb hi N en pl) (g:Fr W W' lo' hi') (hx:∀b,hi.G b→b<lo'∨hi'≤b) (hl:hi.h≤lo'):LK w0 W' lb mb hi N en pl:=by
 obtain ⟨pv,k1,k2⟩:=h.box
 have h3:=h.o3
 have h4:=h.o4
 exact ⟨below_fr h.below g (by have:=h.o1;omega),⟨pv,g.bk k1 (.inl (by omega)),k2.far g hx⟩,h.nm.far g hx (g.block _ (Nat.lt_of_lt_of_le h.o4 h.o5) (.inl (by omega))),h.o1,h.o2,h.o3,h.o4,Nat.le_trans h.o5 g.size,h.o6,fun b hb=>h.up b (Nat.le_trans g.size hb)⟩
theorem LK.fr {w0 W W':World} {lb mb N:Nat} {hi:HG} {en:En} {pl:Int} (h:LK w0 W lb mb hi N en pl) (g:Below W.heap.size W W'):LK w0 W' lb mb hi N en pl:=by
 obtain ⟨pv,k1,k2⟩:=h.box
 have f:Fr W W' 0 0:=fr_of_below g
 exact ⟨btr h.below g,⟨pv,(g.block _ k1.lt).trans k1,k2.far f (fun b _=>.inr (Nat.zero_le _))⟩,h.nm.far f (fun b _=>.inr (Nat.zero_le _)) (g.block _ (Nat.lt_of_lt_of_le h.o4 h.o5)),h.o1,h.o2,h.o3,h.o4,Nat.le_trans h.o5 g.size,h.o6,fun b hb=>h.up b (Nat.le_trans g.size hb)⟩
theorem LK.wide {w0 W:World} {lb mb N:Nat} {hi hi2:HG} {en:En} {pl:Int} (h:LK w0 W lb mb hi N en pl) (hh:hi2.h=hi.h) (hx:∀b,b<W.heap.size→hi.G b→hi2.G b) (hu:∀b,W.heap.size≤b→hi2.G b):LK w0 W lb mb hi2 N en pl:=by
 obtain ⟨pv,k1,k2⟩:=h.box
 exact ⟨h.below,⟨pv,k1,k2.wide hx⟩,h.nm.wide hx,h.o1,h.o2,by rw [hh];exact h.o3,by rw [hh];exact h.o4,by rw [hh];exact h.o5,h.o6,hu⟩
def HG.cut (hi:HG) (x y:Nat):HG:=⟨hi.h,fun b=>hi.G b∧(b<x∨y≤b),fun b h=>hi.le b h.1⟩
theorem LK.cut {w0 W W':World} {lb mb N:Nat} {hi:HG} {en:En} {pl:Int} (h:LK w0 W lb mb hi N en pl) (g:Below W.heap.size W W'):LK w0 W' lb mb (hi.cut W.heap.size W'.heap.size) N en pl:=by
 have h1:LK w0 W lb mb (hi.cut W.heap.size W.heap.size) N en pl:=h.wide rfl (fun b hb hg=>⟨hg,.inl hb⟩) (fun b hb=>⟨h.up b hb,.inr hb⟩)
 obtain ⟨pv,k1,k2⟩:=h1.box
 have f:Fr W W' 0 0:=fr_of_below g
 have hw:∀b,b<W.heap.size→(hi.cut W.heap.size W.heap.size).G b→(hi.cut W.heap.size W'.heap.size).G b:=fun b hb hg=>⟨hg.1,.inl hb⟩
 have q2:=(k2.wide hw).far f (fun b _=>.inr (Nat.zero_le _))
 have q3:=(h1.nm.wide hw).far f (fun b _=>.inr (Nat.zero_le _)) (g.block _ (Nat.lt_of_lt_of_le h.o4 h.o5))
 exact ⟨btr h.below g,⟨pv,(g.block _ k1.lt).trans k1,q2⟩,q3,h.o1,h.o2,h.o3,h.o4,Nat.le_trans h.o5 g.size,h.o6,fun b hb=>⟨h.up b (Nat.le_trans g.size hb),.inr hb⟩⟩
abbrev mz:Value:=.agg #[.int .i64 0,.int .i64 0,.int .i64 0,.int .i64 0,.slice none 0 0]
theorem zero109 (w:World):(zeroValue 109).run Tryz.prog w=.ok mz w:=by kernel_rfl
theorem zero3 (w:World):(zeroValue 3).run Tryz.prog w=.ok (.int .i64 0) w:=by kernel_rfl
theorem LK.name {w0 W:World} {lb mb N:Nat} {hi:HG} {en:En} {pl:Int} (h:LK w0 W lb mb hi N en pl) (s:ByteArray) (hs:s.size≤maxLen) :
  ∃(x0 x1 x2 x3:Nat) (a:Option Addr) (k c:Nat) (L':List TO),(∀W':World,W'.heap[mb]?=W.heap[mb]?→(Instr.lookup 60 (.map (some mb)) (.string s) false).run Tryz.prog W'=.ok (.agg #[.int .i64 (x0:Nat),.int .i64 (x1:Nat),.int .i64 (x2:Nat),.int .i64 (x3:Nat),.slice a k c]) W')∧x0=srt en s ∧
   (∀m,en.nm s=some m→x1=m.f∧x2=m.z∧x3=m.d∧T4 L' m.l)∧(en.nm s=none→x1=0∧x2=0∧x3=0∧L'=[])∧PL W hi x2 (.slice a k c) L':=by
 obtain ⟨f,z,h1,h2⟩:=h.nm
 cases e:en.nm s with
 | none=>
  refine ⟨0,0,0,0,none,0,0,[],fun W' hM=>?_,(by unfold srt;rw [e];rfl),fun m hm=>(by cases hm),fun _=>⟨rfl,rfl,rfl,rfl⟩,pl_nil _ _ _ _ _⟩
  rw [(h1.block hM).look Tryz.underlying60 (zero109 W') hs,(h2 s).1 e]
  rfl
 | some m=>
  obtain ⟨v,e1,a,k,c,L',rfl,hp,ht⟩:=(h2 s).2 m e
  refine ⟨m.s,m.f,m.z,m.d,a,k,c,L',fun W' hM=>?_,(by unfold srt;rw [e];rfl),fun m' hm=>(by cases hm;exact ⟨rfl,rfl,rfl,ht⟩),fun h=>(by cases h),hp⟩
  rw [(h1.block hM).look Tryz.underlying60 (zero109 W') hs,e1]
  rfl
theorem LK.take {w0 W:World} {lb mb N:Nat} {hi:HG} {en:En} {pl:Int} (h:LK w0 W lb mb hi N en pl) (hN:N<maxLen) (s:ByteArray) (hs:s.size≤maxLen) (m:Mn) (v:Value) (hv:NMe W hi m v) :
  ∃W',(Instr.mapUpdate 60 (.map (some mb)) (.string s) v).run Tryz.prog W=.ok () W'∧LK w0 W' lb mb hi (N+1) ⟨putN en.nm s m,en.q,en.b,en.pr,en.d⟩ pl∧W.grownBy W' (some mb):=by
 obtain ⟨f,z,h1,h2⟩:=h.nm
 obtain ⟨W',hr,hm,hg⟩:=h1.put Tryz.underlying60 hN hs v
 have hfr:Fr W W' mb (mb+1):=(Fr.refl W _ _).grown hg (fun b e=>by cases e;exact .inl ⟨Nat.le_refl _,Nat.lt_succ_self _⟩)
 have hx:∀b,hi.G b→b<mb∨mb+1≤b:=fun b hb=>.inr (by have:=hi.le b hb;have:=h.o4;omega)
 obtain ⟨pv,k1,k2⟩:=h.box
 refine ⟨W',hr,⟨h.below.grown hg h.below.size (fun g e=>by cases e;exact h.o2),⟨pv,hfr.bk k1 (by have:=h.o6;omega),k2.far hfr hx⟩,⟨_,_,hm,fun t=>?_⟩,h.o1,h.o2,h.o3,h.o4,Nat.le_trans h.o5 hg.size,h.o6,fun b hb=>h.up b (Nat.le_trans hg.size hb)⟩,hg⟩
 show (putN en.nm s m t=none→_)∧_
 unfold putN
 by_cases e:t=s
 ·simp only [if_pos e]
  exact ⟨fun h=>(by cases h),fun m' hm'=>(by cases hm';exact ⟨v,rfl,hv.far hfr hx⟩)⟩
 ·simp only [if_neg e]
  refine ⟨(h2 t).1,fun m' hm'=>?_⟩
  obtain ⟨v',e1,hv'⟩:=(h2 t).2 m' hm'
  exact ⟨v',e1,hv'.far hfr hx⟩
end Go.Proofs.YtdjfpghgklkejaaGreatDoor
namespace Go.Proofs.YtdjfpghgklkejaaGreatDoor
open Go.RowKit Go.Sort
theorem hid {p:Prop} (h:p):Hid p:=h
theorem bk_at {W:World} {b:Nat} (cs:Array Value) (T:TypeId) (h:b=W.heap.size):BK (W.alloc (.cells cs T)) b cs T:=by subst h;exact bk_new W cs T
abbrev rwV (r:Rw) (a:Option Addr) (c:Nat):Value:=.agg #[.string r.kind,.string r.name,.slice a r.args.length c,.int .i64 r.num,.int .i64 r.rows,.int .i64 r.place]
set_option maxHeartbeats 1000000 in
theorem may_any (k:ByteArray) (sd:Sd) (w:World) :
  Calls Tryz.prog 83 #[.string k,sdV sd] w fun e w'=>e=.returned (.bool (mayB k sd))∧Below w.heap.size w w':=by
 obtain ⟨p,n,g,m,v⟩:=sd
 rcases shp_cases k with ⟨rfl,h,_⟩ | ⟨rfl,h,_⟩ | ⟨rfl,h,_⟩ | ⟨rfl,h,_⟩ | ⟨rfl,h,_⟩ | ⟨rfl,h,_⟩ | ⟨rfl,h,_⟩ | ⟨rfl,h,_⟩ | ⟨h1,h2,h3,h4,h5,h6,h7,h8,h,_⟩
 case inr.inr.inr.inr.inr.inr.inr.inr=>
  have e:mayB k ⟨p,n,g,m,v⟩=!g:=by simp [mayB,h1,h2,h3,h4,h8]
  rw [e]
  have g1:=ne_lit h1
  have g2:=ne_lit h2
  have g3:=ne_lit h3
  have g4:=ne_lit h4
  have g5:=ne_lit h5
  have g6:=ne_lit h6
  have g7:=ne_lit h7
  have g8:=ne_lit h8
  clear h1 h2 h3 h4 h5 h6 h7 h8 h e
  go_enter Tryz.func83,Tryz.ntmps83
  go_wp2
  go_ret
  exact ⟨rfl,bal (Below.refl _ _) _⟩
 all_goals clear h
 all_goals simp only [mayB]
 all_goals try (have e0:decide (n=0)=((n:Int)==0):=(by by_cases e:n=0 <;> simp [e]))
 all_goals
  go_enter Tryz.func83,Tryz.ntmps83
  go_wp2
  go_ret
  exact ⟨by first | rfl | simp [e0] | simp,bal (Below.refl _ _) _⟩
end Go.Proofs.YtdjfpghgklkejaaGreatDoor
