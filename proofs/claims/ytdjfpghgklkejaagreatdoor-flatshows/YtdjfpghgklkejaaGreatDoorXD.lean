/-
  Put together of: HA KB1 KC1 KC2.
-/
import Derived.RowKit
import Derived.Test.YtdjfpghgklkejaaGreatDoorXA
namespace Go.Proofs.YtdjfpghgklkejaaGreatDoor
def regM (r:Nat × Nat):Nat:=(2 ^ r.2-1)*2 ^ r.1
def inR (r:Nat × Nat) (i:Nat):Bool:=decide (r.1≤i)&&decide (i<r.1+r.2)
theorem regM_bit (r:Nat × Nat) (i:Nat):(regM r).testBit i=inR r i:=by
 unfold regM inR
 rw [←Nat.shiftLeft_eq,Nat.testBit_shiftLeft,Nat.testBit_two_pow_sub_one]
 by_cases h:r.1≤i
 ·rw [decide_eq_true h,Bool.true_and,Bool.true_and]
  exact decide_eq_decide.2 (by omega)
 ·rw [decide_eq_false h,Bool.false_and,Bool.false_and]
theorem inR_p {r:Nat × Nat} {i:Nat}:inR r i=true↔r.1≤i∧i<r.1+r.2:=by simp [inR]
theorem regM_lt (r:Nat × Nat):regM r<2 ^ (r.1+r.2):=by
 unfold regM
 rw [Nat.pow_add,Nat.mul_comm (2 ^ r.1)]
 exact Nat.mul_lt_mul_of_pos_right (Nat.sub_lt (Nat.two_pow_pos _) (by decide)) (Nat.two_pow_pos _)
def Seg:Nat→List (Nat × Nat)→Nat→Prop
 | a,[],b=>a=b
 | a,r::l,b=>r.1=a∧1≤r.2∧r.2≤32∧Seg (a+r.2) l b
theorem seg_app:∀(l m:List (Nat × Nat)) (a b:Nat),Seg a (l++m) b↔∃c,Seg a l c∧Seg c m b
 | [],m,a,b=>by
  constructor
  ·intro h;exact ⟨a,rfl,h⟩
  ·rintro ⟨c,e,h⟩
   have e:a=c:=e
   subst e
   exact h
 | r::l,m,a,b=>by
  show (r.1=a∧1≤r.2∧r.2≤32∧Seg (a+r.2) (l++m) b)↔∃c,(r.1=a∧1≤r.2∧r.2≤32∧Seg (a+r.2) l c)∧Seg c m b
  rw [seg_app l m]
  constructor
  ·rintro ⟨h1,h2,h3,c,h4,h5⟩;exact ⟨c,⟨h1,h2,h3,h4⟩,h5⟩
  ·rintro ⟨c,⟨h1,h2,h3,h4⟩,h5⟩;exact ⟨h1,h2,h3,c,h4,h5⟩
theorem seg_le:∀(l:List (Nat × Nat)) (a b:Nat),Seg a l b→a≤b
 | [],a,b,h=>Nat.le_of_eq h
 | r::l,a,b,h=>by have:=seg_le l _ _ h.2.2.2;omega
theorem seg_mem:∀(l:List (Nat × Nat)) (a b:Nat),Seg a l b→∀r∈l,a≤r.1∧1≤r.2∧r.2≤32∧r.1+r.2≤b
 | [],_,_,_,r,hr=>by cases hr
 | t::l,a,b,h,r,hr=>by
  obtain ⟨h1,h2,h3,h4⟩:=h
  rcases List.mem_cons.1 hr with rfl | hr
  ·have:=seg_le l _ _ h4;omega
  ·have:=seg_mem l _ _ h4 r hr;omega
theorem seg_len:∀(l:List (Nat × Nat)) (a b:Nat),Seg a l b→a+l.length≤b
 | [],a,b,h=>Nat.le_of_eq h
 | t::l,a,b,h=>by
  have:=seg_len l _ _ h.2.2.2
  have:=h.2.1
  rw [List.length_cons];omega
def cutR (E:Nat→Bool):Nat→List (Nat × Nat)
 | 0=>[]
 | k+1=>match (cutR E k).getLast? with
  | none=>[(k,1)]
  | some r=>if (E k || decide (r.2=32))=true then cutR E k++[(k,1)] else (cutR E k).dropLast++[(r.1,r.2+1)]
theorem last_split {α:Type} {l:List α} {r:α} (h:l.getLast?=some r):l=l.dropLast++[r]:=by
 have hn:l≠[]:=fun e=>by subst e;cases h
 rw [List.getLast?_eq_some_getLast hn] at h
 have h:=Option.some.inj h
 rw [←h,List.dropLast_concat_getLast hn]
theorem cut_ok (E:Nat→Bool):∀k,Seg 0 (cutR E k) k∧(∀r∈cutR E k,∀i,r.1<i→i<r.1+r.2→E i=false)∧(0<k→(cutR E k).getLast?≠none)
 | 0=>⟨rfl,fun r hr=>absurd (show r∈([]:List (Nat × Nat)) from hr) List.not_mem_nil,fun h=>absurd h (Nat.lt_irrefl _)⟩
 | k+1=>by
  obtain ⟨h1,h2,h3⟩:=cut_ok E k
  unfold cutR
  split
  ·rename_i e
   have hk:k=0:=by
    rcases Nat.eq_zero_or_pos k with h | h
    ·exact h
    ·exact absurd e (h3 h)
   subst hk
   refine ⟨⟨rfl,Nat.le_refl _,by decide,rfl⟩,fun r hr i g1 g2=>?_,fun _=>by simp⟩
   rw [List.mem_singleton] at hr
   subst hr
   have g1:0<i:=g1
   have g2:i<0+1:=g2
   omega
  ·rename_i r e
   split
   ·refine ⟨(seg_app _ _ _ _).2 ⟨k,h1,rfl,Nat.le_refl _,(by decide:(1:Nat)≤32),rfl⟩,fun t ht i g1 g2=>?_,fun _=>by simp⟩
    rcases List.mem_append.1 ht with ht | ht
    ·exact h2 t ht i g1 g2
    ·rw [List.mem_singleton] at ht
     subst ht
     have g1:k<i:=g1
     have g2:i<k+1:=g2
     omega
   ·rename_i hc
    have hsp:=last_split e
    rw [hsp] at h1
    obtain ⟨c,g1,g2,g3,g4,g5⟩:=(seg_app _ _ _ _).1 h1
    have g5:c+r.2=k:=g5
    rw [Bool.or_eq_true,decide_eq_true_eq,not_or] at hc
    have hE:E k=false:=Bool.eq_false_iff.2 hc.1
    refine ⟨(seg_app _ _ _ _).2 ⟨c,g1,g2,Nat.le_add_left _ _,by have:=hc.2;show r.2+1≤32;omega,by show c+(r.2+1)=k+1;omega⟩,fun t ht i q1 q2=>?_,fun _=>by simp⟩
    rcases List.mem_append.1 ht with ht | ht
    ·exact h2 t (by rw [hsp];exact List.mem_append_left _ ht) i q1 q2
    ·rw [List.mem_singleton] at ht
     subst ht
     have q1:r.1<i:=q1
     have q2:i<r.1+(r.2+1):=q2
     by_cases hi:i<r.1+r.2
     ·exact h2 r (by rw [hsp];exact List.mem_append_right _ (List.mem_singleton.2 rfl)) i q1 hi
     ·have:i=k:=by omega
      rw [this,hE]
def Whl (m:Nat) (r:Nat × Nat):Prop:=∀i,inR r i=true→m.testBit i=m.testBit r.1
theorem whl_of {m:Nat} {r:Nat × Nat} (h:∀i,r.1<i→i<r.1+r.2→m.testBit i=m.testBit (i-1)):Whl m r:=by
 have step:∀j,j<r.2→m.testBit (r.1+j)=m.testBit r.1:=by
  intro j
  induction j with
  | zero=>intro _;rfl
  | succ j ih=>
   intro hj
   have:=h (r.1+(j+1)) (by omega) (by omega)
   rw [this,show r.1+(j+1)-1=r.1+j by omega]
   exact ih (by omega)
 intro i hi
 have hi:=inR_p.1 hi
 have:=step (i-r.1) (by omega)
 rwa [show r.1+(i-r.1)=i by omega] at this
theorem whl_and {m:Nat} {r:Nat × Nat} (h:Whl m r) (hz:1≤r.2):m&&&regM r≠0↔m.testBit r.1=true:=by
 constructor
 ·intro hne
  obtain ⟨i,hi⟩:=Nat.exists_testBit_of_ne_zero hne
  rw [Nat.testBit_and,regM_bit,Bool.and_eq_true] at hi
  rw [←h i hi.2]
  exact hi.1
 ·intro hb e
  have:(m&&&regM r).testBit r.1=true:=by
   rw [Nat.testBit_and,regM_bit,hb,inR_p.2 (by omega)];rfl
  rw [e,Nat.zero_testBit] at this
  cases this
def Srt:Nat→List (Nat × Nat)→Prop
 | _,[]=>True
 | a,r::l=>a≤r.1∧Srt (r.1+r.2) l
def accM:Nat→List (Nat × Nat)→Nat
 | s,[]=>s
 | s,r::l=>accM (s|||regM r) l
def accV (x:Nat):Nat→List (Nat × Nat)→Nat
 | s,[]=>s
 | s,r::l=>accV x (s|||((x&&&regM r)>>>r.1)*2 ^ r.1) l
def askd (m:Nat) (l:List (Nat × Nat)):List (Nat × Nat):=l.filter fun r=>decide (m&&&regM r≠0)
theorem part_lt (x:Nat) (r:Nat × Nat):(x&&&regM r)>>>r.1<2 ^ r.2:=by
 rw [Nat.shiftRight_eq_div_pow]
 apply Nat.div_lt_of_lt_mul
 rw [←Nat.pow_add]
 exact Nat.lt_of_le_of_lt Nat.and_le_right (regM_lt r)
end Go.Proofs.YtdjfpghgklkejaaGreatDoor
namespace Go.Proofs.YtdjfpghgklkejaaGreatDoor
open Go.RowKit Go.Sort
structure Oq where
 k:Int
 n:ByteArray
 qs:List Int
 b:Int
 f:Bool
 m:Int
 v:Int
structure Ci where
 q:Int
 b:Int
 ops:List Oq
structure Fit (o:Oq):Prop where
 m0:0≤o.m
 m1:o.m≤18446744073709551615
 v0:0≤o.v
 v1:o.v≤18446744073709551615
 l:o.qs.length≤9223372036854775807
structure RI (W:World) (b o:Nat) (l:List Int):Prop where
 c:∀j (h:j<l.length),W.cell? ⟨b,o+j,none⟩=some (.int .i64 l[j])
 lt:b<W.heap.size
theorem RI.below {W W':World} {b o:Nat} {l:List Int} (h:RI W b o l) (hb:Below W.heap.size W W'):RI W' b o l:=
 ⟨fun j hj=>(hb.cell (p:=⟨b,o+j,none⟩) h.lt).trans (h.c j hj),Nat.lt_of_lt_of_le h.lt hb.size⟩
structure QS (W:World) (a:Option Addr) (c:Nat) (l:List Int):Prop where
 cap:l.length≤c
 at_:∀k,k<l.length→∃b o,a=some ⟨b,o,none⟩∧RI W b o l
theorem QS.below {W W':World} {a:Option Addr} {c:Nat} {l:List Int} (h:QS W a c l) (hb:Below W.heap.size W W'):QS W' a c l:=
 ⟨h.cap,fun k hk=>by obtain ⟨b,o,e,r⟩:=h.at_ k hk;exact ⟨b,o,e,r.below hb⟩⟩
abbrev opv (o:Oq) (a:Option Addr) (c:Nat):Value:=.agg #[.int .i64 o.k,.string o.n,.slice a o.qs.length c,.int .i64 o.b,.bool o.f,.int .u64 o.m,.int .u64 o.v]
abbrev opc (o:Oq) (a:Option Addr) (c:Nat):List Value:=[.int .i64 o.k,.string o.n,.slice a o.qs.length c,.int .i64 o.b,.bool o.f,.int .u64 o.m,.int .u64 o.v]
structure RO (W:World) (b o:Nat) (os:List Oq) (A:Nat→Option Addr) (C:Nat→Nat):Prop where
 c0:∀j (h:j<os.length),W.cell? ⟨b,o+j*7,none⟩=some (.int .i64 os[j].k)
 c1:∀j (h:j<os.length),W.cell? ⟨b,o+j*7+1,none⟩=some (.string os[j].n)
 c2:∀j (h:j<os.length),W.cell? ⟨b,o+j*7+2,none⟩=some (.slice (A j) os[j].qs.length (C j))
 c3:∀j (h:j<os.length),W.cell? ⟨b,o+j*7+3,none⟩=some (.int .i64 os[j].b)
 c4:∀j (h:j<os.length),W.cell? ⟨b,o+j*7+4,none⟩=some (.bool os[j].f)
 c5:∀j (h:j<os.length),W.cell? ⟨b,o+j*7+5,none⟩=some (.int .u64 os[j].m)
 c6:∀j (h:j<os.length),W.cell? ⟨b,o+j*7+6,none⟩=some (.int .u64 os[j].v)
 lt:b<W.heap.size
theorem RO.below {W W':World} {b o:Nat} {os:List Oq} {A:Nat→Option Addr} {C:Nat→Nat} (h:RO W b o os A C) (hb:Below W.heap.size W W'):RO W' b o os A C:=
 ⟨fun j hj=>(hb.cell (p:=⟨b,_,none⟩) h.lt).trans (h.c0 j hj),fun j hj=>(hb.cell (p:=⟨b,_,none⟩) h.lt).trans (h.c1 j hj),fun j hj=>(hb.cell (p:=⟨b,_,none⟩) h.lt).trans (h.c2 j hj),fun j hj=>(hb.cell (p:=⟨b,_,none⟩) h.lt).trans (h.c3 j hj),fun j hj=>(hb.cell (p:=⟨b,_,none⟩) h.lt).trans (h.c4 j hj),fun j hj=>(hb.cell (p:=⟨b,_,none⟩) h.lt).trans (h.c5 j hj),fun j hj=>(hb.cell (p:=⟨b,_,none⟩) h.lt).trans (h.c6 j hj),Nat.lt_of_lt_of_le h.lt hb.size⟩
structure OS (W:World) (a:Option Addr) (c:Nat) (os:List Oq) (A:Nat→Option Addr) (C:Nat→Nat):Prop where
 cap:os.length≤c
 qs:∀k (h:k<os.length),QS W (A k) (C k) os[k].qs
 at_:∀k,k<os.length→∃b o,a=some ⟨b,o,none⟩∧RO W b o os A C
 fit:∀k (h:k<os.length),Fit os[k]
 l:os.length≤9223372036854775807
theorem OS.below {W W':World} {a:Option Addr} {c:Nat} {os:List Oq} {A:Nat→Option Addr} {C:Nat→Nat} (h:OS W a c os A C) (hb:Below W.heap.size W W'):OS W' a c os A C:=
 ⟨h.cap,fun k hk=>(h.qs k hk).below hb,fun k hk=>by obtain ⟨b,o,e,r⟩:=h.at_ k hk;exact ⟨b,o,e,r.below hb⟩,h.fit,h.l⟩
abbrev civ (c:Ci) (a:Option Addr) (k:Nat):Value:=.agg #[.int .i64 c.q,.int .i64 c.b,.slice a c.ops.length k]
abbrev cic (c:Ci) (a:Option Addr) (k:Nat):Array Value:=#[.int .i64 c.q,.int .i64 c.b,.slice a c.ops.length k]
abbrev noCi:Ci:=⟨0,0,[]⟩
end Go.Proofs.YtdjfpghgklkejaaGreatDoor
namespace Go.Proofs.YtdjfpghgklkejaaGreatDoor
open Go.RowKit Go.Sort
theorem ret_bool {a b:Bool} (h:a=b):Ending.returned (.bool a)=.returned (.bool b):=by rw [h]
theorem ret_int {k:IntKind} {a b:Int} (h:a=b):Ending.returned (.int k a)=.returned (.int k b):=by rw [h]
def emB (s:ByteArray):Bool:=decide (s=⟨#[]⟩)
theorem em_lit (s:ByteArray):(s.toList==[])=emB s:=by
 rw [show ([]:List UInt8)=(⟨#[]⟩:ByteArray).toList by rw [ByteArray.toList_eq]]
 exact beq_str s ⟨#[]⟩
def rfB (o:Oq):Bool:=if o.k==1 then o.b==0 else if o.k==2 then emB o.n else if o.k==3 then emB o.n&&o.b==0 else false
set_option maxHeartbeats 400000 in
set_option maxRecDepth 100000 in
theorem rightFields_any (o:Oq) (a:Option Addr) (c:Nat) (w:World):Calls Tryz.prog 125 #[opv o a c] w fun e w'=>e=.returned (.bool (rfB o))∧Below w.heap.size w w':=by
 have E:=em_lit o.n
 go_enter Tryz.func125,Tryz.ntmps125
 go_wp2
 all_goals
  go_ret
  refine ⟨ret_bool ?_,bal (Below.refl _ _) _⟩
  simp [rfB, *]
def anB (v m:Int):Bool:=bits BinOp.andNot IntKind.u64 v m==0
def rcB (o:Oq) (b:Nat):Bool:=if o.f then (o.m != 0)&&(decide (o.m / 2 ^ b=0)&&anB o.v o.m) else (o.m==0)&&(o.v==0)
set_option maxHeartbeats 400000 in
set_option maxRecDepth 100000 in
theorem rightCondition_any (o:Oq) (a:Option Addr) (c:Nat) (b:Nat) (w:World) (hf:Fit o) (hb:b≤64):Calls Tryz.prog 126 #[opv o a c,.int .i64 b] w fun e w'=>e=.returned (.bool (rcB o b))∧Below w.heap.size w w':=by
 obtain ⟨h1,h2,h3,h4,h5⟩:=hf
 go_enter Tryz.func126,Tryz.ntmps126
 go_wp2
 all_goals
  go_ret
  refine ⟨ret_bool ?_,bal (Below.refl _ _) _⟩
  simp_all [rcB,anB]
def inB (q:Int) (l:List Int):Bool:=l.all fun x=>decide (0≤x)&&decide (x<q)
def rnB (o:Oq) (q b:Int):Bool:=inB q o.qs&&(!(o.k==2) || (decide (0≤o.b)&&decide (o.b<b)))
theorem inB_at {q:Int} {l:List Int} (k:Nat) (h:k<l.length) (hb:l[k]<0∨q≤l[k]):inB q l=false:=by
 unfold inB
 rw [List.all_eq_false]
 refine ⟨l[k],List.getElem_mem h,?_⟩
 simp
 omega
theorem inB_all {q:Int} {l:List Int} (h:∀k (h:k<l.length),0≤l[k]∧l[k]<q):inB q l=true:=by
 unfold inB
 rw [List.all_eq_true]
 intro x hx
 obtain ⟨k,hk,rfl⟩:=List.getElem_of_mem hx
 have:=h k hk
 simp
 exact this
set_option maxHeartbeats 1000000 in
set_option maxRecDepth 100000 in
theorem rightNumbers_any (o:Oq) (a:Option Addr) (c:Nat) (q b:Int) (v:Value) (a2:Option Addr) (n2 c2:Nat) (w:World) (hf:Fit o) (hq:QS w a c o.qs) (hv:v=.slice a2 n2 c2):Calls Tryz.prog 127 #[opv o a c,.agg #[.int .i64 q,.int .i64 b,v]] w fun e w'=>e=.returned (.bool (rnB o q b))∧Below w.heap.size w w':=by
 subst hv
 obtain ⟨hcap,hat⟩:=hq
 have hl:=hf.l
 have HA:Hid (∀k,k<o.qs.length→∃b' o',a=some ⟨b',o',none⟩∧RI w b' o' o.qs):=hat
 clear hf hat
 obtain ⟨K,N,Q,B,F,M,V⟩:=o
 simp only at hl hcap HA ⊢
 go_enter Tryz.func127,Tryz.ntmps127
 go_wp2
 go_loop [10] (fun t=>∃k:Nat,k≤Q.length∧t=.int .i64 k∧Hid (∀j (h:j<Q.length),j<k→0≤Q[j]∧Q[j]<q)) (fun t=>Q.length-(intOf t).toNat)
 case atStart=>exact ⟨0,Nat.zero_le _,rfl,fun j _ h=>absurd h (Nat.not_lt_zero _)⟩
 case round=>
  obtain ⟨k,hk,rfl,hJ⟩:=hrel
  by_cases hlt:k<Q.length
  ·obtain ⟨b',o',rfl,r⟩:=HA.out k hlt
   have c0:=r.c k hlt
   have hbl:=r.lt
   have c1:∀x y,((w.alloc x).alloc y).cell? ⟨b',o'+k,none⟩=some (.int .i64 Q[k]):=fun x y=>((bal (bal (Below.refl _ _) x) y).cell (p:=⟨b',o'+k,none⟩) hbl).trans c0
   have HB1:Hid (Q[k]<0∨q≤Q[k]→inB q Q=false):=fun h=>inB_at k hlt h
   have HB2:Hid (0≤Q[k]∧Q[k]<q→∀j (h:j<Q.length),j<k+1→0≤Q[j]∧Q[j]<q):=fun h j hj hjk=>by
    by_cases e:j=k
    ·subst e;exact h
    ·exact hJ.out j hj (by omega)
   clear r hJ c0
   generalize Q[k]=x at *
   by_cases h0:x<0
   ·go_wp2
    go_ret
    refine ⟨ret_bool ?_,bal (bal (Below.refl _ _) _) _⟩
    unfold rnB
    rw [HB1.out (.inl h0)]
    rfl
   ·by_cases h1:q≤x
    ·go_wp2
     go_ret
     refine ⟨ret_bool ?_,bal (bal (Below.refl _ _) _) _⟩
     unfold rnB
     rw [HB1.out (.inr h1)]
     rfl
    ·have hJ2:Hid (∀j (h:j<Q.length),j<k+1→0≤Q[j]∧Q[j]<q):=HB2.out ⟨by omega,by omega⟩
     clear HB1 HB2
     go_wp2
     go_round
     case rel=>exact ⟨k+1,by omega,by go_num,hJ2⟩
     case measure=>simp [intOf];omega
  ·obtain rfl:k=Q.length:=by omega
   have hall:Hid (inB q Q=true):=inB_all (fun j hj=>hJ.out j hj hj)
   clear hJ
   go_wp2
   all_goals
    go_ret
    refine ⟨ret_bool ?_,bal (bal (Below.refl _ _) _) _⟩
    unfold rnB
    rw [hall.out]
    first | (simp_all;done) | (simp_all;omega)
end Go.Proofs.YtdjfpghgklkejaaGreatDoor
namespace Go.Proofs.YtdjfpghgklkejaaGreatDoor
open Go.RowKit Go.Sort
def fstN (x:Int):List Int→Nat→Int
 | [],_=> -1
 | y::l,k=>if x==y then k else fstN x l (k+1)
theorem fstN_none {x:Int}:∀(l:List Int) (k:Nat),(∀j (h:j<l.length),x≠l[j])→fstN x l k= -1
 | [],_,_=>rfl
 | y::l,k,h=>by
  have h0:=h 0 (by simp)
  simp only [List.getElem_cons_zero] at h0
  unfold fstN
  rw [if_neg (by simpa using h0)]
  exact fstN_none l (k+1) (fun j hj=>by have:=h (j+1) (by simpa using hj);simpa using this)
theorem fstN_at {x:Int}:∀(l:List Int) (k j:Nat) (h:j<l.length),(∀i (h':i<l.length),i<j→x≠l[i])→x=l[j]→fstN x l k=((k+j:Nat):Int)
 | [],_,j,h,_,_=>absurd h (Nat.not_lt_zero _)
 | y::l,k,0,h,_,e=>by
  unfold fstN
  rw [if_pos (by simpa using e)]
  rfl
 | y::l,k,j+1,h,hn,e=>by
  have h0:=hn 0 (by simp) (by omega)
  simp only [List.getElem_cons_zero] at h0
  unfold fstN
  rw [if_neg (by simpa using h0),fstN_at l (k+1) j (by simpa using h) (fun i hi hij=>by have:=hn (i+1) (by simpa using hi) (by omega);simpa using this) (by simpa using e)]
  congr 1
  omega
theorem fstN_mem {x:Int} (l:List Int):(0≤fstN x l 0)↔x∈l:=by
 have gen:∀(l:List Int) (k:Nat),(0≤fstN x l k)↔x∈l:=by
  intro l
  induction l with
  | nil=>intro k;simp [fstN]
  | cons y l ih=>
   intro k
   unfold fstN
   by_cases e:x=y
   ·rw [if_pos (by simpa using e)];simp [e]
   ·rw [if_neg (by simpa using e),ih (k+1)];simp [e]
 exact gen l 0
set_option maxHeartbeats 1000000 in
set_option maxRecDepth 100000 in
theorem index_any (l:List Int) (x:Int) (a:Option Addr) (c:Nat) (w:World) (hq:QS w a c l) (hl:l.length≤9223372036854775807):Calls Tryz.prog 175 #[.slice a l.length c,.int .i64 x] w fun e w'=>e=.returned (.int .i64 (fstN x l 0))∧w'=w:=by
 obtain ⟨hcap,hat⟩:=hq
 have HA:Hid (∀k,k<l.length→∃b' o',a=some ⟨b',o',none⟩∧RI w b' o' l):=hat
 clear hat
 go_enter Tryz.func175,Tryz.ntmps175
 go_wp2
 go_loop [8] (fun t=>∃k:Nat,k≤l.length∧t=.int .i64 k∧Hid (∀j (h:j<l.length),j<k→x≠l[j])) (fun t=>l.length-(intOf t).toNat)
 case atStart=>exact ⟨0,Nat.zero_le _,rfl,fun j _ h=>absurd h (Nat.not_lt_zero _)⟩
 case round=>
  obtain ⟨k,hk,rfl,hJ⟩:=hrel
  by_cases hlt:k<l.length
  ·obtain ⟨b',o',rfl,r⟩:=HA.out k hlt
   have c0:=r.c k hlt
   have hbl:=r.lt
   have HE:Hid (x=l[k]→fstN x l 0=(k:Int)):=fun e=>by rw [fstN_at l 0 k hlt hJ.out e,Nat.zero_add]
   have HN:Hid (x≠l[k]→∀j (h:j<l.length),j<k+1→x≠l[j]):=fun h j hj hjk=>by
    by_cases e:j=k
    ·subst e;exact h
    ·exact hJ.out j hj (by omega)
   clear r hJ
   generalize l[k]=y at *
   by_cases e:x=y
   ·have e1:(x==y)=true:=by simpa using e
    have HE2:Hid (fstN x l 0=(k:Int)):=HE.out e
    clear e HE HN
    go_wp2
    go_ret
    exact ⟨ret_int HE2.out.symm,rfl⟩
   ·have e1:(x==y)=false:=by simpa using e
    have HN2:Hid (∀j (h:j<l.length),j<k+1→x≠l[j]):=HN.out e
    clear e HE HN
    go_wp2
    go_round
    case rel=>exact ⟨k+1,by omega,by go_num,HN2⟩
    case measure=>simp [intOf];omega
  ·obtain rfl:k=l.length:=by omega
   have HE:Hid (fstN x l 0= -1):=fstN_none l 0 (fun j hj=>hJ.out j hj hj)
   clear hJ
   go_wp2
   go_ret
   exact ⟨ret_int HE.out.symm,rfl⟩
theorem contains_any (l:List Int) (x:Int) (a:Option Addr) (c:Nat) (w:World) (hq:QS w a c l) (hl:l.length≤9223372036854775807):Calls Tryz.prog 161 #[.slice a l.length c,.int .i64 x] w fun e w'=>e=.returned (.bool (decide (x∈l)))∧w'=w:=by
 have I:=index_any l x a c w hq hl
 have HE:Hid (decide (0≤fstN x l 0)=decide (x∈l)):=by
  show _=_
  rw [decide_eq_decide]
  exact fstN_mem l
 go_enter Tryz.func161,Tryz.ntmps161
 go_wp2_with (go_at_call 175;(with_reducible refine I.mono ?_);rintro e w1 ⟨rfl,rfl⟩)
 go_ret
 exact ⟨ret_bool HE.out,rfl⟩
def dupB (l:List Int):Bool:=(List.range l.length).any fun j=>decide (l.getD j 0∈l.take j)
theorem dupB_at {l:List Int} (k:Nat) (h:k<l.length) (hm:l[k]∈l.take k):dupB l=true:=by
 unfold dupB
 rw [List.any_eq_true]
 refine ⟨k,List.mem_range.2 h,?_⟩
 rw [List.getD_eq_getElem?_getD,List.getElem?_eq_getElem h]
 simpa using hm
theorem dupB_no {l:List Int} (h:∀k (h:k<l.length),¬l[k]∈l.take k):dupB l=false:=by
 unfold dupB
 rw [List.any_eq_false]
 intro k hk
 have hk:=List.mem_range.1 hk
 rw [List.getD_eq_getElem?_getD,List.getElem?_eq_getElem hk]
 simpa using h k hk
theorem QS.take {W:World} {a:Option Addr} {c:Nat} {l:List Int} (h:QS W a c l) (k:Nat) (hk:k≤l.length):QS W a c (l.take k):=
 ⟨by have:=h.cap;rw [List.length_take];omega,fun j hj=>by
  have hj':j<l.length:=by rw [List.length_take] at hj;omega
  obtain ⟨b,o,e,r⟩:=h.at_ j hj'
  exact ⟨b,o,e,fun i hi=>by rw [List.getElem_take];exact r.c i (by rw [List.length_take] at hi;omega),r.lt⟩⟩
set_option maxHeartbeats 1000000 in
set_option maxRecDepth 100000 in
theorem twice_any (l:List Int) (a:Option Addr) (c:Nat) (w:World) (hq:QS w a c l) (hl:l.length≤9223372036854775807):Calls Tryz.prog 128 #[.slice a l.length c] w fun e w'=>e=.returned (.bool (dupB l))∧w'=w:=by
 have HQ:Hid (QS w a c l):=hq
 obtain ⟨hcap,hat⟩:=hq
 have HA:Hid (∀k,k<l.length→∃b' o',a=some ⟨b',o',none⟩∧RI w b' o' l):=hat
 clear hat
 go_enter Tryz.func128,Tryz.ntmps128
 go_wp2
 go_loop [7] (fun t=>∃k:Nat,k≤l.length∧t=.int .i64 k∧Hid (∀j (h:j<l.length),j<k→¬l[j]∈l.take j)) (fun t=>l.length-(intOf t).toNat)
 case atStart=>exact ⟨0,Nat.zero_le _,rfl,fun j _ h=>absurd h (Nat.not_lt_zero _)⟩
 case round=>
  obtain ⟨k,hk,rfl,hJ⟩:=hrel
  by_cases hlt:k<l.length
  ·obtain ⟨b',o',rfl,r⟩:=HA.out k hlt
   have c0:=r.c k hlt
   have hbl:=r.lt
   have ht:(l.take k).length=k:=by rw [List.length_take];omega
   have CT:=contains_any (l.take k) l[k] (some ⟨b',o',none⟩) c w (HQ.out.take k hk) (by omega)
   rw [ht] at CT
   have HE:Hid (l[k]∈l.take k→dupB l=true):=fun e=>dupB_at k hlt e
   have HN:Hid (¬l[k]∈l.take k→∀j (h:j<l.length),j<k+1→¬l[j]∈l.take j):=fun h j hj hjk=>by
    by_cases e:j=k
    ·subst e;exact h
    ·exact hJ.out j hj (by omega)
   clear r hJ ht
   generalize l[k]=y at *
   by_cases e:y∈l.take k
   ·rw [decide_eq_true e] at CT
    have HE2:Hid (dupB l=true):=HE.out e
    clear e HE HN
    go_wp2_with (go_at_call 161;(with_reducible refine CT.mono ?_);rintro e w1 ⟨rfl,rfl⟩)
    go_ret
    exact ⟨ret_bool HE2.out.symm,rfl⟩
   ·rw [decide_eq_false e] at CT
    have HN2:Hid (∀j (h:j<l.length),j<k+1→¬l[j]∈l.take j):=HN.out e
    clear e HE HN
    go_wp2_with (go_at_call 161;(with_reducible refine CT.mono ?_);rintro e w1 ⟨rfl,rfl⟩)
    go_round
    case rel=>exact ⟨k+1,by omega,by go_num,HN2⟩
    case measure=>simp [intOf];omega
  ·obtain rfl:k=l.length:=by omega
   have HE:Hid (dupB l=false):=dupB_no (fun j hj=>hJ.out j hj hj)
   clear hJ
   go_wp2
   go_ret
   exact ⟨ret_bool HE.out.symm,rfl⟩
def opE (o:Oq) (q:Int) (b:Nat) (n:Nat):Nat:=
 if rfB o=false∨rcB o b=false then 120 else if n=0 then 80 else if o.qs.length≠n then 111 else if rnB o q b=false then 112 else if dupB o.qs=true then 113 else 0
set_option maxHeartbeats 1000000 in
set_option maxRecDepth 100000 in
theorem checkOp_any (o:Oq) (a:Option Addr) (c:Nat) (q:Int) (b n:Nat) (a2:Option Addr) (n2 c2:Nat) (w:World) (hf:Fit o) (hq:QS w a c o.qs) (hb:b≤64) :
  Calls Tryz.prog 73 #[.agg #[.int .i64 q,.int .i64 (b:Nat),.slice a2 n2 c2],opv o a c,.int .i64 n] w fun e w'=>e=.returned (.int .i64 (opE o q b n:Nat))∧Below w.heap.size w w':=by
 have RF:=fun w=>rightFields_any o a c w
 have RC:=fun w=>rightCondition_any o a c b w hf hb
 have RN:=fun w1 h=>rightNumbers_any o a c q b _ a2 n2 c2 w1 hf h rfl
 have TW:=fun w1 h=>twice_any o.qs a c w1 h hf.l
 have HQ:Hid (QS w a c o.qs):=hq
 have hl:=hf.l
 clear hq
 have HE:Hid (opE o q b n=if rfB o=false∨rcB o b=false then 120 else if n=0 then 80 else if o.qs.length≠n then 111 else if rnB o q b=false then 112 else if dupB o.qs=true then 113 else 0):=rfl
 generalize opE o q b n=E at *
 generalize hrf:rfB o=rf at *
 generalize hrc:rcB o b=rc at *
 generalize hrn:rnB o q b=rn at *
 generalize hdu:dupB o.qs=du at *
 clear hrf hrc hrn hdu hf
 obtain ⟨K,N,Q,B,F,M,V⟩:=o
 simp only at *
 go_enter Tryz.func73,Tryz.ntmps73
 go_wp2_with (first
  | (go_at_call 125;(with_reducible refine (RF _).mono ?_);rintro e w1 ⟨rfl,hX⟩;obtain ⟨k1,k2⟩:=two_box hX;have q1:=k1.cell;have q2:=k2.cell;have z1:=k2.lt;clear k1 k2)
  | (go_at_call 126;(with_reducible refine (RC _).mono ?_);rintro e w2 ⟨rfl,hB2⟩;replace hX:=btr hX hB2;obtain ⟨k1,k2⟩:=two_box hX;replace q1:=k1.cell;replace q2:=k2.cell;replace z1:=k2.lt;clear k1 k2)
  | (go_at_call 127;(with_reducible refine (RN _ (HQ.out.below (btr (bal (bal (Below.refl _ _) _) _) hX))).mono ?_);rintro e w3 ⟨rfl,hB3⟩;replace hX:=btr hX hB3;obtain ⟨k1,k2⟩:=two_box hX;replace q1:=k1.cell;replace q2:=k2.cell;replace z1:=k2.lt;clear k1 k2)
  | (go_at_call 128;(with_reducible refine (TW _ (HQ.out.below (btr (bal (bal (Below.refl _ _) _) _) hX))).mono ?_);rintro e w4 ⟨rfl,rfl⟩))
 all_goals
  go_ret
  refine ⟨ret_int ?_,btr (bal (bal (Below.refl _ _) _) _) hX⟩
  rw [HE.out]
  clear RF RC RN TW HQ
  have hqn:((Q.length:Int)=(n:Int))↔Q.length=n:=by omega
  simp_all
end Go.Proofs.YtdjfpghgklkejaaGreatDoor
