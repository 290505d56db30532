/-
  Put together of: KB0 LM1.
-/
import Derived.Test.YtdjfpghgklkejaaGreatDoorRows
import Derived.WalkKit
import Derived.BigQuiet
import Derived.RowKit
import Derived.Carry
import Derived.WalkMore
import Derived.WalkSmall
import Derived.Deep.LoopGhost
import Derived.Deep.QuietTactic
import Derived.Deep.RegionHeld3
import Derived.Deep.RegionHeldLaw
import Derived.Deep.RegionLaw
import Derived.Deep.RegionWith
import Derived.Deep.CutRange
import Derived.Deep.CutBlock
import Derived.Lib.QuietBelow
import Derived.Maps.AppendAt
import Derived.OwnWalk
import Derived.Lib.SmallJoins
import Derived.MapKept
import Derived.WalkSpells
import Derived.Laws.Externs
import Derived.Laws.EntriesVeiled
import Derived.Laws.ComplexArith
import Derived.WalkLawsBesides
namespace Go.Proofs.YtdjfpghgklkejaaGreatDoor
open Go.RowKit Go.Sort
theorem bal {a w:World} (h:Below a.heap.size a w) (o:Obj):Below a.heap.size a (w.alloc o):=h.alloc h.size o
theorem btr {a w w1:World} (h:Below a.heap.size a w) (g:Below w.heap.size w w1):Below a.heap.size a w1:=h.trans (g.mono h.size)
theorem bset {a w:World} (h:Below a.heap.size a w) (b o:Nat) (v:Value) (hb:a.heap.size≤b):Below a.heap.size a (w.setCell ⟨b,o,none⟩ v):=h.setCell hb v
theorem below_drewN {B:Nat} {a w:World} (h:Below B a w) (n:Nat):Below B a (w.drewN n):=⟨h.os,h.tape,h.output,h.size,h.block⟩
theorem below_drew {B:Nat} {a w:World} (h:Below B a w):Below B a w.drew:=⟨h.os,h.tape,h.output,h.size,h.block⟩
theorem grown_of {W W':World} (h:Below W.heap.size W W'):W.grownBy W' none:=⟨h.os,h.tape,h.output,h.size,fun k hk _=>h.block k hk⟩
theorem info_parts {t:TypeId} {z:Value} {n b:Nat} (h:(Tryz.prog.info? t).map (fun i=>(i.zero,i.size,i.bytes))=some (some z,n,b)):∃i,Tryz.prog.info? t=some i∧i.zero=some z∧i.size=n∧i.bytes=b:=by
 cases e:Tryz.prog.info? t with
 | none=>rw [e] at h;cases h
 | some i=>
  rw [e] at h
  injection h with h
  injection h with h1 h2
  injection h2 with h2 h3
  exact ⟨i,rfl,h1,h2,h3⟩
theorem bcell {W w1:World} (hb:Below W.heap.size W w1):(∀b o,b<W.heap.size→w1.cell? ⟨b,o,none⟩=W.cell? ⟨b,o,none⟩)∧(∀b o,b<W.heap.size→w1.frozen? ⟨b,o,none⟩=W.frozen? ⟨b,o,none⟩):=
 ⟨fun b o h=>hb.cell (p:=⟨b,o,none⟩) h,fun b o h=>hb.frozen (p:=⟨b,o,none⟩) h⟩
abbrev BK (W:World) (b:Nat) (cs:Array Value) (T:TypeId):Prop:=W.heap[b]?=some (.cells cs T (0,0))
theorem BK.lt {W:World} {b:Nat} {cs:Array Value} {T:TypeId} (h:BK W b cs T):b<W.heap.size:=(Array.getElem?_eq_some_iff.1 h).1
theorem BK.set {W:World} {b:Nat} {cs:Array Value} {T:TypeId} (h:BK W b cs T) (k:Nat) (v:Value):BK (W.setCell ⟨b,k,none⟩ v) b (cs.setIfInBounds k v) T:=by
 unfold BK at *
 simp [World.setCell,Array.getElem?_modify,h]
theorem BK.far {W:World} {b c:Nat} {cs:Array Value} {T:TypeId} (h:BK W b cs T) (hne:c≠b) (k:Nat) (v:Value):BK (W.setCell ⟨c,k,none⟩ v) b cs T:=by
 unfold BK at *
 simp [World.setCell,Array.getElem?_modify,hne,h]
theorem BK.alloc {W:World} {b:Nat} {cs:Array Value} {T:TypeId} (h:BK W b cs T) (o:Obj):BK (W.alloc o) b cs T:=(Lib.alloc_old W o b h.lt).trans h
theorem BK.cell {W:World} {b:Nat} {cs:Array Value} {T:TypeId} (h:BK W b cs T) (k:Nat):W.cell? ⟨b,k,none⟩=cs[k]?:=Lib.cell_of_heap h k
theorem BK.free {W:World} {b:Nat} {cs:Array Value} {T:TypeId} (h:BK W b cs T) (k:Nat):W.frozen? ⟨b,k,none⟩=false:=Lib.frozen_of_heap h k
theorem bk_new (W:World) (cs:Array Value) (T:TypeId):BK (W.alloc (.cells cs T)) W.heap.size cs T:=heap_alloc_new W _
theorem BK.drew {W:World} {b:Nat} {cs:Array Value} {T:TypeId} (h:BK W b cs T):BK W.drew b cs T:=h
theorem BK.drewN {W:World} {b:Nat} {cs:Array Value} {T:TypeId} (h:BK W b cs T) (n:Nat):BK (W.drewN n) b cs T:=h
abbrev GB (W W':World) (rb:Nat):Prop:=W.grownBy W' (some rb)
section
variable {W W1 W2 : World} {rb : Nat}
theorem gb_refl (W:World) (rb:Nat):GB W W rb:=World.grownBy.refl W _
theorem gb_trans (h:GB W W1 rb) (g:GB W1 W2 rb):GB W W2 rb:=
 ⟨g.os.trans h.os,g.tape.trans h.tape,g.output.trans h.output,Nat.le_trans h.size g.size,fun k hk hne=>(g.block k (Nat.lt_of_lt_of_le hk h.size) hne).trans (h.block k hk hne)⟩
theorem gb_below (h:GB W W1 rb) (g:Below W1.heap.size W1 W2):GB W W2 rb:=gb_trans h ⟨g.os,g.tape,g.output,g.size,fun k hk _=>g.block k hk⟩
theorem gb_alloc (h:GB W W1 rb) (o:Obj):GB W (W1.alloc o) rb:=gb_below h (bal (Below.refl _ _) _)
theorem gb_set (h:GB W W1 rb) (b o:Nat) (v:Value) (hb:b=rb∨W.heap.size≤b):GB W (W1.setCell ⟨b,o,none⟩ v) rb:=by
 refine ⟨h.os,h.tape,h.output,by simpa [World.setCell] using h.size,fun k hk hne=>?_⟩
 rw [Below.heap_setCell W1 ⟨b,o,none⟩ v k (fun e=>by
  have e:k=b:=e
  rcases hb with rfl | hb
  ·exact hne (by rw [e])
  ·omega)]
 exact h.block k hk hne
theorem gb_drewN (h:GB W W1 rb) (n:Nat):GB W (W1.drewN n) rb:=⟨h.os,h.tape,h.output,h.size,h.block⟩
theorem gb_drew (h:GB W W1 rb):GB W W1.drew rb:=⟨h.os,h.tape,h.output,h.size,h.block⟩
theorem gb_bk (h:GB W W1 rb) {b:Nat} {cs:Array Value} {T:TypeId} (hb:BK W b cs T) (hne:b≠rb):BK W1 b cs T:=(h.block b hb.lt (fun e=>hne (Option.some.inj e))).trans hb
end
theorem own_shape {W:World} {B T c n:Nat} {v:Value} {xs:List Value} (h:W.ownsRow B T c v n xs):∃a k,v=.slice a n k:=by
 rcases h.2 with ⟨rfl,e⟩ | ⟨g,cap,cur,rfl,_⟩
 ·exact ⟨_,_,by rw [e]⟩
 ·exact ⟨_,_,rfl⟩
theorem own_kept {W W':World} {B T c n:Nat} {v:Value} {xs:List Value} {row:Option Nat} (h:W.ownsRow B T c v n xs) (hg:W.grownBy W' row) (hne:∀g,v.ownBlock=some g→some g≠row):W'.ownsRow B T c v n xs:=
 h.kept hg (by
  cases e:v.ownBlock with
  | none=>exact .inl rfl
  | some g=>exact .inr (hne g e))
theorem own_below {W W':World} {B T c n:Nat} {v:Value} {xs:List Value} (h:W.ownsRow B T c v n xs) (hb:Below W.heap.size W W'):W'.ownsRow B T c v n xs:=own_kept h (grown_of hb) (fun g _ e=>by cases e)
theorem own_ty {W:World} {B T c n g:Nat} {v:Value} {xs:List Value} (h:W.ownsRow B T c v n xs) (hg:v.ownBlock=some g):∃cs,W.heap[g]?=some (.cells cs T (0,0)):=by
 rcases h.2 with ⟨rfl,_⟩ | ⟨g',cap,cur,rfl,_,hh,_⟩
 ·cases hg
 ·cases hg;exact ⟨_,hh⟩
theorem own_ne {W:World} {B T T' c n b:Nat} {v:Value} {xs:List Value} {cs:Array Value} (h:W.ownsRow B T c v n xs) (hb:BK W b cs T') (ht:T≠T'):∀g,v.ownBlock=some g→some g≠some b:=fun g hg e=>by
 obtain ⟨cs',h1⟩:=own_ty h hg
 rw [Option.some.inj e] at h1
 have h2:W.heap[b]?=some (.cells cs T' (0,0)):=hb
 rw [h2] at h1
 cases h1
 exact ht rfl
theorem own_mono {W:World} {B B' T c n:Nat} {v:Value} {xs:List Value} (h:W.ownsRow B T c v n xs) (hb:B'≤B):W.ownsRow B' T c v n xs:=by
 refine ⟨h.1,?_⟩
 rcases h.2 with h | ⟨g,cap,cur,e,h1,r⟩
 ·exact .inl h
 ·exact .inr ⟨g,cap,cur,e,Nat.le_trans hb h1,r⟩
theorem own_setc {W:World} {B T c g n cap k:Nat} {xs:List Value} (h:W.ownsRow B T c (.slice (some ⟨g,0,none⟩) n cap) n xs) (_hk:k<n*c) (u:Value):(W.setCell ⟨g,k,none⟩ u).ownsRow B T c (.slice (some ⟨g,0,none⟩) n cap) n (xs.set k u):=by
 refine ⟨by rw [List.length_set];exact h.1,?_⟩
 rcases h.2 with ⟨e,_⟩ | ⟨g',cap',cur,e,hb,hg,hn,hm,hs,ht⟩
 ·cases e
 ·cases e
  refine .inr ⟨g,cap,cur.setIfInBounds k u,rfl,hb,?_,hn,hm,by rw [Array.size_setIfInBounds];exact hs,?_⟩
  ·simp [World.setCell,Array.getElem?_modify,hg]
  ·rw [Array.toList_setIfInBounds,←ht,List.take_set]
theorem own_at {W:World} {B T c n:Nat} {v:Value} {xs:List Value} (h:W.ownsRow B T c v n xs) (hn:0<n):∃g cap,v=.slice (some ⟨g,0,none⟩) n cap∧n≤cap∧(∀k,W.frozen? ⟨g,k,none⟩=false)∧(∀k (hk:k<xs.length),W.cell? ⟨g,k,none⟩=some xs[k])∧B≤g∧g<W.heap.size:=by
 rcases h.2 with ⟨_,e⟩ | ⟨g,cap,cur,e,hb,hg,hnc,hm,hs,ht⟩
 ·omega
 ·subst e
  refine ⟨g,cap,rfl,hnc,fun k=>by simp [World.frozen?,hg],fun k hk=>?_,hb,(Array.getElem?_eq_some_iff.1 hg).1⟩
  have:=h.cells (g:=g) rfl k xs[k] (List.getElem?_eq_getElem hk)
  rw [WideShapes.add_plain,Nat.zero_add] at this
  exact this
theorem own_len2 {W:World} {B T c n:Nat} {v:Value} {xs:List Value} (h:W.ownsRow B T c v n xs):n≤9223372036854775807:=by
 rcases h.2 with ⟨_,rfl⟩ | ⟨g,cap,cur,_,_,_,h1,h2,_⟩
 ·omega
 ·unfold maxLen at h2;omega
theorem step_own {P:Program} {w:World} {ops:Array Oper} {o:Oper} {a:Act} {K:Act→World→Prop} {Q:Exit→Act→World→Prop} {E:Prop} (hgd:o.guard=none) (s x:Operand) (t:TypeId)
  (ho:o.op=.call { callee:=.builtin .append,args:=#[s,x],argTypes:=#[t,t] })
  (base:Nat) (e:TypeId) (i:TypeInfo) (z:Value) (size bytes:Nat) (ht:P.underlying t=some (.slice e)) (hi:P.info? e=some i) (hz:i.zero=some z)
  (hsize:i.size=size) (hby:i.bytes=bytes) (hzs:z.cells.size=size) (hsz:0<size)
  (v:Value) (n:Nat) (xs:List Value) (hs:a.eval s=v) (hown:w.ownsRow base e size v n xs)
  (ad:Addr) (m c:Nat) (news:List Value) (hx:a.eval x=.slice (some ad) m c) (hl:news.length=m*size) (hnews:∀j u,news[j]?=some u→w.cell? (ad.add j)=some u) (h1:∀u∈news,u.oneCell'=true)
  (h63:n+m≤maxLen) (hbytes:(n+m)*bytes≤140737488355328) (hbase:base≤w.heap.size)
  (h:∀v' w',w'.ownsRow base e size v' (n+m) (xs++news)→w.grownBy w' v.ownBlock→(v'.ownBlock=v.ownBlock∨v'.ownBlock=some w.heap.size)→K (a.put o.dst v') w') :
  if Region.wanted o (yielded ops a.tmps)=true then Oper.wp P o a w K Q else E:=by
 have hw:Region.wanted o (yielded ops a.tmps)=true:=by simp [Region.wanted,hgd]
 rw [if_pos hw]
 obtain ⟨v',w',hr,h2,h3,h4,h5⟩:=run_append_own_at (P:=P) w base t o.type e i z size bytes ht hi hz hsize hby hzs hsz v n xs hown ad m c news hl hnews h1 h63 hbytes hbase
 unfold Oper.wp execOp
 simp only [ho,resolve,invoke,builtin,Sem.run_bind,Sem.run_pure,Result.andThen_ok,List.map_toArray,List.map_cons,List.map_nil,hs,hx,hr]
 exact h v' w' h2 h3 h5
theorem ne_lit {k:ByteArray} {x:Array UInt8} (h:k≠⟨x⟩):(k.toList==x.toList)=false:=by
 rw [ByteArray.toList_eq]
 simp only [beq_eq_false_iff_ne,ne_eq]
 intro e
 exact h (ByteArray.ext (Array.ext' e))
theorem beq_str (a b:ByteArray):(a.toList==b.toList)=decide (a=b):=by
 rw [ByteArray.toList_eq,ByteArray.toList_eq]
 by_cases h:a=b
 ·rw [decide_eq_true h,h];simp
 ·rw [decide_eq_false h]
  simp only [beq_eq_false_iff_ne,ne_eq]
  intro e
  exact h (ByteArray.ext (Array.ext' e))
theorem two_box {w w1:World} {cs ds:Array Value} {T U:TypeId} (h:Below ((w.alloc (.cells cs T)).alloc (.cells ds U)).heap.size ((w.alloc (.cells cs T)).alloc (.cells ds U)) w1):BK w1 w.heap.size cs T∧BK w1 (w.heap.size+1) ds U:=by
 have e:=(bk_new w cs T).alloc (.cells ds U)
 have e2:=bk_new (w.alloc (.cells cs T)) ds U
 rw [show (w.alloc (.cells cs T)).heap.size=w.heap.size+1 by simp] at e2
 exact ⟨(h.block _ e.lt).trans e,(h.block _ e2.lt).trans e2⟩
theorem one_box {w w1:World} {cs:Array Value} {T:TypeId} (h:Below (w.alloc (.cells cs T)).heap.size (w.alloc (.cells cs T)) w1):BK w1 w.heap.size cs T:=
 (h.block _ (bk_new w cs T).lt).trans (bk_new w cs T)
end Go.Proofs.YtdjfpghgklkejaaGreatDoor
namespace Go.Proofs.YtdjfpghgklkejaaGreatDoor
def cb (s:ByteArray) (k:Nat):Nat:=if h:k<s.size then s[k].toNat else 256
theorem cb_at {s:ByteArray} {k:Nat} (h:k<s.size):cb s k=s[k].toNat:=dif_pos h
theorem cb_out {s:ByteArray} {k:Nat} (h:¬k<s.size):cb s k=256:=dif_neg h
def isL (c:Nat):Bool:=(decide (97≤c)&&decide (c≤122)) || (decide (65≤c)&&decide (c≤90)) || decide (c=95)
def isD (c:Nat):Bool:=decide (48≤c)&&decide (c≤57)
def isB (c:Nat):Bool:=decide (c=9) || decide (c=10) || decide (c=13) || decide (c=32)
def isS (c:Nat):Bool:=decide (c=123) || decide (c=125) || decide (c=91) || decide (c=93) || decide (c=59) || decide (c=44)
def isN (c:Nat):Bool:=isL c || isD c
def isR (c:Nat):Bool:=decide (c≠10)&&decide (c<256)
theorem isL_p {c:Nat}:isL c=true↔(97≤c∧c≤122)∨(65≤c∧c≤90)∨c=95:=by simp [isL,or_assoc]
theorem isD_p {c:Nat}:isD c=true↔48≤c∧c≤57:=by simp [isD]
theorem isB_p {c:Nat}:isB c=true↔c=9∨c=10∨c=13∨c=32:=by simp [isB,or_assoc]
theorem isS_p {c:Nat}:isS c=true↔c=123∨c=125∨c=91∨c=93∨c=59∨c=44:=by simp [isS,or_assoc]
theorem isN_p {c:Nat}:isN c=true↔isL c=true∨isD c=true:=by simp [isN]
theorem isR_p {c:Nat}:isR c=true↔c≠10∧c<256:=by simp [isR]
theorem fls {b:Bool} (h:¬b=true):b=false:=by simpa using h
structure End (p:Nat→Bool) (s:ByteArray) (i j:Nat):Prop where
 le:i≤j
 sz:j≤s.size
 all:∀k,i≤k→k<j→p (cb s k)=true
 no:p (cb s j)=false
theorem End.unique {p:Nat→Bool} {s:ByteArray} {i j j':Nat} (h:End p s i j) (h':End p s i j'):j=j':=by
 rcases Nat.lt_trichotomy j j' with g | g | g
 ·have:=h'.all j h.le g
  rw [h.no] at this
  exact absurd this (by decide)
 ·exact g
 ·have:=h.all j' h'.le g
  rw [h'.no] at this
  exact absurd this (by decide)
def runF (p:Nat→Bool) (s:ByteArray):Nat→Nat→Nat
 | 0,i=>i
 | n+1,i=>if p (cb s i)=true then runF p s n (i+1) else i
def run (p:Nat→Bool) (s:ByteArray) (i:Nat):Nat:=runF p s (s.size-i) i
theorem runF_end {p:Nat→Bool} (h6:p 256=false) (s:ByteArray):∀n i,i≤s.size→n=s.size-i→End p s i (runF p s n i):=by
 intro n
 induction n with
 | zero=>intro i hi hn;exact ⟨Nat.le_refl _,hi,fun k h1 h2=>absurd h2 (by show ¬k<i;omega),by show p (cb s i)=false;rw [cb_out (by omega)];exact h6⟩
 | succ n ih=>
  intro i hi hn
  unfold runF
  by_cases hp:p (cb s i)=true
  ·rw [if_pos hp]
   have h:=ih (i+1) (by omega) (by omega)
   refine ⟨by have:=h.le;omega,h.sz,fun k h1 h2=>?_,h.no⟩
   by_cases e:k=i
   ·rw [e];exact hp
   ·exact h.all k (by omega) h2
  ·rw [if_neg hp]
   exact ⟨Nat.le_refl _,hi,fun k h1 h2=>absurd h2 (by omega),fls hp⟩
theorem run_end {p:Nat→Bool} (h6:p 256=false) {s:ByteArray} {i:Nat} (hi:i≤s.size):End p s i (run p s i):=runF_end h6 s _ i hi rfl
theorem isR6:isR 256=false:=by decide
theorem isN6:isN 256=false:=by decide
theorem isD6:isD 256=false:=by decide
theorem End.run {p:Nat→Bool} {s:ByteArray} {i j:Nat} (h:End p s i j) (h6:p 256=false):run p s i=j:=(run_end h6 (Nat.le_trans h.le h.sz)).unique h
theorem End.lt {p:Nat→Bool} {s:ByteArray} {i j:Nat} (h:End p s i j) (hp:p (cb s i)=true):i<j:=by
 rcases Nat.lt_or_ge i j with g | g
 ·exact g
 ·have e:i=j:=Nat.le_antisymm h.le g
  rw [e,h.no] at hp
  exact absurd hp (by decide)
theorem in_of {p:Nat→Bool} {s:ByteArray} {i:Nat} (h6:p 256=false) (hp:p (cb s i)=true):i<s.size:=by
 by_cases h:i<s.size
 ·exact h
 ·rw [cb_out h,h6] at hp
  exact absurd hp (by decide)
structure Tk where
 k:Int
 t:ByteArray
 p:Int
def tok (s:ByteArray) (k:Nat) (i j:Nat):Tk:=⟨k,s.extract i j,i⟩
def TokAt (s:ByteArray) (k i j:Nat):Prop:=
 (k=1∧isL (cb s i)=true∧End isN s i j)∨(k=2∧isD (cb s i)=true∧End isD s i j∧isL (cb s j)=false)∨(k=3∧isS (cb s i)=true∧j=i+1)
def step (s:ByteArray) (x:Nat × List Tk):Nat × List Tk:=
 if isB (cb s x.1)=true then (x.1+1,x.2)
 else if cb s x.1=35 then (run isR s x.1,x.2)
 else if isL (cb s x.1)=true then (run isN s x.1,x.2++[tok s 1 x.1 (run isN s x.1)])
 else if isD (cb s x.1)=true then (if isL (cb s (run isD s x.1))=true then x else (run isD s x.1,x.2++[tok s 2 x.1 (run isD s x.1)]))
 else if isS (cb s x.1)=true then (x.1+1,x.2++[tok s 3 x.1 (x.1+1)])
 else x
def it (s:ByteArray):Nat→Nat × List Tk
 | 0=>(0,[])
 | n+1=>step s (it s n)
def Pre (s:ByteArray) (i:Nat) (l:List Tk):Prop:=∃n,it s n=(i,l)
theorem Pre.zero (s:ByteArray):Pre s 0 []:=⟨0,rfl⟩
theorem Pre.next {s:ByteArray} {i:Nat} {l:List Tk} (h:Pre s i l) {i':Nat} {l':List Tk} (e:step s (i,l)=(i',l')):Pre s i' l':=by
 obtain ⟨n,hn⟩:=h
 exact ⟨n+1,by rw [←e,←hn];rfl⟩
theorem nB_of_L {c:Nat} (h:isL c=true):¬isB c=true∧¬c=35∧¬isD c=true∧¬isS c=true:=by rw [isB_p,isD_p,isS_p];rw [isL_p] at h;omega
theorem nB_of_D {c:Nat} (h:isD c=true):¬isB c=true∧¬c=35∧¬isL c=true∧¬isS c=true:=by rw [isB_p,isL_p,isS_p];rw [isD_p] at h;omega
theorem nB_of_S {c:Nat} (h:isS c=true):¬isB c=true∧¬c=35∧¬isL c=true∧¬isD c=true:=by rw [isB_p,isL_p,isD_p];rw [isS_p] at h;omega
section
variable {s : ByteArray} {i j : Nat} {l : List Tk}
theorem step_blank (hb:isB (cb s i)=true):step s (i,l)=(i+1,l):=by unfold step;rw [if_pos hb]
theorem step_remark (h:cb s i=35) (he:End isR s i j):step s (i,l)=(j,l):=by
 unfold step
 rw [if_neg (by rw [isB_p];show ¬(cb s i=9∨cb s i=10∨cb s i=13∨cb s i=32);omega),if_pos h]
 show (run isR s i,l)=_
 rw [he.run isR6]
theorem step_tok {k:Nat} (h:TokAt s k i j):step s (i,l)=(j,l++[tok s k i j]):=by
 unfold step
 rcases h with ⟨rfl,h,he⟩ | ⟨rfl,h,he,hn⟩ | ⟨rfl,h,rfl⟩
 ·obtain ⟨h1,h2,h3,h4⟩:=nB_of_L h
  rw [if_neg h1,if_neg h2,if_pos h]
  show (run isN s i,l++[tok s 1 i (run isN s i)])=_
  rw [he.run isN6]
 ·obtain ⟨h1,h2,h3,h4⟩:=nB_of_D h
  rw [if_neg h1,if_neg h2,if_neg h3,if_pos h]
  show (if isL (cb s (run isD s i))=true then (i,l) else (run isD s i,l++[tok s 2 i (run isD s i)]))=_
  rw [he.run isD6,if_neg (by rw [hn];decide)]
 ·obtain ⟨h1,h2,h3,h4⟩:=nB_of_S h
  rw [if_neg h1,if_neg h2,if_neg h3,if_neg h4,if_pos h]
def Bad (s:ByteArray) (i j:Nat):Prop:=
 (isD (cb s i)=true∧End isD s i j∧isL (cb s j)=true)∨(i<s.size∧j=i∧isB (cb s i)=false∧cb s i≠35∧isL (cb s i)=false∧isD (cb s i)=false∧isS (cb s i)=false)
theorem step_bad (h:Bad s i j):step s (i,l)=(i,l):=by
 unfold step
 rcases h with ⟨h,he,hn⟩ | ⟨_,_,h1,h2,h3,h4,h5⟩
 ·obtain ⟨h1,h2,h3,h4⟩:=nB_of_D h
  rw [if_neg h1,if_neg h2,if_neg h3,if_pos h]
  show (if isL (cb s (run isD s i))=true then (i,l) else (run isD s i,l++[tok s 2 i (run isD s i)]))=_
  rw [he.run isD6,if_pos hn]
 ·show (if isB (cb s i)=true then (i+1,l) else if cb s i=35 then (run isR s i,l) else if isL (cb s i)=true then (run isN s i,l++[tok s 1 i (run isN s i)]) else if isD (cb s i)=true then (if isL (cb s (run isD s i))=true then (i,l) else (run isD s i,l++[tok s 2 i (run isD s i)])) else if isS (cb s i)=true then (i+1,l++[tok s 3 i (i+1)]) else (i,l))=(i,l)
  rw [if_neg (by rw [h1];decide),if_neg h2,if_neg (by rw [h3];decide),if_neg (by rw [h4];decide),if_neg (by rw [h5];decide)]
theorem step_end:step s (s.size,l)=(s.size,l):=by
 unfold step
 show (if isB (cb s s.size)=true then (s.size+1,l) else if cb s s.size=35 then (run isR s s.size,l) else if isL (cb s s.size)=true then (run isN s s.size,l++[tok s 1 s.size (run isN s s.size)]) else if isD (cb s s.size)=true then (if isL (cb s (run isD s s.size))=true then (s.size,l) else (run isD s s.size,l++[tok s 2 s.size (run isD s s.size)])) else if isS (cb s s.size)=true then (s.size+1,l++[tok s 3 s.size (s.size+1)]) else (s.size,l))=(s.size,l)
 rw [cb_out (Nat.lt_irrefl _),if_neg (by decide),if_neg (by decide),if_neg (by decide),if_neg (by decide),if_neg (by decide)]
theorem Pre.blank (h:Pre s i l) (hb:isB (cb s i)=true):Pre s (i+1) l:=h.next (step_blank hb)
theorem Pre.remark (h:Pre s i l) (h35:cb s i=35) (he:End isR s i j):Pre s j l:=h.next (step_remark h35 he)
theorem Pre.put {k:Nat} (h:Pre s i l) (ht:TokAt s k i j):Pre s j (l++[tok s k i j]):=h.next (step_tok ht)
end
theorem ways (s:ByteArray) (i:Nat) (hi:i<s.size):isB (cb s i)=true∨(cb s i=35∧End isR s i (run isR s i))∨(∃k j,TokAt s k i j)∨∃j,Bad s i j:=by
 by_cases h1:isB (cb s i)=true
 ·exact .inl h1
 by_cases h2:cb s i=35
 ·exact .inr (.inl ⟨h2,run_end isR6 (by omega)⟩)
 by_cases h3:isL (cb s i)=true
 ·exact .inr (.inr (.inl ⟨1,_,.inl ⟨rfl,h3,run_end isN6 (by omega)⟩⟩))
 by_cases h4:isD (cb s i)=true
 ·by_cases h5:isL (cb s (run isD s i))=true
  ·exact .inr (.inr (.inr ⟨_,.inl ⟨h4,run_end isD6 (by omega),h5⟩⟩))
  ·exact .inr (.inr (.inl ⟨2,_,.inr (.inl ⟨rfl,h4,run_end isD6 (by omega),fls h5⟩)⟩))
 by_cases h5:isS (cb s i)=true
 ·exact .inr (.inr (.inl ⟨3,_,.inr (.inr ⟨rfl,h5,rfl⟩)⟩))
 ·exact .inr (.inr (.inr ⟨i,.inr ⟨hi,rfl,fls h1,h2,fls h3,fls h4,fls h5⟩⟩))
theorem TokAt.lt {s:ByteArray} {k i j:Nat} (h:TokAt s k i j):i<j:=by
 rcases h with ⟨rfl,h,he⟩ | ⟨rfl,h,he,hn⟩ | ⟨rfl,h,rfl⟩
 ·exact he.lt (by unfold isN;rw [h];rfl)
 ·exact he.lt h
 ·omega
theorem TokAt.sz {s:ByteArray} {k i j:Nat} (h:TokAt s k i j):j≤s.size:=by
 rcases h with ⟨rfl,h,he⟩ | ⟨rfl,h,he,hn⟩ | ⟨rfl,h,rfl⟩
 ·exact he.sz
 ·exact he.sz
 ·exact in_of (p:=isS) (by decide) h
theorem remark_lt {s:ByteArray} {i j:Nat} (h:cb s i=35) (he:End isR s i j):i<j:=he.lt (by rw [h];decide)
theorem Pre.ind {s:ByteArray} {R:Nat→List Tk→Prop} (h0:R 0 []) (hB:∀i l,isB (cb s i)=true→R i l→R (i+1) l) (hR:∀i j l,cb s i=35→End isR s i j→R i l→R j l)
  (hT:∀i j l k,TokAt s k i j→R i l→R j (l++[tok s k i j])):∀ {i l},Pre s i l→i≤s.size∧R i l:=by
 intro i l ⟨n,hn⟩
 induction n generalizing i l with
 | zero=>cases hn;exact ⟨Nat.zero_le _,h0⟩
 | succ n ih=>
  generalize hx:it s n=x at *
  obtain ⟨a,m⟩:=x
  obtain ⟨h1,h2⟩:=ih rfl
  have hs:step s (a,m)=(i,l):=by rw [←hn];show _=step s (it s n);rw [hx]
  by_cases ha:a<s.size
  ·rcases ways s a ha with hb | ⟨hc,he⟩ | ⟨k,j,ht⟩ | ⟨j,hj⟩
   ·rw [step_blank hb] at hs
    cases hs
    exact ⟨ha,hB _ _ hb h2⟩
   ·rw [step_remark hc he] at hs
    cases hs
    exact ⟨he.sz,hR _ _ _ hc he h2⟩
   ·rw [step_tok ht] at hs
    cases hs
    exact ⟨ht.sz,hT _ _ _ _ ht h2⟩
   ·rw [step_bad hj] at hs
    cases hs
    exact ⟨h1,h2⟩
  ·obtain rfl:a=s.size:=by omega
   rw [step_end] at hs
   cases hs
   exact ⟨h1,h2⟩
theorem it_stays {s:ByteArray} {n:Nat} {x:Nat × List Tk} (h:it s n=x) (hx:step s x=x):∀m,it s (n+m)=x:=by
 intro m
 induction m with
 | zero=>exact h
 | succ m ih=>show step s (it s (n+m))=x;rw [ih];exact hx
theorem Pre.unique {s:ByteArray} {i i':Nat} {l l':List Tk} (h:Pre s i l) (h':Pre s i' l') (e:step s (i,l)=(i,l)) (e':step s (i',l')=(i',l')):i=i'∧l=l':=by
 obtain ⟨n,hn⟩:=h
 obtain ⟨m,hm⟩:=h'
 have h1:=it_stays hn e m
 have h2:=it_stays hm e' n
 rw [Nat.add_comm m n,h1] at h2
 cases h2
 exact ⟨rfl,rfl⟩
theorem Bad.unique {s:ByteArray} {i j j':Nat} (h:Bad s i j) (h':Bad s i j'):j=j':=by
 rcases h with ⟨h,he,hn⟩ | ⟨_,e,_,_,_,h4,_⟩ <;> rcases h' with ⟨h',he',hn'⟩ | ⟨_,e',_,_,_,h4',_⟩
 ·exact he.unique he'
 ·rw [h] at h4';exact absurd h4' (by decide)
 ·rw [h'] at h4;exact absurd h4 (by decide)
 ·rw [e,e']
theorem Bad.lt {s:ByteArray} {i j:Nat} (h:Bad s i j):i<s.size:=by
 rcases h with ⟨h,he,hn⟩ | ⟨h,_⟩
 ·exact in_of isD6 h
 ·exact h
theorem Bad.sz {s:ByteArray} {i j:Nat} (h:Bad s i j):j<s.size:=by
 rcases h with ⟨h,he,hn⟩ | ⟨h,rfl,_⟩
 ·exact in_of (p:=isL) (by decide) hn
 ·exact h
def Out (s:ByteArray) (l:List Tk) (a e:Nat):Prop:=
 (65536<s.size∧l=[]∧a=0∧e=1)∨(s.size≤65536∧Pre s s.size l∧a=0∧e=0)∨(s.size≤65536∧l=[]∧e=90∧∃i m,Pre s i m∧Bad s i a)
theorem Out.unique {s:ByteArray} {l l':List Tk} {a a' e e':Nat} (h:Out s l a e) (h':Out s l' a' e'):l=l'∧a=a'∧e=e':=by
 rcases h with ⟨hs,rfl,rfl,rfl⟩ | ⟨hs,hp,rfl,rfl⟩ | ⟨hs,rfl,rfl,i,m,hp,hb⟩ <;> rcases h' with ⟨hs',rfl,rfl,rfl⟩ | ⟨hs',hp',rfl,rfl⟩ | ⟨hs',rfl,rfl,i',m',hp',hb'⟩
 ·exact ⟨rfl,rfl,rfl⟩
 ·omega
 ·omega
 ·omega
 ·exact ⟨(hp.unique hp' step_end step_end).2,rfl,rfl⟩
 ·have e:=(hp.unique hp' step_end (step_bad hb')).1
  have:=hb'.lt
  omega
 ·omega
 ·have e:=(hp.unique hp' (step_bad hb) step_end).1
  have:=hb.lt
  omega
 ·have e:=(hp.unique hp' (step_bad hb) (step_bad hb')).1
  subst e
  exact ⟨rfl,hb.unique hb',rfl⟩
theorem Pre.count {s:ByteArray} {i:Nat} {l:List Tk} (h:Pre s i l):l.length≤i:=
 (Pre.ind (R:=fun i l=>l.length≤i) (Nat.le_refl _) (fun _ _ _ h=>by omega) (fun i j l hc he h=>by have:=remark_lt hc he;omega) (fun i j l k ht h=>by have:=ht.lt;rw [List.length_append];show l.length+1≤j;omega) h).2
def nmB (s:ByteArray):Bool:=isL (cb s 0)&&decide (run isN s 0=s.size)
def nuB (s:ByteArray):Bool:=decide (0<s.size)&&decide (run isD s 0=s.size)
def sgB (s:ByteArray):Bool:=decide (s.size=1)&&isS (cb s 0)
def rightB (t:Tk):Bool:=if t.k=1 then nmB t.t else if t.k=2 then nuB t.t else if t.k=3 then sgB t.t else false
def AllR (l:List Tk):Prop:=∀k (h:k<l.length),rightB l[k]=true
theorem size_ext (s:ByteArray) (a j:Nat) (hj:j≤s.size):(s.extract a j).size=j-a:=by
 rw [ByteArray.size_extract];omega
theorem cb_ext {s:ByteArray} {a j m:Nat} (hj:j≤s.size) (hm:a+m<j):cb (s.extract a j) m=cb s (a+m):=by
 rw [cb_at (show m<(s.extract a j).size by rw [size_ext s a j hj];omega),cb_at (show a+m<s.size by omega)]
 rw [ByteArray.getElem_extract]
theorem cb_list (s:ByteArray) (m:Nat):cb s m=(s.data.toList[m]?.map UInt8.toNat).getD 256:=by
 have hz:s.data.toList.length=s.size:=rfl
 by_cases h:m<s.size
 ·rw [cb_at h,List.getElem?_eq_getElem (by rw [hz];exact h)]
  rfl
 ·rw [cb_out h,List.getElem?_eq_none (by rw [hz];omega)]
  rfl
theorem TokAt.right {s:ByteArray} {k i j:Nat} (h:TokAt s k i j):rightB (tok s k i j)=true:=by
 have hij:=h.lt
 have hjs:=h.sz
 have hz:=size_ext s i j hjs
 have c0:cb (s.extract i j) 0=cb s i:=by rw [cb_ext hjs (by omega),Nat.add_zero]
 have sub:∀p:Nat→Bool,p 256=false→(∀m,i≤m→m<j→p (cb s m)=true)→run p (s.extract i j) 0=(s.extract i j).size:=fun p h6 ha=>by
  refine End.run ⟨Nat.zero_le _,Nat.le_refl _,fun m _ hm=>?_,?_⟩ h6
  ·rw [cb_ext hjs (by omega)]
   exact ha _ (by omega) (by omega)
  ·rw [cb_out (Nat.lt_irrefl _)]
   exact h6
 rcases h with ⟨rfl,h,he⟩ | ⟨rfl,h,he,hn⟩ | ⟨rfl,h,rfl⟩
 ·show nmB (s.extract i j)=true
  unfold nmB
  rw [c0,h,sub isN isN6 he.all]
  simp
 ·show nuB (s.extract i j)=true
  unfold nuB
  rw [sub isD isD6 he.all]
  simp
  omega
 ·show sgB (s.extract i (i+1))=true
  unfold sgB
  rw [c0,h,hz]
  simp
theorem Pre.right {s:ByteArray} {i:Nat} {l:List Tk} (h:Pre s i l):AllR l:=
 (Pre.ind (R:=fun _ l=>AllR l) (fun k h=>absurd h (Nat.not_lt_zero _)) (fun _ _ _ h=>h) (fun _ _ _ _ _ h=>h) (fun i j l k ht h m hm=>by
  rw [List.length_append] at hm
  simp only [List.length_cons,List.length_nil] at hm
  by_cases e:m<l.length
  ·rw [List.getElem_append_left e];exact h m e
  ·obtain rfl:m=l.length:=by omega
   have e1:(l++[tok s k i j])[l.length]'(by simp)=tok s k i j:=by simp
   rw [e1]
   exact ht.right) h).2
end Go.Proofs.YtdjfpghgklkejaaGreatDoor
