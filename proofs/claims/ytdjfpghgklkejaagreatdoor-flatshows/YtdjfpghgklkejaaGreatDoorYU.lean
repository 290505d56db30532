/-
  Put together of: LB0 Z0 KG2 Z1 FS HN.
-/
import Derived.Test.YtdjfpghgklkejaaGreatDoorXB
import Derived.Lib.ItoaMem
import Derived.Deep.RegionHeld3
import Derived.Test.YtdjfpghgklkejaaGreatDoorXE
import Derived.KernelRfl
import Derived.Shelf.Sort.Plain
import Derived.Shelf.Slices.Clone
import Derived.Shelf.Slices.CompactI
import Derived.Shelf.Slices.In.SortNone
import Derived.Test.YtdjfpghgklkejaaGreatDoorXA
import Derived.Test.YtdjfpghgklkejaaGreatDoorXD
import Derived.ProofKit
import Derived.OpenShut
import Derived.Carry
import Derived.ChangeMaps5
import Derived.Deep.Strs
import Derived.Deep.Fields
namespace Go.Proofs.YtdjfpghgklkejaaGreatDoor
def numOk (n:Int):Bool:=decide (0≤n)&&decide (n≤9007199254740991)
def plnN (s:ByteArray):Bool:=nmB s&&!ownB s
def argOk (ix:Bool) (a:Ar):Bool:=plnN a.n&&(decide (a.x= -1) || (ix&&numOk a.x))
def fitB (r:Rw) (sh:Sh):Bool:=
 (if sh.name=true then plnN r.name else decide (r.name=⟨#[]⟩))&&(if sh.num=true then numOk r.num else decide (r.num=0)) &&
  (decide (sh.args= -1) || decide ((r.args.length:Int)=sh.args))&&r.args.all (argOk sh.idx)
def shR (r:Rw):Sh:=(shp r.kind).getD shNone
def chk:Nat→Nat→List Rw→Bool
 | 0,_,_=>true
 | _+1,_,[]=>true
 | f+1,d,r::rs=>
  (shp r.kind).isSome&&fitB r (shR r)&&decide (0≤r.rows)&&decide (r.rows≤(rs.length:Int)) &&
   (if (shR r).body=true then decide (d<32)&&chk f (d+1) (rs.take r.rows.toNat) else decide (r.rows=0))&&chk f d (rs.drop r.rows.toNat)
abbrev numT (x:Int):ByteArray:=⟨(Lib.itoa x).toArray⟩
def tkN (s:ByteArray):Tk:=⟨1,s,0⟩
def tkD (x:Int):Tk:=⟨2,numT x,0⟩
def tkS (s:ByteArray):Tk:=⟨3,s,0⟩
def argK (a:Ar):List Tk:=tkN a.n::(if 0≤a.x then [tkS wLeft,tkD a.x,tkS wRight] else [])
def kindT (r:Rw):List Tk:=if r.kind=wUse then [] else [tkN r.kind]
def nameT (r:Rw) (sh:Sh):List Tk:=if sh.name=true then [tkN r.name] else []
def argsT (l:List Ar):List Tk:=l.flatMap argK
def numTk (r:Rw) (sh:Sh):List Tk:=if sh.num=true then [tkD r.num] else []
def headK (r:Rw) (sh:Sh):List Tk:=kindT r++(nameT r sh++(argsT r.args++(numTk r sh++[tkS (lastS sh)])))
def bodyK:Nat→List Rw→List Tk
 | 0,_=>[]
 | _+1,[]=>[]
 | f+1,r::rs=>headK r (shR r)++((if (shR r).body=true then bodyK f (rs.take r.rows.toNat)++[tkS wShut] else [])++bodyK f (rs.drop r.rows.toNat))
def sepB (last t:ByteArray):Bool:=!(decide (last=⟨#[]⟩))&&!(decide (last=wLeft))&&!(decide (t=wSemi))&&!(decide (t=wLeft))&&!(decide (t=wRight))
def tokB (last t:ByteArray):List UInt8:=(if sepB last t=true then [32] else [])++t.data.toList
def lineB:ByteArray→List Tk→List UInt8
 | _,[]=>[]
 | last,t::ts=>tokB last t.t++lineB t.t ts
def indB (d:Nat):List UInt8:=List.replicate (2*d) 32
def bodyB:Nat→Nat→List Rw→List UInt8
 | 0,_,_=>[]
 | _+1,_,[]=>[]
 | f+1,d,r::rs=>(indB d++(lineB ⟨#[]⟩ (headK r (shR r))++[10]))++((if (shR r).body=true then bodyB f (d+1) (rs.take r.rows.toNat)++(indB d++([125]++[10])) else [])++bodyB f d (rs.drop r.rows.toNat))
end Go.Proofs.YtdjfpghgklkejaaGreatDoor
namespace Go.Proofs.YtdjfpghgklkejaaGreatDoor
open Go
section
variable {P : Program} {ops : Array Oper} {Q : Exit → Act → World → Prop} {md : Region.Mode} {S : World → Prop} {z : Nat}
def zAny (P:Program) (md:Region.Mode) (ops:Array Oper) (Q:Exit→Act→World→Prop) (z:Nat) (S:World→Prop):Nat→Array Bool→Act→World→Prop
 | 0,l,a,w=>Region.ready md ops l=[]∧Q .normal a w
 | f+1,l,a,w=>(Region.ready md ops l=[]→Q .normal a w)∧∀i∈Region.ready md ops l,wpOp P ops Q i (fun a' w'=>(i≠z→S w')∧zAny P md ops Q z S f (l.setIfInBounds i true) a' w') a w
theorem any_of_z:∀(f:Nat) (l:Array Bool) (a:Act) (w:World),zAny P md ops Q z S f l a w→wpAny P md ops Q f l a w
 | 0,_,_,_,h=>h
 | f+1,_,_,_,h=>⟨h.1,fun i hi=>wpOp_mono (fun _ _ h'=>any_of_z f _ _ _ h'.2) (h.2 i hi)⟩
theorem zAny_first {i:Nat} {oi:Oper} {v:Value} (hi:ops[i]?=some oi) (hsel:∀(j:Nat) (o:Oper) cs b,ops[j]?=some o→o.op≠.select cs b)
  (hQ:∀c a w,Q (.panic c) (a.put oi.dst v) w→Q (.panic c) a w)
  (hz:∀oz,ops[z]?=some oz→∃e∈oz.after,Region.binds md e=true∧e.on=i) (f:Nat) :
  ∀(l:Array Bool) (a:Act) (w:World),
   (∀j oj,ops[j]?=some oj→j≠i→l.getD j true=false→(∀e∈oj.after,Region.binds md e=true→e.on≠i)→oi.apart ops oj=true) →
   i∈Region.ready md ops l→YieldsIf P ops S oi v a→S w →
   zAny P md ops Q z S f (l.setIfInBounds i true) (a.put oi.dst v) w→zAny P md ops Q z S (f+1) l a w:=by
 induction f with
 | zero=>
  intro l a w _ hr hy hS H
  refine ⟨fun h=>(by rw [h] at hr;cases hr),fun j hj=>?_⟩
  by_cases hji:j=i
  ·cases hji
   exact hy.wpOp hi hS ⟨fun _=>hS,H⟩
  ·exact absurd (ready_mono hj hji) (by rw [H.1];exact List.not_mem_nil)
 | succ f ih=>
  intro l a w hfree hr hy hS H
  refine ⟨fun h=>(by rw [h] at hr;cases hr),fun j hj=>?_⟩
  by_cases hji:j=i
  ·cases hji
   exact hy.wpOp hi hS ⟨fun _=>hS,H⟩
  obtain ⟨hjun,oj,hoj,hall⟩:=mem_ready.1 hj
  have hnot:∀e∈oj.after,Region.binds md e=true→e.on≠i:=fun e he hb heq=>by
   have h1:=hall e he hb
   have h0:=(mem_ready.1 hr).1
   rw [heq] at h1
   rcases Nat.lt_or_ge i l.size with h' | h'
   ·simp [h'] at h0 h1
    rw [h0] at h1
    cases h1
   ·simp [Array.getElem?_eq_none h'] at h1
  have hjz:j≠z:=fun e=>by
   obtain ⟨e',he',hb',ho'⟩:=hz oj (by rw [←e];exact hoj)
   exact hnot e' he' hb' ho'
  have h2:=wpOp_putIf hoj (hfree j oj hoj hji hjun hnot) (fun cs b=>hsel i oi cs b hi) (fun cs b=>hsel j oj cs b hoj) hQ hy (H.2 j (ready_mono hj hji))
  refine wpOp_mono (fun a' w' h3=>⟨h3.2.1,ih (l.setIfInBounds j true) a' w' (fun k ok hk hki hun hno=>?_) (ready_mono hr (Ne.symm hji)) h3.1 (h3.2.1 hjz) ?_⟩) h2
  ·refine hfree k ok hk hki ?_ hno
   by_cases hjk:j=k
   ·cases hjk
    exact hjun
   ·rwa [getD_set_ne true hjk] at hun
  ·rw [Array.setIfInBounds_comm _ _ hji]
   exact h3.2.2
def waits (md:Region.Mode) (ops:Array Oper) (z i:Nat):Bool:=match ops[z]? with | some o=>o.after.any (fun e=>Region.binds md e&&e.on==i) | none=>true
theorem waits_spec {i:Nat} (h:waits md ops z i=true):∀oz,ops[z]?=some oz→∃e∈oz.after,Region.binds md e=true∧e.on=i:=fun oz ho=>by
 simp only [waits,ho,Array.any_eq_true'] at h
 obtain ⟨e,he,h⟩:=h
 simp only [Bool.and_eq_true,beq_iff_eq] at h
 exact ⟨e,he,h⟩
theorem zAny_take {i:Nat} {oi:Oper} {v:Value} {f:Nat} {l:Array Bool} {a:Act} {w:World} (hi:ops[i]?=some oi)
  (hs:Region.noSelect ops=true) (hf:Region.free md ops l i=true) (hr:(Region.ready md ops l).contains i=true) (hwt:waits md ops z i=true)
  (hQ:∀c a w,Q (.panic c) (a.put oi.dst v) w→Q (.panic c) a w) (hy:YieldsIf P ops S oi v a) (hS:S w)
  (h:zAny P md ops Q z S f (l.setIfInBounds i true) (a.put oi.dst v) w):zAny P md ops Q z S (f+1) l a w:=
 zAny_first hi (Region.noSelect_spec hs) hQ (waits_spec hwt) f l a w (Region.free_spec hi hf) (by simpa using hr) hy hS h
def zReady (P:Program) (md:Region.Mode) (ops:Array Oper) (Q:Exit→Act→World→Prop) (z:Nat) (S:World→Prop) (f:Nat) (l:Array Bool) (a:Act) (w:World) (rs:List Nat):Prop:=
 ∀i∈rs,wpOp P ops Q i (fun a' w'=>(i≠z→S w')∧zAny P md ops Q z S f (l.setIfInBounds i true) a' w') a w
theorem zReady.nil {f:Nat} {l:Array Bool} {a:Act} {w:World}:zReady P md ops Q z S f l a w []:=fun _ h=>by cases h
theorem zReady.cons {f:Nat} {l:Array Bool} {a:Act} {w:World} {i:Nat} {o:Oper} {rs:List Nat} (ho:ops[i]?=some o)
  (h:∀K':Act→World→Prop,Shut (∀a w,(i≠z→S w)→((i≠z→S w)→zAny P md ops Q z S f (l.setIfInBounds i true) a w)→K' a w)→if Region.wanted o (yielded ops a.tmps)=true then Oper.wp P o a w K' Q else K' (a.put o.dst undef) w)
  (hs:zReady P md ops Q z S f l a w rs):zReady P md ops Q z S f l a w (i::rs):=fun j hj=>by
 rcases List.mem_cons.1 hj with rfl | hj
 ·exact wpOp_step ho (fun K' hK=>h K' (fun a w hS hW=>hK a w ⟨hS,hW hS⟩))
 ·exact hs j hj
theorem zAny_ready {rs:List Nat} {f:Nat} {l:Array Bool} {a:Act} {w:World} (hr:Region.ready md ops l=rs) (hne:rs≠[]) (h:zReady P md ops Q z S f l a w rs):zAny P md ops Q z S (f+1) l a w:=
 ⟨fun h0=>absurd (hr▸h0) hne,hr▸h⟩
theorem zAny_done {l:Array Bool} {a:Act} {w:World} (hr:Region.ready md ops l=[]) (h:Q .normal a w):∀f,zAny P md ops Q z S f l a w
 | 0=>⟨hr,h⟩
 | _+1=>⟨fun _=>h,by rw [hr];simp⟩
theorem region_z {id:Nat} {a:Act} {w:World} (z:Nat) (hm:P.follows .mixedOrders=true) (hS:S w.drew)
  (h:S w.drew→zAny P .any ops Q z S ops.size (Array.replicate ops.size false) a w.drew):(Code.region id ops true).wp P Q a w:=
 wp_region_any hm (any_of_z _ _ _ _ (h hS))
end
end Go.Proofs.YtdjfpghgklkejaaGreatDoor
namespace Go.Proofs.YtdjfpghgklkejaaGreatDoor
open Go.RowKit Go.Sort
set_option maxRecDepth 100000 in
theorem rarity_0 (w:World):Calls Tryz.prog 78 #[.string ⟨#[105]⟩] w fun e w'=>e=.returned (.int .i64 1)∧w'=w:=by
 go_enter Tryz.func78,Tryz.ntmps78
 go_wp2
 go_ret
 exact ⟨rfl,rfl⟩
set_option maxRecDepth 100000 in
theorem rarity_1 (w:World):Calls Tryz.prog 78 #[.string ⟨#[120]⟩] w fun e w'=>e=.returned (.int .i64 1)∧w'=w:=by
 go_enter Tryz.func78,Tryz.ntmps78
 go_wp2
 go_ret
 exact ⟨rfl,rfl⟩
set_option maxRecDepth 100000 in
theorem rarity_2 (w:World):Calls Tryz.prog 78 #[.string ⟨#[121]⟩] w fun e w'=>e=.returned (.int .i64 1)∧w'=w:=by
 go_enter Tryz.func78,Tryz.ntmps78
 go_wp2
 go_ret
 exact ⟨rfl,rfl⟩
set_option maxRecDepth 100000 in
theorem rarity_3 (w:World):Calls Tryz.prog 78 #[.string ⟨#[122]⟩] w fun e w'=>e=.returned (.int .i64 1)∧w'=w:=by
 go_enter Tryz.func78,Tryz.ntmps78
 go_wp2
 go_ret
 exact ⟨rfl,rfl⟩
set_option maxRecDepth 100000 in
theorem rarity_4 (w:World):Calls Tryz.prog 78 #[.string ⟨#[104]⟩] w fun e w'=>e=.returned (.int .i64 1)∧w'=w:=by
 go_enter Tryz.func78,Tryz.ntmps78
 go_wp2
 go_ret
 exact ⟨rfl,rfl⟩
set_option maxRecDepth 100000 in
theorem rarity_5 (w:World):Calls Tryz.prog 78 #[.string ⟨#[115]⟩] w fun e w'=>e=.returned (.int .i64 1)∧w'=w:=by
 go_enter Tryz.func78,Tryz.ntmps78
 go_wp2
 go_ret
 exact ⟨rfl,rfl⟩
set_option maxRecDepth 100000 in
theorem rarity_6 (w:World):Calls Tryz.prog 78 #[.string ⟨#[115,100,103]⟩] w fun e w'=>e=.returned (.int .i64 1)∧w'=w:=by
 go_enter Tryz.func78,Tryz.ntmps78
 go_wp2
 go_ret
 exact ⟨rfl,rfl⟩
set_option maxRecDepth 100000 in
theorem rarity_7 (w:World):Calls Tryz.prog 78 #[.string ⟨#[116]⟩] w fun e w'=>e=.returned (.int .i64 1)∧w'=w:=by
 go_enter Tryz.func78,Tryz.ntmps78
 go_wp2
 go_ret
 exact ⟨rfl,rfl⟩
set_option maxRecDepth 100000 in
theorem rarity_8 (w:World):Calls Tryz.prog 78 #[.string ⟨#[116,100,103]⟩] w fun e w'=>e=.returned (.int .i64 1)∧w'=w:=by
 go_enter Tryz.func78,Tryz.ntmps78
 go_wp2
 go_ret
 exact ⟨rfl,rfl⟩
set_option maxRecDepth 100000 in
theorem rarity_9 (w:World):Calls Tryz.prog 78 #[.string ⟨#[118]⟩] w fun e w'=>e=.returned (.int .i64 1)∧w'=w:=by
 go_enter Tryz.func78,Tryz.ntmps78
 go_wp2
 go_ret
 exact ⟨rfl,rfl⟩
set_option maxRecDepth 100000 in
theorem rarity_10 (w:World):Calls Tryz.prog 78 #[.string ⟨#[118,100,103]⟩] w fun e w'=>e=.returned (.int .i64 1)∧w'=w:=by
 go_enter Tryz.func78,Tryz.ntmps78
 go_wp2
 go_ret
 exact ⟨rfl,rfl⟩
set_option maxRecDepth 100000 in
theorem rarity_11 (w:World):Calls Tryz.prog 78 #[.string ⟨#[119]⟩] w fun e w'=>e=.returned (.int .i64 1)∧w'=w:=by
 go_enter Tryz.func78,Tryz.ntmps78
 go_wp2
 go_ret
 exact ⟨rfl,rfl⟩
set_option maxRecDepth 100000 in
theorem rarity_12 (w:World):Calls Tryz.prog 78 #[.string ⟨#[119,100,103]⟩] w fun e w'=>e=.returned (.int .i64 1)∧w'=w:=by
 go_enter Tryz.func78,Tryz.ntmps78
 go_wp2
 go_ret
 exact ⟨rfl,rfl⟩
set_option maxRecDepth 100000 in
theorem rarity_13 (w:World):Calls Tryz.prog 78 #[.string ⟨#[99,120]⟩] w fun e w'=>e=.returned (.int .i64 2)∧w'=w:=by
 go_enter Tryz.func78,Tryz.ntmps78
 go_wp2
 go_ret
 exact ⟨rfl,rfl⟩
set_option maxRecDepth 100000 in
theorem rarity_14 (w:World):Calls Tryz.prog 78 #[.string ⟨#[99,121]⟩] w fun e w'=>e=.returned (.int .i64 2)∧w'=w:=by
 go_enter Tryz.func78,Tryz.ntmps78
 go_wp2
 go_ret
 exact ⟨rfl,rfl⟩
set_option maxRecDepth 100000 in
theorem rarity_15 (w:World):Calls Tryz.prog 78 #[.string ⟨#[99,122]⟩] w fun e w'=>e=.returned (.int .i64 2)∧w'=w:=by
 go_enter Tryz.func78,Tryz.ntmps78
 go_wp2
 go_ret
 exact ⟨rfl,rfl⟩
set_option maxRecDepth 100000 in
theorem rarity_16 (w:World):Calls Tryz.prog 78 #[.string ⟨#[99,104]⟩] w fun e w'=>e=.returned (.int .i64 2)∧w'=w:=by
 go_enter Tryz.func78,Tryz.ntmps78
 go_wp2
 go_ret
 exact ⟨rfl,rfl⟩
set_option maxRecDepth 100000 in
theorem rarity_17 (w:World):Calls Tryz.prog 78 #[.string ⟨#[99,115]⟩] w fun e w'=>e=.returned (.int .i64 2)∧w'=w:=by
 go_enter Tryz.func78,Tryz.ntmps78
 go_wp2
 go_ret
 exact ⟨rfl,rfl⟩
set_option maxRecDepth 100000 in
theorem rarity_18 (w:World):Calls Tryz.prog 78 #[.string ⟨#[99,115,100,103]⟩] w fun e w'=>e=.returned (.int .i64 2)∧w'=w:=by
 go_enter Tryz.func78,Tryz.ntmps78
 go_wp2
 go_ret
 exact ⟨rfl,rfl⟩
set_option maxRecDepth 100000 in
theorem rarity_19 (w:World):Calls Tryz.prog 78 #[.string ⟨#[115,119,97,112]⟩] w fun e w'=>e=.returned (.int .i64 2)∧w'=w:=by
 go_enter Tryz.func78,Tryz.ntmps78
 go_wp2
 go_ret
 exact ⟨rfl,rfl⟩
set_option maxRecDepth 100000 in
theorem rarity_20 (w:World):Calls Tryz.prog 78 #[.string ⟨#[105,115,119,97,112]⟩] w fun e w'=>e=.returned (.int .i64 2)∧w'=w:=by
 go_enter Tryz.func78,Tryz.ntmps78
 go_wp2
 go_ret
 exact ⟨rfl,rfl⟩
set_option maxRecDepth 100000 in
theorem rarity_21 (w:World):Calls Tryz.prog 78 #[.string ⟨#[105,115,119,97,112,100,103]⟩] w fun e w'=>e=.returned (.int .i64 2)∧w'=w:=by
 go_enter Tryz.func78,Tryz.ntmps78
 go_wp2
 go_ret
 exact ⟨rfl,rfl⟩
set_option maxRecDepth 100000 in
theorem rarity_22 (w:World):Calls Tryz.prog 78 #[.string ⟨#[99,99,120]⟩] w fun e w'=>e=.returned (.int .i64 3)∧w'=w:=by
 go_enter Tryz.func78,Tryz.ntmps78
 go_wp2
 go_ret
 exact ⟨rfl,rfl⟩
set_option maxRecDepth 100000 in
theorem rarity_23 (w:World):Calls Tryz.prog 78 #[.string ⟨#[99,99,122]⟩] w fun e w'=>e=.returned (.int .i64 3)∧w'=w:=by
 go_enter Tryz.func78,Tryz.ntmps78
 go_wp2
 go_ret
 exact ⟨rfl,rfl⟩
set_option maxRecDepth 100000 in
theorem rarity_24 (w:World):Calls Tryz.prog 78 #[.string ⟨#[99,115,119,97,112]⟩] w fun e w'=>e=.returned (.int .i64 3)∧w'=w:=by
 go_enter Tryz.func78,Tryz.ntmps78
 go_wp2
 go_ret
 exact ⟨rfl,rfl⟩
set_option maxRecDepth 100000 in
theorem rarity_miss {s:ByteArray} (H:Miss s) (w:World):Calls Tryz.prog 78 #[.string s] w fun e w'=>e=.returned (.int .i64 0)∧w'=w:=by
 have m0:=H.m0;have m1:=H.m1;have m2:=H.m2;have m3:=H.m3;have m4:=H.m4;have m5:=H.m5;have m6:=H.m6;have m7:=H.m7;have m8:=H.m8;have m9:=H.m9;have m10:=H.m10;have m11:=H.m11;have m12:=H.m12;have m13:=H.m13;have m14:=H.m14;have m15:=H.m15;have m16:=H.m16;have m17:=H.m17;have m18:=H.m18;have m19:=H.m19;have m20:=H.m20;have m21:=H.m21;have m22:=H.m22;have m23:=H.m23;have m24:=H.m24
 clear H
 go_enter Tryz.func78,Tryz.ntmps78
 go_wp2
 go_ret
 exact ⟨rfl,rfl⟩
theorem rarity_any (s:ByteArray) (w:World):Calls Tryz.prog 78 #[.string s] w fun e w'=>e=.returned (.int .i64 (gar s:Nat))∧w'=w:=by
 rcases hit_or_miss s with h | H
 ·simp only [nms,List.mem_cons,List.not_mem_nil,or_false] at h
  rcases h with rfl | rfl | rfl | rfl | rfl | rfl | rfl | rfl | rfl | rfl | rfl | rfl | rfl | rfl | rfl | rfl | rfl | rfl | rfl | rfl | rfl | rfl | rfl | rfl | rfl
  ·rw [show gar ⟨#[105]⟩=1 by kernel_rfl];exact rarity_0 w
  ·rw [show gar ⟨#[120]⟩=1 by kernel_rfl];exact rarity_1 w
  ·rw [show gar ⟨#[121]⟩=1 by kernel_rfl];exact rarity_2 w
  ·rw [show gar ⟨#[122]⟩=1 by kernel_rfl];exact rarity_3 w
  ·rw [show gar ⟨#[104]⟩=1 by kernel_rfl];exact rarity_4 w
  ·rw [show gar ⟨#[115]⟩=1 by kernel_rfl];exact rarity_5 w
  ·rw [show gar ⟨#[115,100,103]⟩=1 by kernel_rfl];exact rarity_6 w
  ·rw [show gar ⟨#[116]⟩=1 by kernel_rfl];exact rarity_7 w
  ·rw [show gar ⟨#[116,100,103]⟩=1 by kernel_rfl];exact rarity_8 w
  ·rw [show gar ⟨#[118]⟩=1 by kernel_rfl];exact rarity_9 w
  ·rw [show gar ⟨#[118,100,103]⟩=1 by kernel_rfl];exact rarity_10 w
  ·rw [show gar ⟨#[119]⟩=1 by kernel_rfl];exact rarity_11 w
  ·rw [show gar ⟨#[119,100,103]⟩=1 by kernel_rfl];exact rarity_12 w
  ·rw [show gar ⟨#[99,120]⟩=2 by kernel_rfl];exact rarity_13 w
  ·rw [show gar ⟨#[99,121]⟩=2 by kernel_rfl];exact rarity_14 w
  ·rw [show gar ⟨#[99,122]⟩=2 by kernel_rfl];exact rarity_15 w
  ·rw [show gar ⟨#[99,104]⟩=2 by kernel_rfl];exact rarity_16 w
  ·rw [show gar ⟨#[99,115]⟩=2 by kernel_rfl];exact rarity_17 w
  ·rw [show gar ⟨#[99,115,100,103]⟩=2 by kernel_rfl];exact rarity_18 w
  ·rw [show gar ⟨#[115,119,97,112]⟩=2 by kernel_rfl];exact rarity_19 w
  ·rw [show gar ⟨#[105,115,119,97,112]⟩=2 by kernel_rfl];exact rarity_20 w
  ·rw [show gar ⟨#[105,115,119,97,112,100,103]⟩=2 by kernel_rfl];exact rarity_21 w
  ·rw [show gar ⟨#[99,99,120]⟩=3 by kernel_rfl];exact rarity_22 w
  ·rw [show gar ⟨#[99,99,122]⟩=3 by kernel_rfl];exact rarity_23 w
  ·rw [show gar ⟨#[99,115,119,97,112]⟩=3 by kernel_rfl];exact rarity_24 w
 ·have e:gar s=0:=by unfold gar;rw [H.gI];rfl
  rw [e]
  exact rarity_miss H w
set_option maxRecDepth 100000 in
theorem rhalves_0 (w:World):Calls Tryz.prog 81 #[.string ⟨#[105]⟩] w fun e w'=>e=.returned (.int .i64 0)∧w'=w:=by
 go_enter Tryz.func81,Tryz.ntmps81
 go_wp2
 go_ret
 exact ⟨rfl,rfl⟩
set_option maxRecDepth 100000 in
theorem rhalves_1 (w:World):Calls Tryz.prog 81 #[.string ⟨#[120]⟩] w fun e w'=>e=.returned (.int .i64 0)∧w'=w:=by
 go_enter Tryz.func81,Tryz.ntmps81
 go_wp2
 go_ret
 exact ⟨rfl,rfl⟩
set_option maxRecDepth 100000 in
theorem rhalves_2 (w:World):Calls Tryz.prog 81 #[.string ⟨#[121]⟩] w fun e w'=>e=.returned (.int .i64 0)∧w'=w:=by
 go_enter Tryz.func81,Tryz.ntmps81
 go_wp2
 go_ret
 exact ⟨rfl,rfl⟩
set_option maxRecDepth 100000 in
theorem rhalves_3 (w:World):Calls Tryz.prog 81 #[.string ⟨#[122]⟩] w fun e w'=>e=.returned (.int .i64 0)∧w'=w:=by
 go_enter Tryz.func81,Tryz.ntmps81
 go_wp2
 go_ret
 exact ⟨rfl,rfl⟩
set_option maxRecDepth 100000 in
theorem rhalves_4 (w:World):Calls Tryz.prog 81 #[.string ⟨#[104]⟩] w fun e w'=>e=.returned (.int .i64 1)∧w'=w:=by
 go_enter Tryz.func81,Tryz.ntmps81
 go_wp2
 go_ret
 exact ⟨rfl,rfl⟩
set_option maxRecDepth 100000 in
theorem rhalves_5 (w:World):Calls Tryz.prog 81 #[.string ⟨#[115]⟩] w fun e w'=>e=.returned (.int .i64 0)∧w'=w:=by
 go_enter Tryz.func81,Tryz.ntmps81
 go_wp2
 go_ret
 exact ⟨rfl,rfl⟩
set_option maxRecDepth 100000 in
theorem rhalves_6 (w:World):Calls Tryz.prog 81 #[.string ⟨#[115,100,103]⟩] w fun e w'=>e=.returned (.int .i64 0)∧w'=w:=by
 go_enter Tryz.func81,Tryz.ntmps81
 go_wp2
 go_ret
 exact ⟨rfl,rfl⟩
set_option maxRecDepth 100000 in
theorem rhalves_7 (w:World):Calls Tryz.prog 81 #[.string ⟨#[116]⟩] w fun e w'=>e=.returned (.int .i64 0)∧w'=w:=by
 go_enter Tryz.func81,Tryz.ntmps81
 go_wp2
 go_ret
 exact ⟨rfl,rfl⟩
set_option maxRecDepth 100000 in
theorem rhalves_8 (w:World):Calls Tryz.prog 81 #[.string ⟨#[116,100,103]⟩] w fun e w'=>e=.returned (.int .i64 0)∧w'=w:=by
 go_enter Tryz.func81,Tryz.ntmps81
 go_wp2
 go_ret
 exact ⟨rfl,rfl⟩
set_option maxRecDepth 100000 in
theorem rhalves_9 (w:World):Calls Tryz.prog 81 #[.string ⟨#[118]⟩] w fun e w'=>e=.returned (.int .i64 1)∧w'=w:=by
 go_enter Tryz.func81,Tryz.ntmps81
 go_wp2
 go_ret
 exact ⟨rfl,rfl⟩
set_option maxRecDepth 100000 in
theorem rhalves_10 (w:World):Calls Tryz.prog 81 #[.string ⟨#[118,100,103]⟩] w fun e w'=>e=.returned (.int .i64 1)∧w'=w:=by
 go_enter Tryz.func81,Tryz.ntmps81
 go_wp2
 go_ret
 exact ⟨rfl,rfl⟩
set_option maxRecDepth 100000 in
theorem rhalves_11 (w:World):Calls Tryz.prog 81 #[.string ⟨#[119]⟩] w fun e w'=>e=.returned (.int .i64 0)∧w'=w:=by
 go_enter Tryz.func81,Tryz.ntmps81
 go_wp2
 go_ret
 exact ⟨rfl,rfl⟩
set_option maxRecDepth 100000 in
theorem rhalves_12 (w:World):Calls Tryz.prog 81 #[.string ⟨#[119,100,103]⟩] w fun e w'=>e=.returned (.int .i64 0)∧w'=w:=by
 go_enter Tryz.func81,Tryz.ntmps81
 go_wp2
 go_ret
 exact ⟨rfl,rfl⟩
set_option maxRecDepth 100000 in
theorem rhalves_13 (w:World):Calls Tryz.prog 81 #[.string ⟨#[99,120]⟩] w fun e w'=>e=.returned (.int .i64 0)∧w'=w:=by
 go_enter Tryz.func81,Tryz.ntmps81
 go_wp2
 go_ret
 exact ⟨rfl,rfl⟩
set_option maxRecDepth 100000 in
theorem rhalves_14 (w:World):Calls Tryz.prog 81 #[.string ⟨#[99,121]⟩] w fun e w'=>e=.returned (.int .i64 0)∧w'=w:=by
 go_enter Tryz.func81,Tryz.ntmps81
 go_wp2
 go_ret
 exact ⟨rfl,rfl⟩
set_option maxRecDepth 100000 in
theorem rhalves_15 (w:World):Calls Tryz.prog 81 #[.string ⟨#[99,122]⟩] w fun e w'=>e=.returned (.int .i64 0)∧w'=w:=by
 go_enter Tryz.func81,Tryz.ntmps81
 go_wp2
 go_ret
 exact ⟨rfl,rfl⟩
set_option maxRecDepth 100000 in
theorem rhalves_16 (w:World):Calls Tryz.prog 81 #[.string ⟨#[99,104]⟩] w fun e w'=>e=.returned (.int .i64 1)∧w'=w:=by
 go_enter Tryz.func81,Tryz.ntmps81
 go_wp2
 go_ret
 exact ⟨rfl,rfl⟩
set_option maxRecDepth 100000 in
theorem rhalves_17 (w:World):Calls Tryz.prog 81 #[.string ⟨#[99,115]⟩] w fun e w'=>e=.returned (.int .i64 0)∧w'=w:=by
 go_enter Tryz.func81,Tryz.ntmps81
 go_wp2
 go_ret
 exact ⟨rfl,rfl⟩
set_option maxRecDepth 100000 in
theorem rhalves_18 (w:World):Calls Tryz.prog 81 #[.string ⟨#[99,115,100,103]⟩] w fun e w'=>e=.returned (.int .i64 0)∧w'=w:=by
 go_enter Tryz.func81,Tryz.ntmps81
 go_wp2
 go_ret
 exact ⟨rfl,rfl⟩
set_option maxRecDepth 100000 in
theorem rhalves_19 (w:World):Calls Tryz.prog 81 #[.string ⟨#[115,119,97,112]⟩] w fun e w'=>e=.returned (.int .i64 0)∧w'=w:=by
 go_enter Tryz.func81,Tryz.ntmps81
 go_wp2
 go_ret
 exact ⟨rfl,rfl⟩
set_option maxRecDepth 100000 in
theorem rhalves_20 (w:World):Calls Tryz.prog 81 #[.string ⟨#[105,115,119,97,112]⟩] w fun e w'=>e=.returned (.int .i64 0)∧w'=w:=by
 go_enter Tryz.func81,Tryz.ntmps81
 go_wp2
 go_ret
 exact ⟨rfl,rfl⟩
set_option maxRecDepth 100000 in
theorem rhalves_21 (w:World):Calls Tryz.prog 81 #[.string ⟨#[105,115,119,97,112,100,103]⟩] w fun e w'=>e=.returned (.int .i64 0)∧w'=w:=by
 go_enter Tryz.func81,Tryz.ntmps81
 go_wp2
 go_ret
 exact ⟨rfl,rfl⟩
set_option maxRecDepth 100000 in
theorem rhalves_22 (w:World):Calls Tryz.prog 81 #[.string ⟨#[99,99,120]⟩] w fun e w'=>e=.returned (.int .i64 0)∧w'=w:=by
 go_enter Tryz.func81,Tryz.ntmps81
 go_wp2
 go_ret
 exact ⟨rfl,rfl⟩
set_option maxRecDepth 100000 in
theorem rhalves_23 (w:World):Calls Tryz.prog 81 #[.string ⟨#[99,99,122]⟩] w fun e w'=>e=.returned (.int .i64 0)∧w'=w:=by
 go_enter Tryz.func81,Tryz.ntmps81
 go_wp2
 go_ret
 exact ⟨rfl,rfl⟩
set_option maxRecDepth 100000 in
theorem rhalves_24 (w:World):Calls Tryz.prog 81 #[.string ⟨#[99,115,119,97,112]⟩] w fun e w'=>e=.returned (.int .i64 0)∧w'=w:=by
 go_enter Tryz.func81,Tryz.ntmps81
 go_wp2
 go_ret
 exact ⟨rfl,rfl⟩
set_option maxRecDepth 100000 in
theorem rhalves_miss {s:ByteArray} (H:Miss s) (w:World):Calls Tryz.prog 81 #[.string s] w fun e w'=>e=.returned (.int .i64 0)∧w'=w:=by
 have m0:=H.m0;have m1:=H.m1;have m2:=H.m2;have m3:=H.m3;have m4:=H.m4;have m5:=H.m5;have m6:=H.m6;have m7:=H.m7;have m8:=H.m8;have m9:=H.m9;have m10:=H.m10;have m11:=H.m11;have m12:=H.m12;have m13:=H.m13;have m14:=H.m14;have m15:=H.m15;have m16:=H.m16;have m17:=H.m17;have m18:=H.m18;have m19:=H.m19;have m20:=H.m20;have m21:=H.m21;have m22:=H.m22;have m23:=H.m23;have m24:=H.m24
 clear H
 go_enter Tryz.func81,Tryz.ntmps81
 go_wp2
 go_ret
 exact ⟨rfl,rfl⟩
theorem rhalves_any (s:ByteArray) (w:World):Calls Tryz.prog 81 #[.string s] w fun e w'=>e=.returned (.int .i64 (ghv s:Nat))∧w'=w:=by
 rcases hit_or_miss s with h | H
 ·simp only [nms,List.mem_cons,List.not_mem_nil,or_false] at h
  rcases h with rfl | rfl | rfl | rfl | rfl | rfl | rfl | rfl | rfl | rfl | rfl | rfl | rfl | rfl | rfl | rfl | rfl | rfl | rfl | rfl | rfl | rfl | rfl | rfl | rfl
  ·rw [show ghv ⟨#[105]⟩=0 by kernel_rfl];exact rhalves_0 w
  ·rw [show ghv ⟨#[120]⟩=0 by kernel_rfl];exact rhalves_1 w
  ·rw [show ghv ⟨#[121]⟩=0 by kernel_rfl];exact rhalves_2 w
  ·rw [show ghv ⟨#[122]⟩=0 by kernel_rfl];exact rhalves_3 w
  ·rw [show ghv ⟨#[104]⟩=1 by kernel_rfl];exact rhalves_4 w
  ·rw [show ghv ⟨#[115]⟩=0 by kernel_rfl];exact rhalves_5 w
  ·rw [show ghv ⟨#[115,100,103]⟩=0 by kernel_rfl];exact rhalves_6 w
  ·rw [show ghv ⟨#[116]⟩=0 by kernel_rfl];exact rhalves_7 w
  ·rw [show ghv ⟨#[116,100,103]⟩=0 by kernel_rfl];exact rhalves_8 w
  ·rw [show ghv ⟨#[118]⟩=1 by kernel_rfl];exact rhalves_9 w
  ·rw [show ghv ⟨#[118,100,103]⟩=1 by kernel_rfl];exact rhalves_10 w
  ·rw [show ghv ⟨#[119]⟩=0 by kernel_rfl];exact rhalves_11 w
  ·rw [show ghv ⟨#[119,100,103]⟩=0 by kernel_rfl];exact rhalves_12 w
  ·rw [show ghv ⟨#[99,120]⟩=0 by kernel_rfl];exact rhalves_13 w
  ·rw [show ghv ⟨#[99,121]⟩=0 by kernel_rfl];exact rhalves_14 w
  ·rw [show ghv ⟨#[99,122]⟩=0 by kernel_rfl];exact rhalves_15 w
  ·rw [show ghv ⟨#[99,104]⟩=1 by kernel_rfl];exact rhalves_16 w
  ·rw [show ghv ⟨#[99,115]⟩=0 by kernel_rfl];exact rhalves_17 w
  ·rw [show ghv ⟨#[99,115,100,103]⟩=0 by kernel_rfl];exact rhalves_18 w
  ·rw [show ghv ⟨#[115,119,97,112]⟩=0 by kernel_rfl];exact rhalves_19 w
  ·rw [show ghv ⟨#[105,115,119,97,112]⟩=0 by kernel_rfl];exact rhalves_20 w
  ·rw [show ghv ⟨#[105,115,119,97,112,100,103]⟩=0 by kernel_rfl];exact rhalves_21 w
  ·rw [show ghv ⟨#[99,99,120]⟩=0 by kernel_rfl];exact rhalves_22 w
  ·rw [show ghv ⟨#[99,99,122]⟩=0 by kernel_rfl];exact rhalves_23 w
  ·rw [show ghv ⟨#[99,115,119,97,112]⟩=0 by kernel_rfl];exact rhalves_24 w
 ·have e:ghv s=0:=by unfold ghv;rw [H.gI];rfl
  rw [e]
  exact rhalves_miss H w
end Go.Proofs.YtdjfpghgklkejaaGreatDoor
namespace Go.Proofs.YtdjfpghgklkejaaGreatDoor
open Go
section
variable {P : Program} {ops : Array Oper} {Q : Exit → Act → World → Prop} {md : Region.Mode} {S : World → Prop} {z : Nat}
theorem zt (i:Nat) {oi:Oper} {v:Value} {f:Nat} {l:Array Bool} {a:Act} {w:World} (hi:ops[i]?=some oi) (hy:YieldsIf P ops S oi v a) (hS:S w)
  (h:wpAnyH P md ops Q S f (l.setIfInBounds i true) (a.put oi.dst v) w) (hs:Region.noSelect ops=true:=by kernel_rfl) (hf:Region.free md ops l i=true:=by kernel_rfl) (hr:(Region.ready md ops l).contains i=true:=by kernel_rfl)
  (hQ:∀c a w,Q (.panic c) (a.put oi.dst v) w→Q (.panic c) a w:=by exact fun _ _ _ h=>h):wpAnyH P md ops Q S (f+1) l a w:=
 wpAnyH_take hi hs hf hr hQ hy hS h
theorem zqq (i:Nat) {oi:Oper} {v:Value} {f:Nat} {l:Array Bool} {a:Act} {w:World} (hi:ops[i]?=some oi) (hy:YieldsIf P ops S oi v a) (hS:S w)
  (h:zAny P md ops Q z S f (l.setIfInBounds i true) (a.put oi.dst v) w) (hs:Region.noSelect ops=true:=by kernel_rfl) (hf:Region.free md ops l i=true:=by kernel_rfl) (hr:(Region.ready md ops l).contains i=true:=by kernel_rfl)
  (hwt:waits md ops z i=true:=by kernel_rfl) (hQ:∀c a w,Q (.panic c) (a.put oi.dst v) w→Q (.panic c) a w:=by exact fun _ _ _ h=>h):zAny P md ops Q z S (f+1) l a w:=
 zAny_take hi hs hf hr hwt hQ hy hS h
end
end Go.Proofs.YtdjfpghgklkejaaGreatDoor
namespace Go.Proofs
open Go.Shelf
def Tryz.lays189_ren:Go.Shelf.Ren:=⟨fun | 189=>163 | 125=>177 | 257=>176 | 128=>195 | 129=>181 | 294=>186 | 295=>187 | 296=>188 | 297=>189 | 298=>190 | 299=>191 | 216=>192 | 300=>193 | 301=>194 | 328=>204 | 329=>205 | 330=>206 | 331=>207 | 332=>208 | 215=>209 | 343=>213 | n=>n,fun | 28=>46 | 3=>3 | 46=>136 | 0=>0 | 51=>236 | 53=>47 | 4=>4 | 183=>240 | 182=>239 | 131=>215 | 5=>5 | 9=>9 | 218=>254 | 222=>166 | 228=>264 | 229=>58 | n=>n,fun | n=>n⟩
theorem Tryz.lays189:Go.Proofs.Lays.n189 Tryz.prog Tryz.lays189_ren:={
 mixed:=by kernel_rfl
 f125:=Tryz.func177.trans (congrArg some (by kernel_rfl))
 f128:=Tryz.func195.trans (congrArg some (by kernel_rfl))
 f129:=Tryz.func181.trans (congrArg some (by kernel_rfl))
 f189:=Tryz.func163.trans (congrArg some (by kernel_rfl))
 f215:=Tryz.func209.trans (congrArg some (by kernel_rfl))
 f216:=Tryz.func192.trans (congrArg some (by kernel_rfl))
 f257:=Tryz.func176.trans (congrArg some (by kernel_rfl))
 f294:=Tryz.func186.trans (congrArg some (by kernel_rfl))
 f295:=Tryz.func187.trans (congrArg some (by kernel_rfl))
 f296:=Tryz.func188.trans (congrArg some (by kernel_rfl))
 f297:=Tryz.func189.trans (congrArg some (by kernel_rfl))
 f298:=Tryz.func190.trans (congrArg some (by kernel_rfl))
 f299:=Tryz.func191.trans (congrArg some (by kernel_rfl))
 f300:=Tryz.func193.trans (congrArg some (by kernel_rfl))
 f301:=Tryz.func194.trans (congrArg some (by kernel_rfl))
 f328:=Tryz.func204.trans (congrArg some (by kernel_rfl))
 f329:=Tryz.func205.trans (congrArg some (by kernel_rfl))
 f330:=Tryz.func206.trans (congrArg some (by kernel_rfl))
 f331:=Tryz.func207.trans (congrArg some (by kernel_rfl))
 f332:=Tryz.func208.trans (congrArg some (by kernel_rfl))
 f343:=Tryz.func213.trans (congrArg some (by kernel_rfl))
 t0:=Tryz.underlying0
 a0:=Tryz.isAgg0
 z0:=Tryz.sizeOf0
 v0:=Tryz.zeroValue0
 t3:=Tryz.underlying3
 a3:=Tryz.isAgg3
 z3:=Tryz.sizeOf3
 v3:=Tryz.zeroValue3
 t4:=Tryz.underlying4
 a4:=Tryz.isAgg4
 z4:=Tryz.sizeOf4
 v4:=Tryz.zeroValue4
 t5:=Tryz.underlying5
 a5:=Tryz.isAgg5
 z5:=Tryz.sizeOf5
 v5:=Tryz.zeroValue5
 t9:=Tryz.underlying9
 a9:=Tryz.isAgg9
 z9:=Tryz.sizeOf9
 v9:=Tryz.zeroValue9
 t28:=Tryz.underlying46
 a28:=Tryz.isAgg46
 z28:=Tryz.sizeOf46
 v28:=Tryz.zeroValue46
 t46:=Tryz.underlying136
 a46:=Tryz.isAgg136
 z46:=Tryz.sizeOf136
 v46:=Tryz.zeroValue136
 t51:=Tryz.underlying236
 a51:=Tryz.isAgg236
 z51:=Tryz.sizeOf236
 v51:=Tryz.zeroValue236
 t53:=Tryz.underlying47
 a53:=Tryz.isAgg47
 z53:=Tryz.sizeOf47
 v53:=Tryz.zeroValue47
 t131:=Tryz.underlying215
 a131:=Tryz.isAgg215
 z131:=Tryz.sizeOf215
 v131:=Tryz.zeroValue215
 t182:=Tryz.underlying239
 a182:=Tryz.isAgg239
 z182:=Tryz.sizeOf239
 v182:=Tryz.zeroValue239
 t183:=Tryz.underlying240
 a183:=Tryz.isAgg240
 z183:=Tryz.sizeOf240
 v183:=Tryz.zeroValue240
 t218:=Tryz.underlying254
 a218:=Tryz.isAgg254
 z218:=Tryz.sizeOf254
 v218:=Tryz.zeroValue254
 t222:=Tryz.underlying166
 a222:=Tryz.isAgg166
 z222:=Tryz.sizeOf166
 v222:=Tryz.zeroValue166
 t228:=Tryz.underlying264
 a228:=Tryz.isAgg264
 z228:=Tryz.sizeOf264
 v228:=Tryz.zeroValue264
 t229:=Tryz.underlying58
 a229:=Tryz.isAgg58
 z229:=Tryz.sizeOf58
 v229:=Tryz.zeroValue58 }
def Tryz.laysNm215_ren:Go.Shelf.Ren:=⟨fun | 15=>162 | n=>n,fun | 22=>46 | 3=>3 | 4=>4 | n=>n,fun | n=>n⟩
theorem Tryz.laysNm215:Go.Proofs.Lays2.n15 Tryz.prog Tryz.laysNm215_ren:={
 mixed:=by kernel_rfl
 f15:=Tryz.func162.trans (congrArg some (by kernel_rfl))
 t3:=Tryz.underlying3
 a3:=Tryz.isAgg3
 z3:=Tryz.sizeOf3
 v3:=Tryz.zeroValue3
 t4:=Tryz.underlying4
 a4:=Tryz.isAgg4
 z4:=Tryz.sizeOf4
 v4:=Tryz.zeroValue4
 t22:=Tryz.underlying46
 a22:=Tryz.isAgg46
 z22:=Tryz.sizeOf46
 v22:=Tryz.zeroValue46
 i3:=by kernel_rfl }
def Tryz.laysNm220_ren:Go.Shelf.Ren:=⟨fun | 20=>164 | n=>n,fun | 22=>46 | 3=>3 | 4=>4 | 0=>0 | n=>n,fun | n=>n⟩
theorem Tryz.laysNm220:Go.Proofs.Lays2.n20 Tryz.prog Tryz.laysNm220_ren:={
 mixed:=by kernel_rfl
 f20:=Tryz.func164.trans (congrArg some (by kernel_rfl))
 t0:=Tryz.underlying0
 a0:=Tryz.isAgg0
 z0:=Tryz.sizeOf0
 v0:=Tryz.zeroValue0
 t3:=Tryz.underlying3
 a3:=Tryz.isAgg3
 z3:=Tryz.sizeOf3
 v3:=Tryz.zeroValue3
 t4:=Tryz.underlying4
 a4:=Tryz.isAgg4
 z4:=Tryz.sizeOf4
 v4:=Tryz.zeroValue4
 t22:=Tryz.underlying46
 a22:=Tryz.isAgg46
 z22:=Tryz.sizeOf46
 v22:=Tryz.zeroValue46
 i3:=by kernel_rfl }
open Go.RowKit Go.Lib Go.Sort in
theorem Tryz.slices_Sort_int (blk off cap:Nat) (zs:List Int) (w:World) (hH:Holds (Value.int .i64) w blk off zs.toArray) (hblk:blk<w.heap.size) (hsz:zs.length<4611686018427387904) :
  Calls Tryz.prog 163 #[.slice (some ⟨blk,off,none⟩) zs.length cap] w fun e w'=>
   e=.returned (.tuple #[])∧∃n os,w'=grow (putRow (Value.int .i64) (Sort.ahead w n) blk off (zs.mergeSort fun x y=>decide (x≤y)).toArray) os:=Any.slices_Sort_int Tryz.lays189 blk off cap zs w hH hblk hsz
open Go.RowKit Go.Lib Go.Sort in
theorem Tryz.slices_Sort_int_none (p:Option Addr) (cap:Nat) (w:World) :
  Calls Tryz.prog 163 #[.slice p 0 cap] w fun e w'=>e=.returned (.tuple #[])∧w'=w:=Any.slices_Sort_int_none Tryz.lays189 p cap w
open Go.RowKit Go.Lib Go.Sort in
theorem Tryz.slices_Clone_int (b off n c:Nat) (zs:List Int) (w:World) (hz:n≤zs.length) (hbig:n*8≤140737488355328) (hc:∀j,j<zs.length→w.cell? ⟨b,off+j,none⟩=some (.int .i64 (zs.getD j 0))) :
  Calls Tryz.prog 162 #[.slice (some ⟨b,off,none⟩) n c] w fun e w'=>∃v',e=.returned v'∧w'.ownsRow w.heap.size 3 1 v' n ((zs.take n).map (Value.int .i64))∧v'≠.slice none 0 0∧Below w.heap.size w w':=Any.slices_Clone_int Tryz.laysNm215 b off n c zs w hz hbig hc
open Go.RowKit Go.Lib Go.Sort in
theorem Tryz.slices_Clone_int_nil (n c:Nat) (w:World) :
  Calls Tryz.prog 162 #[.slice none n c] w fun e w'=>e=.returned (.slice none 0 0)∧w'=w:=Any.slices_Clone_int_nil Tryz.laysNm215 n c w
open Go.RowKit Go.Lib Go.Sort in
theorem Tryz.slices_Clone_int_zero (a:Addr) (c:Nat) (w:World) :
  Calls Tryz.prog 162 #[.slice (some a) 0 c] w fun e w'=>∃v',e=.returned v'∧w'.ownsRow w.heap.size 3 1 v' 0 []∧v'≠.slice none 0 0∧Below w.heap.size w w':=Any.slices_Clone_int_zero Tryz.laysNm215 a c w
open Go.RowKit Go.Lib Go.Sort in
theorem Tryz.slices_Compact_int (blk off cap:Nat) (zs:List Int) (w:World) (hH:Holds (Value.int .i64) w blk off zs.toArray) (hsz:zs.length≤9223372036854775807) (hcap:zs.length≤cap) :
  Calls Tryz.prog 164 #[.slice (some ⟨blk,off,none⟩) zs.length cap] w fun e w'=>e=.returned (.slice (some ⟨blk,off,none⟩) (Lib.compact zs).length cap)∧∃q,w'=putRow (Value.int .i64) (Sort.ahead w q) blk off (Lib.compact zs++List.replicate (zs.length-(Lib.compact zs).length) 0).toArray:=Any.slices_Compact_int Tryz.laysNm220 blk off cap zs w hH hsz hcap
open Go.RowKit Go.Lib Go.Sort in
theorem Tryz.slices_Compact_int_empty (a:Option Addr) (cap:Nat) (w:World) :
  Calls Tryz.prog 164 #[.slice a 0 cap] w fun e w'=>e=.returned (.slice a 0 cap)∧w'=w:=Any.slices_Compact_int_empty Tryz.laysNm220 a cap w
end Go.Proofs
namespace Go.Proofs.YtdjfpghgklkejaaGreatDoor
open Go.ChangeShapes Go.WideShapes Go.ChangeAt Go.ChangeMaps Go.RowKit Go.Sort
theorem Tryz.cellsH49:Tryz.prog.cellsOf 49=7:=by kernel_rfl
theorem Tryz.cellsH27:Tryz.prog.cellsOf 27=3:=by kernel_rfl
theorem Tryz.cellsH3:Tryz.prog.cellsOf 3=1:=by kernel_rfl
theorem wf_u64 {x:Int} (h:(Lit.int .u64 x).wf=true):0≤x∧x≤18446744073709551615:=by
 have h2:(decide (IntKind.u64.min≤x)&&decide (x≤IntKind.u64.max))=true:=h
 rw [show IntKind.u64.min=0 by decide,show IntKind.u64.max=18446744073709551615 by decide,Bool.and_eq_true,decide_eq_true_iff,decide_eq_true_iff] at h2
 exact h2
section
variable {H : Type} {enc : TypeId × Value → H} {W : World}
theorem trod_fields3 {ts:TypeId} {fs:Array Field} {fuel:Nat} {cs:List Value} {x:DataW H × List MemPlace} (hs:Tryz.prog.underlying ts=some (.struct fs))
  (hone:∀(i:Nat) (f:Field),fs[i]?=some f→f.offset=i∧Tryz.prog.cellsOf f.type=1) (hC:Tryz.prog.cellsOf ts=fs.size) (h:DataW.trod enc Tryz.prog W 0 (fun _=>true) true fuel ts cs=some x) :
  cs.length=fs.size∧∃(n:Nat) (Y:Nat→DataW H × List MemPlace),∀(i:Nat) (f:Field),fs[i]?=some f→DataW.trod enc Tryz.prog W 0 (fun _=>true) true n f.type [cs.getD i undef]=some (Y i):=by
 obtain ⟨xs,n,_,rfl,hlen,hxl,hf⟩:=DataW.trod_struct hs h
 rw [hC] at hlen
 refine ⟨hlen,n,fun i=>xs.getD i (.nil,[]),fun i f hi=>?_⟩
 have hlt:i<fs.size:=(Array.getElem?_eq_some_iff.1 hi).1
 obtain ⟨ho,hc1⟩:=hone i f hi
 have g:=hf i f hi
 rw [ho,hc1,Go.Deep.take1_drop cs i undef (by omega),List.getElem?_eq_getElem (by omega)] at g
 rw [g]
 simp [List.getD,List.getElem?_eq_getElem (show i<xs.length by omega)]
theorem ints_of_trod {fuel:Nat} {cs:List Value} {x:DataW H × List MemPlace} (h:DataW.trod enc Tryz.prog W 0 (fun _=>true) true fuel 46 cs=some x) :
  ∃(a:Option Addr) (c:Nat) (l:List Int),cs=[.slice a l.length c]∧QS W a c l∧l.length≤9223372036854775807:=by
 rcases open_ints Tryz.underlying46 Tryz.underlying3 Tryz.cellsH3 h with ⟨rfl,_⟩ | ⟨a,len,cap,zs,rfl,_,hl,hm,hz,_,hc,_⟩
 ·exact ⟨none,0,[],rfl,⟨Nat.le_refl _,fun k hk=>absurd hk (Nat.not_lt_zero _)⟩,Nat.zero_le _⟩
 ·simp only [if_true] at hz
  unfold maxLen at hm
  have hlen:(zs.take len).length=len:=by rw [List.length_take];omega
  refine ⟨some a,cap,zs.take len,by rw [hlen],⟨by omega,fun k hk=>?_⟩,by omega⟩
  obtain ⟨b,off,spot⟩:=a
  have hspot:spot=none:=by simpa [Addr.add] using World.cell?_spot (hc 0 (by omega))
  subst hspot
  refine ⟨b,off,rfl,fun j hj=>?_,?_⟩
  ·have:=hc j (by omega)
   rw [add_plain] at this
   rw [this,List.getElem_take]
   simp [List.getD,List.getElem?_eq_getElem (show j<zs.length by omega)]
  ·have:=World.block_lt_of_cell? W _ (hc 0 (by omega))
   rw [add_plain] at this
   exact this
theorem op_of_trod {fuel:Nat} {cs:List Value} {x:DataW H × List MemPlace} (h:DataW.trod enc Tryz.prog W 0 (fun _=>true) true fuel 49 cs=some x) :
  ∃t:Oq × Option Addr × Nat,cs=opc t.1 t.2.1 t.2.2∧QS W t.2.1 t.2.2 t.1.qs∧Fit t.1:=by
 obtain ⟨hlen,n,Y,hY⟩:=trod_fields3 Tryz.underlying49 (Go.Deep.hone_of (by kernel_rfl)) Tryz.cellsH49 h
 match cs,hlen with
 | [v0,v1,v2,v3,v4,v5,v6],_=>
  obtain ⟨x0,e0,_,_⟩:=DataW.trod_int Tryz.underlying3 (hY 0 _ rfl)
  obtain ⟨x1,e1,_,_⟩:=DataW.trod_string Tryz.underlying9 (hY 1 _ rfl)
  obtain ⟨a,c,l,e2,hq,hl⟩:=ints_of_trod (hY 2 _ rfl)
  obtain ⟨x3,e3,_,_⟩:=DataW.trod_int Tryz.underlying3 (hY 3 _ rfl)
  obtain ⟨x4,e4,_⟩:=DataW.trod_bool Tryz.underlying4 (hY 4 _ rfl)
  obtain ⟨x5,e5,_,w5⟩:=DataW.trod_int Tryz.underlying47 (hY 5 _ rfl)
  obtain ⟨x6,e6,_,w6⟩:=DataW.trod_int Tryz.underlying47 (hY 6 _ rfl)
  simp at e0 e1 e2 e3 e4 e5 e6
  subst e0 e1 e2 e3 e4 e5 e6
  exact ⟨⟨⟨x0,x1,l,x3,x4,x5,x6⟩,a,c⟩,rfl,hq,(wf_u64 w5).1,(wf_u64 w5).2,(wf_u64 w6).1,(wf_u64 w6).2,hl⟩
theorem ops_of_trod {fuel:Nat} {cs:List Value} {x:DataW H × List MemPlace} (h:DataW.trod enc Tryz.prog W 0 (fun _=>true) true fuel 25 cs=some x) :
  ∃(a:Option Addr) (c:Nat) (os:List Oq) (A:Nat→Option Addr) (C:Nat→Nat),cs=[.slice a os.length c]∧OS W a c os A C:=by
 rcases Go.Deep.open_slice Tryz.underlying25 h with ⟨rfl,_⟩ | ⟨a,len,cap,m,n,D,Pl,rfl,_,hl,hm,hmm,hx,hcell⟩
 ·exact ⟨none,0,[],fun _=>none,fun _=>0,rfl,Nat.le_refl _,fun k hk=>absurd hk (Nat.not_lt_zero _),fun k hk=>absurd hk (Nat.not_lt_zero _),fun k hk=>absurd hk (Nat.not_lt_zero _),Nat.zero_le _⟩
 ·simp only [if_true] at hmm
  unfold maxLen at hm
  rw [Tryz.cellsH49] at hcell
  have each:∀i,i<len→∃t:Oq × Option Addr × Nat,(∀j,j<7→W.cell? (a.add (i*7+j))=(opc t.1 t.2.1 t.2.2)[j]?)∧QS W t.2.1 t.2.2 t.1.qs∧Fit t.1:=by
   intro i hi
   obtain ⟨cs',h1,h2⟩:=hcell i (by omega)
   obtain ⟨_,hlen,hc⟩:=World.cells?_some h1
   obtain ⟨t,rfl,hq,hf⟩:=op_of_trod h2
   refine ⟨t,fun j hj=>?_,hq,hf⟩
   have e0:=hc j hj
   rw [Go.Deep.add_add] at e0
   exact e0
  haveI:Inhabited (Oq × Option Addr × Nat):=⟨⟨⟨0,⟨#[]⟩,[],0,false,0,0⟩,none,0⟩⟩
  obtain ⟨T,hT⟩:=Go.Deep.choose_lt each
  have hln:((List.range len).map fun i=>(T i).1).length=len:=by simp
  refine ⟨some a,cap,(List.range len).map fun i=>(T i).1,fun i=>(T i).2.1,fun i=>(T i).2.2,by rw [hln],by omega,fun k hk=>?_,fun k hk=>?_,fun k hk=>?_,by omega⟩
  ·rw [hln] at hk
   simpa using (hT k hk).2.1
  ·rw [hln] at hk
   obtain ⟨b,off,spot⟩:=a
   have h00:=(hT 0 (by omega)).1 0 (by omega)
   have hspot:spot=none:=by simpa [Addr.add] using World.cell?_spot h00
   subst hspot
   have get:∀j d,j<len→d<7→W.cell? ⟨b,off+(j*7+d),none⟩=(opc (T j).1 (T j).2.1 (T j).2.2)[d]?:=fun j d hj hd=>by
    have:=(hT j hj).1 d hd
    rwa [add_plain] at this
   refine ⟨b,off,rfl,fun j hj=>?_,fun j hj=>?_,fun j hj=>?_,fun j hj=>?_,fun j hj=>?_,fun j hj=>?_,fun j hj=>?_,?_⟩
   ·rw [hln] at hj;have:=get j 0 hj (by omega);simpa [Nat.add_assoc] using this
   ·rw [hln] at hj;have:=get j 1 hj (by omega);simpa [Nat.add_assoc] using this
   ·rw [hln] at hj;have:=get j 2 hj (by omega);simpa [Nat.add_assoc] using this
   ·rw [hln] at hj;have:=get j 3 hj (by omega);simpa [Nat.add_assoc] using this
   ·rw [hln] at hj;have:=get j 4 hj (by omega);simpa [Nat.add_assoc] using this
   ·rw [hln] at hj;have:=get j 5 hj (by omega);simpa [Nat.add_assoc] using this
   ·rw [hln] at hj;have:=get j 6 hj (by omega);simpa [Nat.add_assoc] using this
   ·have:=World.block_lt_of_cell? W _ (get 0 0 (by omega) (by omega))
    exact this
  ·rw [hln] at hk
   simpa using (hT k hk).2.2
set_option maxRecDepth 100000 in
theorem circ_of_trod {base:Nat} {v:Value} {d:DataW H} {p:List MemPlace} (hval:Value.okWide Tryz.prog W .any base 27 v) (h:DataW.Trod enc Tryz.prog W 0 (fun _=>true) true 27 v d p) :
  ∃(c:Ci) (a:Option Addr) (cp:Nat) (A:Nat→Option Addr) (C:Nat→Nat),v=civ c a cp∧OS W a cp c.ops A C:=by
 obtain ⟨cs,rfl,hsz⟩:=okWide_struct Tryz.underlying27 hval
 obtain ⟨fuel,hf⟩:=h
 obtain ⟨hlen,n,Y,hY⟩:=trod_fields3 Tryz.underlying27 (Go.Deep.hone_of (by kernel_rfl)) Tryz.cellsH27 hf
 obtain ⟨cs⟩:=cs
 match cs,hlen with
 | [v0,v1,v2],_=>
  obtain ⟨x0,e0,_,_⟩:=DataW.trod_int Tryz.underlying3 (hY 0 _ rfl)
  obtain ⟨x1,e1,_,_⟩:=DataW.trod_int Tryz.underlying3 (hY 1 _ rfl)
  obtain ⟨a,c,os,A,C,e2,hO⟩:=ops_of_trod (hY 2 _ rfl)
  simp [Value.cells] at e0 e1 e2
  subst e0 e1 e2
  exact ⟨⟨x0,x1,os⟩,a,c,A,C,rfl,hO⟩
end
end Go.Proofs.YtdjfpghgklkejaaGreatDoor
