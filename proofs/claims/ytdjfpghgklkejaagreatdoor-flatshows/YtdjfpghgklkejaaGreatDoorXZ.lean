/-
  Put together of: HB HC HD.
-/
import Derived.Test.YtdjfpghgklkejaaGreatDoorXD
import Derived.Test.YtdjfpghgklkejaaGreatDoorYB
import Derived.Test.YtdjfpghgklkejaaGreatDoorYW
import Derived.Laws.BitsAllLaws
namespace Go.Proofs.YtdjfpghgklkejaaGreatDoor
abbrev nmQ:ByteArray:=⟨#[113]⟩
def nmC (j:Nat):ByteArray:=⟨(99::Lib.itoa (j:Int)).toArray⟩
abbrev Rg:=(Nat × Nat) × Nat
def ifRow (x:Rg) (v:Nat) (k:Nat):Rw:=⟨wIf,nmC x.2,[],(((v&&&regM x.1)>>>x.1.1:Nat):Int),(k:Int),0⟩
def ifRows (v:Nat):List Rg→List Rw
 | []=>[]
 | x::l=>ifRow x v (l.length+1)::ifRows v l
def qArgs (qs:List Int):List Ar:=qs.map fun q=>⟨nmQ,q⟩
def bArg (b:Nat):List Rg→Ar
 | []=>⟨⟨#[]⟩,0⟩
 | x::l=>if b<x.1.1+x.1.2 then ⟨nmC x.2,(b:Int)-x.1.1⟩ else bArg b l
def stRow (o:Oq) (R:List Rg):Rw:=
 if o.k=2 then ⟨wMeasure,⟨#[]⟩,qArgs o.qs++[bArg o.b.toNat R],0,0,0⟩
 else if o.k=3 then ⟨wReset,⟨#[]⟩,qArgs o.qs,0,0,0⟩
 else ⟨wUse,o.n,qArgs o.qs,0,0,0⟩
def askR (m:Nat) (R:List Rg):List Rg:=R.filter fun x=>decide (m&&&regM x.1≠0)
def opRows (R:List Rg) (o:Oq):List Rw:=ifRows o.v.toNat (askR o.m.toNat R)++[stRow o R]
def bitRow (x:Rg):Rw:=⟨wBits,nmC x.2,[],(x.1.2:Int),0,0⟩
def declRows (q:Int) (R:List Rg):List Rw:=(if 0<q then [⟨wQubits,nmQ,[],q,0,0⟩] else [])++R.map bitRow
def shRows (c:Ci) (R:List Rg):List Rw:=declRows c.q R++c.ops.flatMap (opRows R)
theorem ifRows_len (v:Nat):∀l:List Rg,(ifRows v l).length=l.length
 | []=>rfl
 | _::l=>by show (ifRows v l).length+1=_;rw [ifRows_len v l,List.length_cons]
def secB (s:ByteArray):Bool:=match s.data.toList with | a::c::_=>!(decide (a=99)) || decide (57<c.toNat) | _=>true
theorem opE_ok {o:Oq} {q:Int} {b n:Nat} (h:opE o q b n=0):rfB o=true∧rcB o b=true∧n≠0∧o.qs.length=n∧rnB o q b=true∧dupB o.qs=false:=by
 unfold opE at h
 split at h
 ·cases h
 ·rename_i h1
  split at h
  ·cases h
  ·rename_i h2
   split at h
   ·cases h
   ·rename_i h3
    split at h
    ·cases h
    ·rename_i h4
     split at h
     ·cases h
     ·rename_i h5
      rw [not_or] at h1
      exact ⟨by simpa using h1.1,by simpa using h1.2,h2,by simpa using h3,by simpa using h4,by simpa using h5⟩
theorem qs_nat {q:Int}:∀ {l:List Int},inB q l=true→ilN (l.map Int.toNat)=l∧∀x∈l,0≤x∧x<q
 | [],_=>⟨rfl,fun _ h=>by cases h⟩
 | x::l,h=>by
  unfold inB at h
  rw [List.all_cons,Bool.and_eq_true,Bool.and_eq_true,decide_eq_true_eq,decide_eq_true_eq] at h
  obtain ⟨ih1,ih2⟩:=qs_nat (q:=q) (l:=l) h.2
  constructor
  ·show ((x.toNat:Nat):Int)::ilN (l.map Int.toNat)=_
   rw [ih1,Int.toNat_of_nonneg h.1.1]
  ·intro y hy
   rcases List.mem_cons.1 hy with rfl | hy
   ·exact h.1
   ·exact ih2 y hy
structure Env (en:En) (q:Nat) (R:List Rg):Prop where
 nq:0<q→en.nm nmQ=some ⟨1,0,q,0,[]⟩
 nc:∀x∈R,en.nm (nmC x.2)=some ⟨2,x.1.1,x.1.2,0,[]⟩
 ng:∀s,0<gar s→en.nm s=some ⟨3,0,gar s,0,[]⟩
theorem bArg_at:∀(R:List Rg) (a n b:Nat),Seg a (R.map Prod.fst) n→a≤b→b<n→∃x∈R,bArg b R=⟨nmC x.2,(b:Int)-x.1.1⟩∧x.1.1≤b∧b<x.1.1+x.1.2
 | [],a,n,b,h,h1,h2=>by have h:a=n:=h;omega
 | x::R,a,n,b,h,h1,h2=>by
  obtain ⟨e1,e2,e3,e4⟩:=h
  unfold bArg
  split
  ·exact ⟨x,List.mem_cons_self,rfl,by omega,by assumption⟩
  ·obtain ⟨y,hy,h⟩:=bArg_at R _ n b e4 (by omega) h2
   exact ⟨y,List.mem_cons_of_mem _ hy,h⟩
end Go.Proofs.YtdjfpghgklkejaaGreatDoor
namespace Go.Proofs.YtdjfpghgklkejaaGreatDoor
theorem lkF_all {q : Int} {b : Nat} : ∀ (l : List Oq) (k h : Nat), (lkF q b l k h).2.2 = 0 → ∀ o ∈ l, opE o q b (opN o) = 0
  | [], _, _, _, o, ho => by cases ho
  | x :: l, k, h, hh, o, ho => by
    unfold lkF at hh
    split at hh
    · rename_i g; exact absurd hh g
    · rename_i g
      split at hh
      · cases hh
      · rcases List.mem_cons.1 ho with rfl | ho
        · exact Classical.not_not.1 g
        · exact lkF_all l _ _ hh o ho
theorem lk_parts {c : Ci} (h : (lk c).2.2 = 0) : 0 ≤ c.q ∧ c.q ≤ 64 ∧ 0 ≤ c.b ∧ c.b ≤ 64 ∧ c.ops.length ≤ 4096 ∧ ∀ o ∈ c.ops, opE o c.q c.b.toNat (opN o) = 0 := by
  unfold lk at h
  split at h
  · cases h
  · rename_i hb
    split at h
    · cases h
    · rename_i hl
      have hb : ¬ badC c := fun e => hb ((bad_iff c).2 e)
      unfold badC at hb
      exact ⟨by omega, by omega, by omega, by omega, by omega, lkF_all _ _ _ h⟩
end Go.Proofs.YtdjfpghgklkejaaGreatDoor
namespace Go.Proofs.YtdjfpghgklkejaaGreatDoor
end Go.Proofs.YtdjfpghgklkejaaGreatDoor
