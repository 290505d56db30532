/-
  Put together of: FJ GU GV GW.
-/
import Derived.Test.YtdjfpghgklkejaaGreatDoorXS
import Derived.Test.YtdjfpghgklkejaaGreatDoorYX
import Derived.Test.YtdjfpghgklkejaaGreatDoorYV
import Derived.Test.YtdjfpghgklkejaaGreatDoorYO
namespace Go.Proofs.YtdjfpghgklkejaaGreatDoor
open Go.RowKit Go.Sort
theorem rowR_repeat (rec:RecT) (en:En) (sd:Sd) (r:Rw) (body:List Rw) (h:r.kind=wRepeat):rowR rec en sd r body=repR rec en sd r body:=by
 unfold rowR repR
 rw [if_neg (by rw [h];decide),if_neg (by rw [h];decide),if_neg (by rw [h];decide),if_pos h]
 rfl
theorem rowR_if (rec:RecT) (en:En) (sd:Sd) (r:Rw) (body:List Rw) (h:r.kind=wIf):rowR rec en sd r body=whenR rec en sd r body:=by
 unfold rowR whenR
 rw [if_neg (by rw [h];decide),if_neg (by rw [h];decide),if_neg (by rw [h];decide),if_neg (by rw [h];decide),if_pos h]
 rfl
theorem rowR_reset (rec:RecT) (en:En) (sd:Sd) (r:Rw) (body:List Rw) (h:r.kind=wReset):rowR rec en sd r body=rstR en sd r:=by
 unfold rowR rstR
 rw [if_neg (by rw [h];decide),if_neg (by rw [h];decide),if_neg (by rw [h];decide),if_neg (by rw [h];decide),if_neg (by rw [h];decide),if_neg (by rw [h];decide),if_pos h]
 rfl
theorem rowR_measure (rec:RecT) (en:En) (sd:Sd) (r:Rw) (body:List Rw) (h:r.kind=wMeasure):rowR rec en sd r body=meaR en sd r:=by
 unfold rowR meaR
 rw [if_neg (by rw [h];decide),if_neg (by rw [h];decide),if_neg (by rw [h];decide),if_neg (by rw [h];decide),if_neg (by rw [h];decide),if_pos h]
 rfl
end Go.Proofs.YtdjfpghgklkejaaGreatDoor
namespace Go.Proofs.YtdjfpghgklkejaaGreatDoor
def er (t:TO):TO:=⟨t.k,t.n,t.qs,t.b,t.st.map fun s=>⟨0,0,false,s.m,s.v⟩⟩
def Eqv (a b:List TO):Prop:=a.map er=b.map er
structure Shl (a b:Sd):Prop where
 ga:a.g=false
 gb:b.g=false
 m:b.m=a.m
 v:b.v=a.v
 n:b.n≤a.n
def RecSh (rec:RecT):Prop:=∀en a b rs en1 L,rec en a rs=.ok (en1,L)→Shl a b→1≤a.n→en1=en∧∃L',rec en b rs=.ok (en,L')∧Eqv L L'
end Go.Proofs.YtdjfpghgklkejaaGreatDoor
namespace Go.Proofs.YtdjfpghgklkejaaGreatDoor
def wrow (r:Rw) (n:Int):Rw:=⟨r.kind,r.name,r.args,r.num,n,r.place⟩
def unr:List Rw→Option (Nat × List Rw)
 | []=>none
 | r::rs=>
  if r.kind=wGate then (unr (rs.drop r.rows.toNat)).map fun x=>(1+(rs.take r.rows.toNat).length+x.1,r::(rs.take r.rows.toNat++x.2))
  else if r.kind=wRepeat∧r.num≤20 then some (0,(List.replicate r.num.toNat (rs.take r.rows.toNat)).flatten++rs.drop r.rows.toNat)
  else (unr rs).map fun x=>(1+x.1,(if x.1<r.rows.toNat then wrow r (r.rows+((x.2.length:Int)-rs.length)) else r)::x.2)
 termination_by l=>l.length
 decreasing_by
  ·rw [List.length_drop,List.length_cons];omega
  ·simp
def Cl:List Rw→Prop
 | []=>True
 | r::rs=>¬r.kind=wGate∧r.rows.toNat≤rs.length∧Cl rs
end Go.Proofs.YtdjfpghgklkejaaGreatDoor
namespace Go.Proofs.YtdjfpghgklkejaaGreatDoor
end Go.Proofs.YtdjfpghgklkejaaGreatDoor
