/-
  Put together of: GX GY GP.
-/
import Derived.Test.YtdjfpghgklkejaaGreatDoorYB
namespace Go.Proofs.YtdjfpghgklkejaaGreatDoor
def adj (d:Int):Nat→List Rw→List Rw
 | n+1,r::rs=>(if ((n+1:Nat):Int)≤r.rows then wrow r (r.rows+d) else r)::adj d n rs
 | _,_=>[]
structure Unf (rs:List Rw) (i:Nat) (more:List Rw) (t:Rw):Prop where
 at_:rs[i]?=some t
 kind:t.kind=wRepeat
 num:0≤t.num∧t.num≤20
 rows:0≤t.rows∧i+1+t.rows.toNat≤rs.length
 is:more=adj ((t.num-1)*t.rows-1) i rs++((List.replicate t.num.toNat ((rs.drop (i+1)).take t.rows.toNat)).flatten++rs.drop (i+1+t.rows.toNat))
end Go.Proofs.YtdjfpghgklkejaaGreatDoor
namespace Go.Proofs.YtdjfpghgklkejaaGreatDoor
def Cw:List Rw→Prop
 | []=>True
 | r::rs=>0≤r.rows∧r.rows.toNat≤rs.length∧Cw rs
structure Rch (rs:List Rw) (k:Nat):Prop where
 le:k≤rs.length
 no:unr (rs.drop k)=none→unr rs=none
 yes:∀i x,unr (rs.drop k)=some (i,x)→∃more,unr rs=some (k+i,more)
end Go.Proofs.YtdjfpghgklkejaaGreatDoor
namespace Go.Proofs.YtdjfpghgklkejaaGreatDoor
open Go.RowKit Go.Sort
abbrev RVs:=List (Rw × Value)
def rz (ts:RVs):List Value:=rws (ts.map Prod.fst) (ts.map Prod.snd)
theorem rz_cons (t:Rw × Value) (ts:RVs):rz (t::ts)=rwc t.1 t.2++rz ts:=rfl
theorem rz_app:∀(a b:RVs),rz (a++b)=rz a++rz b
 | [],b=>rfl
 | t::a,b=>by rw [List.cons_append,rz_cons,rz_cons,rz_app a b,List.append_assoc]
theorem rz_len (ts:RVs):(rz ts).length=ts.length*6:=by
 rw [rz,rws_length _ _ (by rw [List.length_map,List.length_map]),List.length_map]
theorem rz_set (ts:RVs) (j:Nat) (h:j<ts.length) (x:Int):(rz ts).set (j*6+4) (.int .i64 x)=rz (ts.set j (wrow ts[j].1 x,ts[j].2)):=by
 rw [rz,rws_set _ _ (by rw [List.length_map,List.length_map]) j (by rw [List.length_map];exact h) x,rz,List.map_set,List.map_set,List.getElem_map]
 congr 1
 apply List.ext_getElem?
 intro i
 rw [List.getElem?_set]
 by_cases e:j=i
 ·subst e
  rw [if_pos rfl,if_pos (by rw [List.length_map];exact h),List.getElem?_map,List.getElem?_eq_getElem h]
  rfl
 ·rw [if_neg e]
theorem rz_one (ts:RVs) (h:∀t∈ts,∃a n c,t.2=.slice a n c):∀u∈rz ts,u.oneCell'=true:=by
 induction ts with
 | nil=>intro u hu;cases hu
 | cons t ts ih=>
  obtain ⟨r,v⟩:=t
  obtain ⟨a,n,c,e⟩:=h _ List.mem_cons_self
  intro u hu
  rw [rz_cons,List.mem_append] at hu
  rcases hu with hu | hu
  ·have e:v=.slice a n c:=e
   subst e
   simp only [rwc,List.mem_cons,List.not_mem_nil,or_false] at hu
   rcases hu with rfl | rfl | rfl | rfl | rfl | rfl <;> rfl
  ·exact ih (fun t ht=>h t (List.mem_cons_of_mem _ ht)) u hu
structure RZ (W:World) (b o:Nat) (ts:RVs):Prop where
 at_:RR W b o (ts.map Prod.fst) (ts.map Prod.snd)
 sa:∀t∈ts,SA W t.2 t.1.args
def cutO (o c k:Nat):Nat:=if c=k then o else o+k*6
def adjT (d:Int):Nat→RVs→RVs
 | n+1,t::ts=>(if ((n+1:Nat):Int)≤t.1.rows then (wrow t.1 (t.1.rows+d),t.2) else t)::adjT d n ts
 | _,ts=>ts
def adjK (d:Int) (i k:Nat) (ts:RVs):RVs:=(adjT d i ts).take k++ts.drop k
theorem own_rz {W:World} {B:Nat} {v:Value} {ts:RVs} (h:W.ownsRow B 79 6 v ts.length (rz ts)) (hs:∀t∈ts,SA W t.2 t.1.args):SR W v (ts.map Prod.fst):=by
 have hl:(ts.map Prod.fst).length=(ts.map Prod.snd).length:=by rw [List.length_map,List.length_map]
 have hsa:∀k (h:k<(ts.map Prod.fst).length) (h':k<(ts.map Prod.snd).length),SA W (ts.map Prod.snd)[k] (ts.map Prod.fst)[k].args:=fun k h h'=>by
  rw [List.getElem_map,List.getElem_map]
  exact hs _ (List.getElem_mem _)
 have hn:(ts.map Prod.fst).length=ts.length:=List.length_map _
 rcases Nat.eq_zero_or_pos ts.length with h0 | h0
 ·obtain ⟨a,c,rfl⟩:=own_shape h
  exact ⟨a,c,ts.map Prod.snd,by rw [hn],by omega,hl,hsa,fun k hk=>by omega⟩
 ·obtain ⟨g,cap,rfl,hc,_,hcell,_,hl'⟩:=own_at h h0
  have hlen:=rz_len ts
  have get:∀(i:Nat) (x:Value),i<ts.length*6→(rws (ts.map Prod.fst) (ts.map Prod.snd))[i]?=some x→W.cell? ⟨g,0+i,none⟩=some x:=fun i x hi e=>by
   have e:(rz ts)[i]?=some x:=e
   rw [List.getElem?_eq_getElem (by omega)] at e
   rw [Nat.zero_add,hcell i (by omega),Option.some.inj e]
  refine ⟨_,cap,ts.map Prod.snd,by rw [hn],by rw [hn];exact hc,hl,hsa,fun _ _=>⟨g,0,rfl,?_,?_,?_,?_,?_,?_,hl'⟩⟩
  ·intro j hj;exact get _ _ (by omega) (rws_at _ _ hl j hj (by omega)).1
  ·intro j hj;exact get _ _ (by omega) (rws_at _ _ hl j hj (by omega)).2.1
  ·intro j hj hj';exact get _ _ (by omega) (rws_at _ _ hl j hj hj').2.2.1
  ·intro j hj;exact get _ _ (by omega) (rws_at _ _ hl j hj (by omega)).2.2.2.1
  ·intro j hj;exact get _ _ (by omega) (rws_at _ _ hl j hj (by omega)).2.2.2.2.1
  ·intro j hj;exact get _ _ (by omega) (rws_at _ _ hl j hj (by omega)).2.2.2.2.2
end Go.Proofs.YtdjfpghgklkejaaGreatDoor
