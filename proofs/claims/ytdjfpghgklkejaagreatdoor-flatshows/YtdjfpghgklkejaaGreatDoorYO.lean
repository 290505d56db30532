/-
  Put together of: FL FM FUa FVa FVb FVc FVd FWa FXa FO.
-/
import Derived.Test.YtdjfpghgklkejaaGreatDoorYV
import Derived.Test.YtdjfpghgklkejaaGreatDoorYX
import Derived.Test.YtdjfpghgklkejaaGreatDoorXC
import Derived.Test.YtdjfpghgklkejaaGreatDoorYU
import Derived.Test.YtdjfpghgklkejaaGreatDoorYN
namespace Go.Proofs.YtdjfpghgklkejaaGreatDoor
open Go.RowKit Go.Sort
def HG.but (hi:HG) (g:Option Nat):HG:=⟨hi.h,fun b=>hi.G b∧some b≠g,fun b h=>hi.le b h.1⟩
def spn:Option Nat→Nat × Nat
 | some g=>(g,g+1)
 | none=>(0,0)
theorem spn_far {r:Option Nat} {b:Nat} (h:some b≠r):b<(spn r).1∨(spn r).2≤b:=by
 cases r with
 | none=>exact .inr (Nat.zero_le _)
 | some g=>
  show b<g∨g+1≤b
  have:b≠g:=fun e=>h (by rw [e])
  omega
theorem fr_own {W W':World} {r:Option Nat} (hg:W.grownBy W' r):Fr W W' (spn r).1 (spn r).2:=
 (Fr.refl W _ _).grown hg (fun b e=>by rw [e];exact .inl ⟨Nat.le_refl _,Nat.lt_succ_self _⟩)
structure Gw (W W':World) (v v':Value):Prop where
 by_:W.grownBy W' v.ownBlock
 at_:v'.ownBlock=v.ownBlock∨v'.ownBlock=some W.heap.size
 lt:∀g,v'.ownBlock=some g→g<W'.heap.size
theorem Gw.mid {W W':World} {v v':Value} (h:Gw W W' v v') (hi:HG):∀b,b<W.heap.size→(hi.but v.ownBlock).G b→((hi.but v.ownBlock).but v'.ownBlock).G b:=fun b hb hg=>⟨hg,fun e=>by
 rcases h.at_ with h1 | h1
 ·rw [h1] at e;exact hg.2 e
 ·rw [h1] at e;cases e;omega⟩
theorem Gw.out {v v':Value} (hi:HG):∀b,((hi.but v.ownBlock).but v'.ownBlock).G b→(hi.but v'.ownBlock).G b:=fun _ hg=>⟨hg.1.1,hg.2⟩
theorem Gw.far {v v':Value} (hi:HG):∀b,((hi.but v.ownBlock).but v'.ownBlock).G b→b<(spn v.ownBlock).1∨(spn v.ownBlock).2≤b:=fun _ hg=>spn_far hg.1.2
theorem PL.gw {W W':World} {v v':Value} {hi:HG} {n:Nat} {x:Value} {L:List TO} (h:PL W (hi.but v.ownBlock) n x L) (g:Gw W W' v v'):PL W' (hi.but v'.ownBlock) n x L:=
 ((h.wide (g.mid hi)).far (fr_own g.by_) (Gw.far hi)).wide (fun b _ hb=>Gw.out hi b hb)
theorem QSh.gw {W W':World} {v v':Value} {hi:HG} {a:Option Addr} {c:Nat} {l:List Int} (h:QSh W (hi.but v.ownBlock) a c l) (g:Gw W W' v v'):QSh W' (hi.but v'.ownBlock) a c l:=
 ((h.wide (g.mid hi)).far (fr_own g.by_) (Gw.far hi)).wide (fun b _ hb=>Gw.out hi b hb)
theorem LK.gw {w0 W W':World} {lb mb N:Nat} {v v':Value} {hi:HG} {en:En} {pl:Int} (h:LK w0 W lb mb (hi.but v.ownBlock) N en pl) (g:Gw W W' v v') (hv:∀b,v.ownBlock=some b→hi.h≤b) (hup:∀b,W.heap.size≤b→hi.G b):LK w0 W' lb mb (hi.but v'.ownBlock) N en pl:=by
 obtain ⟨pv,k1,k2⟩:=h.box
 have f:=fr_own g.by_
 have h3:lb<hi.h:=h.o3
 have h4:mb<hi.h:=h.o4
 have hne:∀b,b<hi.h→some b≠v.ownBlock:=fun b hb e=>by have:=hv b e.symm;omega
 have q2:=((k2.wide (g.mid hi)).far f (Gw.far hi)).wide (fun b _ hb=>Gw.out hi b hb)
 have q3:=((h.nm.wide (g.mid hi)).far f (Gw.far hi) (g.by_.block _ (Nat.lt_of_lt_of_le h.o4 h.o5) (hne mb h4))).wide (fun b _ hb=>Gw.out hi b hb)
 refine ⟨h.below.grown g.by_ h.below.size (fun b e=>?_),⟨pv,(g.by_.block _ k1.lt (hne lb h3)).trans k1,q2⟩,q3,h.o1,h.o2,h.o3,h.o4,Nat.le_trans h.o5 g.by_.size,h.o6,fun b hb=>⟨hup b (Nat.le_trans g.by_.size hb),fun e=>?_⟩⟩
 ·have:=hv b e
  have:=h.o1
  omega
 ·have:=g.lt b e.symm
  omega
def ppw:List PP→List Value
 | []=>[]
 | p::ps=>ppc p++ppw ps
theorem ppw_put:∀(ps:List PP) (p:PP),ppw (ps++[p])=ppw ps++ppc p
 | [],p=>by show ppc p++[]=[]++ppc p;simp
 | q::ps,p=>by show ppc q++ppw (ps++[p])=ppc q++ppw ps++ppc p;rw [ppw_put ps p,List.append_assoc]
theorem ppw_length:∀ps:List PP,(ppw ps).length=ps.length*14
 | []=>rfl
 | q::ps=>by
  show (ppc q++ppw ps).length=_
  rw [List.length_append,ppw_length ps]
  show 14+_=(ps.length+1)*14
  omega
theorem ppw_at:∀(ps:List PP) (i:Nat) (h:i<ps.length) (j:Nat),j<14→(ppw ps)[i*14+j]?=(ppc ps[i])[j]?
 | [],i,h,_,_=>absurd h (Nat.not_lt_zero _)
 | q::ps,0,_,j,hj=>by
  show (ppc q++ppw ps)[0*14+j]?=(ppc q)[j]?
  rw [Nat.zero_mul,Nat.zero_add]
  exact List.getElem?_append_left (by show j<14;exact hj)
 | q::ps,i+1,h,j,hj=>by
  have h':i<ps.length:=by simpa using h
  show (ppc q++ppw ps)[(i+1)*14+j]?=(ppc ps[i])[j]?
  rw [show (i+1)*14+j=14+(i*14+j) by omega,←ppw_at ps i (by simpa using h) j hj]
  exact List.getElem?_append_right (l₁:=ppc q) (l₂:=ppw ps) (i:=14+(i*14+j)) (by show 14≤_;omega) |>.trans (by rw [show (ppc q).length=14 from rfl,Nat.add_sub_cancel_left])
def PT (W:World) (hi:HG) (n B:Nat) (v:Value) (L:List TO):Prop:=
 ∃(ps:List PP) (Ls:List (List TO)),W.ownsRow B 113 14 v ps.length (ppw ps)∧ps.length≤4097∧Ls.length=ps.length ∧
  (∀k (h:k<ps.length) (h':k<Ls.length),QSh W hi ps[k].qa ps[k].qc ps[k].qs∧PL W hi (nbq n ps[k].qs) (.slice ps[k].ba ps[k].bn ps[k].bc) Ls[k]∧mean ps[k] Ls[k]≠[]∧PQ n ps[k]) ∧
  L=((ps.zip Ls).map fun x=>mean x.1 x.2).flatten
theorem pt_nil (W:World) (hi:HG) (n B:Nat):PT W hi n B (.slice none 0 0) []:=⟨[],[],World.ownsRow_nil _ _ _ _,Nat.zero_le _,rfl,fun _ hk=>absurd hk (Nat.not_lt_zero _),rfl⟩
theorem PT.far {W W':World} {lo up n B:Nat} {hi:HG} {v:Value} {L:List TO} (h:PT W hi n B v L) (g:Fr W W' lo up) (hx:∀b,hi.G b→b<lo∨up≤b) (hv:up≤B):PT W' hi n B v L:=by
 obtain ⟨ps,Ls,h1,h2,h3,h4,h5⟩:=h
 refine ⟨ps,Ls,?_,h2,h3,fun k hk hk'=>?_,h5⟩
 ·refine ⟨h1.1,?_⟩
  rcases h1.2 with e | ⟨g',cap,cur,e,hb,hg,r⟩
  ·exact .inl e
  ·exact .inr ⟨g',cap,cur,e,hb,(g.block g' (Array.getElem?_eq_some_iff.1 hg).1 (.inr (Nat.le_trans hv hb))).trans hg,r⟩
 ·obtain ⟨q1,q2,q3⟩:=h4 k hk hk'
  exact ⟨q1.far g hx,q2.far g hx,q3⟩
theorem PT.below {W W':World} {n B:Nat} {hi:HG} {v:Value} {L:List TO} (h:PT W hi n B v L) (g:Below W.heap.size W W'):PT W' hi n B v L:=h.far (lo:=0) (up:=0) (fr_of_below g) (fun _ _=>.inr (Nat.zero_le _)) (Nat.zero_le _)
theorem PT.mono {W:World} {n n' B:Nat} {hi:HG} {v:Value} {L:List TO} (h:PT W hi n B v L) (hn:n≤n'):PT W hi n' B v L:=by
 obtain ⟨ps,Ls,h1,h2,h3,h4,h5⟩:=h
 exact ⟨ps,Ls,h1,h2,h3,fun k hk hk'=>⟨(h4 k hk hk').1,(h4 k hk hk').2.1.mono (nbq_mono _ hn),(h4 k hk hk').2.2.1,(h4 k hk hk').2.2.2.mono hn⟩,h5⟩
theorem PT.lt {W:World} {n B:Nat} {hi:HG} {v:Value} {L:List TO} (h:PT W hi n B v L):∀g,v.ownBlock=some g→B≤g∧g<W.heap.size:=by
 obtain ⟨ps,Ls,h1,_⟩:=h
 exact fun g e=>h1.lt g e
theorem plain_depth {W:World} {hi:HG} {n:Nat} {ps:List PP} {Ls:List (List TO)} (hl:Ls.length=ps.length) (h:∀k (h:k<ps.length) (h':k<Ls.length),PL W hi (nbq n ps[k].qs) (.slice ps[k].ba ps[k].bn ps[k].bc) Ls[k]) :
  ∀m,m≤ps.length→∃d,∀k (h:k<ps.length) (h':k<Ls.length),k<m→PLn d W hi (nbq n ps[k].qs) (.slice ps[k].ba ps[k].bn ps[k].bc) Ls[k]
 | 0,_=>⟨0,fun k _ _ hk=>absurd hk (Nat.not_lt_zero _)⟩
 | m+1,hm=>by
  obtain ⟨d,hd⟩:=plain_depth hl h m (by omega)
  obtain ⟨d',hd'⟩:=h m (by omega) (by omega)
  refine ⟨max d d',fun k hk hk' hkm=>?_⟩
  by_cases e:k<m
  ·exact (hd k hk hk' e).le (Nat.le_max_left _ _)
  ·obtain rfl:k=m:=by omega
   exact hd'.le (Nat.le_max_right _ _)
theorem PT.pl {W:World} {n B:Nat} {hi:HG} {v:Value} {L:List TO} (h:PT W (hi.but v.ownBlock) n B v L) (hu:UnS L) (hB:∀b,B≤b→hi.G b):PL W hi n v L:=by
 obtain ⟨ps,Ls,h1,h2,h3,h4,h5⟩:=h
 have h4':∀k (h:k<ps.length) (h':k<Ls.length),QSh W hi ps[k].qa ps[k].qc ps[k].qs∧PL W hi (nbq n ps[k].qs) (.slice ps[k].ba ps[k].bn ps[k].bc) Ls[k]∧mean ps[k] Ls[k]≠[]∧PQ n ps[k]:=fun k hk hk'=>⟨(h4 k hk hk').1.wide (fun b _ hb=>hb.1),(h4 k hk hk').2.1.wide (fun b _ hb=>hb.1),(h4 k hk hk').2.2⟩
 obtain ⟨d,hd⟩:=plain_depth h3 (fun k hk hk'=>(h4' k hk hk').2.1) ps.length (Nat.le_refl _)
 obtain ⟨a,c,rfl⟩:=own_shape h1
 rcases Nat.eq_zero_or_pos ps.length with h0 | h0
 ·have hp:ps=[]:=List.eq_nil_of_length_eq_zero h0
  subst hp
  have hL:L=[]:=by rw [h5];rfl
  subst hL
  exact pl_nil W hi n a c
 ·obtain ⟨g,cap,e,hc,_,hcell,hBg,hgl⟩:=own_at h1 h0
  cases e
  refine ⟨d+1,_,_,ps,Ls,rfl,hc,h2,h3,fun k hk=>⟨g,0,rfl,hB g hBg,hgl,fun i hi' j hj=>?_⟩,fun k hk hk'=>⟨(h4' k hk hk').1,hd k hk hk' hk,(h4' k hk hk').2.2⟩,h5,hu⟩
  have hl:=ppw_length ps
  have hlt:i*14+j<(ppw ps).length:=by rw [hl];have:(i+1)*14≤ps.length*14:=Nat.mul_le_mul_right _ hi';omega
  rw [Nat.zero_add,hcell _ hlt,←ppw_at ps i hi' j hj,List.getElem?_eq_getElem hlt]
theorem PT.put {W W':World} {n B:Nat} {hi:HG} {v v':Value} {L:List TO} {ps:List PP} {Ls:List (List TO)} {p:PP} {Lp:List TO} (h2:ps.length<4097) (h3:Ls.length=ps.length)
  (h4:∀k (h:k<ps.length) (h':k<Ls.length),QSh W (hi.but v.ownBlock) ps[k].qa ps[k].qc ps[k].qs∧PL W (hi.but v.ownBlock) (nbq n ps[k].qs) (.slice ps[k].ba ps[k].bn ps[k].bc) Ls[k]∧mean ps[k] Ls[k]≠[]∧PQ n ps[k])
  (h5:L=((ps.zip Ls).map fun x=>mean x.1 x.2).flatten) (q1:QSh W (hi.but v.ownBlock) p.qa p.qc p.qs) (q2:PL W (hi.but v.ownBlock) (nbq n p.qs) (.slice p.ba p.bn p.bc) Lp) (q3:mean p Lp≠[]) (q4:PQ n p)
  (ho:W'.ownsRow B 113 14 v' (ps.length+1) (ppw ps++ppc p)) (g:Gw W W' v v'):PT W' (hi.but v'.ownBlock) n B v' (L++mean p Lp):=by
 refine ⟨ps++[p],Ls++[Lp],by rw [ppw_put,List.length_append];exact ho,by rw [List.length_append];exact h2,by simp [h3],fun k hk hk'=>?_,?_⟩
 ·by_cases e:k<ps.length
  ·rw [List.getElem_append_left e,List.getElem_append_left (show k<Ls.length by omega)]
   obtain ⟨x1,x2,x3⟩:=h4 k e (by omega)
   exact ⟨x1.gw g,x2.gw g,x3⟩
  ·have e1:k=ps.length:=by rw [List.length_append] at hk;simp at hk;omega
   subst e1
   have e2:(ps++[p])[ps.length]'hk=p:=by simp
   have e3:(Ls++[Lp])[ps.length]'hk'=Lp:=by simp [←h3]
   rw [e2,e3]
   exact ⟨q1.gw g,q2.gw g,q3,q4⟩
 ·rw [List.zip_append (by omega),List.map_append,List.flatten_append,←h5]
  simp
end Go.Proofs.YtdjfpghgklkejaaGreatDoor
namespace Go.Proofs.YtdjfpghgklkejaaGreatDoor
open Go.RowKit Go.Sort
def opw:List Oq→List (Option Addr × Nat)→List Value
 | o::os,v::vs=>opc o v.1 v.2++opw os vs
 | _,_=>[]
theorem opw_put:∀(os:List Oq) (vs:List (Option Addr × Nat)) (o:Oq) (v:Option Addr × Nat),os.length=vs.length→opw (os++[o]) (vs++[v])=opw os vs++opc o v.1 v.2
 | [],[],_,_,_=>rfl
 | [],_::_,_,_,h=>by cases h
 | _::_,[],_,_,h=>by cases h
 | r0::rs,v0::vs,r,v,h=>by
  show opc r0 v0.1 v0.2++opw (rs++[r]) (vs++[v])=opc r0 v0.1 v0.2++opw rs vs++opc r v.1 v.2
  rw [opw_put rs vs r v (by simpa using h),List.append_assoc]
theorem opw_length:∀(rs:List Oq) (vs:List (Option Addr × Nat)),rs.length=vs.length→(opw rs vs).length=rs.length*7
 | [],[],_=>rfl
 | [],_::_,h=>by cases h
 | _::_,[],h=>by cases h
 | r0::rs,v0::vs,h=>by
  show (opc r0 v0.1 v0.2++opw rs vs).length=_
  rw [List.length_append,opw_length rs vs (by simpa using h)]
  show 7+_=(rs.length+1)*7
  omega
theorem opw_at:∀(rs:List Oq) (vs:List (Option Addr × Nat)),rs.length=vs.length→∀(j:Nat) (h:j<rs.length) (h':j<vs.length),
  (opw rs vs)[j*7]?=some (.int .i64 rs[j].k)∧(opw rs vs)[j*7+1]?=some (.string rs[j].n)∧(opw rs vs)[j*7+2]?=some (.slice vs[j].1 rs[j].qs.length vs[j].2) ∧
  (opw rs vs)[j*7+3]?=some (.int .i64 rs[j].b)∧(opw rs vs)[j*7+4]?=some (.bool rs[j].f)∧(opw rs vs)[j*7+5]?=some (.int .u64 rs[j].m)∧(opw rs vs)[j*7+6]?=some (.int .u64 rs[j].v)
 | [],_,_,j,h,_=>absurd h (Nat.not_lt_zero _)
 | _::_,[],h,_,_,_=>by cases h
 | r0::rs,v0::vs,h,j,hj,hj'=>by
  have e:opw (r0::rs) (v0::vs)=opc r0 v0.1 v0.2++opw rs vs:=rfl
  cases j with
  | zero=>rw [e];exact ⟨rfl,rfl,rfl,rfl,rfl,rfl,rfl⟩
  | succ j=>
   have:=opw_at rs vs (by simpa using h) j (by simpa using hj) (by simpa using hj')
   rw [e,show (j+1)*7=j*7+7 by omega]
   exact this
theorem own_qs {W:World} {B:Nat} {v:Value} {l:List Int} (h:W.ownsRow B 3 1 v l.length (zl l)):∃a c,v=.slice a l.length c∧QS W a c l:=by
 rcases Nat.eq_zero_or_pos l.length with h0 | h0
 ·obtain ⟨a,c,rfl⟩:=own_shape h
  exact ⟨a,c,rfl,by omega,fun k hk=>by omega⟩
 ·obtain ⟨g,cap,rfl,hc,_,hcell,_,hl⟩:=own_at h h0
  refine ⟨_,cap,rfl,hc,fun _ _=>⟨g,0,rfl,fun j hj=>?_,hl⟩⟩
  have hz:j<(zl l).length:=by simpa [zl] using hj
  rw [Nat.zero_add,hcell j hz]
  simp [zl]
structure OM (W:World) (B:Nat) (v:Value) (os:List Oq) (vs:List (Option Addr × Nat)):Prop where
 len:os.length=vs.length
 own:W.ownsRow B 49 7 v os.length (opw os vs)
 qs:∀k (h:k<os.length) (h':k<vs.length),W.ownsRow B 3 1 (.slice vs[k].1 os[k].qs.length vs[k].2) os[k].qs.length (zl os[k].qs)
 fit:∀k (h:k<os.length),Fit os[k]
 some_:∀k (h:k<vs.length),∃b,vs[k].1=some ⟨b,0,none⟩
 dis:∀i j (hi:i<vs.length) (hj:j<vs.length),i<j→vs[i].1≠vs[j].1
section
variable {W W' : World} {B : Nat} {v v' : Value} {os : List Oq} {vs : List (Option Addr × Nat)}
theorem OM.nil (W:World) (B:Nat):OM W B (.slice none 0 0) [] []:=⟨rfl,World.ownsRow_nil _ _ _ _,fun _ h=>absurd h (Nat.not_lt_zero _),fun _ h=>absurd h (Nat.not_lt_zero _),fun _ h=>absurd h (Nat.not_lt_zero _),fun _ _ h=>absurd h (Nat.not_lt_zero _)⟩
theorem OM.below (h:OM W B v os vs) (hb:Below W.heap.size W W'):OM W' B v os vs:=
 ⟨h.len,own_below h.own hb,fun k hk hk'=>own_below (h.qs k hk hk') hb,h.fit,h.some_,h.dis⟩
theorem OM.kept {row:Option Nat} (h:OM W B v os vs) (hg:W.grownBy W' row) (h1:∀g,v.ownBlock=some g→some g≠row) (h2:∀k (h:k<vs.length) g,vs[k].1=some ⟨g,0,none⟩→some g≠row):OM W' B v os vs:=
 ⟨h.len,own_kept h.own hg h1,fun k hk hk'=>own_kept (h.qs k hk hk') hg (fun g hg'=>by
  obtain ⟨b,e⟩:=h.some_ k hk'
  rw [e] at hg'
  cases hg'
  exact h2 k hk' _ e),h.fit,h.some_,h.dis⟩
theorem OM.put {o:Oq} {b c:Nat} (h:OM W B v os vs) (hq:W.ownsRow B 3 1 (.slice (some ⟨b,0,none⟩) o.qs.length c) o.qs.length (zl o.qs)) (hf:Fit o) (hb:∀k (h:k<vs.length),vs[k].1≠some ⟨b,0,none⟩) (hg:W.grownBy W' v.ownBlock) (ho:W'.ownsRow B 49 7 v' (os.length+1) (opw os vs++opc o (some ⟨b,0,none⟩) c)):OM W' B v' (os++[o]) (vs++[(some ⟨b,0,none⟩,c)]):=by
 have key:∀ {x:Value} {n xs},W.ownsRow B 3 1 x n xs→W'.ownsRow B 3 1 x n xs:=fun hx=>own_kept hx hg (fun g e e2=>by
  obtain ⟨cs,h⟩:=own_ty h.own e2.symm
  exact own_ne hx (b:=g) h (by decide) g e rfl)
 have hl:=h.len
 have last:∀(hk':os.length<(vs++[((some ⟨b,0,none⟩:Option Addr),c)]).length),(vs++[((some ⟨b,0,none⟩:Option Addr),c)])[os.length]'hk'=(some ⟨b,0,none⟩,c):=fun hk'=>by simp [hl]
 refine ⟨by simp [hl],by rw [opw_put _ _ _ _ hl,List.length_append];exact ho,fun k hk hk'=>?_,fun k hk=>?_,fun k hk=>?_,fun i j hi hj hij=>?_⟩
 ·by_cases e:k<os.length
  ·rw [List.getElem_append_left (by omega),List.getElem_append_left e]
   exact key (h.qs k e (by omega))
  ·have e1:k=os.length:=by rw [List.length_append] at hk;simp at hk;omega
   subst e1
   have e2:(os++[o])[os.length]'hk=o:=by simp
   rw [e2,last]
   exact key hq
 ·by_cases e:k<os.length
  ·rw [List.getElem_append_left e];exact h.fit k e
  ·have e1:k=os.length:=by rw [List.length_append] at hk;simp at hk;omega
   subst e1
   have e2:(os++[o])[os.length]'hk=o:=by simp
   rw [e2]
   exact hf
 ·by_cases e:k<vs.length
  ·rw [List.getElem_append_left e];exact h.some_ k e
  ·have e1:k=os.length:=by rw [List.length_append] at hk;simp at hk;omega
   subst e1
   rw [last]
   exact ⟨b,rfl⟩
 ·rw [List.length_append] at hi hj
  simp only [List.length_cons,List.length_nil] at hi hj
  have e:i<vs.length:=by omega
  rw [List.getElem_append_left e]
  by_cases e':j<vs.length
  ·rw [List.getElem_append_left e']
   exact h.dis i j e e' hij
  ·obtain rfl:j=os.length:=by omega
   rw [last]
   exact hb i e
def vA (vs:List (Option Addr × Nat)) (k:Nat):Option Addr:=(vs.getD k (none,0)).1
def vC (vs:List (Option Addr × Nat)) (k:Nat):Nat:=(vs.getD k (none,0)).2
theorem vs_at (vs:List (Option Addr × Nat)) (k:Nat) (h:k<vs.length):vs[k]=(vA vs k,vC vs k):=by
 unfold vA vC
 rw [List.getD_eq_getElem?_getD,List.getElem?_eq_getElem h]
 rfl
theorem OM.read (h:OM W B v os vs):∃a c,v=.slice a os.length c∧OS W a c os (vA vs) (vC vs):=by
 have hl:=h.len
 have hq:∀k (h:k<os.length),QS W (vA vs k) (vC vs k) os[k].qs:=fun k hk=>by
  have hr:=h.qs k hk (by omega)
  rw [vs_at vs k (by omega)] at hr
  obtain ⟨a,c,e,q⟩:=own_qs hr
  cases e
  exact q
 have hlen:=own_len2 h.own
 rcases Nat.eq_zero_or_pos os.length with h0 | h0
 ·obtain ⟨a,c,rfl⟩:=own_shape h.own
  exact ⟨a,c,rfl,by omega,hq,fun k hk=>by omega,h.fit,hlen⟩
 ·obtain ⟨g,cap,rfl,hc,_,hcell,_,hgl⟩:=own_at h.own h0
  have hwl:=opw_length os vs hl
  have get:∀(i:Nat) (x:Value),i<os.length*7→(opw os vs)[i]?=some x→W.cell? ⟨g,0+i,none⟩=some x:=fun i x hi e=>by
   rw [List.getElem?_eq_getElem (by omega)] at e
   rw [Nat.zero_add,hcell i (by omega),Option.some.inj e]
  refine ⟨_,cap,rfl,hc,hq,fun _ _=>⟨g,0,rfl,?_,?_,?_,?_,?_,?_,?_,hgl⟩,h.fit,hlen⟩
  ·intro j hj;exact get _ _ (by omega) (opw_at os vs hl j hj (by omega)).1
  ·intro j hj;exact get _ _ (by omega) (opw_at os vs hl j hj (by omega)).2.1
  ·intro j hj;have:=(opw_at os vs hl j hj (by omega)).2.2.1;rw [vs_at vs j (by omega)] at this;exact get _ _ (by omega) this
  ·intro j hj;exact get _ _ (by omega) (opw_at os vs hl j hj (by omega)).2.2.2.1
  ·intro j hj;exact get _ _ (by omega) (opw_at os vs hl j hj (by omega)).2.2.2.2.1
  ·intro j hj;exact get _ _ (by omega) (opw_at os vs hl j hj (by omega)).2.2.2.2.2.1
  ·intro j hj;exact get _ _ (by omega) (opw_at os vs hl j hj (by omega)).2.2.2.2.2.2
end
structure MK (W:World) (B mk:Nat) (ov pv:Value) (os:List Oq) (vs:List (Option Addr × Nat)) (pls:List Int) (f:Sd):Prop where
 box:BK W mk #[ov,pv,.int .i64 f.p,.int .i64 (f.n:Nat),.bool f.g,.int .u64 (f.m:Nat),.int .u64 (f.v:Nat)] 117
 ops:OM W B ov os vs
 pl:W.ownsRow B 3 1 pv pls.length (zl pls)
 len:pls.length=os.length
 apart:∀k (h:k<vs.length) g,vs[k].1=some ⟨g,0,none⟩→some g≠pv.ownBlock
 fm:f.m<18446744073709551616∧f.v<18446744073709551616
 hB:B≤W.heap.size
 hm:B≤mk
theorem MK.below {W W':World} {B mk:Nat} {ov pv:Value} {os:List Oq} {vs:List (Option Addr × Nat)} {pls:List Int} {f:Sd} (h:MK W B mk ov pv os vs pls f) (hb:Below W.heap.size W W'):MK W' B mk ov pv os vs pls f:=
 ⟨(hb.block _ h.box.lt).trans h.box,h.ops.below hb,own_below h.pl hb,h.len,h.apart,h.fm,Nat.le_trans h.hB hb.size,h.hm⟩
end Go.Proofs.YtdjfpghgklkejaaGreatDoor
namespace Go.Proofs.YtdjfpghgklkejaaGreatDoor
open Go.RowKit Go.Sort
theorem bbk {V W:World} {b:Nat} {cs:Array Value} {T:TypeId} (h:BK V b cs T) (g:Below V.heap.size V W):BK W b cs T:=(g.block _ h.lt).trans h
structure KMk (W W':World) (mk:Nat) (ov pv ov' pv':Value):Prop where
 os:W'.os=W.os
 tape:W'.tape=W.tape
 output:W'.output=W.output
 size:W.heap.size≤W'.heap.size
 block:∀b,b<W.heap.size→b≠mk→some b≠ov.ownBlock→some b≠pv.ownBlock→W'.heap[b]?=W.heap[b]?
 o_:ov'.ownBlock=ov.ownBlock∨∃g,ov'.ownBlock=some g∧W.heap.size≤g
 p_:pv'.ownBlock=pv.ownBlock∨∃g,pv'.ownBlock=some g∧W.heap.size≤g
theorem KMk.refl (W:World) (mk:Nat) (ov pv:Value):KMk W W mk ov pv ov pv:=⟨rfl,rfl,rfl,Nat.le_refl _,fun _ _ _ _ _=>rfl,.inl rfl,.inl rfl⟩
theorem KMk.blw {W W1 W':World} {mk:Nat} {ov pv ov' pv':Value} (h:KMk W W1 mk ov pv ov' pv') (g:Below W1.heap.size W1 W'):KMk W W' mk ov pv ov' pv':=
 ⟨g.os.trans h.os,g.tape.trans h.tape,g.output.trans h.output,Nat.le_trans h.size g.size,fun b h1 h2 h3 h4=>(g.block b (Nat.lt_of_lt_of_le h1 h.size)).trans (h.block b h1 h2 h3 h4),h.o_,h.p_⟩
theorem KMk.trans {W W1 W':World} {mk:Nat} {ov pv ov' pv' ov2 pv2:Value} (h:KMk W W1 mk ov pv ov' pv') (g:KMk W1 W' mk ov' pv' ov2 pv2):KMk W W' mk ov pv ov2 pv2:=by
 refine ⟨g.os.trans h.os,g.tape.trans h.tape,g.output.trans h.output,Nat.le_trans h.size g.size,fun b h1 h2 h3 h4=>(g.block b (Nat.lt_of_lt_of_le h1 h.size) h2 (fun e=>?_) (fun e=>?_)).trans (h.block b h1 h2 h3 h4),?_,?_⟩
 ·rcases h.o_ with h' | ⟨x,h',hx⟩
  ·rw [h'] at e;exact h3 e
  ·rw [h'] at e;cases e;omega
 ·rcases h.p_ with h' | ⟨x,h',hx⟩
  ·rw [h'] at e;exact h4 e
  ·rw [h'] at e;cases e;omega
 ·rcases g.o_ with h' | ⟨x,h',hx⟩
  ·rw [h'];exact h.o_
  ·exact .inr ⟨x,h',Nat.le_trans h.size hx⟩
 ·rcases g.p_ with h' | ⟨x,h',hx⟩
  ·rw [h'];exact h.p_
  ·exact .inr ⟨x,h',Nat.le_trans h.size hx⟩
theorem Tryz.info49:(Tryz.prog.info? 49).map (fun i=>(i.zero,i.size,i.bytes))=some (some (.agg #[.int .i64 0,.string ⟨#[]⟩,.slice none 0 0,.int .i64 0,.bool false,.int .u64 0,.int .u64 0]),7,80):=by kernel_rfl
theorem new_oq (w4:World) (b:Nat) (hb:b=w4.heap.size) (o:Oq) (a:Option Addr) (c:Nat):∀j u,(opc o a c)[j]?=some u→(w4.alloc (.cells (opc o a c).toArray 49)).cell? ((⟨b,0,none⟩:Addr).add j)=some u:=by
 intro j u hj
 subst hb
 rw [WideShapes.add_plain,Nat.zero_add,(bk_new w4 (opc o a c).toArray 49).cell j]
 simpa using hj
theorem one_oq (o:Oq) (a:Option Addr) (c:Nat):∀u∈opc o a c,u.oneCell'=true:=fun u hu=>by
 simp at hu
 rcases hu with rfl | rfl | rfl | rfl | rfl | rfl | rfl <;> rfl
theorem new_int (w4:World) (b:Nat) (hb:b=w4.heap.size) (x:Int):∀j u,[Value.int .i64 x][j]?=some u→(w4.alloc (.cells #[.int .i64 x] 3)).cell? ((⟨b,0,none⟩:Addr).add j)=some u:=by
 intro j u hj
 subst hb
 rw [WideShapes.add_plain,Nat.zero_add,(bk_new w4 #[.int .i64 x] 3).cell j]
 simpa using hj
theorem one_int (x:Int):∀u∈[Value.int .i64 x],u.oneCell'=true:=fun u hu=>by
 rw [List.mem_singleton] at hu
 subst hu
 rfl
theorem own_two {W:World} {B T T' c c' n n':Nat} {v v':Value} {xs xs':List Value} (h:W.ownsRow B T c v n xs) (h':W.ownsRow B T' c' v' n' xs') (ht:T≠T'):∀g,v.ownBlock=some g→some g≠v'.ownBlock:=fun g e e2=>by
 obtain ⟨cs,h1⟩:=own_ty h' e2.symm
 exact own_ne h (b:=g) h1 ht g e rfl
theorem set_grown (W:World) (b k:Nat) (u:Value):W.grownBy (W.setCell ⟨b,k,none⟩ u) (some b):=⟨rfl,rfl,rfl,by simp [World.setCell],fun j _ hne=>Below.heap_setCell W ⟨b,k,none⟩ u j (fun e=>hne (by rw [show j=b from e]))⟩
structure MK1 (V W:World) (B mk:Nat) (ov pv ov0:Value) (os:List Oq) (vs:List (Option Addr × Nat)) (pls:List Int) (f:Sd):Prop where
 box:BK W mk #[ov,pv,.int .i64 f.p,.int .i64 (f.n:Nat),.bool f.g,.int .u64 (f.m:Nat),.int .u64 (f.v:Nat)] 117
 ops:OM W B ov os vs
 pl:W.ownsRow B 3 1 pv pls.length (zl pls)
 apart:∀k (h:k<vs.length) g,vs[k].1=some ⟨g,0,none⟩→some g≠pv.ownBlock∧g<V.heap.size
 km:KMk V W mk ov0 pv ov pv
 hB:B≤W.heap.size
theorem MK1.below {V W W':World} {B mk:Nat} {ov pv ov0:Value} {os:List Oq} {vs:List (Option Addr × Nat)} {pls:List Int} {f:Sd} (h:MK1 V W B mk ov pv ov0 os vs pls f) (hb:Below W.heap.size W W'):MK1 V W' B mk ov pv ov0 os vs pls f:=
 ⟨(hb.block _ h.box.lt).trans h.box,h.ops.below hb,own_below h.pl hb,h.apart,h.km.blw hb,Nat.le_trans h.hB hb.size⟩
theorem mk_one {V W4 w8:World} {B mk:Nat} {ov pv ov':Value} {os:List Oq} {vs:List (Option Addr × Nat)} {pls:List Int} {f:Sd} {oq:Oq} {lb lc:Nat} (H:MK V B mk ov pv os vs pls f) (hB:Below V.heap.size V W4) (hg:W4.grownBy w8 ov.ownBlock) (ho:w8.ownsRow B 49 7 ov' (os.length+1) (opw os vs++opc oq (some ⟨lb,0,none⟩) lc)) (hl:ov'.ownBlock=ov.ownBlock∨ov'.ownBlock=some W4.heap.size)
  (hq:V.ownsRow B 3 1 (.slice (some ⟨lb,0,none⟩) oq.qs.length lc) oq.qs.length (zl oq.qs)) (hlb:∀k (h:k<vs.length),vs[k].1≠some ⟨lb,0,none⟩) (hlp:some lb≠pv.ownBlock) (hf:Fit oq) :
  MK1 V (w8.setCell ⟨mk,0,none⟩ ov') B mk ov' pv ov (os++[oq]) (vs++[(some ⟨lb,0,none⟩,lc)]) pls f:=by
 have hb4:BK W4 mk _ 117:=bbk H.box hB
 have hb8:BK w8 mk _ 117:=(hg.block mk hb4.lt (fun e=>own_ne (own_below H.ops.own hB) hb4 (by decide) mk e.symm rfl)).trans hb4
 have ho8:=OM.put (H.ops.below hB) (own_below hq hB) hf hlb hg ho
 have hp8:w8.ownsRow B 3 1 pv pls.length (zl pls):=own_kept (own_below H.pl hB) hg (own_two (own_below H.pl hB) (own_below H.ops.own hB) (by decide))
 have hs:=set_grown w8 mk 0 ov'
 have hlbV:lb<V.heap.size:=(hq.lt lb rfl).2
 refine ⟨hb8.set 0 ov',ho8.kept hs (own_ne ho8.own hb8 (by decide)) (fun k hk g e=>?_),own_kept hp8 hs (own_ne hp8 hb8 (by decide)),fun k hk g e=>?_,?_,Nat.le_trans H.hB (Nat.le_trans hB.size (Nat.le_trans hg.size hs.size))⟩
 ·have hqk:=ho8.qs k (by rw [ho8.len];exact hk) hk
  rw [e] at hqk
  exact own_ne hqk hb8 (by decide) g rfl
 ·rw [List.length_append] at hk
  simp only [List.length_cons,List.length_nil] at hk
  by_cases h:k<vs.length
  ·rw [List.getElem_append_left h] at e
   have hqk:=H.ops.qs k (by rw [H.ops.len];exact h) h
   rw [e] at hqk
   exact ⟨H.apart k h g e,(hqk.lt g rfl).2⟩
  ·obtain rfl:k=vs.length:=by omega
   have e2:(vs++[((some ⟨lb,0,none⟩:Option Addr),lc)])[vs.length]'(by simp)=(some ⟨lb,0,none⟩,lc):=by simp
   rw [e2] at e
   cases e
   exact ⟨hlp,hlbV⟩
 ·refine ⟨hs.os.trans (hg.os.trans hB.os),hs.tape.trans (hg.tape.trans hB.tape),hs.output.trans (hg.output.trans hB.output),Nat.le_trans hB.size (Nat.le_trans hg.size hs.size),fun b h1 h2 h3 _=>?_,?_,.inl rfl⟩
  ·have l4:b<W4.heap.size:=Nat.lt_of_lt_of_le h1 hB.size
   exact (hs.block b (Nat.lt_of_lt_of_le l4 hg.size) (fun e=>h2 (Option.some.inj e))).trans ((hg.block b l4 h3).trans (hB.block b h1))
  ·rcases hl with h | h
   ·exact .inl h
   ·exact .inr ⟨_,h,hB.size⟩
theorem mk_two {V W5 W4 w9:World} {B mk:Nat} {ov pv ov0 pv':Value} {os:List Oq} {vs:List (Option Addr × Nat)} {pls:List Int} {f:Sd} (H:MK1 V W5 B mk ov pv ov0 os vs pls f) (hB:Below W5.heap.size W5 W4) (hg:W4.grownBy w9 pv.ownBlock) (ho:w9.ownsRow B 3 1 pv' (pls.length+1) (zl pls++[.int .i64 f.p])) (hl:pv'.ownBlock=pv.ownBlock∨pv'.ownBlock=some W4.heap.size) (hlen:pls.length+1=os.length) (hfm:f.m<18446744073709551616∧f.v<18446744073709551616) (hm:B≤mk) :
  MK (w9.setCell ⟨mk,1,none⟩ pv') B mk ov pv' os vs (pls++[f.p]) f∧KMk V (w9.setCell ⟨mk,1,none⟩ pv') mk ov0 pv ov pv':=by
 have H4:=H.below hB
 have hb9:BK w9 mk _ 117:=(hg.block mk H4.box.lt (fun e=>own_ne H4.pl H4.box (by decide) mk e.symm rfl)).trans H4.box
 have ho9:OM w9 B ov os vs:=H4.ops.kept hg (own_two H4.ops.own H4.pl (by decide)) (fun k hk g e=>(H4.apart k hk g e).1)
 have hs:=set_grown w9 mk 1 pv'
 have hz:zl (pls++[f.p])=zl pls++[.int .i64 f.p]:=by unfold zl;simp
 have hV4:V.heap.size≤W4.heap.size:=Nat.le_trans H.km.size hB.size
 refine ⟨⟨hb9.set 1 pv',ho9.kept hs (own_ne ho9.own hb9 (by decide)) (fun k hk g e=>?_),?_,by simp [hlen],fun k hk g e=>?_,hfm,Nat.le_trans H4.hB (Nat.le_trans hg.size hs.size),hm⟩,?_⟩
 ·have hqk:=ho9.qs k (by rw [ho9.len];exact hk) hk
  rw [e] at hqk
  exact own_ne hqk hb9 (by decide) g rfl
 ·rw [hz,List.length_append]
  exact own_kept ho hs (own_ne ho hb9 (by decide))
 ·obtain ⟨h1,h2⟩:=H.apart k hk g e
  rcases hl with h | h
  ·rw [h];exact h1
  ·rw [h];intro e2;cases e2;omega
 ·have hk:KMk W5 (w9.setCell ⟨mk,1,none⟩ pv') mk ov pv ov pv':=by
   refine ⟨hs.os.trans (hg.os.trans hB.os),hs.tape.trans (hg.tape.trans hB.tape),hs.output.trans (hg.output.trans hB.output),Nat.le_trans hB.size (Nat.le_trans hg.size hs.size),fun b h1 h2 _ h4=>?_,.inl rfl,?_⟩
   ·have l4:b<W4.heap.size:=Nat.lt_of_lt_of_le h1 hB.size
    exact (hs.block b (Nat.lt_of_lt_of_le l4 hg.size) (fun e=>h2 (Option.some.inj e))).trans ((hg.block b l4 h4).trans (hB.block b h1))
   ·rcases hl with h | h
    ·exact .inl h
    ·exact .inr ⟨_,h,hB.size⟩
  exact H.km.trans hk
end Go.Proofs.YtdjfpghgklkejaaGreatDoor
namespace Go.Proofs.YtdjfpghgklkejaaGreatDoor
open Go.RowKit Go.Sort
def sdF (f:Sd) (t:TO):Sd:=t.st.getD f
def onQ (Q:List Int) (l:List Int):List Int:=l.map fun j=>Q.getD j.toNat 0
def opL (Q:List Int) (f:Sd) (t:TO):Oq:=⟨t.k,t.n,onQ Q t.qs,t.b,decide ((sdF f t).m≠0),((sdF f t).m:Nat),((sdF f t).v:Nat)⟩
def plL (f:Sd) (t:TO):Int:=(sdF f t).p
theorem chN_on (Q ns:List Int):chN Q ns=onQ Q ns:=rfl
def FitT (n:Nat) (L:List TO):Prop:=∀t∈L,∀j∈t.qs,0≤j∧j<(n:Int)
theorem mean_fit {n:Nat} {p:PP} {L:List TO} (hp:PQ n p) (hL:FitT (nbq n p.qs) L):FitT n (mean p L):=by
 intro t ht j hj
 unfold mean at ht
 rcases List.mem_append.1 ht with ht | ht
 ·split at ht
  ·rw [List.mem_singleton] at ht
   subst ht
   exact hp.2.2.2.2.2 j hj
  ·cases ht
 ·obtain ⟨l,hl,ht⟩:=List.mem_flatten.1 ht
  rw [(List.mem_replicate.1 hl).2] at ht
  obtain ⟨u,hu,rfl⟩:=List.mem_map.1 ht
  have hj:j∈(if p.qs=[] then u.qs else u.qs.map fun j=>p.qs.getD j.toNat 0):=hj
  unfold nbq at hL
  split at hj
  ·rename_i hq
   rw [if_pos hq] at hL
   exact hL u hu j hj
  ·rename_i hq
   rw [if_neg hq] at hL
   obtain ⟨i,hi,rfl⟩:=List.mem_map.1 hj
   have h2:=hL u hu i hi
   have hlt:i.toNat<p.qs.length:=by omega
   rw [List.getD_eq_getElem?_getD,List.getElem?_eq_getElem hlt]
   exact hp.2.2.2.2.2 _ (List.getElem_mem hlt)
theorem PLn.fits {W:World} {hi:HG}:∀(d n:Nat) (v:Value) (L:List TO),PLn d W hi n v L→FitT n L
 | 0,_,_,_,h=>by obtain ⟨_,rfl⟩:=h;exact fun t ht=>by cases ht
 | d+1,n,v,L,h=>by
  obtain ⟨a,c,ps,Ls,h1,h2,h2',h3,h4,h5,h6,h7⟩:=h
  subst h6
  intro t ht
  obtain ⟨l,hl,ht⟩:=List.mem_flatten.1 ht
  obtain ⟨x,hx,rfl⟩:=List.mem_map.1 hl
  obtain ⟨i,hi',e⟩:=List.mem_iff_getElem.1 hx
  rw [List.length_zip] at hi'
  rw [List.getElem_zip] at e
  subst e
  exact mean_fit (h5 i (by omega) (by omega)).2.2.2 (PLn.fits d _ _ _ (h5 i (by omega) (by omega)).2.1) t ht
theorem on_sub {Q qs l:List Int} (hl:∀j∈l,0≤j∧j<(qs.length:Int)):onQ Q (l.map fun j=>qs.getD j.toNat 0)=onQ (onQ Q qs) l:=by
 unfold onQ
 rw [List.map_map]
 refine List.map_congr_left fun j hj=>?_
 have h2:=hl j hj
 have hlt:j.toNat<qs.length:=by omega
 show Q.getD (qs.getD j.toNat 0).toNat 0=(qs.map fun j=>Q.getD j.toNat 0).getD j.toNat 0
 rw [List.getD_eq_getElem?_getD (l:=qs.map _),List.getElem?_map,List.getElem?_eq_getElem hlt,List.getD_eq_getElem?_getD (l:=qs),List.getElem?_eq_getElem hlt]
 rfl
def onP (Q:List Int) (qs:List Int):List Int:=if qs=[] then Q else onQ Q qs
def frP (f:Sd) (p:PP):Sd:=if p.sd.g=true then f else p.sd
theorem frP_st (f:Sd) (p:PP):(stO p.sd).getD f=frP f p:=by
 unfold stO frP
 split <;> rfl
theorem sub_op {Q:List Int} {f:Sd} {p:PP} {n:Nat} {t:TO} (ht:∀j∈t.qs,0≤j∧j<(nbq n p.qs:Int)):opL Q f (subT p.qs (stO p.sd) t)=opL (onP Q p.qs) (frP f p) t∧plL f (subT p.qs (stO p.sd) t)=plL (frP f p) t:=by
 have hs:sdF f (subT p.qs (stO p.sd) t)=sdF (frP f p) t:=by
  unfold sdF subT
  cases t.st with
  | some s=>rfl
  | none=>exact frP_st f p
 have hq:onQ Q (subT p.qs (stO p.sd) t).qs=onQ (onP Q p.qs) t.qs:=by
  show onQ Q (if p.qs=[] then t.qs else t.qs.map fun j=>p.qs.getD j.toNat 0)=_
  unfold onP
  by_cases e:p.qs=[]
  ·rw [if_pos e,if_pos e]
  ·rw [if_neg e,if_neg e]
   unfold nbq at ht
   rw [if_neg e] at ht
   exact on_sub ht
 unfold opL plL
 rw [hs,hq]
 exact ⟨rfl,rfl⟩
def FA (f f':Sd) (L:List TO):Prop:=(∀t∈L,t.st=none)→f'=f
theorem lay_eq {Q:List Int} {f f':Sd} {L:List TO} (hu:UnS L) (h:FA f f' L):L.map (opL Q f')=L.map (opL Q f)∧L.map (plL f')=L.map (plL f):=by
 rcases hu with hu | hu
 ·rw [h hu]
  exact ⟨rfl,rfl⟩
 ·have e:∀t∈L,sdF f' t=sdF f t:=fun t ht=>by
   unfold sdF
   cases e:t.st with
   | none=>exact absurd e (hu t ht)
   | some s=>rfl
  exact ⟨List.map_congr_left fun t ht=>by unfold opL;rw [e t ht],List.map_congr_left fun t ht=>by unfold plL;rw [e t ht]⟩
def LayO (W W':World) (B mk:Nat) (ov pv:Value) (os:List Oq) (pls:List Int) (f:Sd) (Q:List Int) (L:List TO) (e:Ending):Prop:=
 ∃ov' pv',KMk W W' mk ov pv ov' pv' ∧
  ((os.length+L.length≤4096∧e=.returned (.bool true)∧∃vs' f',MK W' B mk ov' pv' (os++L.map (opL Q f)) vs' (pls++L.map (plL f)) f'∧FA f f' L) ∨
   (4096<os.length+L.length∧e=.returned (.bool false)∧∃t,L[4096-os.length]?=some t∧W'.cell? ⟨mk,2,none⟩=some (.int .i64 (plL f t))∧mk<W'.heap.size))
theorem MK.from_ {W:World} {B mk:Nat} {ov pv:Value} {os:List Oq} {vs:List (Option Addr × Nat)} {pls:List Int} {f:Sd} (h:MK W B mk ov pv os vs pls f) (s:Sd) (hs:s.m<18446744073709551616∧s.v<18446744073709551616) :
  MK (W.setCells mk 2 [.int .i64 s.p,.int .i64 (s.n:Nat),.bool s.g,.int .u64 (s.m:Nat),.int .u64 (s.v:Nat)]) B mk ov pv os vs pls s∧KMk W (W.setCells mk 2 [.int .i64 s.p,.int .i64 (s.n:Nat),.bool s.g,.int .u64 (s.m:Nat),.int .u64 (s.v:Nat)]) mk ov pv ov pv:=by
 obtain ⟨gs,hz⟩:=fr_sets mk [.int .i64 s.p,.int .i64 (s.n:Nat),.bool s.g,.int .u64 (s.m:Nat),.int .u64 (s.v:Nat)] 2 W
 have hg:W.grownBy (W.setCells mk 2 [.int .i64 s.p,.int .i64 (s.n:Nat),.bool s.g,.int .u64 (s.m:Nat),.int .u64 (s.v:Nat)]) (some mk):=⟨gs.os,gs.tape,gs.output,gs.size,fun k hk hne=>gs.block k hk (by have:k≠mk:=fun e=>hne (by rw [e]);omega)⟩
 refine ⟨⟨?_,h.ops.kept hg (own_ne h.ops.own h.box (by decide)) (fun k hk g e=>?_),own_kept h.pl hg (own_ne h.pl h.box (by decide)),h.len,h.apart,hs,by rw [hz];exact h.hB,h.hm⟩,⟨gs.os,gs.tape,gs.output,gs.size,fun b h1 h2 _ _=>gs.block b h1 (by omega),.inl rfl,.inl rfl⟩⟩
 ·exact ((((h.box.set 2 (.int .i64 s.p)).set 3 (.int .i64 (s.n:Nat))).set 4 (.bool s.g)).set 5 (.int .u64 (s.m:Nat))).set 6 (.int .u64 (s.v:Nat))
 ·have hqk:=h.ops.qs k (by rw [h.ops.len];exact hk) hk
  rw [e] at hqk
  exact own_ne hqk h.box (by decide) g rfl
end Go.Proofs.YtdjfpghgklkejaaGreatDoor
namespace Go.Proofs.YtdjfpghgklkejaaGreatDoor
open Go.RowKit Go.Sort
def pre (ps:List PP) (Ls:List (List TO)) (i:Nat):List TO:=(((ps.zip Ls).take i).map fun x=>mean x.1 x.2).flatten
theorem pre_zero (ps:List PP) (Ls:List (List TO)):pre ps Ls 0=[]:=rfl
theorem pre_succ {ps:List PP} {Ls:List (List TO)} {i:Nat} (h:i<ps.length) (h':i<Ls.length):pre ps Ls (i+1)=pre ps Ls i++mean ps[i] Ls[i]:=by
 have hz:i<(ps.zip Ls).length:=by rw [List.length_zip];omega
 unfold pre
 rw [List.take_succ_eq_append_getElem hz,List.map_append,List.flatten_append,List.getElem_zip]
 simp
theorem pre_all {ps:List PP} {Ls:List (List TO)} (h:Ls.length=ps.length):pre ps Ls ps.length=((ps.zip Ls).map fun x=>mean x.1 x.2).flatten:=by
 unfold pre
 rw [List.take_of_length_le (by rw [List.length_zip];omega)]
theorem pre_cut (ps:List PP) (Ls:List (List TO)) (i:Nat):∃R,((ps.zip Ls).map fun x=>mean x.1 x.2).flatten=pre ps Ls i++R:=
 ⟨(((ps.zip Ls).drop i).map fun x=>mean x.1 x.2).flatten,by
  unfold pre
  rw [←List.flatten_append,←List.map_append,List.take_append_drop]⟩
theorem KMk.fr {W W':World} {B mk:Nat} {ov pv ov' pv':Value} {os:List Oq} {vs:List (Option Addr × Nat)} {pls:List Int} {f:Sd} (h:KMk W W' mk ov pv ov' pv') (H:MK W B mk ov pv os vs pls f):Fr W W' B W.heap.size:=by
 refine ⟨h.os,h.tape,h.output,h.size,fun k hk hw=>h.block k hk ?_ (fun e=>?_) (fun e=>?_)⟩
 ·have:=H.hm
  rcases hw with hw | hw <;> omega
 ·have:=(H.ops.own.lt k e.symm).1
  rcases hw with hw | hw <;> omega
 ·have:=(H.pl.lt k e.symm).1
  rcases hw with hw | hw <;> omega
structure QN (W:World) (mk:Nat) (ov pv:Value) (qa:Option Addr) (qc:Nat) (Q:List Int):Prop where
 qs:QS W qa qc Q
 nb:∀b o,qa=some ⟨b,o,none⟩→b≠mk∧some b≠ov.ownBlock∧some b≠pv.ownBlock∧(0<Q.length→b<W.heap.size)
theorem QN.km {W W':World} {mk:Nat} {ov pv ov' pv':Value} {qa:Option Addr} {qc:Nat} {Q:List Int} (h:QN W mk ov pv qa qc Q) (hk:KMk W W' mk ov pv ov' pv') (hlt:∀b o,qa=some ⟨b,o,none⟩→b<W.heap.size):QN W' mk ov' pv' qa qc Q:=by
 refine ⟨⟨h.qs.cap,fun k hkl=>?_⟩,fun b o e=>?_⟩
 ·obtain ⟨b,o,e,r⟩:=h.qs.at_ k hkl
  obtain ⟨n1,n2,n3,_⟩:=h.nb b o e
  exact ⟨b,o,e,fun j hj=>(World.cell?_of_block (a:=⟨b,o+j,none⟩) (hk.block b r.lt n1 n2 n3)).trans (r.c j hj),Nat.lt_of_lt_of_le r.lt hk.size⟩
 ·obtain ⟨n1,n2,n3,n4⟩:=h.nb b o e
  have hb:=hlt b o e
  refine ⟨n1,?_,?_,fun hl=>Nat.lt_of_lt_of_le hb hk.size⟩
  ·rcases hk.o_ with h' | ⟨x,h',hx⟩
   ·rw [h'];exact n2
   ·rw [h'];intro e2;cases e2;omega
  ·rcases hk.p_ with h' | ⟨x,h',hx⟩
   ·rw [h'];exact n3
   ·rw [h'];intro e2;cases e2;omega
def FLay (d:Nat):Prop:=
 ∀(W:World) (B mk:Nat) (hi:HG) (n:Nat) (v:Value) (L:List TO) (qa:Option Addr) (qc:Nat) (Q:List Int) (ov pv:Value) (os:List Oq) (vs:List (Option Addr × Nat)) (pls:List Int) (f:Sd),
  PLn d W hi n v L→(∀b,hi.G b→b<B)→QN W mk ov pv qa qc Q→(∀b o,qa=some ⟨b,o,none⟩→b<W.heap.size)→Q.length=n→MK W B mk ov pv os vs pls f→os.length≤4096 →
  Calls Tryz.prog 56 #[.pointer (some ⟨mk,0,none⟩),v,.slice qa Q.length qc] W fun e W'=>LayO W W' B mk ov pv os pls f Q L e
theorem lay_none (W:World) {B mk:Nat} {ov pv:Value} {os:List Oq} {vs:List (Option Addr × Nat)} {pls:List Int} {f:Sd} (Q:List Int) (H:MK W B mk ov pv os vs pls f) (hos:os.length≤4096):LayO W W B mk ov pv os pls f Q [] (.returned (.bool true)):=
 ⟨ov,pv,KMk.refl _ _ _ _,.inl ⟨by simpa using hos,rfl,vs,f,by simpa using H,fun _=>rfl⟩⟩
set_option maxHeartbeats 400000 in
theorem lay_base:FLay 0:=by
 intro W B mk hi n v L qa qc Q ov pv os vs pls f hP _ _ _ _ H hos
 obtain ⟨⟨a,c,rfl⟩,rfl⟩:=hP
 have HF:=hid (lay_none W Q H hos)
 clear H hos
 go_enter Tryz.func56,Tryz.ntmps56
 go_wp2
 go_loopw [12] (fun s wr=>s=.int .i64 0∧wr=W) (fun _ _=>0)
 case atStart=>exact ⟨rfl,rfl⟩
 case round=>
  obtain ⟨rfl,rfl⟩:=hrel
  go_wp2
  go_ret
  exact HF.out
end Go.Proofs.YtdjfpghgklkejaaGreatDoor
namespace Go.Proofs.YtdjfpghgklkejaaGreatDoor
open Go.RowKit Go.Sort
structure LS (W wr:World) (B mk:Nat) (ov pv:Value) (os:List Oq) (pls:List Int) (f:Sd) (Q:List Int) (P:List TO) (ovi pvi:Value) (vsi:List (Option Addr × Nat)) (fi:Sd):Prop where
 mk_:MK wr B mk ovi pvi (os++P.map (opL Q f)) vsi (pls++P.map (plL f)) fi
 km:KMk W wr mk ov pv ovi pvi
 len:os.length+P.length≤4096
section
variable {W wr W' : World} {B mk : Nat} {ov pv ovi pvi ov' pv' : Value} {os : List Oq} {pls : List Int} {f fi fj : Sd} {Q : List Int} {P : List TO} {vsi vs' : List (Option Addr × Nat)}
theorem LS.on (h:LS W wr B mk ov pv os pls f Q P ovi pvi vsi fi) (hb:Below wr.heap.size wr W'):LS W W' B mk ov pv os pls f Q P ovi pvi vsi fi:=⟨h.mk_.below hb,h.km.blw hb,h.len⟩
theorem LS.from_ (h:LS W wr B mk ov pv os pls f Q P ovi pvi vsi fi) (s:Sd) (hs:s.m<18446744073709551616∧s.v<18446744073709551616) :
  LS W (wr.setCells mk 2 [.int .i64 s.p,.int .i64 (s.n:Nat),.bool s.g,.int .u64 (s.m:Nat),.int .u64 (s.v:Nat)]) B mk ov pv os pls f Q P ovi pvi vsi s:=⟨(h.mk_.from_ s hs).1,h.km.trans (h.mk_.from_ s hs).2,h.len⟩
theorem LS.op (h:LS W wr B mk ov pv os pls f Q P ovi pvi vsi fi) {t:TO} (ht:sdF f t=fi)
  (hM:MK W' B mk ov' pv' ((os++P.map (opL Q f))++[⟨t.k,t.n,onQ Q t.qs,t.b,decide (fi.m≠0),(fi.m:Nat),(fi.v:Nat)⟩]) vs' ((pls++P.map (plL f))++[fi.p]) fi) (hK:KMk wr W' mk ovi pvi ov' pv') (hl:os.length+(P++[t]).length≤4096) :
  LS W W' B mk ov pv os pls f Q (P++[t]) ov' pv' vs' fi:=by
 refine ⟨?_,h.km.trans hK,hl⟩
 have e1:opL Q f t=⟨t.k,t.n,onQ Q t.qs,t.b,decide (fi.m≠0),(fi.m:Nat),(fi.v:Nat)⟩:=by unfold opL;rw [ht]
 have e2:plL f t=fi.p:=by unfold plL;rw [ht]
 rw [List.map_append,List.map_append,List.map_singleton,List.map_singleton,e1,e2,←List.append_assoc,←List.append_assoc]
 exact hM
theorem LS.many (h:LS W wr B mk ov pv os pls f Q P ovi pvi vsi fi) {t:TO} (ht:sdF f t=fi) {os':List Oq} {pls':List Int}
  (hM:MK W' B mk ov' pv' os' vs' pls' fi) (hK:KMk wr W' mk ovi pvi ov' pv') (hl:4096<os.length+(P++[t]).length) {L R:List TO} (hL:L=(P++[t])++R):LayO W W' B mk ov pv os pls f Q L (.returned (.bool false)):=by
 have hlen:=h.len
 rw [List.length_append,List.length_singleton] at hl
 refine ⟨ov',pv',h.km.trans hK,.inr ⟨by rw [hL,List.length_append,List.length_append,List.length_singleton];omega,rfl,t,?_,?_,hM.box.lt⟩⟩
 ·rw [hL,List.append_assoc,show 4096-os.length=P.length by omega,List.getElem?_append_right (Nat.le_refl _),Nat.sub_self]
  rfl
 ·unfold plL
  rw [ht]
  exact hM.box.cell 2
theorem LS.body (h:LS W wr B mk ov pv os pls f Q P ovi pvi vsi fj) {Lb Mb:List TO} {on:List Int} (he:Lb.map (opL on fj)=Mb.map (opL Q f)∧Lb.map (plL fj)=Mb.map (plL f)) {e:Ending} (hR:LayO wr W' B mk ovi pvi (os++P.map (opL Q f)) (pls++P.map (plL f)) fj on Lb e) :
  (e=.returned (.bool true)∧∃ov' pv' vs' f',LS W W' B mk ov pv os pls f Q (P++Mb) ov' pv' vs' f'∧FA fj f' Lb∧KMk wr W' mk ovi pvi ov' pv')∨(e=.returned (.bool false)∧∀L R:List TO,L=(P++Mb)++R→LayO W W' B mk ov pv os pls f Q L (.returned (.bool false))):=by
 have hlm:Lb.length=Mb.length:=by have:=congrArg List.length he.1;simpa using this
 have hol:(os++P.map (opL Q f)).length=os.length+P.length:=by simp
 obtain ⟨ov',pv',hK,hc⟩:=hR
 rw [hol] at hc
 rcases hc with ⟨h1,h2,vs',f',h3,h4⟩ | ⟨h1,h2,t,h3,h4,h5⟩
 ·refine .inl ⟨h2,ov',pv',vs',f',⟨?_,h.km.trans hK,by rw [List.length_append];omega⟩,h4,hK⟩
  rw [List.map_append,List.map_append,←he.1,←he.2,←List.append_assoc,←List.append_assoc]
  exact h3
 ·refine .inr ⟨h2,fun L R hL=>⟨ov',pv',h.km.trans hK,.inr ⟨by rw [hL,List.length_append,List.length_append];omega,rfl,?_⟩⟩⟩
  have hlen:=h.len
  have hk:4096-(os.length+P.length)<Mb.length:=by omega
  have e3:=congrArg (fun l:List Int=>l[4096-(os.length+P.length)]?) he.2
  simp only [List.getElem?_map,h3,List.getElem?_eq_getElem hk,Option.map_some] at e3
  refine ⟨Mb[4096-(os.length+P.length)],?_,by rw [h4];exact congrArg (fun x=>x.map fun y=>Value.int .i64 y) e3,h5⟩
  rw [hL,List.append_assoc,List.getElem?_append_right (by omega),List.getElem?_append_left (by omega),show 4096-os.length-P.length=4096-(os.length+P.length) by omega,List.getElem?_eq_getElem hk]
end
theorem body_eq {Q:List Int} {f fi fj:Sd} {p:PP} {Lb:List TO} {n:Nat} (hfit:FitT (nbq n p.qs) Lb) (hu:UnS Lb) (hfj:FA (frP fi p) fj Lb) (hff:Lb≠[]→(∀t∈Lb,t.st=none)→frP fi p=frP f p) :
  Lb.map (opL (onP Q p.qs) fj)=(Lb.map (subT p.qs (stO p.sd))).map (opL Q f)∧Lb.map (plL fj)=(Lb.map (subT p.qs (stO p.sd))).map (plL f):=by
 by_cases h0:Lb=[]
 ·subst h0
  exact ⟨rfl,rfl⟩
 ·obtain ⟨e1,e2⟩:=lay_eq (Q:=onP Q p.qs) (f:=frP f p) (f':=fj) hu (fun h=>by rw [hfj h,hff h0 h])
  rw [e1,e2,List.map_map,List.map_map]
  exact ⟨List.map_congr_left fun t ht=>(sub_op (n:=n) (hfit t ht)).1.symm,List.map_congr_left fun t ht=>(sub_op (Q:=Q) (n:=n) (hfit t ht)).2.symm⟩
theorem rep_cut (M:List TO):∀(t j:Nat),j<t→∃R,(List.replicate t M).flatten=((List.replicate j M).flatten++M)++R:=fun t j h=>⟨(List.replicate (t-(j+1)) M).flatten,by
 have e:List.replicate t M=List.replicate j M++([M]++List.replicate (t-(j+1)) M):=by
  rw [show [M]=List.replicate 1 M from rfl,List.replicate_append_replicate,List.replicate_append_replicate]
  congr 1
  omega
 rw [e,List.flatten_append,List.flatten_append]
 simp⟩
theorem rep_succ (M:List TO) (j:Nat):(List.replicate (j+1) M).flatten=(List.replicate j M).flatten++M:=by
 rw [List.replicate_succ',List.flatten_append]
 simp
theorem stand_eq {f fi:Sd} {L P:List TO} (hU:UnS L) (hP:∀t∈P,t∈L) (hFA:FA f fi P) {t:TO} (ht:t∈L) (hn:t.st=none):fi=f:=by
 rcases hU with hU | hU
 ·exact hFA fun t ht=>hU t (hP t ht)
 ·exact absurd hn (hU t ht)
theorem own_in {p:PP} {Lb:List TO} (hk:p.k≠0):(⟨p.k,p.n,p.qs,p.b,stO p.sd⟩:TO)∈mean p Lb:=by
 unfold mean
 rw [if_pos hk]
 exact List.mem_append_left _ (List.mem_singleton.2 rfl)
theorem body_in {p:PP} {Lb:List TO} (ht:0<p.t) {t:TO} (h:t∈Lb):subT p.qs (stO p.sd) t∈mean p Lb:=by
 unfold mean
 refine List.mem_append_right _ (List.mem_flatten.2 ⟨_,List.mem_replicate.2 ⟨by omega,rfl⟩,List.mem_map_of_mem h⟩)
theorem frP_eq {f fi:Sd} {p:PP} (h:p.sd.g=true→fi=f):frP fi p=frP f p:=by
 unfold frP
 cases hg:p.sd.g with
 | true=>rw [h hg]
 | false=>rfl
theorem gate_of {p:PP} {Lb:List TO} (hm:mean p Lb≠[]) (h:∀t∈mean p Lb,t.st=none):p.sd.g=true:=by
 cases hg:p.sd.g with
 | true=>rfl
 | false=>
  exfalso
  have hs:stO p.sd=some p.sd:=by unfold stO;rw [hg];rfl
  by_cases hk:p.k=0
  ·cases hM:mean p Lb with
   | nil=>exact hm hM
   | cons t l=>
    have ht:t∈mean p Lb:=by rw [hM];exact List.mem_cons_self
    have hn:=h t ht
    unfold mean at ht
    rw [if_neg (by simpa using hk),List.nil_append] at ht
    obtain ⟨l',hl',ht⟩:=List.mem_flatten.1 ht
    rw [(List.mem_replicate.1 hl').2] at ht
    obtain ⟨u,_,rfl⟩:=List.mem_map.1 ht
    rw [hs] at hn
    unfold subT at hn
    cases e:u.st with
    | none=>rw [e] at hn;cases hn
    | some s=>rw [e] at hn;cases hn
  ·have:=h _ (own_in (Lb:=Lb) hk)
   have:stO p.sd=none:=this
   rw [hs] at this
   cases this
end Go.Proofs.YtdjfpghgklkejaaGreatDoor
namespace Go.Proofs.YtdjfpghgklkejaaGreatDoor
open Go.RowKit Go.Sort
theorem sub_st2 {qs:List Int} (t:TO):(subT qs none t).st=t.st:=by
 unfold subT
 cases t.st <;> rfl
theorem stO_true {sd:Sd} (h:sd.g=true):stO sd=none:=by
 unfold stO
 rw [h]
 rfl
theorem part_fn {f fi f1 fj:Sd} {p:PP} {Lb P:List TO} (hf1:f1=frP fi p) (hFA:FA f fi P) (hm:mean p Lb≠[]) (h:FA f1 fj Lb) (hz:p.t.toNat=0→fj=f1):FA f fj (P++mean p Lb):=by
 intro hall
 have hM:∀t∈mean p Lb,t.st=none:=fun t ht=>hall t (List.mem_append_right _ ht)
 have hg:=gate_of hm hM
 have hfi:fi=f:=hFA fun t ht=>hall t (List.mem_append_left _ ht)
 have h1:f1=f:=by rw [hf1];unfold frP;rw [if_pos hg,hfi]
 by_cases ht:p.t.toNat=0
 ·rw [hz ht,h1]
 ·have hj:fj=f1:=h fun t htb=>by
   have:=hM _ (body_in (p:=p) (by omega) htb)
   rw [stO_true hg,sub_st2] at this
   exact this
  rw [hj,h1]
theorem part_be {Q:List Int} {f fi f1 fj:Sd} {p:PP} {Lb L P R:List TO} {n:Nat} (hf1:f1=frP fi p) (hU:UnS L) (hL:L=(P++mean p Lb)++R) (hFA:FA f fi P) (hfit:FitT (nbq n p.qs) Lb) (hu:UnS Lb) (hfj:FA f1 fj Lb) (ht:0<p.t) :
  Lb.map (opL (onP Q p.qs) fj)=(Lb.map (subT p.qs (stO p.sd))).map (opL Q f)∧Lb.map (plL fj)=(Lb.map (subT p.qs (stO p.sd))).map (plL f):=by
 subst hf1
 refine body_eq hfit hu hfj fun h0 hn=>frP_eq fun hg=>?_
 cases Lb with
 | nil=>exact absurd rfl h0
 | cons t l=>
  refine stand_eq hU (P:=P) (fun u hu=>by rw [hL];exact List.mem_append_left _ (List.mem_append_left _ hu)) hFA (t:=subT p.qs (stO p.sd) t) ?_ ?_
  ·rw [hL]
   exact List.mem_append_left _ (List.mem_append_right _ (body_in ht List.mem_cons_self))
  ·rw [stO_true hg,sub_st2]
   exact hn t List.mem_cons_self
theorem part_op {f fi f1:Sd} {p:PP} {Lb L P R:List TO} (hf1:f1=frP fi p) (hU:UnS L) (hL:L=(P++mean p Lb)++R) (hFA:FA f fi P) (hk:p.k≠0):sdF f ⟨p.k,p.n,p.qs,p.b,stO p.sd⟩=f1:=by
 subst hf1
 show (stO p.sd).getD f=_
 rw [frP_st]
 refine (frP_eq fun hg=>?_).symm
 refine stand_eq hU (P:=P) (fun u hu=>by rw [hL];exact List.mem_append_left _ (List.mem_append_left _ hu)) hFA (t:=⟨p.k,p.n,p.qs,p.b,stO p.sd⟩) ?_ (stO_true hg)
 rw [hL]
 exact List.mem_append_left _ (List.mem_append_right _ (own_in hk))
def ownL (p:PP):List TO:=if p.k≠0 then [⟨p.k,p.n,p.qs,p.b,stO p.sd⟩] else []
theorem mean_own (p:PP) (Lb P:List TO):P++mean p Lb=(P++ownL p)++(List.replicate p.t.toNat (Lb.map (subT p.qs (stO p.sd)))).flatten:=by
 unfold mean ownL
 rw [List.append_assoc]
end Go.Proofs.YtdjfpghgklkejaaGreatDoor
namespace Go.Proofs.YtdjfpghgklkejaaGreatDoor
open Go.RowKit Go.Sort
def idQ (n:Nat):List Int:=(List.range n).map fun (i:Nat)=>(i:Int)
theorem idQ_len (n:Nat):(idQ n).length=n:=by unfold idQ;simp
theorem idQ_at {n i:Nat} (h:i<n):(idQ n)[i]'(by rw [idQ_len];exact h)=(i:Int):=by unfold idQ;simp
theorem on_id {n:Nat} {l:List Int} (h:∀j∈l,0≤j∧j<(n:Int)):onQ (idQ n) l=l:=by
 unfold onQ
 conv=>rhs;rw [←List.map_id l]
 refine List.map_congr_left fun j hj=>?_
 have h2:=h j hj
 have hlt:j.toNat<n:=by omega
 rw [List.getD_eq_getElem?_getD,List.getElem?_eq_getElem (by rw [idQ_len];exact hlt),idQ_at hlt]
 show ((j.toNat:Nat):Int)=j
 omega
theorem opL_id {n:Nat} {t:TO} (h:∀j∈t.qs,0≤j∧j<(n:Int)):opL (idQ n) sd0 t=opT t:=by
 unfold opL opT
 rw [on_id h]
 rfl
theorem ops_id {n:Nat} {L:List TO} (h:FitT n L):L.map (opL (idQ n) sd0)=L.map opT:=List.map_congr_left fun t ht=>opL_id (h t ht)
theorem pl_id (t:TO):plL sd0 t=(sdT t).p:=rfl
def LdS (L:List TO) (q b:Nat) (c:Ci) (p:Int) (e:Nat):Prop:=
 if 4096<L.length then c=noCi∧e=115∧∃t,L[4096]?=some t∧p=(sdT t).p
 else if (lk ⟨q,b,L.map opT⟩).2.2=0 then c=⟨q,b,L.map opT⟩∧p=0∧e=0
 else c=noCi∧e=(lk ⟨q,b,L.map opT⟩).2.2∧∃t,L[(lk ⟨q,b,L.map opT⟩).1]?=some t∧p=(sdT t).p
abbrev mk0:Array Value:=#[.slice none 0 0,.slice none 0 0,.int .i64 0,.int .i64 0,.bool false,.int .u64 0,.int .u64 0]
theorem mk_new {W:World} {B mk:Nat} (h:BK W mk mk0 117) (hB:B≤W.heap.size) (hm:B≤mk):MK W B mk (.slice none 0 0) (.slice none 0 0) [] [] [] sd0:=
 ⟨h,OM.nil _ _,World.ownsRow_nil _ _ _ _,rfl,fun _ hk=>absurd hk (Nat.not_lt_zero _),⟨by decide,by decide⟩,hB,hm⟩
theorem id_qs {W:World} {g n:Nat} {f:Nat→Value} (h:W.rowIs g 3 n f) (hf:∀i,i<n→f i=.int .i64 (i:Nat)):QS W (some ⟨g,0,none⟩) n (idQ n):=by
 refine ⟨by rw [idQ_len];exact Nat.le_refl _,fun k hk=>⟨g,0,rfl,fun j hj=>?_,h.lt⟩⟩
 rw [idQ_len] at hj
 rw [Nat.zero_add,h.cell hj,hf j hj,idQ_at hj]
end Go.Proofs.YtdjfpghgklkejaaGreatDoor
namespace Go.Proofs.YtdjfpghgklkejaaGreatDoor
open Go.RowKit Go.Sort
def RecP (rec:RecT):Prop:=∀en sd rs x,rec en sd rs=.error x→∃r∈rs,r.place=x.1
def RecQ (rec:RecT):Prop:=∀en sd rs en1 L,rec en sd rs=.ok (en1,L)→EnL en→sd.g=false→∀t∈L,∃s,t.st=some s∧∃r∈rs,r.place=s.p
theorem en0_L:EnL en0:=fun s m h t ht=>by
 have h:(if 0<gar s then some (⟨3,0,gar s,0,[]⟩:Mn) else none)=some m:=h
 split at h
 ·cases h;cases ht
 ·cases h
theorem nms_sz:∀s∈nms,s.size≤7:=by
 intro s hs
 simp only [nms,List.mem_cons,List.not_mem_nil,or_false] at hs
 rcases hs with rfl | rfl | rfl | rfl | rfl | rfl | rfl | rfl | rfl | rfl | rfl | rfl | rfl | rfl | rfl | rfl | rfl | rfl | rfl | rfl | rfl | rfl | rfl | rfl | rfl
 all_goals decide
theorem en0_ok:EnOk en0:=by
 have key:∀s m,en0.nm s=some m→m=⟨3,0,gar s,0,[]⟩∧0<gar s:=fun s m h=>by
  have h:(if 0<gar s then some (⟨3,0,gar s,0,[]⟩:Mn) else none)=some m:=h
  split at h
  ·rename_i h2;cases h;exact ⟨rfl,h2⟩
  ·cases h
 refine ⟨Nat.zero_le _,Nat.zero_le _,fun s m h=>?_,Nat.zero_le _,fun s m h h1=>?_,en0_L,fun s m h _=>?_⟩
 ·obtain ⟨rfl,h2⟩:=key s m h
  have:=gar_le s
  refine ⟨Nat.zero_le _,by show gar s≤_;omega,fun h=>?_,Nat.zero_le _,by show (3:Nat)≠0;omega,by show (3:Nat)≤5;omega⟩
  rcases h with h | h <;> cases h
 ·obtain ⟨rfl,_⟩:=key s m h
  cases h1
 ·obtain ⟨rfl,h2⟩:=key s m h
  have:=nms_sz s (gar_nms s (by omega))
  exact ⟨h2,by omega⟩
def RecN (rec:RecT):Prop:=∀en sd rs x,rec en sd rs=.error x→x.2≠0
theorem fl_of_ld {rs:List Rw} {en:En} {L L':List TO} {c:Ci} {p:Int} {e:Nat} (hl:lookB (rs.length+1) en0 sd0 rs=.ok (en,L)) (ht:T4 L' L) (h:LdS L' en.q en.b c p e):FlS rs c p e:=by
 have hn:=ht.len
 unfold FlS
 rw [hl]
 show (if 4096<L.length then _ else _)
 by_cases h1:4096<L'.length
 ·have h2:4096<L.length:=by omega
  unfold LdS at h
  rw [if_pos h1] at h
  obtain ⟨g1,g2,t,g3,g4⟩:=h
  rw [if_pos h2]
  refine ⟨g1,g2,t,?_,g4⟩
  have e1:(L'.take 4097)[4096]?=(L.take 4097)[4096]?:=by rw [show L'.take 4097=L.take 4097 from ht]
  rw [List.getElem?_take_of_lt (by omega),List.getElem?_take_of_lt (by omega)] at e1
  rw [←e1]
  exact g3
 ·have e1:L'=L:=by
   have h':L'.take 4097=L.take 4097:=ht
   rw [List.take_of_length_le (by omega),List.take_of_length_le (by omega)] at h'
   exact h'
  subst e1
  exact h
theorem fl_of_err {rs:List Rw} {x:Fa} (hl:lookB (rs.length+1) en0 sd0 rs=.error x):FlS rs noCi x.1 x.2:=by
 unfold FlS
 rw [hl]
 exact ⟨rfl,rfl,rfl⟩
end Go.Proofs.YtdjfpghgklkejaaGreatDoor
namespace Go.Proofs.YtdjfpghgklkejaaGreatDoor
open Go.RowKit Go.Sort
def defR (rec:RecT) (en:En) (sd:Sd) (r:Rw) (body:List Rw):Except Fa (En × List TO):=
 if defE en r≠0 then .error (sd.p,defE en r) else
  match rec ⟨putN en.nm r.name ⟨4,0,0,0,[]⟩,en.q,en.b,r.args.map Ar.n,1⟩ ⟨sd.p,sd.n+1,true,sd.m,sd.v⟩ body with
  | .error e=>.error e
  | .ok (en1,L)=>.ok (⟨putN en1.nm r.name ⟨5,0,r.args.length,en1.d,L⟩,en1.q,en1.b,en1.pr,en1.d⟩,[])
theorem rowR_gate (rec:RecT) (en:En) (sd:Sd) (r:Rw) (body:List Rw) (h:r.kind=wGate):rowR rec en sd r body=defR rec en sd r body:=by
 unfold rowR defR
 rw [if_neg (by rw [h];decide),if_neg (by rw [h];decide),if_pos h]
 rfl
def prF (l:List ByteArray):Nat→ByteArray→Option Value
 | 0,_=>none
 | k+1,t=>if t=l.getD k ⟨#[]⟩ then some (.int .i64 (k:Nat)) else prF l k t
def prZ (l:List ByteArray):Nat→Nat
 | 0=>0
 | k+1=>if (prF l k (l.getD k ⟨#[]⟩)).isSome=true then prZ l k else prZ l k+1
theorem getD_at {l:List ByteArray} {k:Nat} (h:k<l.length):l.getD k ⟨#[]⟩=l[k]:=by
 rw [List.getD_eq_getElem?_getD,List.getElem?_eq_getElem h]
 rfl
theorem prF_some {l:List ByteArray}:∀ {k:Nat},k≤l.length→∀s,(prF l k s).isSome=true↔s∈l.take k
 | 0,_,s=>by simp [prF]
 | k+1,h,s=>by
  have hk:k<l.length:=h
  rw [List.take_succ_eq_append_getElem hk,List.mem_append,List.mem_singleton,←prF_some (Nat.le_of_lt hk) s]
  show (if s=l.getD k ⟨#[]⟩ then some (Value.int .i64 (k:Nat)) else prF l k s).isSome=true↔_
  rw [getD_at hk]
  by_cases e:s=l[k]
  ·rw [if_pos e]
   simp [e]
  ·rw [if_neg e]
   simp [e]
theorem prZ_le (l:List ByteArray):∀k,prZ l k≤k
 | 0=>Nat.le_refl _
 | k+1=>by
  have:=prZ_le l k
  unfold prZ
  split <;> omega
theorem prZ_eq {l:List ByteArray}:∀ {k:Nat},k≤l.length→(prZ l k=k↔(l.take k).Nodup)
 | 0,_=>by simp [prZ]
 | k+1,h=>by
  have hk:k<l.length:=h
  have ih:=prZ_eq (Nat.le_of_lt hk)
  have hle:=prZ_le l k
  have hs:=prF_some (Nat.le_of_lt hk) l[k]
  rw [List.take_succ_eq_append_getElem hk,List.nodup_append]
  unfold prZ
  rw [getD_at hk]
  by_cases e:(prF l k l[k]).isSome=true
  ·rw [if_pos e]
   constructor
   ·intro h;omega
   ·intro h
    exact absurd rfl (h.2.2 _ (hs.1 e) _ (List.mem_singleton.2 rfl))
  ·rw [if_neg e]
   constructor
   ·intro h
    refine ⟨ih.1 (by omega),by simp,fun a ha b hb=>?_⟩
    rw [List.mem_singleton] at hb
    subst hb
    intro e2
    subst e2
    exact e (hs.2 ha)
   ·intro h
    rw [ih.2 h.1]
theorem idx_none {s:ByteArray}:∀ {l:List ByteArray},idxN s l=none↔s ∉ l
 | []=>by simp [idxN]
 | t::l=>by
  unfold idxN
  rw [List.mem_cons,not_or]
  by_cases e:t=s
  ·rw [if_pos e]
   simp [e]
  ·rw [if_neg e,Option.map_eq_none_iff,idx_none]
   exact ⟨fun h=>⟨fun h'=>e h'.symm,h⟩,fun h=>h.2⟩
theorem idx_snoc {s t:ByteArray}:∀(l:List ByteArray),idxN s (l++[t])=match idxN s l with | some j=>some j | none=>if t=s then some l.length else none
 | []=>by
  show (if t=s then some 0 else (idxN s []).map (·+1))=_
  simp [idxN]
 | u::l=>by
  show (if u=s then some 0 else (idxN s (l++[t])).map (·+1))=_
  rw [idx_snoc l]
  show _=match (if u=s then some 0 else (idxN s l).map (·+1)) with | some j=>some j | none=>if t=s then some (u::l).length else none
  by_cases e:u=s
  ·simp [e]
  ·simp only [if_neg e]
   cases idxN s l with
   | some j=>rfl
   | none=>
    by_cases e2:t=s
    ·simp [e2]
    ·simp [e2]
theorem prF_idx {l:List ByteArray}:∀ {k:Nat},k≤l.length→(l.take k).Nodup→∀s,prF l k s=(idxN s (l.take k)).map fun (j:Nat)=>Value.int .i64 (j:Nat)
 | 0,_,_,s=>by simp [prF,idxN]
 | k+1,h,hn,s=>by
  have hk:k<l.length:=h
  rw [List.take_succ_eq_append_getElem hk] at hn ⊢
  have hn2:=List.nodup_append.1 hn
  have ih:=prF_idx (Nat.le_of_lt hk) hn2.1 s
  rw [idx_snoc]
  unfold prF
  rw [getD_at hk,ih]
  by_cases e:s=l[k]
  ·rw [if_pos e]
   have hno:idxN s (l.take k)=none:=idx_none.2 fun hm=>hn2.2.2 _ hm _ (List.mem_singleton.2 rfl) e
   rw [hno]
   simp only [if_pos e.symm,Option.map_some,List.length_take,Nat.min_eq_left (Nat.le_of_lt hk)]
  ·rw [if_neg e]
   have e2:¬l[k]=s:=fun h=>e h.symm
   cases idxN s (l.take k) with
   | some j=>rfl
   | none=>simp [e2]
structure DL (W wr:World) (lb mb:Nat) (en:En) (pl:Int) (l:List ByteArray) (RB SB:Array Value) (pb k:Nat):Prop where
 fr:Fr W wr lb (lb+1)
 box:BK wr lb #[.map (some mb),.int .i64 (en.q:Nat),.int .i64 (en.b:Nat),.map (some pb),.int .i64 1,.int .i64 pl] 64
 mf:MF wr pb k (prF l k) (prZ l k)
 b1:BK wr W.heap.size RB 79
 b2:BK wr (W.heap.size+1) SB 69
 pb_:W.heap.size+1+1≤pb
section
variable {W wr wr' : World} {lb mb : Nat} {en : En} {pl : Int} {l : List ByteArray} {RB SB : Array Value} {pb k : Nat}
theorem DL.on (h:DL W wr lb mb en pl l RB SB pb k) (g:Below wr.heap.size wr wr'):DL W wr' lb mb en pl l RB SB pb k:=
 ⟨h.fr.blw g,(g.block _ h.box.lt).trans h.box,h.mf.block (g.block _ h.mf.lt),(g.block _ h.b1.lt).trans h.b1,(g.block _ h.b2.lt).trans h.b2,h.pb_⟩
theorem DL.put (h:DL W wr lb mb en pl l RB SB pb k) (hlb:lb<W.heap.size) (hk:k<l.length) (hkm:k<maxLen) (hs:l[k].size≤maxLen) :
  ∃W',(Instr.mapUpdate 62 (.map (some pb)) (.string l[k]) (.int .i64 (k:Nat))).run Tryz.prog wr=.ok () W'∧DL W W' lb mb en pl l RB SB pb (k+1)∧wr.grownBy W' (some pb):=by
 have hp:=h.pb_
 obtain ⟨W',hr,hm,hg⟩:=h.mf.put (t:=62) (e:=3) (by kernel_rfl) hkm hs (.int .i64 (k:Nat))
 have hf:Fr wr W' pb (pb+1):=(Fr.refl wr _ _).grown hg (fun b e=>by cases e;exact .inl ⟨Nat.le_refl _,Nat.lt_succ_self _⟩)
 refine ⟨W',hr,⟨?_,hf.bk h.box (.inl (by omega)),?_,hf.bk h.b1 (.inl (by omega)),hf.bk h.b2 (.inl (by omega)),hp⟩,hg⟩
 ·exact h.fr.grown hg (fun b e=>by cases e;exact .inr (by omega))
 ·have e1:prF l (k+1)=fun t=>if t=l[k] then some (.int .i64 (k:Nat)) else prF l k t:=by
   funext t
   show (if t=l.getD k ⟨#[]⟩ then _ else _)=_
   rw [getD_at hk]
  have e2:prZ l (k+1)=if (prF l k l[k]).isSome=true then prZ l k else prZ l k+1:=by
   show (if (prF l k (l.getD k ⟨#[]⟩)).isSome=true then _ else _)=_
   rw [getD_at hk]
  rw [e1,e2]
  exact hm
theorem DL.lk {w0:World} {hi:HG} {N:Nat} (h:DL W wr lb mb en pl l RB SB pb k) (hk:k=l.length) (H:LK w0 W lb mb hi N en pl) (hn:l.Nodup):LK w0 wr lb mb hi N ⟨en.nm,en.q,en.b,l,1⟩ pl:=by
 subst hk
 have hx:∀b,hi.G b→b<lb∨lb+1≤b:=fun b hb=>.inr (by have:=hi.le b hb;have:=H.o3;omega)
 have ht:l.take l.length=l:=List.take_length
 have hp:=h.pb_
 refine ⟨below_fr H.below h.fr H.o1,⟨.map (some pb),h.box,.inr ⟨pb,l.length,_,_,rfl,H.up pb (by omega),h.mf,fun s=>?_⟩⟩,H.nm.far h.fr hx (h.fr.block _ (Nat.lt_of_lt_of_le H.o4 H.o5) (by have:=H.o6;omega)),H.o1,H.o2,H.o3,H.o4,Nat.le_trans H.o5 h.fr.size,H.o6,fun b hb=>H.up b (Nat.le_trans h.fr.size hb)⟩
 have:=prF_idx (Nat.le_refl l.length) (by rw [ht];exact hn) s
 rw [ht] at this
 exact this
theorem DL.le {w0:World} {hi:HG} {N M:Nat} (h:DL W wr lb mb en pl l RB SB pb k) (H:LK w0 W lb mb hi N en pl) (hN:N≤M):LE wr lb mb M pl:=by
 obtain ⟨f,z,h1,_⟩:=H.nm
 exact ⟨_,_,_,_,N,f,z,h.box,h1.block (h.fr.block _ h1.lt (by have:=H.o6;omega)),hN⟩
end
theorem zmap62 (w:World) (n:Int):(Instr.makeMap 62 (some (.int .i64 n))).run Tryz.prog w=.ok (.map (some w.heap.size)) (w.alloc (.map #[] 0)):=by kernel_rfl
theorem dl_new {W V:World} {lb mb N:Nat} {w0:World} {hi:HG} {en:En} {pl:Int} (H:LK w0 W lb mb hi N en pl) {l:List ByteArray} {RB SB:Array Value} (hB:Below W.heap.size W V) (b1:BK V W.heap.size RB 79) (b2:BK V (W.heap.size+1) SB 69) (hs:W.heap.size+1+1≤V.heap.size) :
  DL W (((V.setCell ⟨lb,3,none⟩ (.map (some V.heap.size))).setCell ⟨lb,4,none⟩ (.int .i64 1)).alloc (.map #[] 0)) lb mb en pl l RB SB V.heap.size 0:=by
 obtain ⟨pv,k1,_⟩:=H.box
 have hl:=k1.lt
 have k2:BK V lb _ 64:=(hB.block _ hl).trans k1
 have k3:=((k2.set 3 (.map (some V.heap.size))).set 4 (.int .i64 1)).alloc (.map #[] 0)
 refine ⟨?_,k3,?_,(((b1.far (by omega) _ _).far (by omega) _ _).alloc _),(((b2.far (by omega) _ _).far (by omega) _ _).alloc _),hs⟩
 ·exact (((fr_of_below hB).set lb 3 _ (.inl ⟨Nat.le_refl _,Nat.lt_succ_self _⟩)).set lb 4 _ (.inl ⟨Nat.le_refl _,Nat.lt_succ_self _⟩)).alloc _
 ·have h0:=mf_new ((V.setCell ⟨lb,3,none⟩ (.map (some V.heap.size))).setCell ⟨lb,4,none⟩ (.int .i64 1))
  have e:((V.setCell ⟨lb,3,none⟩ (.map (some V.heap.size))).setCell ⟨lb,4,none⟩ (.int .i64 1)).heap.size=V.heap.size:=by simp [World.setCell]
  rw [e] at h0
  exact h0
end Go.Proofs.YtdjfpghgklkejaaGreatDoor
