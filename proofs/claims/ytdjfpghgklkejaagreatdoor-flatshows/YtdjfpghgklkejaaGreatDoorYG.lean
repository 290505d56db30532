/-
  Put together of: HL HR HT.
-/
import Derived.Test.YtdjfpghgklkejaaGreatDoorYS
import Derived.Test.YtdjfpghgklkejaaGreatDoorYV
import Derived.Test.YtdjfpghgklkejaaGreatDoorYK
namespace Go.Proofs.YtdjfpghgklkejaaGreatDoor
open Go.RowKit Go.Sort
theorem TR.keepR {W W':World} {B B' n:Nat} {v x:Value} {T:RVs} {xs:List Value} (h:TR W B v T) (g:W.grownBy W' v.ownBlock) (ho:W.ownsRow B' 138 3 x n xs):W'.ownsRow B' 138 3 x n xs:=own_kept ho g (fun b e e2=>by
 obtain ⟨cs,hb⟩:=own_ty h.own e2.symm
 exact own_ne ho (b:=b) hb (by decide) b e rfl)
theorem TR.keepB {W W':World} {B b:Nat} {v:Value} {T:RVs} {cs:Array Value} {U:TypeId} (h:TR W B v T) (g:W.grownBy W' v.ownBlock) (hb:BK W b cs U) (hU:79≠U):BK W' b cs U:=
 (g.block _ hb.lt (fun e=>own_ne h.own hb hU b e.symm rfl)).trans hb
theorem run_app_nil (w:World) (ty:TypeId) (a:Addr) (n cap:Nat) (hn:n≤cap):(Builtin.append_ #[22,22] ty #[.slice (some a) n cap,.slice none 0 0]).run Tryz.prog w=.ok (.slice (some a) n cap) w:=by
 obtain ⟨i7,hi7,_⟩:=info_parts Tryz.info79
 simp [Builtin.append_,run_underlying Tryz.underlying22,sizeOf,typeInfo,Builtin.lenOf,Builtin.firstCells,loadCells,go_sem,hn,hi7]
theorem wpList_app_rows {w:World} {ops:Array Oper} {rest:List Oper} {o:Oper} {a:Act} {Q:Exit→Act→World→Prop} (hgd:o.guard=none) (s x:Operand)
  (ho:o.op=.call { callee:=.builtin .append,args:=#[s,x],argTypes:=#[22,22] }) {B:Nat} {v v2:Value} {T N:RVs} (hT:TR w B v T) (h0:0<T.length) (hs:a.eval s=v) (hN:TR w B v2 N) (hx:a.eval x=v2)
  (hl:T.length+N.length≤1000000) (hb:B≤w.heap.size) (h:∀v' w',TR w' B v' (T++N)→w.grownBy w' v.ownBlock→wpList Tryz.prog ops Q rest (a.put o.dst v') w'):wpList Tryz.prog ops Q (o::rest) a w:=by
 obtain ⟨i7,hi7,hz7,hs7,hb7⟩:=info_parts Tryz.info79
 rcases hN.own.2 with ⟨rfl,hn⟩ | ⟨g,cap,cur,rfl,_⟩
 ·obtain rfl:N=[]:=List.eq_nil_of_length_eq_zero hn
  obtain ⟨g,cap,rfl,hc,_⟩:=own_at hT.own h0
  refine wpList_plain hgd fun K hK=>?_
  unfold Oper.wp execOp
  simp only [ho,resolve,invoke,builtin,Sem.run_bind,Sem.run_pure,Result.andThen_ok,List.map_toArray,List.map_cons,List.map_nil,hs,hx,run_app_nil w _ _ _ _ hc]
  exact hK _ _ (h _ _ (by rw [List.append_nil];exact hT) (World.grownBy.refl w _))
 ·refine wpList_append_own_at w hgd s x 22 ho B 79 i7 _ 6 80 Tryz.underlying22 hi7 hz7 hs7 hb7 rfl (by decide) v T.length (rz T) hs hT.own ⟨g,0,none⟩ N.length cap (rz N) hx (rz_len N) (hN.own.cells (g:=g) rfl) (rz_one N (fun t ht=>by
   obtain ⟨a,c,e⟩:=own_shape (hN.sa t ht)
   exact ⟨a,_,c,e⟩)) (by unfold maxLen;omega) (by omega) hb (fun v' w' h1 h2 _ _=>h v' w' (hT.app h2 rfl rfl h1 hN.sa) h2)
theorem tr_one {w:World} {B:Nat} {r:Rw} {av:Value} (h:w.ownsRow B 100 2 av r.args.length (ars r.args)) (hb:B≤w.heap.size):TR (w.alloc (.cells #[.string r.kind,.string r.name,av,.int .i64 r.num,.int .i64 r.rows,.int .i64 r.place] 79)) B (.slice (some ⟨w.heap.size,0,none⟩) 1 1) [(r,av)]:=
 ⟨⟨rfl,.inr ⟨w.heap.size,1,_,rfl,hb,heap_alloc_new w _,Nat.le_refl _,by unfold maxLen;omega,rfl,rfl⟩⟩,fun t ht=>by
  rw [List.mem_singleton] at ht
  subst ht
  exact own_below h (bal (Below.refl _ _) _)⟩
def ShO (c:Ci) (e:Ending):Prop:=∃(s:ByteArray) (er:Nat),e=.returned (.tuple #[.string s,.int .i64 (er:Nat)])∧((er≠0∧s=⟨#[]⟩)∨(er=0∧s.size≤65536∧∃rs,POut s rs 0 0∧FlS rs c 0 0))
theorem ops_q {o:Oq} {q:Int} {n:Nat} (h:opE o q n (opN o)=0):0<q∧o.qs.length≤3:=by
 obtain ⟨_,_,g3,g4,g5,_⟩:=opE_ok h
 unfold rnB at g5
 rw [Bool.and_eq_true] at g5
 have e2:=(qs_nat g5.1).2
 constructor
 ·have h0:0<o.qs.length:=by omega
  have:=e2 o.qs[0] (List.getElem_mem h0)
  omega
 ·rw [g4]
  unfold opN
  split
  ·exact gar_le _
  ·omega
theorem op_bit {o:Oq} {q:Int} {n:Nat} (h:opE o q n (opN o)=0) (h2:o.k=2):0≤o.b∧o.b<n:=by
 obtain ⟨_,_,_,_,g5,_⟩:=opE_ok h
 unfold rnB at g5
 rw [Bool.and_eq_true,h2] at g5
 simpa using g5.2
theorem decl_len {q:Int} (R:List Rg) (h:0<q):0<(declRows q R).length:=by
 unfold declRows
 rw [if_pos h,List.length_append]
 show 0<1+_
 omega
theorem st_zero (o:Oq) (R:List Rg):(stRow o R).num=0∧(stRow o R).rows=0∧(stRow o R).place=0:=by
 unfold stRow
 split
 ·exact ⟨rfl,rfl,rfl⟩
 ·split <;> exact ⟨rfl,rfl,rfl⟩
theorem nmC_size (j:Nat) (h:j≤100):(nmC j).size≤22:=by
 have:=Lib.itoa_length_le (j:Int) (by omega) (by omega)
 show (99::Lib.itoa (j:Int)).toArray.size≤22
 rw [List.size_toArray,List.length_cons]
 omega
theorem ifRows_szs (v:Nat):∀(A:List Rg),(∀x∈A,x.2≤100)→Szs (ifRows v A)
 | [],_=>fun r hr=>absurd hr List.not_mem_nil
 | x::A,h=>fun r hr=>by
  rcases List.mem_cons.1 (show r∈ifRow x v (A.length+1)::ifRows v A from hr) with rfl | hr
  ·have:=nmC_size x.2 (h x List.mem_cons_self)
   exact ⟨by show (nmC x.2).size≤_;omega,by show (0:Nat)≤_;omega,fun a ha=>absurd ha List.not_mem_nil⟩
  ·exact ifRows_szs v A (fun y hy=>h y (List.mem_cons_of_mem _ hy)) r hr
theorem st_szs {q:Int} {n:Nat} {R:List Rg} (hR:Seg 0 (R.map Prod.fst) n) (hi:∀x∈R,x.2≤100) {o:Oq} (ho:opE o q n (opN o)=0):Szs [stRow o R]:=fun r hr=>by
 rw [List.mem_singleton] at hr
 subst hr
 obtain ⟨g1,g2,g3,g4,g5,g6⟩:=opE_ok ho
 have hl:o.qs.length≤3:=by
  rw [g4]
  unfold opN
  split
  ·exact gar_le _
  ·omega
 have hq:∀a∈qArgs o.qs,a.n.size≤9223372036854775807:=fun a ha=>by
  obtain ⟨x,_,rfl⟩:=List.mem_map.1 ha
  show (1:Nat)≤_
  omega
 have hql:(qArgs o.qs).length≤3:=by rw [qArgs_len];exact hl
 unfold stRow
 split
 ·rename_i k2
  refine ⟨by show (0:Nat)≤_;omega,by show (qArgs o.qs++[_]).length≤_;rw [List.length_append,List.length_singleton];omega,fun a ha=>?_⟩
  rcases List.mem_append.1 ha with ha | ha
  ·exact hq a ha
  ·rw [List.mem_singleton] at ha
   subst ha
   unfold rnB at g5
   rw [Bool.and_eq_true,k2] at g5
   have ob:0≤o.b∧o.b<n:=by simpa using g5.2
   obtain ⟨x,hx,e,_⟩:=bArg_at R 0 n o.b.toNat hR (Nat.zero_le _) (by omega)
   rw [e]
   have:=nmC_size x.2 (hi x hx)
   show (nmC x.2).size≤_
   omega
 ·rename_i k2
  split
  ·exact ⟨by show (0:Nat)≤_;omega,by show (qArgs o.qs).length≤_;omega,hq⟩
  ·rename_i k3
   have k1:o.k=1:=by
    unfold rfB at g1
    by_cases k1:o.k=1
    ·exact k1
    ·exfalso
     rw [if_neg (by simpa using k1),if_neg (by simpa using k2),if_neg (by simpa using k3)] at g1
     cases g1
   have hnn:gar o.n≠0:=by
    have:opN o=gar o.n:=by unfold opN;rw [if_pos k1]
    omega
   have:=nms_sz _ (gar_nms _ hnn)
   exact ⟨by show o.n.size≤_;omega,by show (qArgs o.qs).length≤_;omega,hq⟩
theorem show_szs {c:Ci} {R:List Rg} {n:Nat} (hR:Seg 0 (R.map Prod.fst) n) (hi:∀x∈R,x.2≤100) (ho:∀o∈c.ops,opE o c.q n (opN o)=0):Szs (shRows c R):=fun r hr=>by
 rcases List.mem_append.1 hr with hr | hr
 ·unfold declRows at hr
  rcases List.mem_append.1 hr with hr | hr
  ·split at hr
   ·rw [List.mem_singleton] at hr
    subst hr
    exact ⟨by show (1:Nat)≤_;omega,by show (0:Nat)≤_;omega,fun a ha=>absurd ha List.not_mem_nil⟩
   ·cases hr
  ·obtain ⟨x,hx,rfl⟩:=List.mem_map.1 hr
   have:=nmC_size x.2 (hi x hx)
   exact ⟨by show (nmC x.2).size≤_;omega,by show (0:Nat)≤_;omega,fun a ha=>absurd ha List.not_mem_nil⟩
 ·obtain ⟨o,ho',hr⟩:=List.mem_flatMap.1 hr
  unfold opRows at hr
  rcases List.mem_append.1 hr with hr | hr
  ·exact ifRows_szs _ _ (fun x hx=>hi x (List.mem_filter.1 hx).1) r hr
  ·exact st_szs hR hi (ho o ho') r hr
end Go.Proofs.YtdjfpghgklkejaaGreatDoor
namespace Go.Proofs.YtdjfpghgklkejaaGreatDoor
open Go.RowKit Go.Sort
def I64 (x:Int):Prop:= -9223372036854775808≤x∧x≤9223372036854775807
def RwS (r:Rw):Prop:=r.kind.size≤100∧r.name.size≤100∧r.args.length≤10∧(∀a∈r.args,a.n.size≤100∧I64 a.x)∧I64 r.num
def szT (ts:List Tk):Nat:=(ts.map fun t=>t.t.size+1).sum
theorem szT_app (a b:List Tk):szT (a++b)=szT a+szT b:=by
 unfold szT
 rw [List.map_append,List.sum_append]
theorem tokB_le (e t:ByteArray):(tokB e t).length≤t.size+1:=by
 unfold tokB
 rw [List.length_append]
 have h:t.data.toList.length=t.size:=by rw [Array.length_toList];rfl
 rw [h]
 split
 ·show 1+_≤_;omega
 ·show 0+_≤_;omega
theorem lineB_le:∀(ts:List Tk) (e:ByteArray),(lineB e ts).length≤szT ts
 | [],_=>Nat.le_refl _
 | t::ts,e=>by
  have h1:=tokB_le e t.t
  have h2:=lineB_le ts t.t
  have h3:szT (t::ts)=t.t.size+1+szT ts:=by unfold szT;rw [List.map_cons,List.sum_cons]
  show (tokB e t.t++lineB t.t ts).length≤_
  rw [List.length_append,h3]
  omega
theorem numT_le {x:Int} (h:I64 x):(numT x).size≤21:=by
 obtain ⟨h1,h2⟩:=h
 have h3:=Lib.itoa_length_le x (by omega) (by omega)
 show (Lib.itoa x).toArray.size≤21
 rw [List.size_toArray]
 exact h3
theorem argK_le {a:Ar} (h:a.n.size≤100) (hx:I64 a.x):szT (argK a)≤130:=by
 have h1:=numT_le hx
 unfold argK
 split
 ·show (a.n.size+1)+((1+1)+(((numT a.x).size+1)+((1+1)+0)))≤130
  omega
 ·show (a.n.size+1)+0≤130
  omega
theorem argsT_le:∀(l:List Ar),(∀a∈l,a.n.size≤100∧I64 a.x)→szT (argsT l)≤l.length*130
 | [],_=>Nat.zero_le _
 | a::l,h=>by
  have h1:=argK_le (h a List.mem_cons_self).1 (h a List.mem_cons_self).2
  have h2:=argsT_le l (fun b hb=>h b (List.mem_cons_of_mem _ hb))
  show szT (argK a++argsT l)≤(l.length+1)*130
  rw [szT_app]
  omega
theorem last_le (sh:Sh):(lastS sh).size≤1:=by
 unfold lastS
 split <;> exact Nat.le_refl _
theorem headK_le {r:Rw} (h:RwS r):szT (headK r (shR r))≤1600:=by
 obtain ⟨h1,h2,h3,h4,h5⟩:=h
 have a1:szT (kindT r)≤101:=by
  unfold kindT
  split
  ·exact Nat.zero_le _
  ·show (r.kind.size+1)+0≤101;omega
 have a2:szT (nameT r (shR r))≤101:=by
  unfold nameT
  split
  ·show (r.name.size+1)+0≤101;omega
  ·exact Nat.zero_le _
 have a3:=argsT_le r.args h4
 have a4:szT (numTk r (shR r))≤22:=by
  unfold numTk
  split
  ·have:=numT_le h5
   show ((numT r.num).size+1)+0≤22;omega
  ·exact Nat.zero_le _
 have a5:szT [tkS (lastS (shR r))]≤2:=by
  have:=last_le (shR r)
  show ((lastS (shR r)).size+1)+0≤2;omega
 unfold headK
 rw [szT_app,szT_app,szT_app,szT_app]
 omega
theorem indB_len (d:Nat):(indB d).length=2*d:=List.length_replicate
set_option maxRecDepth 10000 in
theorem bodyB_le (D:Nat):∀(f d:Nat) (rs:List Rw),d+rs.length≤D→(∀r∈rs,RwS r)→(bodyB f d rs).length≤rs.length*(4*D+2000)
 | 0,_,_,_,_=>Nat.zero_le _
 | _+1,_,[],_,_=>Nat.zero_le _
 | f+1,d,r::rs,hd,h=>by
  have hl:(lineB ⟨#[]⟩ (headK r (shR r))).length≤1600:=Nat.le_trans (lineB_le _ _) (headK_le (h r List.mem_cons_self))
  rw [List.length_cons] at hd
  have h1:=bodyB_le D f (d+1) (rs.take r.rows.toNat) (by rw [List.length_take];omega) (fun x hx=>h x (List.mem_cons_of_mem _ (List.mem_of_mem_take hx)))
  have h2:=bodyB_le D f d (rs.drop r.rows.toNat) (by rw [List.length_drop];omega) (fun x hx=>h x (List.mem_cons_of_mem _ (List.mem_of_mem_drop hx)))
  have e:(rs.take r.rows.toNat).length*(4*D+2000)+(rs.drop r.rows.toNat).length*(4*D+2000)=rs.length*(4*D+2000):=by
   rw [←Nat.add_mul,←List.length_append,List.take_append_drop]
  have e2:(r::rs).length*(4*D+2000)=rs.length*(4*D+2000)+(4*D+2000):=by rw [List.length_cons,Nat.add_mul,Nat.one_mul]
  rw [e2]
  show ((indB d++(lineB ⟨#[]⟩ (headK r (shR r))++[10]))++((if (shR r).body=true then bodyB f (d+1) (rs.take r.rows.toNat)++(indB d++([125]++[10])) else [])++bodyB f d (rs.drop r.rows.toNat))).length≤_
  generalize rs.length*(4*D+2000)=X at *
  generalize (rs.take r.rows.toNat).length*(4*D+2000)=Y at *
  generalize (rs.drop r.rows.toNat).length*(4*D+2000)=Z at *
  split
  ·simp only [List.length_append,indB_len,List.length_singleton]
   omega
  ·simp only [List.length_append,indB_len,List.length_singleton,List.length_nil]
   omega
theorem RwS.szb {rs:List Rw} (h:∀r∈rs,RwS r):SzB rs:=fun r hr=>by
 obtain ⟨h1,h2,h3,h4,h5⟩:=h r hr
 exact ⟨by omega,by omega,fun a ha=>by have:=(h4 a ha).1;omega⟩
theorem ifRows_rws (v:Nat):∀(A:List Rg),(∀x∈A,x.2≤100∧x.1.2≤32)→∀r∈ifRows v A,RwS r
 | [],_=>fun r hr=>absurd hr List.not_mem_nil
 | x::A,h=>fun r hr=>by
  rcases List.mem_cons.1 (show r∈ifRow x v (A.length+1)::ifRows v A from hr) with rfl | hr
  ·have h1:=nmC_size x.2 (h x List.mem_cons_self).1
   have h2:(v&&&regM x.1)>>>x.1.1<4294967296:=Nat.lt_of_lt_of_le (part_lt v x.1) (Nat.pow_le_pow_right (by decide:0<2) (h x List.mem_cons_self).2)
   refine ⟨by show (2:Nat)≤_;omega,by show (nmC x.2).size≤_;omega,by show (0:Nat)≤_;omega,fun a ha=>absurd ha List.not_mem_nil,?_⟩
   show I64 (((v&&&regM x.1)>>>x.1.1:Nat):Int)
   generalize (v&&&regM x.1)>>>x.1.1=y at *
   exact ⟨by omega,by omega⟩
  ·exact ifRows_rws v A (fun y hy=>h y (List.mem_cons_of_mem _ hy)) r hr
theorem st_rws {q:Int} {n:Nat} {R:List Rg} (hR:Seg 0 (R.map Prod.fst) n) (hn:n≤64) (hq64:q≤64) (hi:∀x∈R,x.2≤100) {o:Oq} (ho:opE o q n (opN o)=0):RwS (stRow o R):=by
 obtain ⟨g1,g2,g3,g4,g5,g6⟩:=opE_ok ho
 have hl:o.qs.length≤3:=by
  rw [g4]
  unfold opN
  split
  ·exact gar_le _
  ·omega
 have g5':=g5
 unfold rnB at g5'
 rw [Bool.and_eq_true] at g5'
 have e2:=(qs_nat g5'.1).2
 have hq:∀a∈qArgs o.qs,a.n.size≤100∧I64 a.x:=fun a ha=>by
  obtain ⟨x,hx,rfl⟩:=List.mem_map.1 ha
  have:=e2 x hx
  refine ⟨by show (1:Nat)≤_;omega,?_⟩
  show I64 x
  unfold I64
  omega
 have hql:(qArgs o.qs).length≤3:=by rw [qArgs_len];exact hl
 have h0:I64 0:=by unfold I64;omega
 unfold stRow
 split
 ·rename_i k2
  refine ⟨by show (7:Nat)≤_;omega,by show (0:Nat)≤_;omega,by show (qArgs o.qs++[_]).length≤_;rw [List.length_append,List.length_singleton];omega,fun a ha=>?_,h0⟩
  rcases List.mem_append.1 ha with ha | ha
  ·exact hq a ha
  ·rw [List.mem_singleton] at ha
   subst ha
   unfold rnB at g5
   rw [Bool.and_eq_true,k2] at g5
   have ob:0≤o.b∧o.b<n:=by simpa using g5.2
   obtain ⟨x,hx,e,p1,p2⟩:=bArg_at R 0 n o.b.toNat hR (Nat.zero_le _) (by omega)
   rw [e]
   have:=nmC_size x.2 (hi x hx)
   refine ⟨by show (nmC x.2).size≤_;omega,?_⟩
   show I64 (((o.b.toNat:Nat):Int)-(x.1.1:Int))
   unfold I64
   omega
 ·rename_i k2
  split
  ·exact ⟨by show (5:Nat)≤_;omega,by show (0:Nat)≤_;omega,by show (qArgs o.qs).length≤_;omega,hq,h0⟩
  ·rename_i k3
   have k1:o.k=1:=by
    unfold rfB at g1
    by_cases k1:o.k=1
    ·exact k1
    ·exfalso
     rw [if_neg (by simpa using k1),if_neg (by simpa using k2),if_neg (by simpa using k3)] at g1
     cases g1
   have hnn:gar o.n≠0:=by
    have:opN o=gar o.n:=by unfold opN;rw [if_pos k1]
    omega
   have:=nms_sz _ (gar_nms _ hnn)
   exact ⟨by show (3:Nat)≤_;omega,by show o.n.size≤_;omega,by show (qArgs o.qs).length≤_;omega,hq,h0⟩
theorem show_rws {c:Ci} {R:List Rg} {n:Nat} (hR:Seg 0 (R.map Prod.fst) n) (hn:n≤64) (hq:c.q≤64) (hi:∀x∈R,x.2≤100∧x.1.2≤32) (ho:∀o∈c.ops,opE o c.q n (opN o)=0):∀r∈shRows c R,RwS r:=fun r hr=>by
 have h0:I64 0:=by unfold I64;omega
 rcases List.mem_append.1 hr with hr | hr
 ·unfold declRows at hr
  rcases List.mem_append.1 hr with hr | hr
  ·split at hr
   ·rename_i hp
    rw [List.mem_singleton] at hr
    subst hr
    refine ⟨by show (6:Nat)≤_;omega,by show (1:Nat)≤_;omega,by show (0:Nat)≤_;omega,fun a ha=>absurd ha List.not_mem_nil,?_⟩
    show I64 c.q
    unfold I64
    omega
   ·cases hr
  ·obtain ⟨x,hx,rfl⟩:=List.mem_map.1 hr
   have h1:=nmC_size x.2 (hi x hx).1
   have h2:=(hi x hx).2
   refine ⟨by show (4:Nat)≤_;omega,by show (nmC x.2).size≤_;omega,by show (0:Nat)≤_;omega,fun a ha=>absurd ha List.not_mem_nil,?_⟩
   show I64 (x.1.2:Int)
   unfold I64
   omega
 ·obtain ⟨o,ho',hr⟩:=List.mem_flatMap.1 hr
  unfold opRows at hr
  rcases List.mem_append.1 hr with hr | hr
  ·exact ifRows_rws _ _ (fun x hx=>hi x (List.mem_filter.1 hx).1) r hr
  ·rw [List.mem_singleton] at hr
   subst hr
   exact st_rws hR hn hq (fun x hx=>(hi x hx).1) (ho o ho')
end Go.Proofs.YtdjfpghgklkejaaGreatDoor
namespace Go.Proofs.YtdjfpghgklkejaaGreatDoor
open Go.RowKit Go.Sort
def ShA (c:Ci) (R:List Rg) (s:ByteArray) (er:Nat):Prop:=
 ((lk c).2.2≠0∧s=⟨#[]⟩∧er=(lk c).2.2)∨((lk c).2.2=0∧(∃o∈c.ops,32<(askR o.m.toNat R).length)∧s=⟨#[]⟩∧er=102)∨((lk c).2.2=0∧(∀o∈c.ops,(askR o.m.toNat R).length≤32)∧SOut (shRows c R) s er)
theorem sout_det {rs:List Rw} {s s':ByteArray} {e e':Nat} (h:SOut rs s e) (h':SOut rs s' e'):s=s'∧e=e':=by
 rcases h with ⟨a1,rfl,rfl⟩ | ⟨a1,a2,rfl,rfl⟩ | ⟨a1,a2,rfl,rfl⟩
 ·rcases h' with ⟨b1,rfl,rfl⟩ | ⟨b1,b2,rfl,rfl⟩ | ⟨b1,b2,rfl,rfl⟩
  ·exact ⟨rfl,rfl⟩
  ·rw [a1] at b1;cases b1
  ·rw [a1] at b1;cases b1
 ·rcases h' with ⟨b1,rfl,rfl⟩ | ⟨b1,b2,rfl,rfl⟩ | ⟨b1,b2,rfl,rfl⟩
  ·rw [a1] at b1;cases b1
  ·exact ⟨rfl,rfl⟩
  ·exact absurd b2 (by omega)
 ·rcases h' with ⟨b1,rfl,rfl⟩ | ⟨b1,b2,rfl,rfl⟩ | ⟨b1,b2,rfl,rfl⟩
  ·rw [a1] at b1;cases b1
  ·exact absurd b2 (by omega)
  ·exact ⟨rfl,rfl⟩
theorem sha_det {c:Ci} {R:List Rg} {s s':ByteArray} {e e':Nat} (h:ShA c R s e) (h':ShA c R s' e'):s=s'∧e=e':=by
 rcases h with ⟨a1,rfl,rfl⟩ | ⟨a1,⟨o,ho,a2⟩,rfl,rfl⟩ | ⟨a1,a2,a3⟩
 ·rcases h' with ⟨b1,rfl,rfl⟩ | ⟨b1,_⟩ | ⟨b1,_⟩
  ·exact ⟨rfl,rfl⟩
  ·exact absurd b1 a1
  ·exact absurd b1 a1
 ·rcases h' with ⟨b1,rfl,rfl⟩ | ⟨b1,b2,rfl,rfl⟩ | ⟨b1,b2,b3⟩
  ·exact absurd a1 b1
  ·exact ⟨rfl,rfl⟩
  ·exact absurd (b2 o ho) (by omega)
 ·rcases h' with ⟨b1,rfl,rfl⟩ | ⟨b1,⟨o,ho,b2⟩,rfl,rfl⟩ | ⟨b1,b2,b3⟩
  ·exact absurd a1 b1
  ·exact absurd (a2 o ho) (by omega)
  ·exact sout_det a3 b3
set_option maxHeartbeats 2000000 in
set_option maxRecDepth 100000 in
theorem flatShow_all (c:Ci) (oa:Option Addr) (oc:Nat) (A:Nat→Option Addr) (C:Nat→Nat) (w:World) (H:OS w oa oc c.ops A C) (hv:VR w) :
  Calls Tryz.prog 17 #[civ c oa oc] w fun e w'=>(∃(s:ByteArray) (er:Nat),e=.returned (.tuple #[.string s,.int .i64 (er:Nat)])∧ShA c (regL c).zipIdx s er)∧Below w.heap.size w w':=by
 have CHK:Hid (∀w',Below w.heap.size w w'→_):=fun w' h=>check_any c oa oc A C w' (H.below h)
 by_cases hlk:(lk c).2.2=0
 case neg=>
  have hne:¬(((lk c).2.2:Nat):Int)=0:=by omega
  have HSA:Hid (ShA c (regL c).zipIdx ⟨#[]⟩ (lk c).2.2):=.inl ⟨hlk,rfl,rfl⟩
  generalize (lk c).2.2=er at *
  generalize (lk c).1=pl at *
  go_enter Tryz.func17,Tryz.ntmps17
  go_wp2_with (go_at_call 18;(with_reducible refine (CHK.out _ (bal (Below.refl _ _) _)).mono ?_);rintro e w1 ⟨rfl,hB1⟩)
  exact bodyPost_ret (v:=.tuple #[.string ⟨#[]⟩,.int .i64 (er:Nat)]) (by simp [results,Tryz.results17,go_sem]) rfl ⟨⟨_,er,rfl,HSA.out⟩,btr (bal (Below.refl _ _) _) hB1⟩
 rw [hlk] at CHK
 obtain ⟨p1,p2,p3,p4,p5,p6⟩:=lk_parts hlk
 have hseg:Seg 0 (regL c) c.b.toNat:=(cut_ok _ _).1
 have hfst:(regL c).zipIdx.map Prod.fst=regL c:=List.zipIdx_map_fst 0 _
 have hRb:∀x∈(regL c).zipIdx,x.1.1+x.1.2≤64∧x.1.2≤32:=fun x hx=>by
  have hx':x.1∈regL c:=by
   have:x.1∈(regL c).zipIdx.map Prod.fst:=List.mem_map.2 ⟨x,hx,rfl⟩
   rwa [hfst] at this
  have:=seg_mem _ _ _ hseg x.1 hx'
  omega
 have hRl:(regL c).zipIdx.length≤64:=by
  rw [List.length_zipIdx]
  have:=seg_len _ _ _ hseg
  omega
 have hRi:∀x∈(regL c).zipIdx,x.2≤100:=fun x hx=>by
  have:=List.snd_lt_of_mem_zipIdx hx
  rw [List.length_zipIdx] at hRl
  omega
 have CUT:Hid (∀w',Below w.heap.size w w'→_):=fun w' h=>cut_any c oa oc A C w' (H.below h) ⟨p3,p4⟩ p5 (hv.below h)
 have DEC:=hid (fun (v:Value) (B:Nat) (w':World) (h:w'.ownsRow B 138 3 v (regL c).zipIdx.length (rgs (regL c).zipIdx))=>declarations_any c.q (regL c).zipIdx v B w' h hRl)
 have HSH:Hid (∀T:RVs,T.map Prod.fst=shRows c (regL c).zipIdx→(∀o∈c.ops,(askR o.m.toNat (regL c).zipIdx).length≤32)→∀(w':World) (v:Value) (B:Nat),Below w.heap.size w w'→TR w' B v T→T.length≤1000000→Calls Tryz.prog 38 #[v] w' fun e w''=>(∃(s:ByteArray) (er:Nat),e=.returned (.tuple #[.string s,.int .i64 (er:Nat)])∧ShA c (regL c).zipIdx s er)∧Below w'.heap.size w' w''):=fun T hT hask w' v B hB hTR hlen=>by
  obtain ⟨s,er,hS⟩:=sout_ex (shRows c (regL c).zipIdx)
  have hsr:=hTR.sr
  rw [hT] at hsr
  have hll:(shRows c (regL c).zipIdx).length≤9223372036854775807:=by rw [←hT,List.length_map];omega
  refine (show_any _ v s er w' hsr (hv.below hB) hll (show_szs (by rw [hfst];exact hseg) hRi p6) hS).mono ?_
  rintro e w2 ⟨rfl,hB2⟩
  exact ⟨⟨s,er,rfl,.inr (.inr ⟨hlk,hask,hS⟩)⟩,hB2⟩
 have HO:=hid H
 have HP6:=hid p6
 have HRB:=hid hRb
 have HSEG:Hid (Seg 0 ((regL c).zipIdx.map Prod.fst) c.b.toNat):=by rw [hfst];exact hseg
 have hcap:=H.cap
 clear H hv hRb hRi hseg hfst p6
 generalize (regL c).zipIdx=R at *
 obtain ⟨q,b,os⟩:=c
 simp only at *
 go_enter Tryz.func17,Tryz.ntmps17
 go_wp2_with (first
  | (go_at_call 18;(with_reducible refine (CHK.out _ (bal (Below.refl _ _) _)).mono ?_);rintro e w1 ⟨rfl,hB1⟩;(have hA1:=btr (bal (Below.refl w.heap.size w) _) hB1);(have b1:=bk_on (bk_new w _ 27) hB1);(have d1:=b1.cell);(have l1:=b1.lt))
  | (go_at_call 33;(with_reducible refine (CUT.out _ hA1).mono ?_);rintro e w2 ⟨v2,rfl,ho2,hB2⟩;(have hA2:=btr hA1 hB2);(have b2:=bk_on b1 hB2);(have d2:=b2.cell);(have l2:=b2.lt))
  | (go_at_call 34;(with_reducible refine (DEC.out _ _ _ ho2).mono ?_);rintro e w3 ⟨v3,rfl,ht3,hB3⟩;(have hA3:=btr hA2 hB3);(have b3:=bk_on b2 hB3);(have d3:=b3.cell);(have l3:=b3.lt)))
 have hO3:w3.ownsRow w.heap.size 138 3 v2 R.length (rgs R):=own_below (own_mono ho2 hA1.size) hB3
 have hT3:TR w3 w.heap.size v3 ((declRows q R).map n0):=ht3.mono hA2.size
 have HB3:=hid b3
 have hdl:(declRows q R).length≤65:=by
  unfold declRows
  rw [List.length_append,List.length_map]
  split
  ·show 1+_≤_;omega
  ·show 0+_≤_;omega
 clear hB1 hB2 hB3 hA1 hA2 b1 b2 b3 d1 d2 l1 l2 d3 l3 ho2 ht3 CHK CUT DEC
 go_loopw [7,28] (fun s7 s28 wx=>∃k:Nat,k≤os.length∧s28=.int .i64 (k:Nat)∧∃T:RVs,TR wx w.heap.size s7 T∧T.map Prod.fst=declRows q R++(os.take k).flatMap (opRows R)∧T.length≤65+33*k∧(∀o∈os.take k,(askR o.m.toNat R).length≤32)∧wx.ownsRow w.heap.size 138 3 v2 R.length (rgs R)∧BK wx w.heap.size #[.int .i64 q,.int .i64 b,.slice oa os.length oc] 27∧Below w.heap.size w wx) (fun _ s28 _=>os.length-(intOf s28).toNat)
 case atStart=>exact ⟨0,Nat.zero_le _,rfl,_,hT3,by rw [List.map_map,List.take_zero,List.flatMap_nil,List.append_nil];exact List.map_id _,by rw [List.length_map];omega,fun o ho=>absurd ho List.not_mem_nil,hO3,HB3.out,hA3⟩
 case round=>
  obtain ⟨k,hk,rfl,T,hT,hTm,hTl,hask,hO,hbk,hB⟩:=hrel
  clear hT3 hO3 HB3 hA3
  have d1:=hbk.cell
  have l1:=hbk.lt
  by_cases hlt:k<os.length
  case neg=>
   obtain rfl:k=os.length:=by omega
   rw [List.take_length] at hTm hask
   have HC:=hid (HSH.out T hTm hask wr _ w.heap.size hB hT (by omega))
   go_wp2_with (go_at_call 38;(with_reducible refine HC.out.mono ?_);rintro e w4 ⟨⟨s,er,rfl,hso⟩,hB4⟩)
   exact bodyPost_ret (v:=.tuple #[.string s,.int .i64 (er:Nat)]) (by simp [results,Tryz.results17,go_sem]) rfl ⟨⟨s,er,rfl,hso⟩,btr hB hB4⟩
  obtain ⟨b',o',rfl,r⟩:=(HO.out.below hB).at_ k hlt
  have m0:=r.c0 k hlt
  have m1:=r.c1 k hlt
  have m2:=r.c2 k hlt
  have m3:=r.c3 k hlt
  have m4:=r.c4 k hlt
  have m5:=r.c5 k hlt
  have m6:=r.c6 k hlt
  have hbl:=r.lt
  have hfit:=HO.out.fit k hlt
  have HQS:Hid (∀w',Below w.heap.size w w'→QS w' (A k) (C k) os[k].qs):=fun w' h=>(HO.out.below h).qs k hlt
  have HOE:=hid (HP6.out _ (List.getElem_mem hlt))
  have HMEM:=hid (List.getElem_mem hlt)
  have HTK:Hid ((os.take (k+1)).flatMap (opRows R)=(os.take k).flatMap (opRows R)++opRows R os[k]∧∀P:Oq→Prop,(∀o∈os.take k,P o)→P os[k]→∀o∈os.take (k+1),P o):=by
   rw [List.take_succ_eq_append_getElem hlt]
   refine ⟨by rw [List.flatMap_append];show _++(opRows R os[k]++[])=_;rw [List.append_nil],fun P h1 h2 o ho=>?_⟩
   rcases List.mem_append.1 ho with ho | ho
   ·exact h1 o ho
   ·rw [List.mem_singleton] at ho
    subst ho
    exact h2
  have hTn:0<T.length:=by
   have h1:=decl_len R (ops_q HOE.out).1
   have h2:=congrArg List.length hTm
   rw [List.length_map,List.length_append] at h2
   omega
  clear r
  generalize A k=qa at *
  generalize C k=qc at *
  generalize os[k]=o at *
  obtain ⟨ok,on,oq,ob,of,om,ov⟩:=o
  have f0:=hfit.m0
  have f1:=hfit.m1
  have f2:=hfit.v0
  have f3:=hfit.v1
  simp only at *
  obtain ⟨mm,rfl⟩:=Int.eq_ofNat_of_zero_le f0
  have UND:=hid (fun (w':World) (h:w'.ownsRow w.heap.size 138 3 v2 R.length (rgs R))=>under_any mm R v2 w.heap.size w' (by omega) h HRB.out hRl)
  have hAl:(askR mm R).length≤64:=Nat.le_trans (List.length_filter_le _ _) hRl
  have HAB:Hid (∀x∈askR mm R,x.1.1+x.1.2≤64∧x.1.2≤32):=fun x hx=>HRB.out x (List.mem_filter.1 hx).1
  obtain ⟨a7,c7,rfl⟩:=hT.shape
  have HT:=hid hT
  have HO2:=hid hO
  have HBK:=hid hbk
  clear hT hO hbk hfit
  by_cases hdeep:(askR mm R).length≤32
  case neg=>
   go_wp2_with (go_at_call 35;(with_reducible refine (UND.out _ (own_below HO2.out (bal (Below.refl _ _) _))).mono ?_);rintro e w4 ⟨v4,rfl,ho4,hB4⟩;obtain ⟨a4,c4,rfl⟩:=own_shape ho4)
   exact bodyPost_ret (v:=.tuple #[.string ⟨#[]⟩,.int .i64 ((102:Nat):Int)]) (by simp [results,Tryz.results17,go_sem]) rfl ⟨⟨_,102,rfl,.inr (.inl ⟨hlk,⟨_,HMEM.out,Nat.lt_of_not_le hdeep⟩,rfl,rfl⟩)⟩,btr (bal hB _) hB4⟩
  have COND:=hid (fun (v:Value) (B:Nat) (w':World) (h:w'.ownsRow B 138 3 v (askR mm R).length (rgs (askR mm R)))=>conditions_any ⟨ok,on,oq,ob,of,(mm:Int),ov⟩ qa qc (askR mm R) v B w' h HAB.out hAl ⟨f2,f3⟩)
  go_wp2_with (first
   | (go_at_call 35;(with_reducible refine (UND.out _ (own_below HO2.out (bal (Below.refl _ _) _))).mono ?_);rintro e w4 ⟨v4,rfl,ho4,hB4⟩;obtain ⟨a4,c4,rfl⟩:=own_shape ho4;(have b4:=bk_on (bk_new wr _ 49) hB4);(have d4:=b4.cell);(have l4:=b4.lt);(have hA4:=btr (bal hB _) hB4))
   | (go_at_call 36;(with_reducible refine (COND.out _ _ _ ho4).mono ?_);rintro e w5 ⟨v5,rfl,ht5,hB5⟩;(have b5:=bk_on b4 hB5);(have d5:=b5.cell);(have l5:=b5.lt);(have hA5:=btr hA4 hB5))
   | (at_builtin;refine Hid.out ?_))
  refine hid ?_
  have hT5:=((HT.out.below (bal (Below.refl wr.heap.size wr) _)).below hB4).below hB5
  have hN5:=ht5.mono hA4.size
  have hO5:=own_below (own_below (own_below HO2.out (bal (Below.refl wr.heap.size wr) _)) hB4) hB5
  have hK5:=bk_on (bk_on (HBK.out.alloc _) hB4) hB5
  have hif:((ifRows ov.toNat (askR mm R)).map n0).length≤32:=by rw [List.length_map,ifRows_len];exact hdeep
  refine wpList_app_rows rfl _ _ rfl hT5 hTn rfl hN5 rfl (by omega) hA5.size ?_
  intro v6 w6 hT6 hG6
  have hO6:=hT5.keepR hG6 hO5
  have b6:=hT5.keepB hG6 b5 (by decide)
  have hK6:=hT5.keepB hG6 hK5 (by decide)
  have hA6:=below_own hA5 hT5.own hG6
  have HQ6:=hid (HQS.out _ hA6)
  generalize hT6e:T++(ifRows ov.toNat (askR mm R)).map n0=T6 at hT6
  have HE6:=hid hT6e
  clear hT6e
  obtain ⟨a6,c6,rfl⟩:=hT6.shape
  have d6:=b6.cell
  have l6:=b6.lt
  have hlm:oq.length≤3:=(ops_q HOE.out).2
  have STM:=hid (statement_any ⟨ok,on,oq,ob,of,(mm:Int),ov⟩ qa qc R v2 w.heap.size w6 HQ6.out (by show oq.length≤100;omega) hO6 (fun x hx=>(HRB.out x hx).1) hRl (fun h2=>by
   have h3:=op_bit HOE.out h2
   have h3:0≤ob∧ob<b.toNat:=h3
   exact ⟨h3.1,by show ob<64;omega,bIdx_lt HSEG.out (by show ob.toNat<_;omega)⟩))
  have HT6:=hid hT6
  have HO6:=hid hO6
  have HK6:=hid hK6
  clear hT5 hN5 hO5 hK5 hG6 hT6 hO6 hK6 d4 l4 d5 l5 b4 b5 ho4 ht5 hB4 hB5 d1 l1 UND COND
  go_wp2_with (first
   | (go_at_call 37;(with_reducible refine STM.out.mono ?_);rintro e w7 ⟨av,rfl,hav,hB7⟩;obtain ⟨a9,c9,rfl⟩:=own_shape hav;(have hA7:=btr hA6 hB7))
   | (at_builtin;refine Hid.out ?_))
  refine hid ?_
  have hT7:=(HT6.out.below hB7).below (bal (Below.refl w7.heap.size w7) (.cells #[.string (stRow ⟨ok,on,oq,ob,of,(mm:Int),ov⟩ R).kind,.string (stRow ⟨ok,on,oq,ob,of,(mm:Int),ov⟩ R).name,.slice a9 (stRow ⟨ok,on,oq,ob,of,(mm:Int),ov⟩ R).args.length c9,.int .i64 0,.int .i64 0,.int .i64 0] 79))
  have h1:=tr_one (own_mono hav hA6.size) hA7.size
  obtain ⟨z1,z2,z3⟩:=st_zero ⟨ok,on,oq,ob,of,(mm:Int),ov⟩ R
  rw [z1,z2,z3] at h1
  have hO7:=own_below (own_below HO6.out hB7) (bal (Below.refl w7.heap.size w7) (.cells #[.string (stRow ⟨ok,on,oq,ob,of,(mm:Int),ov⟩ R).kind,.string (stRow ⟨ok,on,oq,ob,of,(mm:Int),ov⟩ R).name,.slice a9 (stRow ⟨ok,on,oq,ob,of,(mm:Int),ov⟩ R).args.length c9,.int .i64 0,.int .i64 0,.int .i64 0] 79))
  have hK7:=(bk_on HK6.out hB7).alloc (.cells #[.string (stRow ⟨ok,on,oq,ob,of,(mm:Int),ov⟩ R).kind,.string (stRow ⟨ok,on,oq,ob,of,(mm:Int),ov⟩ R).name,.slice a9 (stRow ⟨ok,on,oq,ob,of,(mm:Int),ov⟩ R).args.length c9,.int .i64 0,.int .i64 0,.int .i64 0] 79)
  have hl6:T6.length=T.length+((ifRows ov.toNat (askR mm R)).map n0).length:=by rw [←HE6.out,List.length_append]
  refine wpList_app_rows rfl _ _ rfl hT7 (by omega) rfl h1 rfl (by rw [List.length_singleton];omega) (bal hA7 _).size ?_
  intro v8 w8 hT8 hG8
  have hO8:=hT7.keepR hG8 hO7
  have hK8:=hT7.keepB hG8 hK7 (by decide)
  have hA8:=below_own (bal hA7 _) hT7.own hG8
  have HTK1:=HTK.out.1
  have HTK2:=HTK.out.2 (fun o=>(askR o.m.toNat R).length≤32) hask hdeep
  clear hT7 h1 hO7 hK7 hG8 hav hB7
  go_wp2
  refine ⟨⟨k+1,by omega,rfl,_,hT8,?_,by rw [List.length_append,List.length_singleton,hl6];omega,HTK2,hO8,hK8,hA8⟩,by simp only [intOf];omega⟩
  rw [HTK1,←HE6.out,List.map_append,List.map_append,hTm,List.map_map]
  show _++List.map id _++[stRow _ R]=_
  rw [List.map_id,List.append_assoc,List.append_assoc]
  rfl
end Go.Proofs.YtdjfpghgklkejaaGreatDoor
