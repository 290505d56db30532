/-
  Put together of: HE HF HH HI HJ HK.
-/
import Derived.Test.YtdjfpghgklkejaaGreatDoorXZ
import Derived.Test.YtdjfpghgklkejaaGreatDoorYA
import Derived.Test.YtdjfpghgklkejaaGreatDoorYM
namespace Go.Proofs.YtdjfpghgklkejaaGreatDoor
open Go.RowKit Go.Sort
abbrev rgc (x:Rg):List Value:=[.string (nmC x.2),.int .i64 (x.1.1:Nat),.int .i64 (x.1.2:Nat)]
def rgs (R:List Rg):List Value:=R.flatMap rgc
abbrev rgv (x:Rg):Value:=.agg #[.string (nmC x.2),.int .i64 (x.1.1:Nat),.int .i64 (x.1.2:Nat)]
theorem rgs_len:∀R:List Rg,(rgs R).length=R.length*3
 | []=>rfl
 | x::R=>by
  show (rgc x++rgs R).length=_
  rw [List.length_append,rgs_len R,List.length_cons]
  show 3+R.length*3=(R.length+1)*3
  omega
theorem rgs_app (a b:List Rg):rgs (a++b)=rgs a++rgs b:=List.flatMap_append ..
theorem rgs_at:∀(R:List Rg) (j:Nat) (h:j<R.length),(rgs R)[j*3]?=some (.string (nmC R[j].2))∧(rgs R)[j*3+1]?=some (.int .i64 (R[j].1.1:Nat))∧(rgs R)[j*3+2]?=some (.int .i64 (R[j].1.2:Nat))
 | [],j,h=>absurd h (Nat.not_lt_zero _)
 | x::R,0,_=>⟨rfl,rfl,rfl⟩
 | x::R,j+1,h=>by
  have:=rgs_at R j (by rw [List.length_cons] at h;omega)
  have e:rgs (x::R)=rgc x++rgs R:=rfl
  rw [e,show (j+1)*3=j*3+3 by omega]
  exact this
theorem rgs_one (R:List Rg):∀u∈rgs R,u.oneCell'=true:=fun u hu=>by
 obtain ⟨x,_,h⟩:=List.mem_flatMap.1 hu
 simp only [rgc,List.mem_cons,List.not_mem_nil,or_false] at h
 rcases h with rfl | rfl | rfl <;> rfl
theorem rg_cells {W:World} {B:Nat} {v:Value} {R:List Rg} (h:W.ownsRow B 138 3 v R.length (rgs R)) {k:Nat} (hk:k<R.length) :
  ∃g cap,v=.slice (some ⟨g,0,none⟩) R.length cap∧R.length≤cap∧g<W.heap.size∧B≤g∧W.cell? ⟨g,k*3,none⟩=some (.string (nmC R[k].2))∧W.cell? ⟨g,k*3+1,none⟩=some (.int .i64 (R[k].1.1:Nat))∧W.cell? ⟨g,k*3+2,none⟩=some (.int .i64 (R[k].1.2:Nat))∧∀j,W.frozen? ⟨g,j,none⟩=false:=by
 obtain ⟨g,cap,rfl,hc,hf,hcell,hb,hl⟩:=own_at h (by omega)
 obtain ⟨e0,e1,e2⟩:=rgs_at R k hk
 have hl3:=rgs_len R
 have get:∀j x,(rgs R)[j]?=some x→W.cell? ⟨g,j,none⟩=some x:=fun j x e=>by
  have hj:j<(rgs R).length:=(List.getElem?_eq_some_iff.1 e).1
  rw [List.getElem?_eq_getElem hj] at e
  rw [hcell j hj,Option.some.inj e]
 exact ⟨g,cap,rfl,hc,hl,hb,get _ _ e0,get _ _ e1,get _ _ e2,hf⟩
theorem Tryz.info138:(Tryz.prog.info? 138).map (fun i=>(i.zero,i.size,i.bytes))=some (some (.agg #[.string ⟨#[]⟩,.int .i64 0,.int .i64 0]),3,32):=by kernel_rfl
theorem wrapU {x:Int} (h0:0≤x) (h1:x<18446744073709551616):IntKind.u64.wrap x=x:=by
 rw [IntKind.wrap_u64]
 omega
set_option maxHeartbeats 400000 in
set_option maxRecDepth 100000 in
theorem mask_any (x:Rg) (w:World) (h:x.1.1+x.1.2≤64) (hz:x.1.2≤32):Calls Tryz.prog 66 #[rgv x] w fun e w'=>e=.returned (.int .u64 (regM x.1:Nat))∧Below w.heap.size w w':=by
 obtain ⟨⟨f,z⟩,j⟩:=x
 simp only at *
 go_enter Tryz.func66,Tryz.ntmps66
 go_wp2
 go_quiet (fail)
 go_wp2
 have h2:((2:Int) ^ z)=((2 ^ z:Nat):Int):=by simp
 have h3:((2:Int) ^ f)=((2 ^ f:Nat):Int):=by simp
 have h4:2 ^ z≤4294967296:=Nat.pow_le_pow_right (by decide:0<2) hz
 have h5:0<2 ^ z:=Nat.two_pow_pos z
 have h6:regM (f,z)<2 ^ 64:=Nat.lt_of_lt_of_le (regM_lt (f,z)) (Nat.pow_le_pow_right (by decide) h)
 have e1:IntKind.u64.wrap (((2 ^ z:Nat):Int))=((2 ^ z:Nat):Int):=wrapU (by omega) (by omega)
 have e2:IntKind.u64.wrap (((2 ^ z:Nat):Int)-1)=((2 ^ z-1:Nat):Int):=by
  rw [wrapU (by omega) (by omega)]
  omega
 have e3:IntKind.u64.wrap (((2 ^ z-1:Nat):Int)*((2 ^ f:Nat):Int))=((regM (f,z):Nat):Int):=by
  rw [←Int.natCast_mul]
  exact wrapU (by omega) (Int.ofNat_lt.2 h6)
 exact bodyPost_ret (v:=.int .u64 (regM (f,z):Nat)) (by simp only [h2,h3,e1,e2,e3];simp [results,Tryz.results66,go_sem]) rfl ⟨rfl,below_drewN (bal (Below.refl _ _) _) _⟩
theorem below_own {w W W':World} {T c n:Nat} {v:Value} {xs:List Value} (h:Below w.heap.size w W) (ho:W.ownsRow w.heap.size T c v n xs) (g:W.grownBy W' v.ownBlock):Below w.heap.size w W':=
 ⟨g.os.trans h.os,g.tape.trans h.tape,g.output.trans h.output,Nat.le_trans h.size g.size,fun k hk=>(g.block k (Nat.lt_of_lt_of_le hk h.size) (fun e=>by
  rcases ho.2 with ⟨rfl,_⟩ | ⟨b,cap,cur,rfl,hb,_⟩
  ·cases e
  ·have:=Option.some.inj (show some k=some b from e)
   omega)).trans (h.block k hk)⟩
theorem bk_on {W W':World} {b:Nat} {cs:Array Value} {T:TypeId} (h:BK W b cs T) (hb:Below W.heap.size W W'):BK W' b cs T:=(hb.block _ h.lt).trans h
theorem new_rg (w4:World) (x:Rg):∀j u,(rgs [x])[j]?=some u→(w4.alloc (.cells #[.string (nmC x.2),.int .i64 (x.1.1:Nat),.int .i64 (x.1.2:Nat)] 138)).cell? ((⟨w4.heap.size,0,none⟩:Addr).add j)=some u:=by
 intro j u hj
 have hj:(rgc x)[j]?=some u:=hj
 rw [WideShapes.add_plain,Nat.zero_add,(bk_new w4 _ 138).cell j]
 simpa using hj
theorem askR_app (m:Nat) (a b:List Rg):askR m (a++b)=askR m a++askR m b:=List.filter_append ..
set_option maxHeartbeats 1000000 in
set_option maxRecDepth 100000 in
theorem under_any (m:Nat) (R:List Rg) (v:Value) (B:Nat) (w:World) (hm:m<18446744073709551616) (ho:w.ownsRow B 138 3 v R.length (rgs R)) (hR:∀x∈R,x.1.1+x.1.2≤64∧x.1.2≤32) (hl:R.length≤64) :
  Calls Tryz.prog 35 #[.int .u64 (m:Nat),v] w fun e w'=>∃v',e=.returned v'∧w'.ownsRow w.heap.size 138 3 v' (askR m R).length (rgs (askR m R))∧Below w.heap.size w w':=by
 obtain ⟨i7,hi7,hz7,hs7,hb7⟩:=info_parts Tryz.info138
 have HI7:=hid hi7
 clear hi7
 have HO:=hid ho
 have HR:=hid hR
 obtain ⟨a,c,rfl⟩:=own_shape ho
 clear ho hR
 go_enter Tryz.func35,Tryz.ntmps35
 go_wp2
 go_loopw [5,10] (fun s5 s10 wx=>∃k:Nat,k≤R.length∧s10=.int .i64 (k:Nat)∧wx.ownsRow w.heap.size 138 3 s5 (askR m (R.take k)).length (rgs (askR m (R.take k)))∧Below w.heap.size w wx) (fun _ s10 _=>R.length-(intOf s10).toNat)
 case atStart=>exact ⟨0,Nat.zero_le _,rfl,World.ownsRow_nil _ _ _ _,Below.refl _ _⟩
 case round=>
  obtain ⟨k,hk,rfl,hown,hB⟩:=hrel
  by_cases hlt:k<R.length
  case neg=>
   obtain rfl:k=R.length:=by omega
   rw [List.take_length] at hown
   obtain ⟨a',c',rfl⟩:=own_shape hown
   go_wp2
   go_ret
   exact ⟨_,rfl,hown,hB⟩
  obtain ⟨g,cap,e1,hcap,hgl,hgB,m0,m1,m2,_⟩:=rg_cells (own_below HO.out hB) hlt
  cases e1
  have HMA:=hid (mask_any R[k] · (HR.out _ (List.getElem_mem hlt)).1 (HR.out _ (List.getElem_mem hlt)).2)
  have HTK:Hid (askR m (R.take (k+1))=askR m (R.take k)++askR m [R[k]]):=by
   rw [List.take_succ_eq_append_getElem hlt]
   exact askR_app ..
  have HLE:Hid ((askR m (R.take k)).length≤64):=Nat.le_trans (List.length_filter_le _ _) (by rw [List.length_take];omega)
  obtain ⟨a',c',rfl⟩:=own_shape hown
  have HOW:=hid hown
  clear hown
  have hrm:regM R[k].1<18446744073709551616:=Nat.lt_of_lt_of_le (regM_lt _) (Nat.pow_le_pow_right (by decide:0<2) (HR.out _ (List.getElem_mem hlt)).1)
  generalize R[k]=x at *
  have hand:bits .and .u64 (m:Int) ((regM x.1:Nat):Int)=((m&&&regM x.1:Nat):Int):=u64_and_nat _ _ hm hrm
  by_cases hne:m&&&regM x.1≠0
  ·have hq:(((m&&&regM x.1:Nat):Int) != 0)=true:=by rw [bne_iff_ne];omega
   have hyes:askR m [x]=[x]:=by unfold askR;rw [List.filter_cons,if_pos (decide_eq_true hne)];rfl
   go_wp2_with (first
    | (go_at_call 66;(with_reducible refine (HMA.out _).mono ?_);rintro e w1 ⟨rfl,hB1⟩;(have hbk:=bk_on (bk_new wr _ 138) hB1);(have d1:=hbk.cell);(have l1:=hbk.lt);(have HBK:=hid hbk);(have HB1:=hid hB1);clear hbk hB1)
    | (at_builtin;refine Hid.out ?_))
   refine hid ?_
   have hBw:Below w.heap.size w w1:=btr (bal hB _) HB1.out
   have hO1:=own_below (own_below HOW.out (bal (Below.refl wr.heap.size wr) _)) HB1.out
   refine wpList_append_own_at _ rfl _ _ 84 rfl w.heap.size 138 i7 _ 3 32 Tryz.underlying84 HI7.out hz7 hs7 hb7 rfl (by decide) _ _ _ rfl (own_below hO1 (bal (Below.refl _ _) _)) ⟨w1.heap.size,0,none⟩ 1 1 (rgs [x]) rfl rfl (new_rg w1 x) (rgs_one [x]) (by have:=HLE.out;unfold maxLen;omega) (by have:=HLE.out;omega) (Nat.le_trans hBw.size (bal (Below.refl w1.heap.size w1) _).size) ?_
   intro v8 w8 hown8 hgrow8 hnil8 hloc8
   have hB8:Below w.heap.size w w8:=below_own (bal hBw _) (own_below hO1 (bal (Below.refl _ _) _)) hgrow8
   go_wp2
   refine ⟨⟨k+1,by omega,rfl,?_,hB8⟩,by simp only [intOf];omega⟩
   rw [HTK.out,hyes,List.length_append,rgs_app]
   exact hown8
  ·have hq:(((m&&&regM x.1:Nat):Int) != 0)=false:=by rw [bne_eq_false_iff_eq];omega
   have hno:askR m [x]=[]:=by unfold askR;rw [List.filter_cons,if_neg (by simpa using hne)];rfl
   go_wp2_with (go_at_call 66;(with_reducible refine (HMA.out _).mono ?_);rintro e w1 ⟨rfl,hB1⟩;(have hbk:=bk_on (bk_new wr _ 138) hB1);(have d1:=hbk.cell);(have l1:=hbk.lt);(have HB1:=hid hB1);clear hB1)
   refine ⟨⟨k+1,by omega,rfl,?_,btr (bal hB _) HB1.out⟩,by simp only [intOf];omega⟩
   rw [HTK.out,hno,List.append_nil]
   exact own_below (own_below HOW.out (bal (Below.refl wr.heap.size wr) _)) HB1.out
end Go.Proofs.YtdjfpghgklkejaaGreatDoor
namespace Go.Proofs.YtdjfpghgklkejaaGreatDoor
open Go.RowKit Go.Sort
structure TR (W:World) (B:Nat) (v:Value) (T:RVs):Prop where
 own:W.ownsRow B 79 6 v T.length (rz T)
 sa:∀t∈T,W.ownsRow B 100 2 t.2 t.1.args.length (ars t.1.args)
theorem TR.below {W W':World} {B:Nat} {v:Value} {T:RVs} (h:TR W B v T) (hb:Below W.heap.size W W'):TR W' B v T:=⟨own_below h.own hb,fun t ht=>own_below (h.sa t ht) hb⟩
theorem TR.nil (W:World) (B:Nat):TR W B (.slice none 0 0) []:=⟨World.ownsRow_nil _ _ _ _,fun _ ht=>absurd ht List.not_mem_nil⟩
theorem TR.mono {W:World} {B B':Nat} {v:Value} {T:RVs} (h:TR W B v T) (hb:B'≤B):TR W B' v T:=⟨own_mono h.own hb,fun t ht=>own_mono (h.sa t ht) hb⟩
theorem TR.app {W W':World} {B n m:Nat} {v v':Value} {T N:RVs} (h:TR W B v T) (hg:W.grownBy W' v.ownBlock) (hn:n=T.length) (hm:m=N.length) (ho:W'.ownsRow B 79 6 v' (n+m) (rz T++rz N)) (hN:∀t∈N,W.ownsRow B 100 2 t.2 t.1.args.length (ars t.1.args)):TR W' B v' (T++N):=by
 subst hn
 subst hm
 have key:∀ {x:Value} {n xs},W.ownsRow B 100 2 x n xs→W'.ownsRow B 100 2 x n xs:=fun hx=>own_kept hx hg (fun g e e2=>by
  obtain ⟨cs,h⟩:=own_ty h.own e2.symm
  exact own_ne hx (b:=g) h (by decide) g e rfl)
 refine ⟨by rw [List.length_append,rz_app];exact ho,fun t ht=>key ?_⟩
 rcases List.mem_append.1 ht with ht | ht
 ·exact h.sa t ht
 ·exact hN t ht
theorem TR.sr {W:World} {B:Nat} {v:Value} {T:RVs} (h:TR W B v T):SR W v (T.map Prod.fst):=own_rz h.own (fun t ht=>own_sa (h.sa t ht))
abbrev n0 (r:Rw):Rw × Value:=(r,.slice none 0 0)
theorem n0_own {rs:List Rw} (h:∀r∈rs,r.args=[]) (W:World) (B:Nat):∀t∈rs.map n0,W.ownsRow B 100 2 t.2 t.1.args.length (ars t.1.args):=fun t ht=>by
 obtain ⟨r,hr,rfl⟩:=List.mem_map.1 ht
 show W.ownsRow B 100 2 (.slice none 0 0) r.args.length (ars r.args)
 rw [h r hr]
 exact World.ownsRow_nil _ _ _ _
theorem rz_news (w4:World) (b:Nat) (hb:b=w4.heap.size) (r:Rw) (v:Value):∀j u,(rz [(r,v)])[j]?=some u→(w4.alloc (.cells #[.string r.kind,.string r.name,v,.int .i64 r.num,.int .i64 r.rows,.int .i64 r.place] 79)).cell? ((⟨b,0,none⟩:Addr).add j)=some u:=new_row w4 b hb r v
theorem TR.shape {W:World} {B:Nat} {v:Value} {T:RVs} (h:TR W B v T):∃a c,v=.slice a T.length c:=own_shape h.own
def qRows (q:Int):List Rw:=if 0<q then [⟨wQubits,nmQ,[],q,0,0⟩] else []
set_option maxHeartbeats 1000000 in
set_option maxRecDepth 100000 in
theorem declarations_any (q:Int) (R:List Rg) (v:Value) (B:Nat) (w:World) (ho:w.ownsRow B 138 3 v R.length (rgs R)) (hl:R.length≤64) :
  Calls Tryz.prog 34 #[.int .i64 q,v] w fun e w'=>∃v',e=.returned v'∧TR w' w.heap.size v' ((declRows q R).map n0)∧Below w.heap.size w w':=by
 obtain ⟨i7,hi7,hz7,hs7,hb7⟩:=info_parts Tryz.info79
 have HI7:=hid hi7
 clear hi7
 have HO:=hid ho
 obtain ⟨a,c,rfl⟩:=own_shape ho
 clear ho
 by_cases hq:0<q
 ·have hq0:qRows q=[⟨wQubits,nmQ,[],q,0,0⟩]:=if_pos hq
  go_enter Tryz.func34,Tryz.ntmps34
  go_wp2_with (at_builtin;refine Hid.out ?_)
  refine hid ?_
  have hT0:=(TR.nil w w.heap.size).below (bal (Below.refl _ _) (.cells #[.string wQubits,.string nmQ,.slice none 0 0,.int .i64 q,.int .i64 0,.int .i64 0] 79))
  refine wpList_append_own_at _ rfl _ _ 22 rfl w.heap.size 79 i7 _ 6 80 Tryz.underlying22 HI7.out hz7 hs7 hb7 rfl (by decide) _ _ _ rfl hT0.own ⟨_,0,none⟩ 1 1 (rz [n0 ⟨wQubits,nmQ,[],q,0,0⟩]) rfl rfl (rz_news w _ rfl ⟨wQubits,nmQ,[],q,0,0⟩ (.slice none 0 0)) (rz_one _ (fun t ht=>by rw [List.mem_singleton] at ht;subst ht;exact ⟨_,_,_,rfl⟩)) (by unfold maxLen;simp) (by simp) (bal (Below.refl w.heap.size w) _).size ?_
  intro v8 w8 hown8 hgrow8 hnil8 hloc8
  have hB8:=below_own (bal (Below.refl w.heap.size w) _) hT0.own hgrow8
  have hT8:=hT0.app hgrow8 rfl rfl hown8 (n0_own (rs:=[⟨wQubits,nmQ,[],q,0,0⟩]) (fun r hr=>by rw [List.mem_singleton] at hr;subst hr;rfl) _ _)
  have HT8:Hid (TR w8 w.heap.size v8 ((qRows q++(R.take 0).map bitRow).map n0)):=by
   rw [hq0]
   exact hT8
  have HB8:=hid hB8
  clear hown8 hgrow8 hnil8 hloc8 hT8 hT0 hB8
  go_wp2
  go_loopw [5,17] (fun s5 s17 wx=>∃k:Nat,k≤R.length∧s17=.int .i64 (k:Nat)∧TR wx w.heap.size s5 ((qRows q++(R.take k).map bitRow).map n0)∧Below w.heap.size w wx) (fun _ s17 _=>R.length-(intOf s17).toNat)
  case atStart=>exact ⟨0,Nat.zero_le _,rfl,HT8.out,HB8.out⟩
  case round=>
   obtain ⟨k,hk,rfl,hown,hB⟩:=hrel
   by_cases hlt:k<R.length
   case neg=>
    obtain rfl:k=R.length:=by omega
    rw [List.take_length] at hown
    obtain ⟨a',c',rfl⟩:=hown.shape
    go_wp2
    go_ret
    exact ⟨_,rfl,hown,hB⟩
   obtain ⟨g,cap,e1,hcap,hgl,hgB,m0,m1,m2,_⟩:=rg_cells (own_below HO.out hB) hlt
   cases e1
   have HTK:Hid ((qRows q++(R.take (k+1)).map bitRow).map n0=(qRows q++(R.take k).map bitRow).map n0++[n0 (bitRow R[k])]):=by
    rw [List.take_succ_eq_append_getElem hlt]
    show _=_
    simp only [List.map_append,List.map_cons,List.map_nil,List.append_assoc]
   have HLE:Hid (((qRows q++(R.take k).map bitRow).map n0).length≤65):=by
    rw [List.length_map,List.length_append,List.length_map,List.length_take]
    have:(qRows q).length≤1:=by unfold qRows;split <;> simp
    show _≤_
    omega
   obtain ⟨a',c',rfl⟩:=hown.shape
   have HOW:=hid hown
   clear hown
   generalize R[k]=x at *
   generalize (qRows q++(R.take k).map bitRow).map n0=T at *
   go_wp2_with (at_builtin;refine Hid.out ?_)
   refine hid ?_
   have hB0:Below wr.heap.size wr (wr.alloc (.cells #[.string (nmC x.2),.int .i64 (x.1.1:Nat),.int .i64 (x.1.2:Nat)] 138)):=bal (Below.refl _ _) _
   have hT1:=(HOW.out.below hB0).below (bal (Below.refl _ _) (.cells #[.string wBits,.string (nmC x.2),.slice none 0 0,.int .i64 (x.1.2:Nat),.int .i64 0,.int .i64 0] 79))
   refine wpList_append_own_at _ rfl _ _ 22 rfl w.heap.size 79 i7 _ 6 80 Tryz.underlying22 HI7.out hz7 hs7 hb7 rfl (by decide) _ _ _ rfl hT1.own ⟨_,0,none⟩ 1 1 (rz [n0 (bitRow x)]) rfl rfl (rz_news (wr.alloc (.cells #[.string (nmC x.2),.int .i64 (x.1.1:Nat),.int .i64 (x.1.2:Nat)] 138)) _ (by simp) (bitRow x) (.slice none 0 0)) (rz_one _ (fun t ht=>by rw [List.mem_singleton] at ht;subst ht;exact ⟨_,_,_,rfl⟩)) (by have:=HLE.out;unfold maxLen;omega) (by have:=HLE.out;omega) (bal (btr hB hB0) _).size ?_
   intro v8 w8 hown8 hgrow8 hnil8 hloc8
   have hB8:=below_own (bal (btr hB hB0) _) hT1.own hgrow8
   have hT8:=hT1.app hgrow8 rfl rfl hown8 (n0_own (rs:=[bitRow x]) (fun r hr=>by rw [List.mem_singleton] at hr;subst hr;rfl) _ _)
   clear hown8 hgrow8 hnil8 hloc8
   go_wp2
   refine ⟨⟨k+1,by omega,rfl,?_,hB8⟩,by simp only [intOf];omega⟩
   rw [HTK.out]
   exact hT8
 ·have hq0:qRows q=[]:=if_neg hq
  go_enter Tryz.func34,Tryz.ntmps34
  go_wp2
  go_loopw [5,17] (fun s5 s17 wx=>∃k:Nat,k≤R.length∧s17=.int .i64 (k:Nat)∧TR wx w.heap.size s5 ((qRows q++(R.take k).map bitRow).map n0)∧Below w.heap.size w wx) (fun _ s17 _=>R.length-(intOf s17).toNat)
  case atStart=>exact ⟨0,Nat.zero_le _,rfl,by rw [hq0];exact TR.nil _ _,Below.refl _ _⟩
  case round=>
   obtain ⟨k,hk,rfl,hown,hB⟩:=hrel
   by_cases hlt:k<R.length
   case neg=>
    obtain rfl:k=R.length:=by omega
    rw [List.take_length] at hown
    obtain ⟨a',c',rfl⟩:=hown.shape
    go_wp2
    go_ret
    exact ⟨_,rfl,hown,hB⟩
   obtain ⟨g,cap,e1,hcap,hgl,hgB,m0,m1,m2,_⟩:=rg_cells (own_below HO.out hB) hlt
   cases e1
   have HTK:Hid ((qRows q++(R.take (k+1)).map bitRow).map n0=(qRows q++(R.take k).map bitRow).map n0++[n0 (bitRow R[k])]):=by
    rw [List.take_succ_eq_append_getElem hlt]
    show _=_
    simp only [List.map_append,List.map_cons,List.map_nil,List.append_assoc]
   have HLE:Hid (((qRows q++(R.take k).map bitRow).map n0).length≤65):=by
    rw [List.length_map,List.length_append,List.length_map,List.length_take]
    have:(qRows q).length≤1:=by unfold qRows;split <;> simp
    show _≤_
    omega
   obtain ⟨a',c',rfl⟩:=hown.shape
   have HOW:=hid hown
   clear hown
   generalize R[k]=x at *
   generalize (qRows q++(R.take k).map bitRow).map n0=T at *
   go_wp2_with (at_builtin;refine Hid.out ?_)
   refine hid ?_
   have hB0:Below wr.heap.size wr (wr.alloc (.cells #[.string (nmC x.2),.int .i64 (x.1.1:Nat),.int .i64 (x.1.2:Nat)] 138)):=bal (Below.refl _ _) _
   have hT1:=(HOW.out.below hB0).below (bal (Below.refl _ _) (.cells #[.string wBits,.string (nmC x.2),.slice none 0 0,.int .i64 (x.1.2:Nat),.int .i64 0,.int .i64 0] 79))
   refine wpList_append_own_at _ rfl _ _ 22 rfl w.heap.size 79 i7 _ 6 80 Tryz.underlying22 HI7.out hz7 hs7 hb7 rfl (by decide) _ _ _ rfl hT1.own ⟨_,0,none⟩ 1 1 (rz [n0 (bitRow x)]) rfl rfl (rz_news (wr.alloc (.cells #[.string (nmC x.2),.int .i64 (x.1.1:Nat),.int .i64 (x.1.2:Nat)] 138)) _ (by simp) (bitRow x) (.slice none 0 0)) (rz_one _ (fun t ht=>by rw [List.mem_singleton] at ht;subst ht;exact ⟨_,_,_,rfl⟩)) (by have:=HLE.out;unfold maxLen;omega) (by have:=HLE.out;omega) (bal (btr hB hB0) _).size ?_
   intro v8 w8 hown8 hgrow8 hnil8 hloc8
   have hB8:=below_own (bal (btr hB hB0) _) hT1.own hgrow8
   have hT8:=hT1.app hgrow8 rfl rfl hown8 (n0_own (rs:=[bitRow x]) (fun r hr=>by rw [List.mem_singleton] at hr;subst hr;rfl) _ _)
   clear hown8 hgrow8 hnil8 hloc8
   go_wp2
   refine ⟨⟨k+1,by omega,rfl,?_,hB8⟩,by simp only [intOf];omega⟩
   rw [HTK.out]
   exact hT8
end Go.Proofs.YtdjfpghgklkejaaGreatDoor
namespace Go.Proofs.YtdjfpghgklkejaaGreatDoor
open Go.RowKit Go.Sort
theorem ifRows_at (v:Nat):∀(A:List Rg) (k:Nat) (h:k<A.length),(ifRows v A)[k]?=some (ifRow A[k] v (A.length-k))
 | [],k,h=>absurd h (Nat.not_lt_zero _)
 | x::A,0,_=>rfl
 | x::A,k+1,h=>by
  have:=ifRows_at v A k (by rw [List.length_cons] at h;omega)
  show (ifRows v A)[k]?=_
  rw [this]
  have e:(x::A).length-(k+1)=A.length-k:=Nat.add_sub_add_right _ _ _
  simp only [e,List.getElem_cons_succ]
theorem ifRows_take (v:Nat) (A:List Rg) (k:Nat) (h:k<A.length):(ifRows v A).take (k+1)=(ifRows v A).take k++[ifRow A[k] v (A.length-k)]:=by
 have hl:k<(ifRows v A).length:=by rw [ifRows_len];exact h
 rw [List.take_succ_eq_append_getElem hl]
 have:=ifRows_at v A k h
 rw [List.getElem?_eq_getElem hl] at this
 rw [Option.some.inj this]
set_option maxHeartbeats 1000000 in
set_option maxRecDepth 100000 in
theorem conditions_any (o:Oq) (oa:Option Addr) (oc:Nat) (A:List Rg) (v:Value) (B:Nat) (w:World) (ho:w.ownsRow B 138 3 v A.length (rgs A)) (hA:∀x∈A,x.1.1+x.1.2≤64∧x.1.2≤32) (hl:A.length≤64) (hv:0≤o.v∧o.v≤18446744073709551615) :
  Calls Tryz.prog 36 #[opv o oa oc,v] w fun e w'=>∃v',e=.returned v'∧TR w' w.heap.size v' ((ifRows o.v.toNat A).map n0)∧Below w.heap.size w w':=by
 obtain ⟨i7,hi7,hz7,hs7,hb7⟩:=info_parts Tryz.info79
 have HI7:=hid hi7
 clear hi7
 have HO:=hid ho
 have HA:=hid hA
 obtain ⟨a,c,rfl⟩:=own_shape ho
 clear ho hA
 obtain ⟨ok,on,oq,ob,of,om,ov⟩:=o
 simp only at *
 obtain ⟨vv,rfl⟩:=Int.eq_ofNat_of_zero_le hv.1
 rw [Int.toNat_natCast]
 go_enter Tryz.func36,Tryz.ntmps36
 go_wp2
 go_loopw [5,11] (fun s5 s11 wx=>∃k:Nat,k≤A.length∧s11=.int .i64 (k:Nat)∧TR wx w.heap.size s5 (((ifRows vv A).take k).map n0)∧BK wx w.heap.size #[.int .i64 ok,.string on,.slice oa oq.length oc,.int .i64 ob,.bool of,.int .u64 om,.int .u64 (vv:Int)] 49∧Below w.heap.size w wx) (fun _ s11 _=>A.length-(intOf s11).toNat)
 case atStart=>exact ⟨0,Nat.zero_le _,rfl,TR.nil _ _,bk_new _ _ _,bal (Below.refl _ _) _⟩
 case round=>
  obtain ⟨k,hk,rfl,hown,hbk,hB⟩:=hrel
  by_cases hlt:k<A.length
  case neg=>
   obtain rfl:k=A.length:=by omega
   rw [List.take_of_length_le (by rw [ifRows_len];omega)] at hown
   obtain ⟨a',c',rfl⟩:=hown.shape
   go_wp2
   go_ret
   exact ⟨_,rfl,hown,hB⟩
  obtain ⟨g,cap,e1,hcap,hgl,hgB,m0,m1,m2,_⟩:=rg_cells (own_below HO.out hB) hlt
  cases e1
  have HMA:=hid (mask_any A[k] · (HA.out _ (List.getElem_mem hlt)).1 (HA.out _ (List.getElem_mem hlt)).2)
  have HTK:Hid (((ifRows vv A).take (k+1)).map n0=((ifRows vv A).take k).map n0++[n0 (ifRow A[k] vv (A.length-k))]):=by
   rw [ifRows_take vv A k hlt]
   show _=_
   simp only [List.map_append,List.map_cons,List.map_nil]
  have HLE:Hid ((((ifRows vv A).take k).map n0).length≤64):=by
   show _≤_
   rw [List.length_map,List.length_take,ifRows_len]
   omega
  obtain ⟨a',c',rfl⟩:=hown.shape
  have HOW:=hid hown
  clear hown
  have hrm:regM A[k].1<18446744073709551616:=Nat.lt_of_lt_of_le (regM_lt _) (Nat.pow_le_pow_right (by decide:0<2) (HA.out _ (List.getElem_mem hlt)).1)
  have hzb:=HA.out _ (List.getElem_mem hlt)
  have hpl:(vv&&&regM A[k].1)>>>A[k].1.1<4294967296:=Nat.lt_of_lt_of_le (part_lt vv A[k].1) (Nat.pow_le_pow_right (by decide:0<2) hzb.2)
  generalize A[k]=x at *
  generalize ((ifRows vv A).take k).map n0=T at *
  have hand:bits .and .u64 (vv:Int) ((regM x.1:Nat):Int)=((vv&&&regM x.1:Nat):Int):=u64_and_nat _ _ (by omega) hrm
  obtain ⟨y,hy⟩:∃y,y=(vv&&&regM x.1)>>>x.1.1:=⟨_,rfl⟩
  have hshr:((vv&&&regM x.1:Nat):Int) / 2 ^ x.1.1=(y:Int):=by
   rw [hy,Nat.shiftRight_eq_div_pow,Int.natCast_ediv]
   simp
  have hrow:ifRow x vv (A.length-k)=⟨wIf,nmC x.2,[],(y:Int),((A.length-k:Nat):Int),0⟩:=by rw [hy];rfl
  rw [hrow] at HTK
  rw [←hy] at hpl
  clear hy hrow
  have hsub:((A.length:Nat):Int)-(k:Int)=((A.length-k:Nat):Int):=by omega
  have d0:=hbk.cell
  have l0:=hbk.lt
  have HBK:=hid hbk
  clear hbk
  go_wp2
  obtain ⟨V,hV⟩:∃V,V=wr.alloc (.cells #[.string (nmC x.2),.int .i64 (x.1.1:Nat),.int .i64 (x.1.2:Nat)] 138):=⟨_,rfl⟩
  have bV:BK V wr.heap.size #[.string (nmC x.2),.int .i64 (x.1.1:Nat),.int .i64 (x.1.2:Nat)] 138:=by rw [hV];exact bk_new _ _ _
  have bO:BK V w.heap.size #[.int .i64 ok,.string on,.slice oa oq.length oc,.int .i64 ob,.bool of,.int .u64 om,.int .u64 (vv:Int)] 49:=by rw [hV];exact HBK.out.alloc _
  have hWV:Below wr.heap.size wr V:=by rw [hV];exact bal (Below.refl _ _) _
  have SK:Hid (∀w',Below V.heap.size V w'→Below V.heap.size V w'∧(w'.cell? ⟨w.heap.size,6,none⟩=some (.int .u64 (vv:Int))∧w.heap.size<w'.heap.size)∧w'.cell? ⟨wr.heap.size,0,none⟩=some (.string (nmC x.2))∧w'.cell? ⟨wr.heap.size,1,none⟩=some (.int .i64 (x.1.1:Nat))∧w'.cell? ⟨wr.heap.size,2,none⟩=some (.int .i64 (x.1.2:Nat))∧wr.heap.size<w'.heap.size):=fun w' hb=>
   ⟨hb,⟨(bk_on bO hb).cell 6,(bk_on bO hb).lt⟩,(bk_on bV hb).cell 0,(bk_on bV hb).cell 1,(bk_on bV hb).cell 2,(bk_on bV hb).lt⟩
  rw [←hV]
  have HWV:=hid hWV
  have HbV:=hid bV
  clear hV d0 l0 bV bO hWV
  go_region_held3 (fun w'=>Below V.heap.size V w'∧(w'.cell? ⟨w.heap.size,6,none⟩=some (.int .u64 (vv:Int))∧w.heap.size<w'.heap.size)∧w'.cell? ⟨wr.heap.size,0,none⟩=some (.string (nmC x.2))∧w'.cell? ⟨wr.heap.size,1,none⟩=some (.int .i64 (x.1.1:Nat))∧w'.cell? ⟨wr.heap.size,2,none⟩=some (.int .i64 (x.1.2:Nat))∧wr.heap.size<w'.heap.size)
   ((refine SK.out _ ?_;first | exact below_drew (Below.refl _ _) | exact hK | exact And.left (by assumption)))
   ((go_at_call 66;(with_reducible refine (HMA.out _).mono ?_);rintro e w2 ⟨rfl,hN⟩;have hK:=btr (And.left (by assumption)) hN))
  all_goals
   go_wp2_with (at_builtin;refine Hid.out ?_)
   refine hid ?_
   have hT0:=(HOW.out.below HWV.out).below hK
   have hB2:=btr (btr hB HWV.out) hK
   have hT1:=hT0.below (bal (Below.refl _ _) (.cells #[.string wIf,.string (nmC x.2),.slice none 0 0,.int .i64 (y:Int),.int .i64 ((A.length-k:Nat):Int),.int .i64 0] 79))
   refine wpList_append_own_at _ rfl _ _ 22 rfl w.heap.size 79 i7 _ 6 80 Tryz.underlying22 HI7.out hz7 hs7 hb7 rfl (by decide) _ _ _ rfl hT1.own ⟨_,0,none⟩ 1 1 (rz [n0 ⟨wIf,nmC x.2,[],(y:Int),((A.length-k:Nat):Int),0⟩]) rfl rfl (rz_news w2 _ rfl ⟨wIf,nmC x.2,[],(y:Int),((A.length-k:Nat):Int),0⟩ (.slice none 0 0)) (rz_one _ (fun t ht=>by rw [List.mem_singleton] at ht;subst ht;exact ⟨_,_,_,rfl⟩)) (by have:=HLE.out;unfold maxLen;omega) (by have:=HLE.out;omega) (bal hB2 _).size ?_
   intro v8 w8 hown8 hgrow8 hnil8 hloc8
   have hB8:=below_own (bal hB2 _) hT1.own hgrow8
   have hBK2:=(bk_on (bk_on HBK.out HWV.out) hK).alloc (.cells #[.string wIf,.string (nmC x.2),.slice none 0 0,.int .i64 (y:Int),.int .i64 ((A.length-k:Nat):Int),.int .i64 0] 79)
   have hBK8:=(hgrow8.block _ hBK2.lt (fun e=>own_ne hT1.own hBK2 (by decide) _ e.symm rfl)).trans hBK2
   have hT8:=hT1.app hgrow8 rfl rfl hown8 (n0_own (rs:=[⟨wIf,nmC x.2,[],(y:Int),((A.length-k:Nat):Int),0⟩]) (fun r hr=>by rw [List.mem_singleton] at hr;subst hr;rfl) _ _)
   clear hown8 hgrow8 hnil8 hloc8
   go_wp2
   refine ⟨⟨k+1,by omega,rfl,?_,hBK8,hB8⟩,by simp only [intOf];omega⟩
   rw [HTK.out]
   exact hT8
end Go.Proofs.YtdjfpghgklkejaaGreatDoor
namespace Go.Proofs.YtdjfpghgklkejaaGreatDoor
open Go.RowKit Go.Sort
def bIdx (b:Nat):List Rg→Nat
 | []=>0
 | x::l=>if b<x.1.1+x.1.2 then 0 else bIdx b l+1
theorem bIdx_not (b:Nat):∀(R:List Rg) (j:Nat) (h:j<R.length),j<bIdx b R→¬b<R[j].1.1+R[j].1.2
 | [],j,h,_=>absurd h (Nat.not_lt_zero _)
 | x::R,j,h,hj=>by
  unfold bIdx at hj
  split at hj
  ·exact absurd hj (Nat.not_lt_zero _)
  ·rename_i hx
   cases j with
   | zero=>exact hx
   | succ j=>exact bIdx_not b R j (by rw [List.length_cons] at h;omega) (by omega)
theorem bIdx_at (b:Nat):∀(R:List Rg) (h:bIdx b R<R.length),b<R[bIdx b R].1.1+R[bIdx b R].1.2∧bArg b R=⟨nmC R[bIdx b R].2,(b:Int)-R[bIdx b R].1.1⟩
 | [],h=>absurd h (Nat.not_lt_zero _)
 | x::R,h=>by
  by_cases hx:b<x.1.1+x.1.2
  ·have e:bIdx b (x::R)=0:=by unfold bIdx;rw [if_pos hx]
   have e2:bArg b (x::R)=⟨nmC x.2,(b:Int)-x.1.1⟩:=by unfold bArg;rw [if_pos hx]
   simp only [e,List.getElem_cons_zero]
   exact ⟨hx,e2⟩
  ·have e:bIdx b (x::R)=bIdx b R+1:=by conv=>lhs;unfold bIdx;rw [if_neg hx]
   have e2:bArg b (x::R)=bArg b R:=by conv=>lhs;unfold bArg;rw [if_neg hx]
   have h':bIdx b R<R.length:=by rw [e,List.length_cons] at h;omega
   have:=bIdx_at b R h'
   simp only [e,List.getElem_cons_succ]
   rw [e2]
   exact this
theorem bIdx_lt {b n:Nat} {R:List Rg} (hR:Seg 0 (R.map Prod.fst) n) (hb:b<n):bIdx b R<R.length:=by
 obtain ⟨x,hx,_,_,h2⟩:=bArg_at R 0 n b hR (Nat.zero_le _) hb
 obtain ⟨j,hj,rfl⟩:=List.getElem_of_mem hx
 rcases Nat.lt_or_ge (bIdx b R) R.length with h | h
 ·exact h
 ·exact absurd h2 (bIdx_not b R j hj (by omega))
set_option maxHeartbeats 1000000 in
set_option maxRecDepth 100000 in
theorem argIs_any (x:Rg) (b pb:Nat) (w:World) (hc:w.cell? ⟨pb,0,none⟩=some (.int .i64 (b:Nat))) (hp:pb<w.heap.size) (hx:x.1.1+x.1.2≤64) :
  Calls Tryz.prog 117 #[rgv x,.pointer (some ⟨pb,0,none⟩)] w fun e w'=>e=.returned (.bool (decide (b<x.1.1+x.1.2)))∧Below w.heap.size w w':=by
 have hd:decide ((b:Int)<(x.1.1:Int)+(x.1.2:Int))=decide (b<x.1.1+x.1.2):=decide_eq_decide.2 (by omega)
 go_enter Tryz.func117,Tryz.ntmps117
 go_wp2
 go_ret
 exact ⟨rfl,bal (Below.refl _ _) _⟩
set_option maxHeartbeats 1000000 in
set_option maxRecDepth 100000 in
theorem indexFunc_any (b pb:Nat) (R:List Rg) (v:Value) (B:Nat) (w:World) (ho:w.ownsRow B 138 3 v R.length (rgs R)) (hR:∀x∈R,x.1.1+x.1.2≤64) (hl:R.length≤64) (hi:bIdx b R<R.length) (hc:w.cell? ⟨pb,0,none⟩=some (.int .i64 (b:Nat))) (hp:pb<w.heap.size) :
  Calls Tryz.prog 116 #[v,.func (.func 117) #[] #[.pointer (some ⟨pb,0,none⟩)]] w fun e w'=>e=.returned (.int .i64 (bIdx b R:Nat))∧Below w.heap.size w w':=by
 have HO:=hid ho
 have HR:=hid hR
 obtain ⟨a,c,rfl⟩:=own_shape ho
 clear ho hR
 go_enter Tryz.func116,Tryz.ntmps116
 go_wp2
 go_loopw [8] (fun s8 wx=>∃k:Nat,k≤bIdx b R∧s8=.int .i64 (k:Nat)∧Below w.heap.size w wx) (fun s8 _=>R.length-(intOf s8).toNat)
 case atStart=>exact ⟨0,Nat.zero_le _,rfl,Below.refl _ _⟩
 case round=>
  obtain ⟨k,hk,rfl,hB⟩:=hrel
  have hlt:k<R.length:=by omega
  obtain ⟨g,cap,e1,hcap,hgl,hgB,m0,m1,m2,_⟩:=rg_cells (own_below HO.out hB) hlt
  cases e1
  have HAI:=hid (argIs_any R[k] b pb wr ((hB.cell (p:=⟨pb,0,none⟩) hp).trans hc) (Nat.lt_of_lt_of_le hp hB.size) (HR.out _ (List.getElem_mem hlt)))
  have HN:=hid (bIdx_not b R k hlt)
  have HY:Hid (k=bIdx b R→b<R[k].1.1+R[k].1.2):=fun e=>by subst e;exact (bIdx_at b R hi).1
  generalize R[k]=x at *
  by_cases hke:k=bIdx b R
  ·have hy:=HY.out hke
   rw [decide_eq_true hy] at HAI
   have HKE:=hid hke
   clear hke
   go_wp2_with (go_at_call 117;(with_reducible refine HAI.out.mono ?_);rintro e w1 ⟨rfl,hB1⟩)
   go_ret
   exact ⟨by rw [←HKE.out];rfl,btr hB hB1⟩
  ·have hn:=HN.out (by omega)
   rw [decide_eq_false hn] at HAI
   go_wp2_with (go_at_call 117;(with_reducible refine HAI.out.mono ?_);rintro e w1 ⟨rfl,hB1⟩)
   exact ⟨⟨k+1,by omega,rfl,btr hB hB1⟩,by simp only [intOf];omega⟩
set_option maxHeartbeats 1000000 in
set_option maxRecDepth 100000 in
theorem argument_any (b:Nat) (R:List Rg) (v:Value) (B:Nat) (w:World) (ho:w.ownsRow B 138 3 v R.length (rgs R)) (hR:∀x∈R,x.1.1+x.1.2≤64) (hl:R.length≤64) (hi:bIdx b R<R.length) (hb:b<64) :
  Calls Tryz.prog 67 #[.int .i64 (b:Nat),v] w fun e w'=>e=.returned (.agg #[.string (bArg b R).n,.int .i64 (bArg b R).x])∧Below w.heap.size w w':=by
 have hat:=bIdx_at b R hi
 have hxb:=hR _ (List.getElem_mem hi)
 obtain ⟨a,c,rfl⟩:=own_shape ho
 have HIF:Hid (∀w',Below w.heap.size w w'→w'.cell? ⟨w.heap.size,0,none⟩=some (.int .i64 (b:Nat))→w.heap.size<w'.heap.size→_):=fun w' hB hc hp=>indexFunc_any b w.heap.size R _ B w' (own_below ho hB) hR hl hi hc hp
 have HO:=hid ho
 clear ho hR
 obtain ⟨x,hx⟩:∃x,R[bIdx b R]=x:=⟨_,rfl⟩
 rw [hx] at hat hxb
 rw [hat.2]
 go_enter Tryz.func67,Tryz.ntmps67
 go_wp2_with (go_at_call 116;refine Hid.out ?_)
 refine hid ?_
 have hb0:BK ((w.alloc (.cells #[.int .i64 (b:Nat)] 3)).alloc (.cells #[.string ⟨#[]⟩,.int .i64 0] 100)) w.heap.size #[.int .i64 (b:Nat)] 3:=(bk_new _ _ _).alloc _
 refine (HIF.out _ (bal (bal (Below.refl _ _) _) _) (hb0.cell 0) hb0.lt).mono ?_
 rintro e w1 ⟨rfl,hB1⟩
 have hBw:Below w.heap.size w w1:=btr (bal (bal (Below.refl _ _) _) _) hB1
 obtain ⟨b1,b2⟩:=two_bk w _ _ _ _ hB1
 have d1:=b1.cell
 have l1:=b1.lt
 have d2:=b2.cell
 have f2:=b2.free
 have l2:=b2.lt
 obtain ⟨g,cap,e1,hcap,hgl,hgB,m0,m1,m2,_⟩:=rg_cells (own_below HO.out hBw) hi
 cases e1
 have HB2:=hid b2
 have HBW:=hid hBw
 clear b1 b2 HIF hb0 hB1 hBw
 rw [hx] at m0 m1 m2
 have hx2:=hat.1
 clear hat hx
 generalize bIdx b R=i at *
 go_wp2
 have b9:=((HB2.out.set 0 (.string (nmC x.2))).set 1 (.int .i64 ((b:Int)-(x.1.1:Int)))).alloc (.cells #[.string (nmC x.2),.int .i64 (x.1.1:Nat),.int .i64 (x.1.2:Nat)] 138)
 have c9:=b9.cell
 exact bodyPost_ret (v:=.agg #[.string (nmC x.2),.int .i64 ((b:Int)-(x.1.1:Int))]) (by simp [results,Tryz.results67,go_sem,c9]) rfl ⟨rfl,bal (bset (bset HBW.out _ _ _ (by omega)) _ _ _ (by omega)) _⟩
end Go.Proofs.YtdjfpghgklkejaaGreatDoor
namespace Go.Proofs.YtdjfpghgklkejaaGreatDoor
open Go.RowKit Go.Sort
theorem qArgs_take (l:List Int) (k:Nat) (h:k<l.length):qArgs (l.take (k+1))=qArgs (l.take k)++[⟨nmQ,l[k]⟩]:=by
 unfold qArgs
 rw [List.take_succ_eq_append_getElem h,List.map_append]
 rfl
theorem qArgs_len (l:List Int):(qArgs l).length=l.length:=List.length_map _
abbrev set6 (W:World) (b:Nat) (k n:ByteArray) (av:Value):World:=(((((W.setCell ⟨b,0,none⟩ (.string k)).setCell ⟨b,1,none⟩ (.string n)).setCell ⟨b,2,none⟩ av).setCell ⟨b,3,none⟩ (.int .i64 0)).setCell ⟨b,4,none⟩ (.int .i64 0)).setCell ⟨b,5,none⟩ (.int .i64 0)
theorem st_done {w W:World} {k n:ByteArray} {av:Value} {l:List Ar} (h:BK W (w.heap.size+1) #[.string ⟨#[]⟩,.string ⟨#[]⟩,.slice none 0 0,.int .i64 0,.int .i64 0,.int .i64 0] 79) (ho:W.ownsRow w.heap.size 100 2 av l.length (ars l)) (hB:Below w.heap.size w W) :
  BK (set6 W (w.heap.size+1) k n av) (w.heap.size+1) #[.string k,.string n,av,.int .i64 0,.int .i64 0,.int .i64 0] 79∧(set6 W (w.heap.size+1) k n av).ownsRow w.heap.size 100 2 av l.length (ars l)∧Below w.heap.size w (set6 W (w.heap.size+1) k n av):=by
 refine ⟨(((((h.set 0 (.string k)).set 1 (.string n)).set 2 av).set 3 (.int .i64 0)).set 4 (.int .i64 0)).set 5 (.int .i64 0),?_,?_⟩
 ·have g:GB W (set6 W (w.heap.size+1) k n av) (w.heap.size+1):=gb_set (gb_set (gb_set (gb_set (gb_set (gb_set (gb_refl W _) _ _ _ (.inl rfl)) _ _ _ (.inl rfl)) _ _ _ (.inl rfl)) _ _ _ (.inl rfl)) _ _ _ (.inl rfl)) _ _ _ (.inl rfl)
  exact own_kept ho g (own_ne ho h (by decide))
 ·exact bset (bset (bset (bset (bset (bset hB _ _ _ (by omega)) _ _ _ (by omega)) _ _ _ (by omega)) _ _ _ (by omega)) _ _ _ (by omega)) _ _ _ (by omega)
set_option maxHeartbeats 2000000 in
set_option maxRecDepth 100000 in
theorem statement_any (o:Oq) (oa:Option Addr) (oc:Nat) (R:List Rg) (v:Value) (B:Nat) (w:World) (hq:QS w oa oc o.qs) (hql:o.qs.length≤100) (ho:w.ownsRow B 138 3 v R.length (rgs R)) (hR:∀x∈R,x.1.1+x.1.2≤64) (hl:R.length≤64) (hk2:o.k=2→0≤o.b∧o.b<64∧bIdx o.b.toNat R<R.length) :
  Calls Tryz.prog 37 #[opv o oa oc,v] w fun e w'=>∃av,e=.returned (.agg #[.string (stRow o R).kind,.string (stRow o R).name,av,.int .i64 0,.int .i64 0,.int .i64 0])∧w'.ownsRow w.heap.size 100 2 av (stRow o R).args.length (ars (stRow o R).args)∧Below w.heap.size w w':=by
 obtain ⟨i7,hi7,hz7,hs7,hb7⟩:=info_parts Tryz.info100
 have HI7:=hid hi7
 clear hi7
 have HO:=hid ho
 have HR:=hid hR
 have HQ:=hid hq
 have HK2:=hid hk2
 have hcq:=hq.cap
 obtain ⟨a,c,rfl⟩:=own_shape ho
 clear ho hR hq hk2
 obtain ⟨ok,on,oq,ob,of,om,ov⟩:=o
 simp only at *
 generalize hr:stRow ⟨ok,on,oq,ob,of,om,ov⟩ R=r
 have HRR:=hid hr
 clear hr
 go_enter Tryz.func37,Tryz.ntmps37
 go_wp2
 go_loopw [5,11] (fun s5 s11 wx=>∃k:Nat,k≤oq.length∧s11=.int .i64 (k:Nat)∧wx.ownsRow w.heap.size 100 2 s5 (qArgs (oq.take k)).length (ars (qArgs (oq.take k)))∧BK wx w.heap.size #[.int .i64 ok,.string on,.slice oa oq.length oc,.int .i64 ob,.bool of,.int .u64 om,.int .u64 ov] 49∧BK wx (w.heap.size+1) #[.string ⟨#[]⟩,.string ⟨#[]⟩,.slice none 0 0,.int .i64 0,.int .i64 0,.int .i64 0] 79∧Below w.heap.size w wx) (fun _ s11 _=>oq.length-(intOf s11).toNat)
 case atStart=>
  have e1:(w.alloc (.cells #[.int .i64 ok,.string on,.slice oa oq.length oc,.int .i64 ob,.bool of,.int .u64 om,.int .u64 ov] 49)).heap.size=w.heap.size+1:=by simp
  have b2:=bk_new (w.alloc (.cells #[.int .i64 ok,.string on,.slice oa oq.length oc,.int .i64 ob,.bool of,.int .u64 om,.int .u64 ov] 49)) #[.string ⟨#[]⟩,.string ⟨#[]⟩,.slice none 0 0,.int .i64 0,.int .i64 0,.int .i64 0] 79
  rw [e1] at b2
  exact ⟨0,Nat.zero_le _,rfl,World.ownsRow_nil _ _ _ _,(bk_new _ _ _).alloc _,b2,bal (bal (Below.refl _ _) _) _⟩
 case round=>
  obtain ⟨k,hk,rfl,hown,hb1,hb2,hB⟩:=hrel
  have d1:=hb1.cell
  have l1:=hb1.lt
  have d2:=hb2.cell
  have f2:=hb2.free
  have l2:=hb2.lt
  have HB1:=hid hb1
  have HB2:=hid hb2
  obtain ⟨a',c',rfl⟩:=own_shape hown
  by_cases hlt:k<oq.length
  ·obtain ⟨bq,off,rfl,r⟩:=(HQ.out.below hB).at_ k hlt
   have m0:=r.c k hlt
   have hbl:=r.lt
   have HTK:=hid (qArgs_take oq k hlt)
   have hLE:(qArgs (oq.take k)).length≤100:=by rw [qArgs_len,List.length_take];omega
   have HOW:=hid hown
   clear hown r hb1 hb2
   generalize oq[k]=q at *
   generalize qArgs (oq.take k)=T at *
   go_wp2_with (at_builtin;refine Hid.out ?_)
   refine hid ?_
   have hO1:=own_below HOW.out (bal (Below.refl _ _) (.cells #[.string nmQ,.int .i64 q] 100))
   refine wpList_append_own_at _ rfl _ _ 77 rfl w.heap.size 100 i7 _ 2 24 Tryz.underlying77 HI7.out hz7 hs7 hb7 rfl (by decide) _ _ _ rfl hO1 ⟨_,0,none⟩ 1 1 (arc ⟨nmQ,q⟩) rfl rfl (new_arg wr ⟨nmQ,q⟩) (one_arg _) (by unfold maxLen;omega) (by omega) (bal hB _).size ?_
   intro v8 w8 hown8 hgrow8 hnil8 hloc8
   have hB8:=below_own (bal hB _) hO1 hgrow8
   have h1:=HB1.out.alloc (.cells #[.string nmQ,.int .i64 q] 100)
   have h2:=HB2.out.alloc (.cells #[.string nmQ,.int .i64 q] 100)
   have h18:=(hgrow8.block _ h1.lt (fun e=>own_ne hO1 h1 (by decide) _ e.symm rfl)).trans h1
   have h28:=(hgrow8.block _ h2.lt (fun e=>own_ne hO1 h2 (by decide) _ e.symm rfl)).trans h2
   clear hgrow8 hnil8 hloc8
   go_wp2
   refine ⟨⟨k+1,by omega,rfl,?_,h18,h28,hB8⟩,by simp only [intOf];omega⟩
   rw [HTK.out,ars_put,List.length_append]
   exact hown8
  ·obtain rfl:k=oq.length:=by omega
   rw [List.take_length] at hown
   have hLE:(qArgs oq).length≤100:=by rw [qArgs_len];omega
   have HOW:=hid hown
   clear hown hb1 hb2
   by_cases h2:ok=2
   ·obtain ⟨g1,g2,g3⟩:=HK2.out h2
    obtain ⟨bb,rfl⟩:=Int.eq_ofNat_of_zero_le g1
    rw [Int.toNat_natCast] at g3
    have HAR:Hid (∀w',Below w.heap.size w w'→_):=fun w' hb=>argument_any bb R _ B w' (own_below HO.out hb) HR.out hl g3 (by omega)
    have HST:Hid (r=⟨wMeasure,⟨#[]⟩,qArgs oq++[bArg bb R],0,0,0⟩):=by show r=_;rw [←HRR.out];unfold stRow;rw [if_pos h2];rfl
    clear HRR
    subst h2
    go_wp2_with (first
     | (go_at_call 67;(with_reducible refine (HAR.out _ hB).mono ?_);rintro e w1 ⟨rfl,hB1⟩;(have hc1:=bk_on HB1.out hB1);(have hc2:=bk_on HB2.out hB1);(have d1':=hc1.cell);(have l1':=hc1.lt);(have d2':=hc2.cell);(have f2':=hc2.free);(have l2':=hc2.lt);(have HC2:=hid hc2);clear d1 l1 d2 f2 l2 hc1 hc2)
     | (at_builtin;refine Hid.out ?_))
    refine hid ?_
    have hO1:=own_below (own_below HOW.out hB1) (bal (Below.refl _ _) (.cells #[.string (bArg bb R).n,.int .i64 (bArg bb R).x] 100))
    have hBw:=btr hB hB1
    refine wpList_append_own_at _ rfl _ _ 77 rfl w.heap.size 100 i7 _ 2 24 Tryz.underlying77 HI7.out hz7 hs7 hb7 rfl (by decide) _ _ _ rfl hO1 ⟨_,0,none⟩ 1 1 (arc (bArg bb R)) rfl rfl (new_arg w1 (bArg bb R)) (one_arg _) (by unfold maxLen;omega) (by omega) (bal hBw _).size ?_
    intro v8 w8 hown8 hgrow8 hnil8 hloc8
    have hB8:=below_own (bal hBw _) hO1 hgrow8
    have h2:=HC2.out.alloc (.cells #[.string (bArg bb R).n,.int .i64 (bArg bb R).x] 100)
    have h28:BK w8 (w.heap.size+1) _ 79:=(hgrow8.block _ h2.lt (fun e=>own_ne hO1 h2 (by decide) _ e.symm rfl)).trans h2
    have hO8:w8.ownsRow w.heap.size 100 2 v8 (qArgs oq++[bArg bb R]).length (ars (qArgs oq++[bArg bb R])):=by rw [ars_put,List.length_append];exact hown8
    clear hgrow8 hnil8 hloc8 d1' l1' d2' f2' l2' hown8
    have d28:=h28.cell
    have f28:=h28.free
    have l28:=h28.lt
    generalize qArgs oq++[bArg bb R]=L at hO8 HST
    obtain ⟨a8,c8,rfl⟩:=own_shape hO8
    have HO8:=hid hO8
    clear hO8
    go_wp2
    have hD:=st_done (k:=wMeasure) (n:=⟨#[]⟩) h28 HO8.out hB8
    obtain ⟨q1,q2,q3⟩:=hD
    have c9:=q1.cell
    refine bodyPost_ret (v:=.agg #[.string wMeasure,.string ⟨#[]⟩,(.slice a8 L.length c8),.int .i64 0,.int .i64 0,.int .i64 0]) (by simp [results,Tryz.results37,go_sem,c9]) rfl ⟨_,by rw [HST.out],?_,q3⟩
    rw [HST.out]
    exact q2
   ·by_cases h3:ok=3
    ·have HST:Hid (r=⟨wReset,⟨#[]⟩,qArgs oq,0,0,0⟩):=by show r=_;rw [←HRR.out];unfold stRow;rw [if_neg h2,if_pos h3]
     clear HRR
     subst h3
     go_wp2
     have hD:=st_done (k:=wReset) (n:=⟨#[]⟩) HB2.out HOW.out hB
     obtain ⟨q1,q2,q3⟩:=hD
     have c9:=q1.cell
     refine bodyPost_ret (v:=.agg #[.string wReset,.string ⟨#[]⟩,(.slice a' (qArgs oq).length c'),.int .i64 0,.int .i64 0,.int .i64 0]) (by simp [results,Tryz.results37,go_sem,c9]) rfl ⟨_,by rw [HST.out],?_,q3⟩
     rw [HST.out]
     exact q2
    ·have HST:Hid (r=⟨wUse,on,qArgs oq,0,0,0⟩):=by show r=_;rw [←HRR.out];unfold stRow;rw [if_neg h2,if_neg h3]
     clear HRR
     go_wp2
     have hD:=st_done (k:=wUse) (n:=on) HB2.out HOW.out hB
     obtain ⟨q1,q2,q3⟩:=hD
     have c9:=q1.cell
     refine bodyPost_ret (v:=.agg #[.string wUse,.string on,(.slice a' (qArgs oq).length c'),.int .i64 0,.int .i64 0,.int .i64 0]) (by simp [results,Tryz.results37,go_sem,c9]) rfl ⟨_,by rw [HST.out],?_,q3⟩
     rw [HST.out]
     exact q2
end Go.Proofs.YtdjfpghgklkejaaGreatDoor
namespace Go.Proofs.YtdjfpghgklkejaaGreatDoor
open Go.RowKit Go.Sort
def xeN (m:Nat):Nat:=m^^^(m*2 % 18446744073709551616)
def edN (l:List Oq):Nat:=l.foldl (fun s o=>s|||xeN o.m.toNat) 0
theorem xe_lt {m:Nat} (h:m<18446744073709551616):xeN m<18446744073709551616:=by
 unfold xeN
 exact Nat.xor_lt_two_pow (n:=64) h (Nat.mod_lt _ (by decide))
theorem xe_bit {m i:Nat} (hi:0<i) (h64:i<64):(xeN m).testBit i=(m.testBit i ^^ m.testBit (i-1)):=by
 unfold xeN
 rw [Nat.testBit_xor,show (18446744073709551616:Nat)=2 ^ 64 by decide,Nat.testBit_mod_two_pow,decide_eq_true h64,Bool.true_and,show m*2=m<<<1 by rw [Nat.shiftLeft_eq,Nat.pow_one],Nat.testBit_shiftLeft,decide_eq_true (show i≥1 by omega),Bool.true_and]
theorem ed_foldl (l:List Oq):∀s,l.foldl (fun s o=>s|||xeN o.m.toNat) s=s|||edN l:=by
 induction l with
 | nil=>intro s;show s=s|||0;rw [Nat.or_zero]
 | cons o l ih=>
  intro s
  show l.foldl _ (s|||xeN o.m.toNat)=s|||l.foldl _ (0|||xeN o.m.toNat)
  rw [ih,ih (0|||xeN o.m.toNat),Nat.zero_or,Nat.or_assoc]
theorem ed_put (l:List Oq) (o:Oq):edN (l++[o])=edN l|||xeN o.m.toNat:=by
 unfold edN
 rw [List.foldl_append]
 rfl
theorem ed_has {l:List Oq} {o:Oq} (h:o∈l) (i:Nat) (hb:(xeN o.m.toNat).testBit i=true):(edN l).testBit i=true:=by
 induction l with
 | nil=>cases h
 | cons x l ih=>
  have e:edN (x::l)=xeN x.m.toNat|||edN l:=by
   show l.foldl _ (0|||xeN x.m.toNat)=_
   rw [ed_foldl,Nat.zero_or]
  rw [e,Nat.testBit_or]
  rcases List.mem_cons.1 h with rfl | h
  ·rw [hb,Bool.true_or]
  ·rw [ih h,Bool.or_true]
theorem ed_lt:∀ {l:List Oq},(∀o∈l,o.m.toNat<18446744073709551616)→edN l<18446744073709551616
 | [],_=>by decide
 | x::l,h=>by
  have e:edN (x::l)=xeN x.m.toNat|||edN l:=by
   show l.foldl _ (0|||xeN x.m.toNat)=_
   rw [ed_foldl,Nat.zero_or]
  rw [e]
  exact Nat.or_lt_two_pow (n:=64) (xe_lt (h x List.mem_cons_self)) (ed_lt (fun o ho=>h o (List.mem_cons_of_mem _ ho)))
def regL (c:Ci):List (Nat × Nat):=cutR (fun i=>(edN c.ops).testBit i) c.b.toNat
theorem reg_whl {c:Ci} (hb:c.b.toNat≤64) {o:Oq} (ho:o∈c.ops):∀r∈regL c,Whl o.m.toNat r:=fun r hr=>by
 obtain ⟨h1,h2,_⟩:=cut_ok (fun i=>(edN c.ops).testBit i) c.b.toNat
 have hm:=seg_mem _ _ _ h1 r hr
 refine whl_of (fun i hi hi2=>?_)
 have hE:(edN c.ops).testBit i=false:=h2 r hr i hi hi2
 have hx:=xe_bit (m:=o.m.toNat) (i:=i) (by omega) (by omega)
 cases e:(xeN o.m.toNat).testBit i with
 | true=>rw [ed_has ho i e] at hE;cases hE
 | false=>
  rw [e] at hx
  clear hE e
  revert hx
  generalize o.m.toNat.testBit i=p
  generalize o.m.toNat.testBit (i-1)=q
  intro hx
  cases p <;> cases q <;> first | rfl | cases hx
theorem zip_put (l:List (Nat × Nat)) (x:Nat × Nat):(l++[x]).zipIdx=l.zipIdx++[(x,l.length)]:=by rw [List.zipIdx_append];simp
theorem last_set (d:List (Nat × Nat)) (r x:Nat × Nat):(d++[x]).zipIdx=(d++[r]).zipIdx.set d.length (x,d.length):=by
 rw [zip_put,zip_put,List.set_append_right _ _ (by rw [List.length_zipIdx];exact Nat.le_refl _),List.length_zipIdx,Nat.sub_self]
 rfl
theorem rgs_set (R:List Rg) (j:Nat) (h:j<R.length) (z:Nat):(rgs R).set (j*3+2) (.int .i64 (z:Nat))=rgs (R.set j ((R[j].1.1,z),R[j].2)):=by
 induction R generalizing j with
 | nil=>exact absurd h (Nat.not_lt_zero _)
 | cons x R ih=>
  cases j with
  | zero=>rfl
  | succ j=>
   have hj:j<R.length:=by rw [List.length_cons] at h;omega
   have:=ih j hj
   show (rgc x++rgs R).set ((j+1)*3+2) _=rgc x++rgs (R.set j ((R[j].1.1,z),R[j].2))
   rw [←this,show (j+1)*3+2=3+(j*3+2) by omega]
   exact List.set_append_right (s:=rgc x) (t:=rgs R) (3+(j*3+2)) _ (by show 3≤_;omega) |>.trans (by rw [show (rgc x).length=3 from rfl,Nat.add_sub_cancel_left])
theorem nm_cat (j:Nat):(⟨#[99]⟩:ByteArray)++numT (j:Int)=nmC j:=by
 apply ByteArray.ext
 rw [ByteArray.data_append]
 apply Array.ext'
 rw [Array.toList_append]
 rfl
theorem shr_bit (x k:Nat) (hx:x<18446744073709551616):bits .and .u64 ((x:Int) / 2 ^ k) 1=(if x.testBit k=true then 1 else 0):=by
 have h1:((x:Int) / 2 ^ k)=((x / 2 ^ k:Nat):Int):=by rw [Int.natCast_ediv];simp
 have h2:x / 2 ^ k<18446744073709551616:=Nat.lt_of_le_of_lt (Nat.div_le_self _ _) hx
 rw [h1,show (1:Int)=((1:Nat):Int) from rfl,u64_and_nat _ _ h2 (by decide),Nat.and_one_is_mod,Nat.testBit_eq_decide_div_mod_eq]
 have:x / 2 ^ k % 2=0∨x / 2 ^ k % 2=1:=by omega
 rcases this with h | h <;> rw [h] <;> rfl
set_option maxHeartbeats 2000000 in
set_option maxRecDepth 100000 in
theorem cut_any (c:Ci) (oa:Option Addr) (oc:Nat) (A:Nat→Option Addr) (C:Nat→Nat) (w:World) (H:OS w oa oc c.ops A C) (hb:0≤c.b∧c.b≤64) (hol:c.ops.length≤4096) (hv:VR w) :
  Calls Tryz.prog 33 #[civ c oa oc] w fun e w'=>∃v',e=.returned v'∧w'.ownsRow w.heap.size 138 3 v' (regL c).zipIdx.length (rgs (regL c).zipIdx)∧Below w.heap.size w w':=by
 obtain ⟨i7,hi7,hz7,hs7,hb7⟩:=info_parts Tryz.info138
 have HI7:=hid hi7
 clear hi7
 have HO:=hid H
 have HV:=hid hv
 have hcap:=H.cap
 have HEL:Hid (edN c.ops<18446744073709551616):=ed_lt (fun o ho=>by
  obtain ⟨j,hj,rfl⟩:=List.getElem_of_mem ho
  have h1:=(H.fit j hj).m0
  have h2:=(H.fit j hj).m1
  omega)
 clear H hv
 obtain ⟨q,b,os⟩:=c
 simp only at *
 obtain ⟨bb,rfl⟩:=Int.eq_ofNat_of_zero_le hb.1
 have hRL:regL ⟨q,(bb:Int),os⟩=cutR (fun i=>(edN os).testBit i) bb:=rfl
 rw [hRL]
 clear hRL
 obtain ⟨E0,hE0⟩:∃E,edN os=E:=⟨_,rfl⟩
 rw [hE0] at HEL
 rw [hE0]
 have HE0:=hid hE0
 clear hE0
 go_enter Tryz.func33,Tryz.ntmps33
 go_wp2
 go_loopw [3,12] (fun s3 s12 wx=>∃k:Nat,k≤os.length∧s12=.int .i64 (k:Nat)∧s3=.int .u64 (edN (os.take k):Nat)∧BK wx w.heap.size #[.int .i64 q,.int .i64 (bb:Int),.slice oa os.length oc] 27∧Below w.heap.size w wx) (fun _ s12 _=>os.length-(intOf s12).toNat)
 case atStart=>exact ⟨0,Nat.zero_le _,rfl,rfl,bk_new _ _ _,bal (Below.refl _ _) _⟩
 case round=>
  obtain ⟨k,hk,rfl,rfl,hbk,hB⟩:=hrel
  have d1:=hbk.cell
  have l1:=hbk.lt
  have HBK:=hid hbk
  by_cases hlt:k<os.length
  ·obtain ⟨b',o',rfl,r⟩:=(HO.out.below hB).at_ k hlt
   have m0:=r.c0 k hlt
   have m1:=r.c1 k hlt
   have m2:=r.c2 k hlt
   have m3:=r.c3 k hlt
   have m4:=r.c4 k hlt
   have m5:=r.c5 k hlt
   have m6:=r.c6 k hlt
   have hbl:=r.lt
   have hfit:=HO.out.fit k hlt
   have f0:=hfit.m0
   have f1:=hfit.m1
   have HTK:Hid (edN (os.take (k+1))=edN (os.take k)|||xeN os[k].m.toNat):=by
    show _=_
    rw [List.take_succ_eq_append_getElem hlt,ed_put]
   have hel:edN (os.take k)<18446744073709551616:=ed_lt (fun o ho=>by
    obtain ⟨j,hj,rfl⟩:=List.getElem_of_mem (List.mem_of_mem_take ho)
    have h1:=(HO.out.fit j hj).m0
    have h2:=(HO.out.fit j hj).m1
    omega)
   clear r hfit hbk
   generalize os[k]=o at *
   obtain ⟨ok,on,oq,ob,of,om,ov⟩:=o
   simp only at *
   obtain ⟨mm,rfl⟩:=Int.eq_ofNat_of_zero_le f0
   rw [Int.toNat_natCast] at HTK
   generalize edN (os.take k)=E at *
   have e1:IntKind.u64.wrap ((mm:Int)*2)=((mm*2 % 18446744073709551616:Nat):Int):=by rw [IntKind.wrap_u64];omega
   have e2:bits .xor .u64 (mm:Int) ((mm*2 % 18446744073709551616:Nat):Int)=((xeN mm:Nat):Int):=u64_xor_nat _ _ (by omega) (Nat.mod_lt _ (by decide))
   have e3:bits .or .u64 (E:Int) ((xeN mm:Nat):Int)=((E|||xeN mm:Nat):Int):=u64_or_nat _ _ hel (xe_lt (by omega))
   go_wp2
   refine ⟨⟨k+1,by omega,rfl,?_,HBK.out.alloc _,bal hB _⟩,by simp only [intOf];omega⟩
   rw [HTK.out,show ((mm:Int)*2 % 18446744073709551616)=((mm*2 % 18446744073709551616:Nat):Int) by omega,e2,e3]
  ·obtain rfl:k=os.length:=by omega
   rw [List.take_length,HE0.out]
   have hel:=HEL.out
   clear hbk
   go_wp2
   go_loopw [6,27] (fun s6 s27 wx=>∃k:Nat,k≤bb∧s27=.int .i64 (k:Nat)∧wx.ownsRow w.heap.size 138 3 s6 (cutR (fun i=>E0.testBit i) k).zipIdx.length (rgs (cutR (fun i=>E0.testBit i) k).zipIdx)∧BK wx w.heap.size #[.int .i64 q,.int .i64 (bb:Int),.slice oa os.length oc] 27∧Below w.heap.size w wx) (fun _ s27 _=>bb-(intOf s27).toNat)
   case atStart=>exact ⟨0,Nat.zero_le _,rfl,World.ownsRow_nil _ _ _ _,HBK.out,hB⟩
   case round=>
    obtain ⟨k,hk,rfl,hown,hbk,hB⟩:=hrel
    have d2:=hbk.cell
    have l2:=hbk.lt
    obtain ⟨a',c',rfl⟩:=own_shape hown
    by_cases hlt:k<bb
    case neg=>
     obtain rfl:k=bb:=by omega
     go_wp2
     go_ret
     exact ⟨_,rfl,hown,hB⟩
    obtain ⟨s1,s2,s3⟩:=cut_ok (fun i=>E0.testBit i) k
    have hlen:=seg_len _ _ _ s1
    have hsh:=shr_bit E0 k hel
    have HBK2:=hid hbk
    clear hbk d1 l1 HBK
    rcases Nat.eq_zero_or_pos k with h0 | h0
    ·subst h0
     have hcu:cutR (fun i=>E0.testBit i) (0+1)=[(0,1)]:=rfl
     have HIT:=hid (itoa_any 0 wr (by omega) (by omega) (HV.out.below hB))
     have hc0:cutR (fun i=>E0.testBit i) 0=[]:=rfl
     rw [hc0] at hown
     rw [hc0]
     have HOW:=hid hown
     clear hown hsh s1 s2 s3 hlen hc0
     show Code.wp _ _ _ _ _
     simp only [List.zipIdx_nil,List.length_nil]
     have hcat:(⟨#[99]⟩:ByteArray)++numT 0=nmC 0:=nm_cat 0
     have hns:(Lib.itoa 0).length≤21:=Lib.itoa_length_le 0 (by omega) (by omega)
     go_wp2_with (first
      | (go_at_call 65;(with_reducible refine HIT.out.mono ?_);rintro e w1 ⟨rfl,hB1⟩)
      | (at_builtin;refine Hid.out ?_))
     refine hid ?_
     have hO1:=own_below (own_below HOW.out hB1) (bal (Below.refl _ _) (.cells #[.string (nmC 0),.int .i64 ((0:Nat):Int),.int .i64 ((1:Nat):Int)] 138))
     have hBw:=btr hB hB1
     refine wpList_append_own_at _ rfl _ _ 84 rfl w.heap.size 138 i7 _ 3 32 Tryz.underlying84 HI7.out hz7 hs7 hb7 rfl (by decide) _ _ _ rfl hO1 ⟨_,0,none⟩ 1 1 (rgs [((0,1),0)]) rfl rfl (new_rg w1 ((0,1),0)) (rgs_one _) (by unfold maxLen;simp) (by simp) (bal hBw _).size ?_
     intro v8 w8 hown8 hgrow8 hnil8 hloc8
     have hB8:=below_own (bal hBw _) hO1 hgrow8
     have h2:=(bk_on HBK2.out hB1).alloc (.cells #[.string (nmC 0),.int .i64 ((0:Nat):Int),.int .i64 ((1:Nat):Int)] 138)
     have h28:BK w8 w.heap.size _ 27:=(hgrow8.block _ h2.lt (fun e=>own_ne hO1 h2 (by decide) _ e.symm rfl)).trans h2
     clear hgrow8 hnil8 hloc8
     go_wp2
     exact ⟨⟨1,by omega,rfl,hown8,h28,hB8⟩,by simp only [intOf];omega⟩
    ·obtain ⟨d,r,hdr⟩:∃d r,cutR (fun i=>E0.testBit i) k=d++[r]:=by
      cases hlast:(cutR (fun i=>E0.testBit i) k).getLast? with
      | none=>exact absurd hlast (s3 h0)
      | some r=>exact ⟨_,r,last_split hlast⟩
     have HNX:Hid (cutR (fun i=>E0.testBit i) (k+1)=if (E0.testBit k || decide (r.2=32))=true then (d++[r])++[(k,1)] else d++[(r.1,r.2+1)]):=by
      show cutR (fun i=>E0.testBit i) (k+1)=_
      conv=>lhs;unfold cutR
      rw [hdr,List.getLast?_concat,List.dropLast_concat]
     rw [hdr] at hown s1 hlen
     have hrr:=seg_mem _ _ _ s1 r (List.mem_append_right _ (List.mem_singleton.2 rfl))
     rw [List.length_append,List.length_singleton] at hlen
     have hRl:((d++[r]).zipIdx).length=d.length+1:=by rw [List.length_zipIdx,List.length_append,List.length_singleton]
     have hRa:(d++[r]).zipIdx[d.length]'(by omega)=(r,d.length):=by simp
     obtain ⟨g,cap,e1,hcap,hgl,hgB,m0,m1,m2,hfz⟩:=rg_cells hown (k:=d.length) (by omega)
     rw [hRa] at m0 m1 m2
     injection e1 with e1 e2 e3
     subst e1
     subst e3
     have HOW:=hid hown
     rw [hdr]
     clear hown s1 s2 s3 hdr e2 hRa
     generalize hR:(d++[r]).zipIdx=R at *
     have HR:=hid hR
     clear hR
     have HIT:=hid (itoa_any ((d.length:Int)+1) wr (by omega) (by omega) (HV.out.below hB))
     have hcat:(⟨#[99]⟩:ByteArray)++numT ((d.length:Int)+1)=nmC (d.length+1):=nm_cat (d.length+1)
     have hns:(Lib.itoa ((d.length:Int)+1)).length≤21:=Lib.itoa_length_le _ (by omega) (by omega)
     by_cases ht:(E0.testBit k || decide (r.2=32))=true
     ·have HT:=hid ht
      cases htb:E0.testBit k with
      | true=>
       rw [htb,if_pos rfl] at hsh
       go_wp2_with (first
        | (go_at_call 65;(with_reducible refine HIT.out.mono ?_);rintro e w1 ⟨rfl,hB1⟩)
        | (at_builtin;refine Hid.out ?_))
       refine hid ?_
       have hOa:=own_below HOW.out hB1
       rw [hRl] at hOa
       have hO1:=own_below hOa (bal (Below.refl _ _) (.cells #[.string (nmC (d.length+1)),.int .i64 (k:Nat),.int .i64 ((1:Nat):Int)] 138))
       have hBw:=btr hB hB1
       refine wpList_append_own_at _ rfl _ _ 84 rfl w.heap.size 138 i7 _ 3 32 Tryz.underlying84 HI7.out hz7 hs7 hb7 rfl (by decide) _ _ _ rfl hO1 ⟨_,0,none⟩ 1 1 (rgs [((k,1),d.length+1)]) rfl rfl (new_rg w1 ((k,1),d.length+1)) (rgs_one _) (by unfold maxLen;omega) (by omega) (bal hBw _).size ?_
       intro v8 w8 hown8 hgrow8 hnil8 hloc8
       have hB8:=below_own (bal hBw _) hO1 hgrow8
       have h2:=(bk_on HBK2.out hB1).alloc (.cells #[.string (nmC (d.length+1)),.int .i64 (k:Nat),.int .i64 ((1:Nat):Int)] 138)
       have h28:BK w8 w.heap.size _ 27:=(hgrow8.block _ h2.lt (fun e=>own_ne hO1 h2 (by decide) _ e.symm rfl)).trans h2
       have hN:=HNX.out
       rw [if_pos HT.out] at hN
       have hz:((d++[r])++[(k,1)]).zipIdx=R++[((k,1),d.length+1)]:=by rw [zip_put,HR.out,List.length_append,List.length_singleton]
       clear hgrow8 hnil8 hloc8
       go_wp2
       refine ⟨⟨k+1,by omega,rfl,?_,h28,hB8⟩,by simp only [intOf];omega⟩
       rw [hN,hz,List.length_append,hRl,rgs_app]
       exact hown8
      | false=>
       rw [htb,if_neg (by decide)] at hsh
       rw [htb,Bool.false_or,decide_eq_true_eq] at ht
       go_wp2_with (first
        | (go_at_call 65;(with_reducible refine HIT.out.mono ?_);rintro e w1 ⟨rfl,hB1⟩)
        | (at_builtin;refine Hid.out ?_))
       refine hid ?_
       have hOa:=own_below HOW.out hB1
       rw [hRl] at hOa
       have hO1:=own_below hOa (bal (Below.refl _ _) (.cells #[.string (nmC (d.length+1)),.int .i64 (k:Nat),.int .i64 ((1:Nat):Int)] 138))
       have hBw:=btr hB hB1
       refine wpList_append_own_at _ rfl _ _ 84 rfl w.heap.size 138 i7 _ 3 32 Tryz.underlying84 HI7.out hz7 hs7 hb7 rfl (by decide) _ _ _ rfl hO1 ⟨_,0,none⟩ 1 1 (rgs [((k,1),d.length+1)]) rfl rfl (new_rg w1 ((k,1),d.length+1)) (rgs_one _) (by unfold maxLen;omega) (by omega) (bal hBw _).size ?_
       intro v8 w8 hown8 hgrow8 hnil8 hloc8
       have hB8:=below_own (bal hBw _) hO1 hgrow8
       have h2:=(bk_on HBK2.out hB1).alloc (.cells #[.string (nmC (d.length+1)),.int .i64 (k:Nat),.int .i64 ((1:Nat):Int)] 138)
       have h28:BK w8 w.heap.size _ 27:=(hgrow8.block _ h2.lt (fun e=>own_ne hO1 h2 (by decide) _ e.symm rfl)).trans h2
       have hN:=HNX.out
       rw [if_pos HT.out] at hN
       have hz:((d++[r])++[(k,1)]).zipIdx=R++[((k,1),d.length+1)]:=by rw [zip_put,HR.out,List.length_append,List.length_singleton]
       clear hgrow8 hnil8 hloc8
       go_wp2
       refine ⟨⟨k+1,by omega,rfl,?_,h28,hB8⟩,by simp only [intOf];omega⟩
       rw [hN,hz,List.length_append,hRl,rgs_app]
       exact hown8
     ·rw [Bool.or_eq_true,not_or,decide_eq_true_eq] at ht
      rw [if_neg ht.1] at hsh
      have ht2:=ht.2
      have h32:(((r.2:Nat):Int)==32)=false:=by rw [beq_eq_false_iff_ne];omega
      go_wp2
      have hRa:R[d.length]'(by omega)=(r,d.length):=by simp only [←HR.out];simp
      have hO9:=own_setc HOW.out (k:=d.length*3+2) (by omega) (.int .i64 ((r.2+1:Nat):Int))
      rw [rgs_set R d.length (by omega) (r.2+1),hRa] at hO9
      have hN:=HNX.out
      rw [if_neg (by rw [Bool.or_eq_true,not_or,decide_eq_true_eq];exact ht)] at hN
      have hz:(d++[(r.1,r.2+1)]).zipIdx=R.set d.length ((r.1,r.2+1),d.length):=by rw [last_set d r,HR.out]
      have hne:some g≠some w.heap.size:=own_ne HOW.out HBK2.out (by decide) g rfl
      refine ⟨⟨k+1,by omega,rfl,?_,HBK2.out.far (fun e=>hne (by rw [e])) _ _,bset hB _ _ _ hgB⟩,by simp only [intOf];omega⟩
      rw [hN,hz,List.length_set,hRl]
      rw [hRl] at hO9
      exact hO9
end Go.Proofs.YtdjfpghgklkejaaGreatDoor
