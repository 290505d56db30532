/-
  Put together of: FI FJa FK LBB FG FNa.
-/
import Derived.Test.YtdjfpghgklkejaaGreatDoorYT
import Derived.Test.YtdjfpghgklkejaaGreatDoorXQ
import Derived.Test.YtdjfpghgklkejaaGreatDoorYJ
import Derived.Test.YtdjfpghgklkejaaGreatDoorYW
import Derived.Recover
import Derived.Test.YtdjfpghgklkejaaGreatDoorYU
import Derived.Lib.OwnBridge
import Derived.Test.YtdjfpghgklkejaaGreatDoorYX
namespace Go.Proofs.YtdjfpghgklkejaaGreatDoor
open Go.RowKit Go.Sort
theorem quL_len {en:En} {g:Bool}:∀ {l:List Ar} {ns:List Nat},quL en g l=.ok ns→ns.length=l.length
 | [],ns,h=>by unfold quL at h;cases h;rfl
 | a::l,ns,h=>by
  unfold quL at h
  split at h
  ·cases h
  ·split at h
   ·cases h
   ·rename_i h2
    cases h
    rw [List.length_cons,List.length_cons,quL_len h2]
theorem quL_snoc {en:En} {g:Bool} (a:Ar):∀ {l:List Ar} {ns:List Nat},quL en g l=.ok ns→quL en g (l++[a])=match quE en g a with | .error e=>.error e | .ok n=>.ok (ns++[n])
 | [],ns,h=>by
  unfold quL at h
  cases h
  show quL en g [a]=_
  unfold quL
  cases quE en g a with
  | error e=>rfl
  | ok n=>rfl
 | b::l,ns,h=>by
  unfold quL at h
  split at h
  ·cases h
  ·rename_i n hb
   split at h
   ·cases h
   ·rename_i ns2 h2
    cases h
    have ih:=quL_snoc a h2
    show quL en g (b::(l++[a]))=_
    unfold quL
    rw [hb,ih]
    cases quE en g a with
    | error e=>rfl
    | ok m=>rfl
theorem quL_err {en:En} {g:Bool} {e:Nat}:∀ {l:List Ar} (r:List Ar),quL en g l=.error e→quL en g (l++r)=.error e
 | [],r,h=>by unfold quL at h;cases h
 | a::l,r,h=>by
  unfold quL at h
  show quL en g (a::(l++r))=_
  unfold quL
  split at h
  ·cases h
   rfl
  ·split at h
   ·rename_i e2 h2
    cases h
    rw [quL_err r h2]
   ·cases h
theorem quL_at {en:En} {g:Bool} {l:List Ar} {k:Nat} {ns:List Nat} (hk:k<l.length) (h:quL en g (l.take k)=.ok ns) :
  (∀e,quE en g l[k]=.error e→quL en g l=.error e)∧∀n,quE en g l[k]=.ok n→quL en g (l.take (k+1))=.ok (ns++[n]):=by
 have hs:=quL_snoc l[k] h
 rw [←List.take_succ_eq_append_getElem hk] at hs
 refine ⟨fun e he=>?_,fun n hn=>by rw [hs,hn]⟩
 rw [he] at hs
 have:=quL_err (l.drop (k+1)) hs
 rwa [List.take_append_drop] at this
theorem qu_err {en:En} {g:Bool} {a:Ar} {e:Nat} (h:quE en g a=.error e):e≠0:=by
 unfold quE at h
 split at h
 ·split at h
  ·cases h;decide
  ·split at h
   ·cases h
   ·cases h;decide
 ·exact el_err h
theorem il_nodup {l:List Nat}:(ilN l).Nodup↔l.Nodup:=by
 unfold ilN
 constructor
 ·intro h
  exact (List.pairwise_map.1 h).imp fun h e=>h (by rw [e])
 ·intro h
  exact List.pairwise_map.2 (h.imp fun h e=>h (by omega))
end Go.Proofs.YtdjfpghgklkejaaGreatDoor
namespace Go.Proofs.YtdjfpghgklkejaaGreatDoor
open Go.RowKit Go.Sort
theorem stO_some {sd:Sd} (h:sd.g=false):stO sd=some sd:=by unfold stO;rw [h];rfl
theorem sub_st {qs:List Int} {sd:Sd} (t:TO):(subT qs (some sd) t).st≠none:=by
 unfold subT
 cases t.st with
 | none=>exact fun h=>by cases h
 | some s=>exact fun h=>by cases h
theorem use_st {en:En} {sd:Sd} {r:Rw} (hg:sd.g=false):∀t∈useL en sd r,t.st≠none:=by
 intro t ht
 unfold useL at ht
 rw [stO_some hg] at ht
 split at ht
 ·split at ht
  ·rw [List.mem_singleton] at ht
   subst ht
   exact fun h=>by cases h
  ·obtain ⟨u,_,rfl⟩:=List.mem_map.1 ht
   exact sub_st u
 ·cases ht
theorem rowR_st {rec:RecT} (hr:RecSt rec) {en en1:En} {sd:Sd} {r:Rw} {body:List Rw} {L:List TO} (h:rowR rec en sd r body=.ok (en1,L)) (hg:sd.g=false):∀t∈L,t.st≠none:=by
 unfold rowR at h
 split at h
 ·split at h
  ·cases h
  ·cases h;exact fun t ht=>by cases ht
 split at h
 ·split at h
  ·cases h
  ·cases h;exact fun t ht=>by cases ht
 split at h
 ·split at h
  ·cases h
  ·split at h
   ·cases h
   ·cases h;exact fun t ht=>by cases ht
 split at h
 ·split at h
  ·cases h
  ·split at h
   ·cases h
   ·rename_i h2
    cases h
    intro t ht
    obtain ⟨l,hl,ht2⟩:=List.mem_flatten.1 ht
    obtain ⟨_,e⟩:=List.mem_replicate.1 hl
    rw [e] at ht2
    exact hr _ _ _ _ _ h2 hg t ht2
 split at h
 ·split at h
  ·cases h
  ·split at h
   ·cases h
   ·split at h
    ·cases h
    ·split at h
     ·cases h
     ·rename_i h2
      cases h
      intro t ht
      split at ht
      ·cases ht
      ·exact hr _ _ _ _ _ h2 hg t ht
 split at h
 ·split at h
  ·split at h
   ·cases h
   ·split at h
    ·cases h
    ·cases h
     intro t ht
     rw [List.mem_singleton] at ht
     subst ht
     show stO sd≠none
     rw [stO_some hg]
     exact fun h=>by cases h
  ·cases h
 split at h
 ·split at h
  ·split at h
   ·cases h
   ·cases h
    intro t ht
    rw [List.mem_singleton] at ht
    subst ht
    show stO sd≠none
    rw [stO_some hg]
    exact fun h=>by cases h
  ·cases h
 split at h
 ·cases h
 ·cases h
  exact use_st hg
theorem lookB_st:∀k,RecSt (lookB k)
 | 0=>fun en sd rs en1 L h _ t ht=>by unfold lookB at h;cases h;cases ht
 | k+1=>fun en sd rs en1 L h hg t ht=>by
  cases rs with
  | nil=>unfold lookB at h;cases h;cases ht
  | cons r rs=>
   unfold lookB at h
   split at h
   ·cases h
   ·split at h
    ·cases h
    ·rename_i h1
     split at h
     ·cases h
     ·rename_i h2
      cases h
      rcases List.mem_append.1 ht with ht | ht
      ·exact rowR_st (lookB_st k) h1 hg t ht
      ·exact lookB_st k _ _ _ _ _ h2 hg t ht
end Go.Proofs.YtdjfpghgklkejaaGreatDoor
namespace Go.Proofs.YtdjfpghgklkejaaGreatDoor
open Go.RowKit Go.Sort
def EnL (en:En):Prop:=∀s m,en.nm s=some m→∀t∈m.l,t.st=none
def RecL (rec:RecT):Prop:=∀en sd rs en1 L,rec en sd rs=.ok (en1,L)→EnL en→EnL en1∧(sd.g=true→∀t∈L,t.st=none)
theorem enL_put {f:ByteArray→Option Mn} (h:∀s m,f s=some m→∀t∈m.l,t.st=none) (s:ByteArray) (m:Mn) (hm:∀t∈m.l,t.st=none):∀u m',putN f s m u=some m'→∀t∈m'.l,t.st=none:=by
 intro u m' hu
 unfold putN at hu
 split at hu
 ·cases hu
  exact hm
 ·exact h u m' hu
theorem use_L {en:En} {sd:Sd} {r:Rw} (he:EnL en) (hg:sd.g=true):∀t∈useL en sd r,t.st=none:=by
 intro t ht
 have hs:stO sd=none:=by unfold stO;rw [hg];rfl
 unfold useL at ht
 rw [hs] at ht
 split at ht
 ·rename_i m qs hm _
  split at ht
  ·rw [List.mem_singleton] at ht
   subst ht
   rfl
  ·obtain ⟨u,hu,rfl⟩:=List.mem_map.1 ht
   unfold subT
   rw [he _ m hm u hu]
 ·cases ht
theorem rowR_L {rec:RecT} (hr:RecL rec) {en en1:En} {sd:Sd} {r:Rw} {body:List Rw} {L:List TO} (h:rowR rec en sd r body=.ok (en1,L)) (he:EnL en):EnL en1∧(sd.g=true→∀t∈L,t.st=none):=by
 have hnil:sd.g=true→∀t∈([]:List TO),t.st=none:=fun _ t ht=>by cases ht
 unfold rowR at h
 split at h
 ·split at h
  ·cases h
  ·cases h;exact ⟨enL_put he _ _ (fun t ht=>by cases ht),hnil⟩
 split at h
 ·split at h
  ·cases h
  ·cases h;exact ⟨enL_put he _ _ (fun t ht=>by cases ht),hnil⟩
 split at h
 ·split at h
  ·cases h
  ·split at h
   ·cases h
   ·rename_i h2
    cases h
    obtain ⟨g1,g2⟩:=hr _ _ _ _ _ h2 (enL_put he _ _ (fun t ht=>by cases ht))
    exact ⟨enL_put g1 _ _ (g2 rfl),hnil⟩
 split at h
 ·split at h
  ·cases h
  ·split at h
   ·cases h
   ·rename_i h2
    cases h
    obtain ⟨g1,g2⟩:=hr _ _ _ _ _ h2 he
    refine ⟨g1,fun hg t ht=>?_⟩
    obtain ⟨l,hl,ht2⟩:=List.mem_flatten.1 ht
    rw [(List.mem_replicate.1 hl).2] at ht2
    exact g2 hg t ht2
 split at h
 ·split at h
  ·cases h
  ·split at h
   ·cases h
   ·split at h
    ·cases h
    ·split at h
     ·cases h
     ·rename_i h2
      cases h
      obtain ⟨g1,g2⟩:=hr _ _ _ _ _ h2 he
      refine ⟨g1,fun hg t ht=>?_⟩
      split at ht
      ·cases ht
      ·exact g2 hg t ht
 have hs:sd.g=true→stO sd=none:=fun hg=>by unfold stO;rw [hg];rfl
 split at h
 ·split at h
  ·split at h
   ·cases h
   ·split at h
    ·cases h
    ·cases h
     refine ⟨he,fun hg t ht=>?_⟩
     rw [List.mem_singleton] at ht
     subst ht
     exact hs hg
  ·cases h
 split at h
 ·split at h
  ·split at h
   ·cases h
   ·cases h
    refine ⟨he,fun hg t ht=>?_⟩
    rw [List.mem_singleton] at ht
    subst ht
    exact hs hg
  ·cases h
 split at h
 ·cases h
 ·cases h
  exact ⟨he,fun hg=>use_L he hg⟩
theorem lookB_L:∀k,RecL (lookB k)
 | 0=>fun en sd rs en1 L h he=>by unfold lookB at h;cases h;exact ⟨he,fun _ t ht=>by cases ht⟩
 | k+1=>fun en sd rs en1 L h he=>by
  cases rs with
  | nil=>unfold lookB at h;cases h;exact ⟨he,fun _ t ht=>by cases ht⟩
  | cons r rs=>
   unfold lookB at h
   split at h
   ·cases h
   ·split at h
    ·cases h
    ·rename_i h1
     split at h
     ·cases h
     ·rename_i h2
      cases h
      obtain ⟨a1,a2⟩:=rowR_L (lookB_L k) h1 he
      obtain ⟨b1,b2⟩:=lookB_L k _ _ _ _ _ h2 a1
      refine ⟨b1,fun hg t ht=>?_⟩
      rcases List.mem_append.1 ht with ht | ht
      ·exact a2 hg t ht
      ·exact b2 hg t ht
theorem rowR_congr {rec rec':RecT} {body:List Rw} (h:∀en sd,rec en sd body=rec' en sd body) (en:En) (sd:Sd) (r:Rw):rowR rec en sd r body=rowR rec' en sd r body:=by
 unfold rowR
 simp only [h]
theorem lookB_fuel:∀(k k':Nat) (rs:List Rw),rs.length<k→rs.length<k'→∀en sd,lookB k en sd rs=lookB k' en sd rs
 | 0,_,rs,h,_,_,_=>absurd h (Nat.not_lt_zero _)
 | _+1,0,rs,_,h,_,_=>absurd h (Nat.not_lt_zero _)
 | k+1,k'+1,[],_,_,en,sd=>by unfold lookB;rfl
 | k+1,k'+1,r::rs,h,h',en,sd=>by
  rw [List.length_cons] at h h'
  have h1:∀en sd,lookB k en sd (rs.take r.rows.toNat)=lookB k' en sd (rs.take r.rows.toNat):=lookB_fuel k k' _ (by rw [List.length_take];omega) (by rw [List.length_take];omega)
  have h2:∀en sd,lookB k en sd (rs.drop r.rows.toNat)=lookB k' en sd (rs.drop r.rows.toNat):=lookB_fuel k k' _ (by rw [List.length_drop];omega) (by rw [List.length_drop];omega)
  unfold lookB
  rw [rowR_congr h1]
  simp only [h2]
def useR (en:En) (sd:Sd) (r:Rw):Except Fa (En × List TO):=if useE en sd r≠0 then .error (sd.p,useE en sd r) else .ok (⟨en.nm,en.q,en.b,en.pr,useD en sd r⟩,useL en sd r)
theorem rowR_use (rec:RecT) (en:En) (sd:Sd) (r:Rw) (body:List Rw) (h:r.kind=wUse):rowR rec en sd r body=useR en sd r:=by
 unfold rowR useR
 rw [if_neg (by rw [h];decide),if_neg (by rw [h];decide),if_neg (by rw [h];decide),if_neg (by rw [h];decide),if_neg (by rw [h];decide),if_neg (by rw [h];decide),if_neg (by rw [h];decide)]
theorem use_loop {en:En} {sd:Sd} {r:Rw} (h:srt en r.name=4):useR en sd r=.error (sd.p,114):=by
 have e:useE en sd r=114:=by unfold useE;rw [if_pos h]
 unfold useR
 rw [e]
 rfl
theorem use_gate {en:En} {sd:Sd} {r:Rw} (h4:srt en r.name≠4) (h3:srt en r.name≠3) (h5:srt en r.name≠5):useR en sd r=.error (sd.p,80):=by
 have e:useE en sd r=80:=by unfold useE;rw [if_neg h4,if_pos ⟨h3,h5⟩]
 unfold useR
 rw [e]
 rfl
theorem use_some {en:En} {s:ByteArray} (h:srt en s=3∨srt en s=5):∃m,en.nm s=some m∧m.s=srt en s:=by
 unfold srt at *
 cases e:en.nm s with
 | none=>rw [e] at h;rcases h with h | h <;> cases h
 | some m=>exact ⟨m,rfl,rfl⟩
theorem use_eq {en:En} {sd:Sd} {r:Rw} {m:Mn} (h:srt en r.name=3∨srt en r.name=5) (hm:en.nm r.name=some m):useE en sd r=if r.args.length≠m.z then 111 else
  match quL en sd.g r.args with
  | .error e=>e
  | .ok qs=>if ¬qs.Nodup then 113 else if sd.g=true∧32<max en.d (m.d+1) then 102 else 0:=by
 unfold useE
 rw [if_neg (by omega),if_neg (by omega),hm]
 rfl
theorem use_arity {en:En} {sd:Sd} {r:Rw} {m:Mn} (h:srt en r.name=3∨srt en r.name=5) (hm:en.nm r.name=some m) (hz:r.args.length≠m.z):useR en sd r=.error (sd.p,111):=by
 have e:useE en sd r=111:=by rw [use_eq h hm,if_pos hz]
 unfold useR
 rw [e]
 rfl
theorem quL_no {en:En} {g:Bool} {l:List Ar} {e:Nat} (h:quL en g l=.error e):e≠0:=by
 induction l with
 | nil=>unfold quL at h;cases h
 | cons a l ih=>
  unfold quL at h
  split at h
  ·rename_i h1
   cases h
   exact qu_err h1
  ·split at h
   ·rename_i h1
    cases h
    exact ih h1
   ·cases h
theorem use_arg {en:En} {sd:Sd} {r:Rw} {m:Mn} {e:Nat} (h:srt en r.name=3∨srt en r.name=5) (hm:en.nm r.name=some m) (hz:r.args.length=m.z) (hq:quL en sd.g r.args=.error e):useR en sd r=.error (sd.p,e):=by
 have e':useE en sd r=e:=by rw [use_eq h hm,if_neg (by omega),hq]
 unfold useR
 rw [e',if_pos (quL_no hq)]
theorem use_same {en:En} {sd:Sd} {r:Rw} {m:Mn} {qs:List Nat} (h:srt en r.name=3∨srt en r.name=5) (hm:en.nm r.name=some m) (hz:r.args.length=m.z) (hq:quL en sd.g r.args=.ok qs) (hd:¬qs.Nodup):useR en sd r=.error (sd.p,113):=by
 have e:useE en sd r=113:=by rw [use_eq h hm,if_neg (by omega),hq];exact if_pos hd
 unfold useR
 rw [e]
 rfl
theorem use_deep {en:En} {sd:Sd} {r:Rw} {m:Mn} {qs:List Nat} (h:srt en r.name=3∨srt en r.name=5) (hm:en.nm r.name=some m) (hz:r.args.length=m.z) (hq:quL en sd.g r.args=.ok qs) (hd:qs.Nodup) (hg:sd.g=true) (hx:32<max en.d (m.d+1)):useR en sd r=.error (sd.p,102):=by
 have e:useE en sd r=102:=by
  rw [use_eq h hm,if_neg (by omega),hq]
  show (if ¬qs.Nodup then 113 else _)=_
  rw [if_neg (by simpa using hd),if_pos ⟨hg,hx⟩]
 unfold useR
 rw [e]
 rfl
theorem use_ok {en:En} {sd:Sd} {r:Rw} {m:Mn} {qs:List Nat} (h:srt en r.name=3∨srt en r.name=5) (hm:en.nm r.name=some m) (hz:r.args.length=m.z) (hq:quL en sd.g r.args=.ok qs) (hd:qs.Nodup) (hx:sd.g=true→¬32<max en.d (m.d+1)) :
  useR en sd r=.ok (⟨en.nm,en.q,en.b,en.pr,if sd.g=true then max en.d (m.d+1) else en.d⟩,if m.s=3 then [⟨1,r.name,ilN qs,0,stO sd⟩] else m.l.map (subT (ilN qs) (stO sd))):=by
 have e:useE en sd r=0:=by
  rw [use_eq h hm,if_neg (by omega),hq]
  show (if ¬qs.Nodup then 113 else _)=_
  rw [if_neg (by simpa using hd),if_neg (fun h=>hx h.1 h.2)]
 unfold useR
 rw [e,if_neg (by simp)]
 unfold useD useL
 rw [hm,hq]
 rfl
theorem idx_lt {s:ByteArray}:∀ {l:List ByteArray} {j:Nat},idxN s l=some j→j<l.length
 | [],j,h=>by unfold idxN at h;cases h
 | t::l,j,h=>by
  unfold idxN at h
  split at h
  ·cases h
   exact Nat.succ_pos _
  ·cases e:idxN s l with
   | none=>rw [e] at h;cases h
   | some i=>
    rw [e] at h
    cases h
    exact Nat.succ_lt_succ (idx_lt e)
theorem qu_lt {en:En} {g:Bool} {a:Ar} {n:Nat} (hok:EnOk en) (h:quE en g a=.ok n):n<nq g en:=by
 unfold quE at h
 unfold nq
 split at h
 ·rename_i hg
  rw [if_pos hg]
  split at h
  ·cases h
  ·split at h
   ·rename_i e
    cases h
    exact idx_lt e
   ·cases h
 ·rename_i hg
  rw [if_neg hg]
  exact el_lt hok h
theorem quL_lt {en:En} {g:Bool} (hok:EnOk en):∀ {l:List Ar} {ns:List Nat},quL en g l=.ok ns→∀j∈ilN ns,0≤j∧j<(nq g en:Int)
 | [],ns,h,j,hj=>by unfold quL at h;cases h;cases hj
 | a::l,ns,h,j,hj=>by
  unfold quL at h
  split at h
  ·cases h
  ·rename_i n h1
   split at h
   ·cases h
   ·rename_i ns2 h2
    cases h
    have hj:j∈(n:Int)::ilN ns2:=hj
    rcases List.mem_cons.1 hj with rfl | hj
    ·have:=qu_lt hok h1
     omega
    ·exact quL_lt hok h2 j hj
end Go.Proofs.YtdjfpghgklkejaaGreatDoor
namespace Go.Proofs.YtdjfpghgklkejaaGreatDoor
open Go.RowKit Go.Sort
set_option maxHeartbeats 2000000 in
set_option maxRecDepth 100000 in
theorem string_some (w W:World) (b:Nat) (l:List UInt8) (last:ByteArray) (H:WS w W b l last) (h0:l≠[]) (h6:l.length≤65536) :
  Calls Tryz.prog 71 #[.pointer (some ⟨b,0,none⟩)] W fun e W'=>e=.returned (.string ⟨l.toArray⟩)∧Below w.heap.size w W':=by
 obtain ⟨p,v,hbk,_,hown⟩:=H.ex
 have hl0:l.length≠0:=by simpa using h0
 have hB:Hid (Below w.heap.size w W):=H.below
 obtain ⟨g,cap,cur,rfl,hbg,hg,hnc,hcm,hcs,htake⟩:∃g cap cur,v=.slice (some ⟨g,0,none⟩) l.length cap∧w.heap.size≤g∧W.heap[g]?=some (.cells cur 5 (0,0))∧l.length≤cap∧cap≤maxLen∧cur.size=cap*1∧cur.toList.take (l.length*1)=Lib.byteCells l:=by
  rcases hown.2 with ⟨_,hz⟩ | ⟨g,cap,cur,hv,r⟩
  ·exact absurd hz hl0
  ·exact ⟨g,cap,cur,hv,r⟩
 have c1:W.drew.cell? ⟨b,1,none⟩=some (.slice (some ⟨g,0,none⟩) l.length cap):=hbk.drew.cell 1
 have hSD:(Builtin.unsafeSliceData_ #[143] 193 #[.slice (some ⟨g,0,none⟩) l.length cap]).run Tryz.prog W.drew=.ok (.pointer (some ⟨g,0,none⟩)) W.drew:=
  Lib.run_unsafeSliceData_row _ _ _ _ _ _ (by omega)
 have hUS:(Builtin.unsafeString_ #[193,3] 9 #[.pointer (some ⟨g,0,none⟩),.int .i64 l.length]).run Tryz.prog W.drew=.ok (.string ⟨l.toArray⟩) (W.drew.freeze ⟨g,0,none⟩ l.length):=by
  refine Lib.run_unsafeString_row W.drew 193 3 9 5 Tryz.underlying193 (by kernel_rfl) g cur.size (by have hg':W.drew.heap[g]?=some (.cells cur 5 (0,0)):=hg;simp [World.shape?,hg']) l h0 (by omega) (by omega) ?_
  intro j x hx
  have:=hown.cells (g:=g) rfl j (.int .u8 x.toNat) (by simp [Lib.byteCells,hx])
  exact this
 clear hbk hown hg htake hcs hcm hnc
 go_enter Tryz.func71,Tryz.ntmps71
 go_wp2
 go_region
 all_goals (go_wp2;go_ret;exact ⟨rfl,Lib.below_freeze (below_drew hB.out) (p:=⟨g,0,none⟩) hbg _⟩)
set_option maxHeartbeats 2000000 in
set_option maxRecDepth 100000 in
theorem string_none (W:World) (b:Nat) (p u:Value) (hbk:BK W b #[p,.slice none 0 0,u] 147) :
  Calls Tryz.prog 71 #[.pointer (some ⟨b,0,none⟩)] W fun e W'=>e=.returned (.string ⟨#[]⟩)∧∃n,W'=W.drewN n:=by
 have hUS:=fun (W:World) (q:Option Addr)=>Lib.run_unsafeString_none (P:=Tryz.prog) W 193 3 9 q
 have c1:W.drew.cell? ⟨b,1,none⟩=some (.slice none 0 0):=hbk.drew.cell 1
 have hSD:(Builtin.unsafeSliceData_ #[143] 193 #[.slice none 0 0]).run Tryz.prog W.drew=.ok (.pointer none) W.drew:=rfl
 clear hbk
 go_enter Tryz.func71,Tryz.ntmps71
 go_wp2
 go_region
 all_goals (go_wp2;go_ret;exact ⟨rfl,1,rfl⟩)
theorem frame24 (a b v:Value):#[a,b]++((Array.replicate 15 undef).setIfInBounds 3 v).setIfInBounds 0 v=#[a,b,v,undef,undef,v,undef,undef,undef,undef,undef,undef,undef,undef,undef,undef,undef]:=by kernel_rfl
set_option maxHeartbeats 1000000 in
theorem scatch_idle (p q:Nat) (w:World) :
  CallsD Tryz.prog 68 #[.pointer (some ⟨p,0,none⟩),.pointer (some ⟨q,0,none⟩)] .returning w fun e u' w'=>e=.returned (.tuple #[])∧u'=.returning∧Below w.heap.size w w':=by
 refine callsD_of_wpS Tryz.func68 rfl fun c₀ cs hu=>?_
 apply wpS_seq
 apply wpS_region
 simp [wpOpsS,go_sem,recoverD,hu,Tryz.ntmps68,Exit.thenS]
 refine wpS_of_wp ?_
 rw [frame24]
 have hta:∀w:World,(Instr.typeAssert .nilIface 20 129 true).run Tryz.prog w=.ok (.tuple #[.agg #[.int .i64 0,.int .i64 0],.bool false]) w:=fun _=>by kernel_rfl
 have hne:∀w:World,(binOp .neq 20 .nilIface .nilIface).run Tryz.prog w=.ok (.bool false) w:=fun _=>by kernel_rfl
 go_wp2
 refine ⟨rfl,_,?_,_,results_none rfl _ _ _,rfl,hu,bal (Below.refl _ _) _⟩
 cases c₀;simp_all
set_option maxHeartbeats 1000000 in
theorem scatch_it (p q:Nat) (f:Fa) (x y:Value) (w:World) (hpq:p≠q) (c0:BK w p #[x] 9) (c1:BK w q #[y] 30) :
  CallsD Tryz.prog 68 #[.pointer (some ⟨p,0,none⟩),.pointer (some ⟨q,0,none⟩)] (.panicking [flt f]) w fun e u' w'=>e=.returned (.tuple #[])∧u'=.panicking [{ v:=.iface 129 (.agg #[.int .i64 f.1,.int .i64 (f.2:Nat)]),recovered:=true }] ∧
   w'.cell? ⟨p,0,none⟩=some (.string ⟨#[]⟩)∧w'.cell? ⟨q,0,none⟩=some (.int .i64 (f.2:Nat))∧∀B,B≤w.heap.size→B≤p→B≤q→Below B w w':=by
 refine callsD_of_wpS Tryz.func68 rfl fun c₀ cs hu=>?_
 apply wpS_seq
 apply wpS_region
 simp [wpOpsS,go_sem,recoverD,hu,Tryz.ntmps68,Exit.thenS]
 refine wpS_of_wp ?_
 rw [frame24]
 have hta:∀w:World,(Instr.typeAssert (.iface 129 (.agg #[.int .i64 f.1,.int .i64 (f.2:Nat)])) 20 129 true).run Tryz.prog w=.ok (.tuple #[.agg #[.int .i64 f.1,.int .i64 (f.2:Nat)],.bool true]) w:=fun _=>by kernel_rfl
 have d0:w.cell? ⟨p,0,none⟩=some x:=c0.cell 0
 have d1:w.cell? ⟨q,0,none⟩=some y:=c1.cell 0
 have e0:=c0.free 0
 have e1:=c1.free 0
 have z0:=c0.lt
 have z1:=c1.lt
 go_wp2
 go_region
 have b0:=(((c0.set 0 (.string ⟨#[]⟩)).far (Ne.symm hpq) 0 (.int .i64 (f.2:Nat))).alloc (.cells #[.int .i64 f.1,.int .i64 (f.2:Nat)] 129)).drew
 have b1:=(((c1.far hpq 0 (.string ⟨#[]⟩)).set 0 (.int .i64 (f.2:Nat))).alloc (.cells #[.int .i64 f.1,.int .i64 (f.2:Nat)] 129)).drew
 refine ⟨rfl,_,?_,_,results_none rfl _ _ _,rfl,rfl,b0.cell 0,b1.cell 0,fun B h0 h1 h2=>below_drew (((Below.refl _ _).setCell (p:=⟨p,0,none⟩) h1 _).setCell (p:=⟨q,0,none⟩) h2 _ |>.alloc (by simpa using h0) _)⟩
 cases c₀
 simp_all
theorem stwo {w w1:World} {a b:Array Value} {A B:TypeId} (h:Below ((w.alloc (.cells a A)).alloc (.cells b B)).heap.size ((w.alloc (.cells a A)).alloc (.cells b B)) w1):BK w1 w.heap.size a A∧BK w1 (w.heap.size+1) b B:=two_bk w a b A B h
theorem body_ne {F d:Nat} {r:Rw} {rs:List Rw}:bodyB (F+1) d (r::rs)≠[]:=by
 show (indB d++(_++[10]))++_≠[]
 simp
set_option maxHeartbeats 4000000 in
set_option maxRecDepth 100000 in
theorem show_any (rs:List Rw) (v:Value) (s:ByteArray) (e:Nat) (w:World) (hS:SR w v rs) (hv:VR w) (hl:rs.length≤9223372036854775807) (hz:Szs rs) (ho:SOut rs s e) :
  Calls Tryz.prog 38 #[v] w fun x w'=>x=.returned (.tuple #[.string s,.int .i64 e])∧Below w.heap.size w w':=by
 have hmf:∀(fn:Fn) (first cap:Array Value) (w:World),(Instr.makeFunc fn first cap).run Tryz.prog w=.ok (.func fn first cap) w:=fun _ _ _ _=>rfl
 have CA:∀W,Below w.heap.size w W→Calls Tryz.prog 69 #[v,.int .i64 0] W fun e W'=>CK (chk rs.length 0 rs) e∧Below W.heap.size W W':=fun W h=>chkRows_any (rs.length+1) rs.length (by omega) rs 0 v w W (Nat.le_refl _) (by omega) hS h hl hz
 have B2:∀ {w1:World},Below ((w.alloc (.cells #[.string ⟨#[]⟩] 9)).alloc (.cells #[.int .i64 0] 30)).heap.size ((w.alloc (.cells #[.string ⟨#[]⟩] 9)).alloc (.cells #[.int .i64 0] 30)) w1→Below w.heap.size w w1:=fun h=>btr (bal (bal (Below.refl _ _) _) _) h
 have hb0:Below w.heap.size w ((w.alloc (.cells #[.string ⟨#[]⟩] 9)).alloc (.cells #[.int .i64 0] 30)):=B2 (Below.refl _ _)
 have CA0:=CA _ hb0
 clear CA hb0
 rcases ho with ⟨hc,rfl,rfl⟩ | ⟨hc,hlen,rfl,rfl⟩ | ⟨hc,hlen,rfl,rfl⟩
 ·rw [hc] at CA0
  have CB:=CA0.mono (fun e W' (h:CK false e∧_)=>show e=.panicked [flt (0,100)]∧_ from ⟨(by rcases h.1 with ⟨h,_⟩ | ⟨_,h⟩;cases h;exact h),h.2⟩)
  clear hS hv hl hz hc CA0
  go_enter_defers Tryz.func38,Tryz.ntmps38
  go_wp2_with (go_at_call 69;(with_reducible refine CB.mono ?_);rintro x w2 ⟨rfl,hB2⟩)
  obtain ⟨e0,e1⟩:=stwo hB2
  refine leaves_cons (f:=68) (args:=#[.pointer (some ⟨w.heap.size,0,none⟩),.pointer (some ⟨w.heap.size+1,0,none⟩)]) (by simp) (by simp [go_sem]) ?_
  refine (scatch_it w.heap.size (w.heap.size+1) (0,100) _ _ _ (by omega) e0 e1).mono ?_
  rintro x u w3 ⟨rfl,rfl,k0,k1,hB3⟩
  have hbb:=B2 hB2
  simp [Leaves,settle,results,Tryz.results38,go_sem,k0,k1]
  exact hbb.trans (hB3 _ hbb.size (by omega) (by omega))
 ·rw [hc] at CA0
  have CB:=CA0.mono (fun e W' (h:CK true e∧_)=>show e=.returned (.tuple #[])∧_ from ⟨(by rcases h.1 with ⟨_,h⟩ | ⟨h,_⟩;exact h;cases h),h.2⟩)
  clear CA0
  have BD:∀w1,Below w.heap.size w w1→Calls Tryz.prog 70 #[.pointer (some ⟨w1.heap.size,0,none⟩),v,.int .i64 0] (w1.alloc (.cells #[.pointer none,.slice none 0 0,.string ⟨#[]⟩] 147)) fun e W'=>e=.panicked [flt (0,1)]∧Below w1.heap.size w1 W':=fun w1 h=>by
   have h1:WS w1 (w1.alloc (.cells #[.pointer none,.slice none 0 0,.string ⟨#[]⟩] 147)) w1.heap.size [] ⟨#[]⟩:=⟨bal (Below.refl _ _) _,Nat.le_refl _,_,_,bk_new _ _ _,.inl rfl,World.ownsRow_nil _ _ _ _⟩
   refine (wbody_any (rs.length+1) rs.length (by omega) rs 0 v w1 _ w1.heap.size [] ⟨#[]⟩ (Nat.le_refl _) (by omega) hc (hS.below h) h1 (by simp) (hv.below h) hl hz).mono ?_
   rintro e W' ⟨_,k1,_,_,k4⟩
   rcases k4 with ⟨k4,_⟩ | ⟨_,k4⟩
   ·rw [List.length_nil,Nat.zero_add] at k4;omega
   ·exact ⟨k4,k1⟩
  clear hS hv hl hz hc hlen
  go_enter_defers Tryz.func38,Tryz.ntmps38
  go_wp2_with (first | (go_at_call 69;(with_reducible refine CB.mono ?_);rintro x w2 ⟨rfl,hB2⟩) | (go_at_call 70;(with_reducible refine (BD w2 (B2 hB2)).mono ?_);rintro x w4 ⟨rfl,hB4⟩))
  have hB5:=btr hB2 hB4
  obtain ⟨e0,e1⟩:=stwo hB5
  refine leaves_cons (f:=68) (args:=#[.pointer (some ⟨w.heap.size,0,none⟩),.pointer (some ⟨w.heap.size+1,0,none⟩)]) (by simp) (by simp [go_sem]) ?_
  refine (scatch_it w.heap.size (w.heap.size+1) (0,1) _ _ _ (by omega) e0 e1).mono ?_
  rintro x u w3 ⟨rfl,rfl,k0,k1,hB3⟩
  have hbb:=B2 hB5
  simp [Leaves,settle,results,Tryz.results38,go_sem,k0,k1]
  exact hbb.trans (hB3 _ hbb.size (by omega) (by omega))
 ·rw [hc] at CA0
  have CB:=CA0.mono (fun e W' (h:CK true e∧_)=>show e=.returned (.tuple #[])∧_ from ⟨(by rcases h.1 with ⟨_,h⟩ | ⟨h,_⟩;exact h;cases h),h.2⟩)
  clear CA0
  have BD:∀w1,Below w.heap.size w w1→Calls Tryz.prog 70 #[.pointer (some ⟨w1.heap.size,0,none⟩),v,.int .i64 0] (w1.alloc (.cells #[.pointer none,.slice none 0 0,.string ⟨#[]⟩] 147)) fun e W'=>e=.returned (.tuple #[])∧Below w1.heap.size w1 W'∧w1.heap.size<W'.heap.size∧Calls Tryz.prog 71 #[.pointer (some ⟨w1.heap.size,0,none⟩)] W' fun e W''=>e=.returned (.string ⟨(bodyB rs.length 0 rs).toArray⟩)∧Below w1.heap.size w1 W'':=fun w1 h=>by
   have h1:WS w1 (w1.alloc (.cells #[.pointer none,.slice none 0 0,.string ⟨#[]⟩] 147)) w1.heap.size [] ⟨#[]⟩:=⟨bal (Below.refl _ _) _,Nat.le_refl _,_,_,bk_new _ _ _,.inl rfl,World.ownsRow_nil _ _ _ _⟩
   cases rs with
   | nil=>
    obtain ⟨a,c,vs,rfl,_⟩:=hS
    have bk:=bk_new w1 #[.pointer none,.slice none 0 0,.string ⟨#[]⟩] 147
    go_enter Tryz.func70,Tryz.ntmps70
    go_wp2
    go_loopg [1] 1 (fun g v0 wr=>g=1∧v0=.slice a 0 c∧wr=w1.alloc (.cells #[.pointer none,.slice none 0 0,.string ⟨#[]⟩] 147))
    case atStart=>exact ⟨rfl,rfl,rfl⟩
    case round=>
     obtain ⟨rfl,rfl,rfl⟩:=hrel
     go_wp2
     go_end0
     refine ⟨rfl,h1.below,bk.lt,(string_none _ _ _ _ bk).mono ?_⟩
     rintro e W' ⟨rfl,n,rfl⟩
     exact ⟨rfl,below_drewN h1.below n⟩
   | cons r rs=>
    refine (wbody_any ((r::rs).length+1) (r::rs).length (by omega) (r::rs) 0 v w1 _ w1.heap.size [] ⟨#[]⟩ (Nat.le_refl _) (by omega) hc (hS.below h) h1 (by simp) (hv.below h) hl hz).mono ?_
    rintro e W' ⟨l',k1,k2,k3,k4⟩
    rcases k4 with ⟨_,k5,k6⟩ | ⟨k4,_⟩
    ·rw [List.nil_append] at k6
     exact ⟨k5,k1,(k6.cell2).2.2,string_some w1 W' _ _ _ k6 body_ne hlen⟩
    ·rw [List.length_nil,Nat.zero_add] at k4;omega
  clear hS hv hl hz hc hlen
  generalize (bodyB rs.length 0 rs).toArray=TXT at *
  go_enter_defers Tryz.func38,Tryz.ntmps38
  go_wp2_with (first | (go_at_call 69;(with_reducible refine CB.mono ?_);rintro x w2 ⟨rfl,hB2⟩) | (go_at_call 70;(with_reducible refine (BD w2 (B2 hB2)).mono ?_);rintro x w4 ⟨rfl,hB4,hz4,hST⟩) | (go_at_call 71;(with_reducible refine hST.mono ?_);rintro x w5 ⟨rfl,hB5⟩;have hB6:=btr hB2 hB5;obtain ⟨e0,e1⟩:=stwo hB6;have f0:w5.cell? ⟨w.heap.size,0,none⟩=some (.string ⟨#[]⟩):=e0.cell 0;have f1:w5.cell? ⟨w.heap.size+1,0,none⟩=some (.int .i64 0):=e1.cell 0;have g0:=e0.free 0;have g1:=e1.free 0;have gl:=e1.lt))
  have hb3:=bset (bset (B2 hB6) w.heap.size 0 (.string ⟨TXT⟩) (by omega)) (w.heap.size+1) 0 (.int .i64 0) (by omega)
  have k0:=(e0.set 0 (.string ⟨TXT⟩)).far (c:=w.heap.size+1) (by omega) 0 (.int .i64 0)
  have k1:=(e1.far (c:=w.heap.size) (by omega) 0 (.string ⟨TXT⟩)).set 0 (.int .i64 0)
  refine leaves_cons (f:=68) (args:=#[.pointer (some ⟨w.heap.size,0,none⟩),.pointer (some ⟨w.heap.size+1,0,none⟩)]) (by simp) (by simp [go_sem]) ?_
  refine (scatch_idle w.heap.size (w.heap.size+1) _).mono ?_
  rintro x u w3 ⟨rfl,rfl,hB3⟩
  have m0:w3.cell? ⟨w.heap.size,0,none⟩=some (.string ⟨TXT⟩):=BK.cell ((hB3.block _ k0.lt).trans k0) 0
  have m1:w3.cell? ⟨w.heap.size+1,0,none⟩=some (.int .i64 0):=BK.cell ((hB3.block _ k1.lt).trans k1) 0
  have hBF:=btr hb3 hB3
  clear hb3 k0 k1 hB3
  simp [Leaves,settle,results,Tryz.results38,go_sem,m0,m1]
  exact hBF
end Go.Proofs.YtdjfpghgklkejaaGreatDoor
namespace Go.Proofs.YtdjfpghgklkejaaGreatDoor
open Go.RowKit Go.Sort
theorem compact_len (l : List Int) : ((Lib.compact l).length < l.length) ↔ ∃ j, j + 1 < l.length ∧ l[j + 1]! = l[j]! := by
  unfold Lib.compact Lib.compactUpTo
  rw [List.length_map]
  have h0 : (List.range l.length).length = l.length := List.length_range
  have h1 : ((List.range l.length).filter (Lib.keeps l.toArray)).length ≤ l.length := by
    have := List.length_filter_le (Lib.keeps l.toArray) (List.range l.length)
    omega
  have h2 : ((List.range l.length).filter (Lib.keeps l.toArray)).length = l.length ↔ ∀ j, j < l.length → Lib.keeps l.toArray j = true := by
    have := List.length_filter_eq_length_iff (p := Lib.keeps l.toArray) (l := List.range l.length)
    rw [h0] at this
    rw [this]
    simp
  constructor
  · intro h
    refine Classical.byContradiction fun hn => ?_
    have : ((List.range l.length).filter (Lib.keeps l.toArray)).length = l.length := h2.2 fun j hj => by
      unfold Lib.keeps
      rw [decide_eq_true_iff]
      rcases j with _ | j
      · exact .inl rfl
      · refine .inr fun e => hn ⟨j, hj, ?_⟩
        simpa using e
    omega
  · rintro ⟨j, hj, e⟩
    refine Nat.lt_of_le_of_ne h1 fun he => ?_
    have := h2.1 he (j + 1) hj
    unfold Lib.keeps at this
    rw [decide_eq_true_iff] at this
    rcases this with h | h
    · omega
    · exact h (by simpa using e)
theorem sorted_twice {l : List Int} (hs : l.Pairwise (· ≤ ·)) : (∃ j, j + 1 < l.length ∧ l[j + 1]! = l[j]!) ↔ ¬ l.Nodup := by
  rw [List.pairwise_iff_getElem] at hs
  constructor
  · rintro ⟨j, hj, e⟩ hn
    unfold List.Nodup at hn
    rw [List.pairwise_iff_getElem] at hn
    have := hn j (j + 1) (by omega) hj (by omega)
    rw [getElem!_pos l (j + 1) hj, getElem!_pos l j (by omega)] at e
    exact this e.symm
  · intro hn
    refine Classical.byContradiction fun hx => hn ?_
    unfold List.Nodup
    rw [List.pairwise_iff_getElem]
    intro i j hi hj hij e
    have h1 := hs i (i + 1) hi (by omega) (by omega)
    have h2 : l[i + 1]'(by omega) ≤ l[j] := by
      rcases Nat.eq_or_lt_of_le (show i + 1 ≤ j by omega) with h | h
      · subst h; exact Int.le_refl _
      · exact hs (i + 1) j (by omega) hj h
    refine hx ⟨i, by omega, ?_⟩
    rw [getElem!_pos l (i + 1) (by omega), getElem!_pos l i hi]
    omega
theorem twice_iff (l : List Int) : ((Lib.compact (l.mergeSort fun x y => decide (x ≤ y))).length < l.length) ↔ ¬ l.Nodup := by
  have hp : (l.mergeSort fun x y => decide (x ≤ y)).Perm l := List.mergeSort_perm l _
  have hs : (l.mergeSort fun x y => decide (x ≤ y)).Pairwise (· ≤ ·) := by
    have := List.pairwise_mergeSort (le := fun x y : Int => decide (x ≤ y)) (fun a b c => by simp only [decide_eq_true_eq]; omega) (fun a b => by simp only [Bool.or_eq_true, decide_eq_true_eq]; omega) l
    exact this.imp fun h => by simpa using h
  have hl := hp.length_eq
  rw [← hl, compact_len, sorted_twice hs, hp.nodup_iff]
set_option maxHeartbeats 4000000 in
set_option maxRecDepth 100000 in
theorem twice_tail (n : Nat) (a : Option Addr) (c : Nat) (l : List Int) (w : World) (hn : n ≤ 6000000000000) (hl : l.length = n)
    (hclone : Calls Tryz.prog 162 #[.slice a n c] w fun e w' => ∃ v', e = .returned v' ∧ w'.ownsRow w.heap.size 3 1 v' n (l.map (Value.int .i64)) ∧ v' ≠ .slice none 0 0 ∧ Below w.heap.size w w') :
    Calls Tryz.prog 141 #[.slice a n c] w fun e w' => e = .returned (.bool (decide (¬ l.Nodup))) ∧ Below w.heap.size w w' := by
  have HT : Hid (decide ((Lib.compact (l.mergeSort fun x y => decide (x ≤ y))).length < n) = decide (¬ l.Nodup)) := by
    rw [← hl]
    exact decide_eq_decide.2 (twice_iff l)
  go_enter Tryz.func141, Tryz.ntmps141
  go_wp2_with (first
    | (go_at_call 162; refine hclone.mono ?_; rintro e w1 ⟨v1, rfl, hown, hnn, hbel⟩
       obtain ⟨g, cap, rfl, hbg, hgl, hncap, hcm, hlen, hH⟩ := Lib.holds_of_ownsRow hown hnn
       have hsort := Tryz.slices_Sort_int g 0 cap l w1 hH hgl (by omega)
       rw [hlen] at hsort
       have X : Hid (Below w.heap.size w w1 ∧ w.heap.size ≤ g ∧ g < w1.heap.size ∧ n ≤ cap ∧ l.length = n ∧ Holds (Value.int .i64) w1 g 0 l.toArray) := ⟨hbel, hbg, hgl, hncap, hlen, hH⟩
       clear hown hbel hH hnn hclone)
    | (go_at_call 163; refine hsort.mono ?_; rintro e w2 ⟨rfl, nn, os, hw2⟩
       have hl2 : (l.mergeSort fun x y => decide (x ≤ y)).length = n := by rw [List.length_mergeSort]; exact X.out.2.2.2.2.1
       have hH2 : Holds (Value.int .i64) w2 g 0 (l.mergeSort fun x y => decide (x ≤ y)).toArray := by
         rw [hw2]
         exact holds_grow _ _ os g 0 _ (by simpa [putRow, mapBlock, Sort.ahead] using X.out.2.2.1) (holds_putRow _ _ g 0 _ _ (holds_ahead _ w1 nn g 0 _ X.out.2.2.2.2.2) (by simp))
       have hB2 : Hid (Below w.heap.size w w2) := by
         rw [hw2]
         have h1 := Lib.below_putRow (enc := Value.int .i64) (q := nn) (d := (l.mergeSort fun x y => decide (x ≤ y)).toArray) X.out.1 X.out.2.1
         exact ⟨h1.os, h1.tape, h1.output, Nat.le_trans h1.size (by simp [grow]), fun k hk => by
           rw [← h1.block k hk]
           have := h1.size
           simp only [grow]
           rw [Array.getElem?_append_left (by omega)]⟩
       have hcomp := Tryz.slices_Compact_int g 0 cap (l.mergeSort fun x y => decide (x ≤ y)) w2 hH2 (by omega) (by have := X.out.2.2.2.1; omega)
       rw [hl2] at hcomp
       clear hH2 hsort hw2)
    | (go_at_call 164; refine hcomp.mono ?_; rintro e w3 ⟨rfl, q, hw3⟩
       have hB3 : Hid (Below w.heap.size w w3) := by rw [hw3]; exact Lib.below_putRow hB2.out X.out.2.1
       clear hw3 hcomp hB2))
  all_goals
    go_ret
    exact ⟨by simpa using HT.out, by first | exact hB3.out | exact below_drew hB3.out⟩
set_option maxHeartbeats 1000000 in
theorem twiceF_any (l : List Int) (a : Option Addr) (c : Nat) (w : World) (hq : QS w a c l) (hl : l.length ≤ 6000000000000) : Calls Tryz.prog 141 #[.slice a l.length c] w fun e w' => e = .returned (.bool (decide (¬ l.Nodup))) ∧ Below w.heap.size w w' := by
  rcases Nat.eq_zero_or_pos l.length with h0 | h0
  · have e : l = [] := List.length_eq_zero_iff.1 h0
    subst e
    cases a with
    | some a => exact twice_tail 0 (some a) c [] w (by omega) rfl (Tryz.slices_Clone_int_zero a c w)
    | none =>
      have C1 := fun w => Tryz.slices_Clone_int_nil 0 c w
      have C2 := fun w => Tryz.slices_Sort_int_none none 0 w
      have C3 := fun w => Tryz.slices_Compact_int_empty none 0 w
      have e2 : ([] : List Int).length = 0 := rfl
      rw [e2]
      go_enter Tryz.func141, Tryz.ntmps141
      go_wp2_with (first
        | (go_at_call 162; refine (C1 _).mono ?_; rintro e w1 ⟨rfl, rfl⟩)
        | (go_at_call 163; refine (C2 _).mono ?_; rintro e w1 ⟨rfl, rfl⟩)
        | (go_at_call 164; refine (C3 _).mono ?_; rintro e w1 ⟨rfl, rfl⟩))
      all_goals
        go_ret
        exact ⟨by simp, by first | exact Below.refl _ _ | exact below_drew (Below.refl _ _)⟩
  · obtain ⟨b, o, rfl, r⟩ := hq.at_ 0 h0
    have h := Tryz.slices_Clone_int b o l.length c l w (Nat.le_refl _) (by omega) (fun j hj => by rw [r.c j hj, List.getD_eq_getElem?_getD, List.getElem?_eq_getElem hj]; rfl)
    rw [List.take_length] at h
    exact twice_tail l.length _ c l w hl rfl h
end Go.Proofs.YtdjfpghgklkejaaGreatDoor
namespace Go.Proofs.YtdjfpghgklkejaaGreatDoor
open Go.RowKit Go.Sort
theorem LK.depth {w0 W:World} {lb mb N:Nat} {hi:HG} {en:En} {pl:Int} (h:LK w0 W lb mb hi N en pl) (d:Nat):LK w0 (W.setCell ⟨lb,4,none⟩ (.int .i64 (d:Nat))) lb mb hi N ⟨en.nm,en.q,en.b,en.pr,d⟩ pl:=by
 have g:Fr W (W.setCell ⟨lb,4,none⟩ (.int .i64 (d:Nat))) lb (lb+1):=(Fr.refl W lb (lb+1)).set lb 4 _ (.inl ⟨Nat.le_refl _,Nat.lt_succ_self _⟩)
 have hx:∀b,hi.G b→b<lb∨lb+1≤b:=fun b hb=>.inr (by have:=hi.le b hb;have:=h.o3;omega)
 obtain ⟨pv,k1,k2⟩:=h.box
 have hmb:(W.setCell ⟨lb,4,none⟩ (.int .i64 (d:Nat))).heap[mb]?=W.heap[mb]?:=g.block _ (Nat.lt_of_lt_of_le h.o4 h.o5) (by have:=h.o6;omega)
 exact ⟨below_fr h.below g h.o1,⟨pv,k1.set 4 (.int .i64 (d:Nat)),k2.far g hx⟩,h.nm.far g hx hmb,h.o1,h.o2,h.o3,h.o4,Nat.le_trans h.o5 g.size,h.o6,fun b hb=>h.up b (Nat.le_trans g.size hb)⟩
theorem below_both {W w5:World} (h:Below W.heap.size W w5) (lb k:Nat) (u:Value):Below (W.setCell ⟨lb,k,none⟩ u).heap.size (W.setCell ⟨lb,k,none⟩ u) (w5.setCell ⟨lb,k,none⟩ u):=by
 have hs:(W.setCell ⟨lb,k,none⟩ u).heap.size=W.heap.size:=by simp [World.setCell]
 refine ⟨h.os,h.tape,h.output,by simpa [World.setCell] using h.size,fun j hj=>?_⟩
 rw [hs] at hj
 have e:=h.block j hj
 simp only [World.setCell,Array.getElem?_modify,e]
theorem use_fin {w0 W W1 W':World} {lb mb N:Nat} {hi:HG} {en en1:En} {pl:Int} {g:Bool} {p:PP} {L:List TO} (H1:LK w0 W1 lb mb hi N en1 pl) (hF:Fr W W1 w0.heap.size hi.h) (hB:Below W1.heap.size W1 W') (hok:EnOk en1) (hnx:Nx (en,g) en1) (hp:RowP W' hi (nq g en1) p L) :
  RowO w0 W W' lb mb hi N (en,g) (.ok (en1,L)) (.returned (.tuple #[ppV p,.int .i64 0])):=⟨hF.blw hB,.inr ⟨en1,L,p,pl,N,rfl,rfl,H1.fr hB,Nat.le_refl _,hok,hnx,hp⟩⟩
theorem use_bad {w0 W W1 W':World} {lb mb N M:Nat} {hi:HG} {en1:En} {pl:Int} {pr:En × Bool} {p:PP} {e:Nat} (H1:LK w0 W1 lb mb hi N en1 pl) (hF:Fr W W1 w0.heap.size hi.h) (hB:Below W1.heap.size W1 W') (he:e≠0) (hNM:N≤M:=by omega) :
  RowO w0 W W' lb mb hi M pr (.error (pl,e)) (.returned (.tuple #[ppV p,.int .i64 (e:Nat)])):=⟨hF.blw hB,.inl ⟨(pl,e),rfl,⟨p,rfl⟩,he,(H1.fr hB).le hNM⟩⟩
theorem rowP_own {W:World} {hi:HG} {nn:Nat} {sd:Sd} {nm:ByteArray} {qs:List Int} {qa:Option Addr} {qc:Nat} (hq:QSh W hi qa qc qs) (hl:qs.length≤6000000000000) (hnm:nm.size≤281474976710656) (hne:qs≠[]) (hmv:sd.m<18446744073709551616∧sd.v<18446744073709551616) (hj:∀j∈qs,0≤j∧j<(nn:Int)) :
  RowP W hi nn ⟨sd,1,nm,qs,qa,qc,0,0,none,0,0⟩ [⟨1,nm,qs,0,stO sd⟩]:=
 rowP_one (p:=⟨sd,1,nm,qs,qa,qc,0,0,none,0,0⟩) hq (by show (1:Int)≠0;decide) rfl rfl ⟨hl,hnm,by show (0:Int)≤_;decide,fun _=>hne,hmv,hj⟩
theorem rowP_use {W:World} {hi:HG} {nn z:Nat} {sd:Sd} {qs:List Int} {qa:Option Addr} {qc:Nat} {ba:Option Addr} {bk bc:Nat} {L' L:List TO} (hq:QSh W hi qa qc qs) (hz:qs.length=z) (hl:qs.length≤6000000000000) (hmv:sd.m<18446744073709551616∧sd.v<18446744073709551616) (hj:∀j∈qs,0≤j∧j<(nn:Int)) (hp:PL W hi z (.slice ba bk bc) L') (ht:T4 L' L) :
  RowP W hi nn ⟨sd,0,⟨#[]⟩,qs,qa,qc,0,1,ba,bk,bc⟩ (L.map (subT qs (stO sd))):=by
 obtain ⟨a',k',c',e,_,hz'⟩:=hp.shape
 cases e
 have hm:mean ⟨sd,0,⟨#[]⟩,qs,qa,qc,0,1,ba,bk,bc⟩ L'=L'.map (subT qs (stO sd)):=by
  show (if (0:Int)≠0 then _ else [])++(List.replicate (1:Int).toNat (L'.map (subT qs (stO sd)))).flatten=_
  simp
 refine ⟨L',_,hq,?_,hm.symm,ht.map _,?_,⟨hl,by show 0≤281474976710656;exact Nat.zero_le _,by show (1:Int)≤_;decide,fun h=>absurd rfl h,hmv,hj⟩,uns_sub hp.uns _ _⟩
 ·refine hp.mono ?_
  show z≤nbq nn qs
  unfold nbq
  split
  ·rename_i h
   rw [h] at hz
   simp at hz
   omega
  ·omega
 ·rw [List.map_eq_nil_iff]
  show (0:Int)=0∧((1:Int)≤0∨bk=0)↔L'=[]
  rw [←hz']
  constructor
  ·rintro ⟨_,h | h⟩
   ·exact absurd h (by decide)
   ·exact h
  ·exact fun h=>⟨rfl,.inr h⟩
abbrev nsF (ns:List Nat) (k:Nat):Nat→Value:=fun i=>.int .i64 (if i<k then ((ns.getD i 0:Nat):Int) else 0)
theorem ns_next {W:World} {g n k:Nat} {ns:List Nat} (hk:ns.length=k) (h:W.rowIs g 3 n (nsF ns k)) (x:Nat):(W.setCell ⟨g,k,none⟩ (.int .i64 (x:Nat))).rowIs g 3 n (nsF (ns++[x]) (k+1)):=by
 refine (h.set k (.int .i64 (x:Nat))).congr fun i _=>?_
 show (if i=k then Value.int .i64 (x:Nat) else .int .i64 (if i<k then ((ns.getD i 0:Nat):Int) else 0))=.int .i64 (if i<k+1 then (((ns++[x]).getD i 0:Nat):Int) else 0)
 by_cases e:i=k
 ·rw [if_pos e,if_pos (by omega),e,←hk]
  simp
 ·rw [if_neg e]
  by_cases e2:i<k
  ·rw [if_pos e2,if_pos (by omega),List.getD_eq_getElem?_getD,List.getD_eq_getElem?_getD,List.getElem?_append_left (by omega)]
  ·rw [if_neg e2,if_neg (by omega)]
theorem ns_qs {W:World} {g n:Nat} {ns:List Nat} (hn:ns.length=n) (h:W.rowIs g 3 n (nsF ns n)):QS W (some ⟨g,0,none⟩) n (ilN ns):=by
 have hl:(ilN ns).length=n:=by unfold ilN;simp [hn]
 refine ⟨by omega,fun k hk=>⟨g,0,rfl,fun j hj=>?_,h.lt⟩⟩
 rw [Nat.zero_add,h.cell (by omega)]
 show some (Value.int .i64 (if j<n then ((ns.getD j 0:Nat):Int) else 0))=_
 rw [if_pos (by omega),List.getD_eq_getElem?_getD,List.getElem?_eq_getElem (by omega)]
 simp [ilN]
structure UB (W V:World) (r rs ms:Array Value):Prop where
 below:Below W.heap.size W V
 b1:BK V W.heap.size r 79
 b2:BK V (W.heap.size+1) rs 69
 b3:BK V (W.heap.size+1+1) pzC 113
 b4:BK V (W.heap.size+1+1+1) ms 109
 size:W.heap.size+1+1+1+1≤V.heap.size
theorem UB.on {W V V':World} {r rs ms:Array Value} (h:UB W V r rs ms) (g:Below V.heap.size V V'):UB W V' r rs ms:=
 ⟨btr h.below g,(g.block _ h.b1.lt).trans h.b1,(g.block _ h.b2.lt).trans h.b2,(g.block _ h.b3.lt).trans h.b3,(g.block _ h.b4.lt).trans h.b4,Nat.le_trans h.size g.size⟩
theorem UB.row {W V:World} {r rs ms:Array Value} (h:UB W V r rs ms) (k:Nat) (u:Value) {b:Nat} (hb:W.heap.size+1+1+1+1≤b):UB W (V.setCell ⟨b,k,none⟩ u) r rs ms:=
 ⟨bset h.below _ _ _ (by omega),h.b1.far (by omega) _ _,h.b2.far (by omega) _ _,h.b3.far (by omega) _ _,h.b4.far (by omega) _ _,by simpa [World.setCell] using h.size⟩
structure UL (W wr:World) (r rs ms:Array Value) (en:En) (g:Bool) (l:List Ar) (gb k:Nat) (ns:List Nat):Prop where
 ub:UB W wr r rs ms
 row:wr.rowIs gb 3 l.length (nsF ns k)
 qu:quL en g (l.take k)=.ok ns
 gb_:W.heap.size+1+1+1+1≤gb
theorem il_len (ns:List Nat):(ilN ns).length=ns.length:=by unfold ilN;simp
theorem use_qs {w0 W W1 w3:World} {lb mb N:Nat} {hi:HG} {en1:En} {pl:Int} {ns:List Nat} {gb:Nat} (H1:LK w0 W1 lb mb hi N en1 pl) (hs:W1.heap.size=W.heap.size) (hrow:w3.rowIs gb 3 ns.length (nsF ns ns.length)) (hgb:W.heap.size+1+1+1+1≤gb) (us:List Value):QSh (w3.setCells (W.heap.size+1+1) 0 us) hi (some ⟨gb,0,none⟩) (ilN ns).length (ilN ns):=by
 rw [il_len]
 exact ⟨ns_qs rfl (hrow.of_block ((fr_sets (W.heap.size+1+1) us 0 w3).1.block gb hrow.lt (.inr (by omega)))),fun b o e _=>by cases e;exact H1.up _ (by omega)⟩
theorem use_own {w0 W W1 w3:World} {lb mb N:Nat} {hi:HG} {en en1:En} {pl:Int} {g:Bool} {sd:Sd} {ns:List Nat} {gb:Nat} (H1:LK w0 W1 lb mb hi N en1 pl) (hF:Fr W W1 w0.heap.size hi.h) (hs:W1.heap.size=W.heap.size) (hB:Below W1.heap.size W1 w3) (hrow:w3.rowIs gb 3 ns.length (nsF ns ns.length)) (hgb:W.heap.size+1+1+1+1≤gb) (hlen:ns.length≤6000000000000) (hmv:sd.m<18446744073709551616∧sd.v<18446744073709551616) (hj:∀j∈ilN ns,0≤j∧j<(nq g en1:Int)) (hok:EnOk en1) (hnx:Nx (en,g) en1) {nm:ByteArray} (hnm:nm.size≤281474976710656) (h0:0<ns.length) :
  RowO w0 W (w3.setCells (W.heap.size+1+1) 0 (ppc ⟨sd,1,nm,ilN ns,some ⟨gb,0,none⟩,(ilN ns).length,0,0,none,0,0⟩)) lb mb hi N (en,g) (.ok (en1,[⟨1,nm,ilN ns,0,stO sd⟩])) (.returned (.tuple #[ppV ⟨sd,1,nm,ilN ns,some ⟨gb,0,none⟩,(ilN ns).length,0,0,none,0,0⟩,.int .i64 0])):=
 use_fin (W1:=W1) H1 hF (below_sets hB (by omega) _) hok hnx (rowP_own (use_qs H1 hs hrow hgb _) (by rw [il_len];exact hlen) hnm (fun e=>by have h1:=il_len ns;rw [e] at h1;simp at h1;omega) hmv hj)
theorem use_def {w0 W W1 w3:World} {lb mb N:Nat} {hi:HG} {en en1:En} {pl:Int} {g:Bool} {sd:Sd} {ns:List Nat} {gb:Nat} (H1:LK w0 W1 lb mb hi N en1 pl) (hF:Fr W W1 w0.heap.size hi.h) (hs:W1.heap.size=W.heap.size) (hB:Below W1.heap.size W1 w3) (hrow:w3.rowIs gb 3 ns.length (nsF ns ns.length)) (hgb:W.heap.size+1+1+1+1≤gb) (hlen:ns.length≤6000000000000) (hmv:sd.m<18446744073709551616∧sd.v<18446744073709551616) (hj:∀j∈ilN ns,0≤j∧j<(nq g en1:Int)) (hok:EnOk en1) (hnx:Nx (en,g) en1) {ba:Option Addr} {bk bc z:Nat} {L' L:List TO} (hz:ns.length=z) (hp:PL W1 hi z (.slice ba bk bc) L') (ht:T4 L' L) :
  RowO w0 W (w3.setCells (W.heap.size+1+1) 0 (ppc ⟨sd,0,⟨#[]⟩,ilN ns,some ⟨gb,0,none⟩,(ilN ns).length,0,1,ba,bk,bc⟩)) lb mb hi N (en,g) (.ok (en1,L.map (subT (ilN ns) (stO sd)))) (.returned (.tuple #[ppV ⟨sd,0,⟨#[]⟩,ilN ns,some ⟨gb,0,none⟩,(ilN ns).length,0,1,ba,bk,bc⟩,.int .i64 0])):=by
 have hB7:=below_sets (b:=W.heap.size+1+1) hB (by omega) (ppc ⟨sd,0,⟨#[]⟩,ilN ns,some ⟨gb,0,none⟩,(ilN ns).length,0,1,ba,bk,bc⟩)
 exact use_fin (W1:=W1) H1 hF hB7 hok hnx (rowP_use (use_qs H1 hs hrow hgb _) ((il_len ns).trans hz) (by rw [il_len];exact hlen) hmv hj (hp.far (lo':=0) (hi':=0) (fr_of_below hB7) (fun _ _=>.inr (Nat.zero_le _))) ht)
end Go.Proofs.YtdjfpghgklkejaaGreatDoor
