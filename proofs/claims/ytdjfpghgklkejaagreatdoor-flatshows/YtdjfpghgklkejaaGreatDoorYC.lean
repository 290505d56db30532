/-
  Put together of: LP9 LPA.
-/
import Derived.Test.YtdjfpghgklkejaaGreatDoorXI
import Derived.Test.YtdjfpghgklkejaaGreatDoorXJ
import Derived.Test.YtdjfpghgklkejaaGreatDoorXM
import Derived.Test.YtdjfpghgklkejaaGreatDoorXL
import Derived.Test.YtdjfpghgklkejaaGreatDoorXK
import Derived.Recover
namespace Go.Proofs.YtdjfpghgklkejaaGreatDoor
open Go.RowKit Go.Sort
theorem stmt_none (n:Int) (rec:Nat→List Tk→Except Fa (List Rw × List Tk)) (w W:World) (rb:Nat) (ts:Value) (l:List Tk) (i:Nat) (rs:List Rw) (d:Nat) (H:RS w W rb ts l n i rs) (hi:¬i<l.length) :
  Calls Tryz.prog 112 #[.pointer (some ⟨rb,0,none⟩),.int .i64 d] W (Did w rb ts l n rs (stmtP n rec d (l.drop i))):=by
 obtain ⟨v,hR,hO,hcnt⟩:=H
 have TK:=take_no w W rb ts l n i _ hR hi
 have HE:∀W',GB W W' rb→Below w.heap.size w W':=fun W' g=>hR.below.grown g hR.below.size (fun k e=>by cases e;exact hR.ge)
 rw [drop_out hi]
 clear hR hO
 unfold Did
 go_enter Tryz.func112,Tryz.ntmps112
 go_wp2_with (go_at_call 145;(with_reducible refine TK.mono ?_);rintro e w1 ⟨rfl,hG⟩)
 exact ⟨rfl,HE _ hG,.inl ⟨_,rfl,rfl⟩⟩
theorem stmt_any (n:Int) (rec:Nat→List Tk→Except Fa (List Rw × List Tk)) (w W:World) (rb:Nat) (ts:Value) (l:List Tk) (i:Nat) (rs:List Rw) (d:Nat) (H:RS w W rb ts l n i rs) (hB:BodyOk n rec (l.drop i).length) (hd:d≤32) :
  Calls Tryz.prog 112 #[.pointer (some ⟨rb,0,none⟩),.int .i64 d] W (Did w rb ts l n rs (stmtP n rec d (l.drop i))):=by
 by_cases hi:i<l.length
 ·cases ho:ownB l[i].t with
  | false=>exact stmt_use n rec w W rb ts l i rs d H hi ho
  | true=>
   have hk:kindK l[i]=l[i].t:=by unfold kindK;rw [if_pos ho]
   have hs:∀s,shp l[i].t=some s→shK l[i]=s:=fun s h=>by unfold shK;rw [hk,h];rfl
   rcases shp_cases l[i].t with ⟨_,h,_⟩ | ⟨_,h,_⟩ | ⟨_,h,_⟩ | ⟨_,h,_⟩ | ⟨_,h,_⟩ | ⟨_,h,_⟩ | ⟨_,h,_⟩ | ⟨_,_,h⟩ | ⟨_,_,_,_,_,_,_,_,_,h⟩
   ·exact stmt_own_tt n rec w W rb ts l i rs d 0 false false H hB hd hi ho (hs _ h) (.inr ⟨by omega,by omega⟩)
   ·exact stmt_own_tt n rec w W rb ts l i rs d 0 false false H hB hd hi ho (hs _ h) (.inr ⟨by omega,by omega⟩)
   ·exact stmt_own_tf n rec w W rb ts l i rs d (-1) false true H hB hd hi ho (hs _ h) (.inl rfl)
   ·exact stmt_own_ft n rec w W rb ts l i rs d 0 false true H hB hd hi ho (hs _ h) (.inr ⟨by omega,by omega⟩)
   ·exact stmt_own_tt n rec w W rb ts l i rs d 0 false true H hB hd hi ho (hs _ h) (.inr ⟨by omega,by omega⟩)
   ·exact stmt_own_ff n rec w W rb ts l i rs d 2 true false H hB hd hi ho (hs _ h) (.inr ⟨by omega,by omega⟩)
   ·exact stmt_own_ff n rec w W rb ts l i rs d 1 true false H hB hd hi ho (hs _ h) (.inr ⟨by omega,by omega⟩)
   ·rw [ho] at h;cases h
   ·rw [ho] at h;cases h
 ·exact stmt_none n rec w W rb ts l i rs d H hi
theorem BodyOk.less {n:Int} {rec:Nat→List Tk→Except Fa (List Rw × List Tk)} {N N':Nat} (h:N'≤N) (hB:BodyOk n rec N):BodyOk n rec N':=fun w W rb ts l i rs d t H hl hd=>hB w W rb ts l i rs d t H (Nat.lt_of_lt_of_le hl h) hd
def preR (rs:List Rw) (r:Except Fa (List Rw × List Tk)):Except Fa (List Rw × List Tk):=match r with | .error e=>.error e | .ok (x,y)=>.ok (rs++x,y)
theorem stmt_short {n:Int} {rec:Nat→List Tk→Except Fa (List Rw × List Tk)} {d:Nat} {l r:List Tk} {rs:List Rw} (hrec:∀d l r rs,rec d l=.ok (rs,r)→r.length≤l.length) (h:stmtP n rec d l=.ok (rs,r)):r.length<l.length:=by
 cases l with
 | nil=>cases h
 | cons t u=>
  have h0:=restK_len t u
  cases hm:midP n (shK t) (restK t u) with
  | error q=>rw [stmt_mid hm] at h;cases h
  | ok y=>
   obtain ⟨⟨nm,aa,x,p⟩,l4⟩:=y
   have h1:=midP_len hm
   cases hb:(shK t).body with
   | false=>
    rw [stmt_flat hm hb] at h
    cases h
    simp only [List.length_cons]
    omega
   | true=>
    cases h5:bodyP rec d p l4 with
    | error q=>rw [stmt_be hm hb h5] at h;cases h
    | ok y=>
     obtain ⟨rs2,l5⟩:=y
     rw [stmt_bo hm hb h5] at h
     cases h
     unfold bodyP at h5
     by_cases hd:32≤d
     ·rw [if_pos hd] at h5;cases h5
     ·rw [if_neg hd] at h5
      cases hr:rec (d+1) l4 with
      | error q=>rw [hr] at h5;cases h5
      | ok y=>
       obtain ⟨rs3,l6⟩:=y
       rw [hr] at h5
       cases h5
       have:=hrec _ _ _ _ hr
       simp only [List.length_cons,List.length_tail]
       omega
theorem stmts_short {n:Int}:∀(f d:Nat) (l r:List Tk) (rs:List Rw),stmtsP n f d l=.ok (rs,r)→r.length≤l.length∧seesB wShut r=true:=by
 intro f
 induction f with
 | zero=>intro d l r rs h;cases h
 | succ f ih=>
  intro d l r rs h
  unfold stmtsP at h
  by_cases hs:seesB wShut l=true
  ·rw [if_pos hs] at h;cases h;exact ⟨Nat.le_refl _,hs⟩
  ·rw [if_neg hs] at h
   cases h1:stmtP n (stmtsP n f) d l with
   | error q=>rw [h1] at h;cases h
   | ok y=>
    obtain ⟨rs1,r1⟩:=y
    rw [h1] at h
    simp only at h
    cases h2:stmtsP n f d r1 with
    | error q=>rw [h2] at h;cases h
    | ok y=>
     obtain ⟨rs2,r2⟩:=y
     rw [h2] at h
     cases h
     have g1:=stmt_short (fun d l r rs h=>(ih d l r rs h).1) h1
     have g2:=ih _ _ _ _ h2
     exact ⟨by omega,g2.2⟩
set_option maxHeartbeats 2000000 in
theorem body_any (n:Int):∀(F:Nat),BodyOk n (stmtsP n F) F:=by
 intro F
 induction F using Nat.strongRecOn with
 | _ F ih=>
  intro w W rb ts l i rs d t H hlen hd
  by_cases hd2:32≤d
  ·obtain rfl:d=32:=by omega
   have e:bodyP (stmtsP n F) 32 t.p (l.drop i)=.error (t.p,102):=by unfold bodyP;rw [if_pos hd2]
   rw [e]
   obtain ⟨v,hR,_,_⟩:=H
   have hb:=hR.below
   clear e hR ih
   unfold Did
   go_enter Tryz.func152,Tryz.ntmps152
   go_wp2
   exact ⟨rfl,bal hb _,.inl ⟨_,rfl,rfl⟩⟩
  obtain ⟨R0,hR0⟩:∃R0,R0=bodyP (stmtsP n F) d t.p (l.drop i):=⟨_,rfl⟩
  have HO:Hid (∀rs l5,stmtsP n F (d+1) (l.drop i)=.ok (rs,l5)→R0=.ok (rs,l5.tail)):=fun rs l5 h=>by rw [hR0];unfold bodyP;rw [if_neg hd2,h]
  have HE:Hid (∀q,stmtsP n F (d+1) (l.drop i)=.error q→R0=.error q):=fun q h=>by rw [hR0];unfold bodyP;rw [if_neg hd2,h]
  rw [←hR0]
  clear hR0
  have HI:Hid (∀f,f<F→BodyOk n (stmtsP n f) f):=ih
  have hg1:¬(32:Int)≤(d:Int):=by omega
  have H0:Hid (∀o,RS w (W.alloc o) rb ts l n i rs):=fun o=>by
   obtain ⟨v,hR,hO,hc⟩:=H
   exact ⟨v,hR.on (bal (Below.refl _ _) _),hO.below (bal (Below.refl _ _) _),hc⟩
  clear H ih
  unfold Did
  go_enter Tryz.func152,Tryz.ntmps152
  go_upto_region 3 with (fail)
  go_loopg [] F (fun g wr=>∃(rs1:List Rw) (j f0:Nat),f0=g∧f0≤F∧(l.drop j).length<f0∧Hid (stmtsP n F (d+1) (l.drop i)=preR rs1 (stmtsP n f0 (d+1) (l.drop j)))∧Hid (RS w wr rb ts l n j (rs++rs1)))
  case atStart=>exact ⟨[],i,F,rfl,Nat.le_refl _,hlen,by show _=_;cases stmtsP n F (d+1) (l.drop i) <;> simp [preR],by rw [List.append_nil];exact H0.out _⟩
  case round=>
   clear H0
   obtain ⟨rs1,j,f0,rfl,hfF,hfl,hP,hH⟩:=hrel
   obtain ⟨f,rfl⟩:∃f,f0=f+1:=⟨f0-1,by omega⟩
   have hB:=BodyOk.less (show (l.drop j).length≤f by omega) (HI.out f (by omega))
   obtain ⟨v,hR,hO,hc⟩:=hH.out
   have SE:=sees_any w wr rb ts l n j v wShut hR
   have hD:=fun m=>hR.on (below_drewN (Below.refl wr.heap.size wr) m)
   have hOD:=fun m=>hO.below (below_drewN (Below.refl wr.heap.size wr) m)
   cases hs:seesB wShut (l.drop j) with
   | true=>
    rw [hs] at SE
    obtain ⟨t1,r1,ht1,ht2⟩:=seesB_cons hs
    have EQ:Hid (stmtsP n F (d+1) (l.drop i)=.ok (rs1,t1::r1)):=by
     show _=_
     rw [hP.out]
     unfold stmtsP
     rw [if_pos hs,ht1]
     show Except.ok (rs1++[],t1::r1)=_
     rw [List.append_nil]
    have SG:∀m,Calls Tryz.prog 150 #[.pointer (some ⟨rb,0,none⟩),.string ⟨#[125]⟩] (wr.drewN m) fun e W''=>e=.returned (tv t1)∧GB (wr.drewN m) W'' rb∧∃j2,r1=l.drop j2∧RS0 w W'' rb ts l n j2 v:=fun m=>told_ok (by
     have:=sign_any' w (wr.drewN m) rb ts l n j v wShut (hD m)
     have e2:signP n wShut (l.drop j)=.ok (t1,r1):=by rw [ht1];simp only [signP,if_pos ht2]
     rwa [e2] at this)
    have hjl:=hR.le
    have hlj:(l.drop j).length=l.length-j:=List.length_drop
    have hlr:r1.length+1=(l.drop j).length:=by rw [ht1];rfl
    have hbk:=fun m=>(hD m).blk
    clear hP hs ht1 ht2 hB
    go_wp2_with (first
     | (go_at_call 165;(with_reducible refine SE.mono ?_);rintro e w1 ⟨rfl,m,rfl⟩)
     | (go_at_call 150;(with_reducible refine (SG m).mono ?_);rintro e w2 ⟨rfl,hG,j2,hj2,hR2⟩))
    go_end0
    refine ⟨hR2.below,.inr ⟨rs1,j2,by rw [HO.out _ _ EQ.out,←hj2];rfl,rfl,v,hR2,(hOD m).gb hG (hbk m),?_⟩⟩
    have e9:r1.length=l.length-j2:=by rw [hj2,List.length_drop]
    have:=hR2.le
    omega
   | false=>
    rw [hs] at SE
    have ST:=fun m=>stmt_any n (stmtsP n f) w (wr.drewN m) rb ts l j (rs++rs1) (d+1) ⟨v,hD m,hOD m,hc⟩ hB (by omega)
    have ES:stmtsP n (f+1) (d+1) (l.drop j)=match stmtP n (stmtsP n f) (d+1) (l.drop j) with | .error e=>.error e | .ok (rs,r)=>match stmtsP n f (d+1) r with | .error e=>.error e | .ok (rs2,r2)=>.ok (rs++rs2,r2):=by
     show (if seesB wShut (l.drop j)=true then _ else _)=_
     rw [hs]
     rfl
    cases h1:stmtP n (stmtsP n f) (d+1) (l.drop j) with
    | error q=>
     rw [h1] at ST ES
     have EQ:Hid (stmtsP n F (d+1) (l.drop i)=.error q):=by show _=_;rw [hP.out,ES];rfl
     have ST2:∀m,Calls Tryz.prog 112 #[.pointer (some ⟨rb,0,none⟩),.int .i64 ((d:Int)+1)] (wr.drewN m) fun e W'=>e=.panicked [flt q]∧Below w.heap.size w W':=fun m=>did_err (ST m)
     clear hP hs hB ES h1 ST
     go_wp2_with (first
      | (go_at_call 165;(with_reducible refine SE.mono ?_);rintro e w1 ⟨rfl,m,rfl⟩)
      | (go_at_call 112;(with_reducible refine (ST2 m).mono ?_);rintro e w2 ⟨rfl,hE⟩))
     exact ⟨rfl,hE,.inl ⟨q,HE.out _ EQ.out,rfl⟩⟩
    | ok y=>
     obtain ⟨rs2,r2⟩:=y
     rw [h1] at ST ES
     have hsh:=stmt_short (fun d l r rs h=>(stmts_short f d l r rs h).1) h1
     have EQ:Hid (stmtsP n F (d+1) (l.drop i)=preR (rs1++rs2) (stmtsP n f (d+1) r2)):=by
      show _=_
      rw [hP.out,ES]
      dsimp only
      cases stmtsP n f (d+1) r2 with
      | error e=>rfl
      | ok y=>show Except.ok (rs1++(rs2++y.1),y.2)=Except.ok (rs1++rs2++y.1,y.2);rw [List.append_assoc]
     have ST2:∀m,Calls Tryz.prog 112 #[.pointer (some ⟨rb,0,none⟩),.int .i64 ((d:Int)+1)] (wr.drewN m) fun e W'=>e=.returned (.tuple #[])∧Below w.heap.size w W'∧∃j,r2=l.drop j∧RS w W' rb ts l n j (rs++rs1++rs2):=fun m=>did_ok (ST m)
     clear hP hs hB ES h1 ST
     go_wp2_with (first
      | (go_at_call 165;(with_reducible refine SE.mono ?_);rintro e w1 ⟨rfl,m,rfl⟩)
      | (go_at_call 112;(with_reducible refine (ST2 m).mono ?_);rintro e w2 ⟨rfl,hE,j2,hj2,hR2⟩))
     go_roundg f
     case measure=>omega
     case rel=>exact ⟨rs1++rs2,j2,f,rfl,by omega,by rw [←hj2];omega,by rw [←hj2];exact EQ,by rw [←List.append_assoc];exact hR2⟩
def preQ (rs:List Rw) (r:Except Fa (List Rw)):Except Fa (List Rw):=match r with | .error e=>.error e | .ok x=>.ok (rs++x)
set_option maxHeartbeats 2000000 in
theorem program_any (w W:World) (rb:Nat) (ts:Value) (l:List Tk) (n:Int) (H:RS w W rb ts l n 0 []) :
  Calls Tryz.prog 61 #[.pointer (some ⟨rb,0,none⟩)] W fun e W'=>Below w.heap.size w W'∧((∃q,progP n (l.length+1) l=.error q∧e=.panicked [flt q])∨∃rs,progP n (l.length+1) l=.ok rs∧e=.returned (.tuple #[])∧RS w W' rb ts l n l.length rs):=by
 have H0:Hid (RS w W rb ts l n 0 []):=H
 obtain ⟨F,hF⟩:∃F,F=l.length+1:=⟨_,rfl⟩
 have HFF:Hid (F=l.length+1):=hF
 rw [←hF]
 clear H hF
 go_enter Tryz.func61,Tryz.ntmps61
 go_wp2
 go_loopg [] F (fun g wr=>∃(rs1:List Rw) (j f0:Nat),f0=g∧f0≤F∧(l.drop j).length<f0∧Hid (progP n F l=preQ rs1 (progP n f0 (l.drop j)))∧Hid (RS w wr rb ts l n j rs1))
 case atStart=>exact ⟨[],0,F,rfl,Nat.le_refl _,by rw [HFF.out];simp,by show _=_;cases h:progP n F l <;> simp [preQ,h],H0⟩
 case round=>
  clear H0
  obtain ⟨rs1,j,f0,rfl,hfF,hfl,hP,hH⟩:=hrel
  obtain ⟨f,rfl⟩:∃f,f0=f+1:=⟨f0-1,by omega⟩
  obtain ⟨v,hR,hO,hc⟩:=hH.out
  have hB:=BodyOk.less (show (l.drop j).length≤f by omega) (body_any n f)
  have hD:=fun m=>hR.on (below_drewN (Below.refl wr.heap.size wr) m)
  have hOD:=fun m=>hO.below (below_drewN (Below.refl wr.heap.size wr) m)
  have hlen:=hR.len
  have hrl:=hR.blk.lt
  have c0:wr.cell? ⟨rb,0,none⟩=some ts:=hR.blk.cell 0
  have c1:wr.cell? ⟨rb,1,none⟩=some (.int .i64 (j:Int)):=hR.blk.cell 1
  obtain ⟨ta,tc,rfl,htc,_⟩:=hR.tok
  by_cases hj:j<l.length
  ·have ST:=fun m=>stmt_any n (stmtsP n f) w (wr.drewN m) rb _ l j rs1 0 ⟨v,hD m,hOD m,hc⟩ hB (by omega)
   have ES:progP n (f+1) (l.drop j)=match stmtP n (stmtsP n f) 0 (l.drop j) with | .error e=>.error e | .ok (rs,r)=>match progP n f r with | .error e=>.error e | .ok rs2=>.ok (rs++rs2):=by
    rw [drop_at hj]
    rfl
   cases h1:stmtP n (stmtsP n f) 0 (l.drop j) with
   | error q=>
    rw [h1] at ST ES
    have EQ:Hid (progP n F l=.error q):=by show _=_;rw [hP.out,ES];rfl
    have ST2:∀m,Calls Tryz.prog 112 #[.pointer (some ⟨rb,0,none⟩),.int .i64 0] (wr.drewN m) fun e W'=>e=.panicked [flt q]∧Below w.heap.size w W':=fun m=>did_err (ST m)
    clear hP hB ES h1 ST
    go_upto_region 0 with (fail)
    go_quiet (fail)
    go_wp2_with (go_at_call 112;(with_reducible refine (ST2 _).mono ?_);rintro e w2 ⟨rfl,hE⟩)
    exact ⟨rfl,hE,.inl ⟨q,EQ.out,rfl⟩⟩
   | ok y=>
    obtain ⟨rs2,r2⟩:=y
    rw [h1] at ST ES
    have hsh:=stmt_short (fun d l r rs h=>(stmts_short f d l r rs h).1) h1
    have EQ:Hid (progP n F l=preQ (rs1++rs2) (progP n f r2)):=by
     show _=_
     rw [hP.out,ES]
     dsimp only
     cases progP n f r2 with
     | error e=>rfl
     | ok y=>show Except.ok (rs1++(rs2++y))=Except.ok (rs1++rs2++y);rw [List.append_assoc]
    have ST2:∀m,Calls Tryz.prog 112 #[.pointer (some ⟨rb,0,none⟩),.int .i64 0] (wr.drewN m) fun e W'=>e=.returned (.tuple #[])∧Below w.heap.size w W'∧∃j,r2=l.drop j∧RS w W' rb _ l n j (rs1++rs2):=fun m=>did_ok (ST m)
    clear hP hB ES h1 ST
    go_upto_region 0 with (fail)
    go_quiet (fail)
    go_wp2_with (go_at_call 112;(with_reducible refine (ST2 _).mono ?_);rintro e w2 ⟨rfl,hE,j2,hj2,hR2⟩)
    go_roundg f
    case measure=>omega
    case rel=>exact ⟨rs1++rs2,j2,f,rfl,by omega,by rw [←hj2];omega,by rw [←hj2];exact EQ,hR2⟩
  ·have hjl:=hR.le
   obtain rfl:j=l.length:=by omega
   have EQ:Hid (progP n F l=.ok rs1):=by show _=_;rw [hP.out,drop_out hj];show Except.ok (rs1++[])=_;rw [List.append_nil]
   clear hP hB
   go_upto_region 0 with (fail)
   go_quiet (fail)
   go_wp2
   go_end0
   exact ⟨(hD _).below,.inr ⟨rs1,EQ.out,rfl,v,hD _,hOD _,hc⟩⟩
end Go.Proofs.YtdjfpghgklkejaaGreatDoor
namespace Go.Proofs.YtdjfpghgklkejaaGreatDoor
open Go.RowKit Go.Sort
theorem frame20 (a b c v:Value):#[a,b,c]++((Array.replicate 17 undef).setIfInBounds 3 v).setIfInBounds 0 v=#[a,b,c,v,undef,undef,v,undef,undef,undef,undef,undef,undef,undef,undef,undef,undef,undef,undef,undef]:=by kernel_rfl
set_option maxHeartbeats 1000000 in
theorem catch_idle (p q r:Nat) (w:World) :
  CallsD Tryz.prog 60 #[.pointer (some ⟨p,0,none⟩),.pointer (some ⟨q,0,none⟩),.pointer (some ⟨r,0,none⟩)] .returning w fun e u' w'=>e=.returned (.tuple #[])∧u'=.returning∧Below w.heap.size w w':=by
 refine callsD_of_wpS Tryz.func60 rfl fun c₀ cs hu=>?_
 apply wpS_seq
 apply wpS_region
 simp [wpOpsS,go_sem,recoverD,hu,Tryz.ntmps60,Exit.thenS]
 refine wpS_of_wp ?_
 rw [frame20]
 have hta:∀w:World,(Instr.typeAssert .nilIface 20 129 true).run Tryz.prog w=.ok (.tuple #[.agg #[.int .i64 0,.int .i64 0],.bool false]) w:=fun _=>by kernel_rfl
 have hne:∀w:World,(binOp .neq 20 .nilIface .nilIface).run Tryz.prog w=.ok (.bool false) w:=fun _=>by kernel_rfl
 go_wp2
 refine ⟨rfl,_,?_,_,results_none rfl _ _ _,rfl,hu,bal (Below.refl _ _) _⟩
 cases c₀;simp_all
set_option maxHeartbeats 1000000 in
theorem catch_it (p q r:Nat) (f:Fa) (x y z:Value) (w:World) (hpq:p≠q) (hpr:p≠r) (hqr:q≠r) (c0:BK w p #[x] 22) (c1:BK w q #[y] 3) (c2:BK w r #[z] 30) :
  CallsD Tryz.prog 60 #[.pointer (some ⟨p,0,none⟩),.pointer (some ⟨q,0,none⟩),.pointer (some ⟨r,0,none⟩)] (.panicking [flt f]) w fun e u' w'=>e=.returned (.tuple #[])∧u'=.panicking [{ v:=.iface 129 (.agg #[.int .i64 f.1,.int .i64 (f.2:Nat)]),recovered:=true }] ∧
   w'.cell? ⟨p,0,none⟩=some (.slice none 0 0)∧w'.cell? ⟨q,0,none⟩=some (.int .i64 f.1)∧w'.cell? ⟨r,0,none⟩=some (.int .i64 (f.2:Nat))∧∀B,B≤w.heap.size→B≤p→B≤q→B≤r→Below B w w':=by
 refine callsD_of_wpS Tryz.func60 rfl fun c₀ cs hu=>?_
 apply wpS_seq
 apply wpS_region
 simp [wpOpsS,go_sem,recoverD,hu,Tryz.ntmps60,Exit.thenS]
 refine wpS_of_wp ?_
 rw [frame20]
 have hta:∀w:World,(Instr.typeAssert (.iface 129 (.agg #[.int .i64 f.1,.int .i64 (f.2:Nat)])) 20 129 true).run Tryz.prog w=.ok (.tuple #[.agg #[.int .i64 f.1,.int .i64 (f.2:Nat)],.bool true]) w:=fun _=>by kernel_rfl
 have d0:w.cell? ⟨p,0,none⟩=some x:=c0.cell 0
 have d1:w.cell? ⟨q,0,none⟩=some y:=c1.cell 0
 have d2:w.cell? ⟨r,0,none⟩=some z:=c2.cell 0
 have e0:=c0.free 0
 have e1:=c1.free 0
 have e2:=c2.free 0
 have z0:=c0.lt
 have z1:=c1.lt
 have z2:=c2.lt
 go_wp2
 go_region
 have b0:=((((c0.set 0 (.slice none 0 0)).far (Ne.symm hpq) 0 (.int .i64 f.1)).far (Ne.symm hpr) 0 (.int .i64 (f.2:Nat))).alloc (.cells #[.int .i64 f.1,.int .i64 (f.2:Nat)] 129)).drew
 have b1:=((((c1.far hpq 0 (.slice none 0 0)).set 0 (.int .i64 f.1)).far (Ne.symm hqr) 0 (.int .i64 (f.2:Nat))).alloc (.cells #[.int .i64 f.1,.int .i64 (f.2:Nat)] 129)).drew
 have b2:=((((c2.far hpr 0 (.slice none 0 0)).far hqr 0 (.int .i64 f.1)).set 0 (.int .i64 (f.2:Nat))).alloc (.cells #[.int .i64 f.1,.int .i64 (f.2:Nat)] 129)).drew
 refine ⟨rfl,_,?_,_,results_none rfl _ _ _,rfl,rfl,b0.cell 0,b1.cell 0,b2.cell 0,fun B h0 h1 h2 h3=>below_drew ((((Below.refl _ _).setCell (p:=⟨p,0,none⟩) h1 _).setCell (p:=⟨q,0,none⟩) h2 _ |>.setCell (p:=⟨r,0,none⟩) h3 _).alloc (by simpa using h0) _)⟩
 cases c₀
 simp_all
theorem OR.mono {W:World} {B B':Nat} {v:Value} {rs:List Rw} (h:OR W B v rs) (hb:B'≤B):OR W B' v rs:=by
 obtain ⟨vs,h1,h2,h3⟩:=h
 exact ⟨vs,h1,own_mono h2 hb,fun k hk hk'=>own_mono (h3 k hk hk') hb⟩
theorem OR.low {W:World} {B b:Nat} {v:Value} {rs:List Rw} (h:OR W B v rs) (hb:b<B) (k:Nat) (x:Value):OR (W.setCell ⟨b,k,none⟩ x) B v rs:=by
 obtain ⟨vs,h1,h2,h3⟩:=h
 exact ⟨vs,h1,own_kept h2 (grown_set W b k x) (fun g e e2=>by have:=(h2.lt g e).1;cases e2;omega),fun j hj hj'=>own_kept (h3 j hj hj') (grown_set W b k x) (fun g e e2=>by have:=((h3 j hj hj').lt g e).1;cases e2;omega)⟩
theorem Pre.sz {s:ByteArray} {i:Nat} {l:List Tk} (h:Pre s i l):∀k (hk:k<l.length),l[k].t.size≤s.size:=
 (Pre.ind (R:=fun _ l=>∀k (hk:k<l.length),l[k].t.size≤s.size) (fun k h=>absurd h (Nat.not_lt_zero _)) (fun _ _ _ h=>h) (fun _ _ _ _ _ h=>h) (fun i j l k ht h m hm=>by
  rw [List.length_append] at hm
  simp only [List.length_cons,List.length_nil] at hm
  by_cases e:m<l.length
  ·rw [List.getElem_append_left e];exact h m e
  ·obtain rfl:m=l.length:=by omega
   have e1:(l++[tok s k i j])[l.length]'(by simp)=tok s k i j:=by simp
   rw [e1]
   show (s.extract i j).size≤_
   rw [ByteArray.size_extract]
   omega) h).2
theorem three {w w1:World} {a b c:Array Value} {A B C:TypeId} (h:Below (((w.alloc (.cells a A)).alloc (.cells b B)).alloc (.cells c C)).heap.size (((w.alloc (.cells a A)).alloc (.cells b B)).alloc (.cells c C)) w1):BK w1 w.heap.size a A∧BK w1 (w.heap.size+1) b B∧BK w1 (w.heap.size+1+1) c C:=by
 have e1:(w.alloc (.cells a A)).heap.size=w.heap.size+1:=by simp
 have e2:((w.alloc (.cells a A)).alloc (.cells b B)).heap.size=w.heap.size+1+1:=by simp
 have x0:=((bk_new w a A).alloc (.cells b B)).alloc (.cells c C)
 have x1:=(bk_new (w.alloc (.cells a A)) b B).alloc (.cells c C)
 have x2:=bk_new ((w.alloc (.cells a A)).alloc (.cells b B)) c C
 rw [e1] at x1
 rw [e2] at x2
 exact ⟨(h.block _ x0.lt).trans x0,(h.block _ x1.lt).trans x1,(h.block _ x2.lt).trans x2⟩
set_option maxHeartbeats 4000000 in
set_option maxRecDepth 100000 in
theorem parse_any (s:ByteArray) (rs:List Rw) (a:Int) (e:Nat) (w:World) (hs:s.size≤9223372036854775807) (hv:VR w) (ho:POut s rs a e) :
  Calls Tryz.prog 29 #[.string s] w fun x w'=>∃v,x=.returned (.tuple #[v,.int .i64 a,.int .i64 e])∧OR w' w.heap.size v rs∧Below w.heap.size w w':=by
 obtain ⟨l,a0,e0,hOut,hcase⟩:=ho
 have CS:=fun W=>scan_any s l a0 e0 W hs hOut
 have hmf:∀(fn:Fn) (first cap:Array Value) (w:World),(Instr.makeFunc fn first cap).run Tryz.prog w=.ok (.func fn first cap) w:=fun _ _ _ _=>rfl
 have B3:∀ {w1:World},Below (((w.alloc (.cells #[.slice none 0 0] 22)).alloc (.cells #[.int .i64 0] 3)).alloc (.cells #[.int .i64 0] 30)).heap.size (((w.alloc (.cells #[.slice none 0 0] 22)).alloc (.cells #[.int .i64 0] 3)).alloc (.cells #[.int .i64 0] 30)) w1→Below w.heap.size w w1:=fun h=>btr (bal (bal (bal (Below.refl _ _) _) _) _) h
 rcases hcase with ⟨he,rfl,rfl,rfl⟩ | ⟨rfl,hcase⟩
 ·have he2:((e:Int)==0)=false:=by simp;omega
  have he3:((e:Int) != 0)=true:=by simp;omega
  clear hOut he
  go_enter_defers Tryz.func29,Tryz.ntmps29
  go_upto_region 3 with (go_at_call 59;(with_reducible refine (CS _).mono ?_);rintro x w1 ⟨v1,rfl,hI1⟩;obtain ⟨a1,c1,rfl⟩:=hI1.shape;obtain ⟨bp,bq,br⟩:=three hI1.below;have p0:w1.cell? ⟨w.heap.size,0,none⟩=some (.slice none 0 0):=bp.cell 0;have q0:w1.cell? ⟨w.heap.size+1,0,none⟩=some (.int .i64 0):=bq.cell 0;have r0:w1.cell? ⟨w.heap.size+1+1,0,none⟩=some (.int .i64 0):=br.cell 0;have p1:=bp.free 0;have q1:=bq.free 0;have r1:=br.free 0;have r2:=br.lt)
  go_region
  go_wp2
  have hb:=below_drew (bset (bset (bset (bset (bset (B3 hI1.below) (w.heap.size+1) 0 (.int .i64 a0) (by omega)) (w.heap.size+1+1) 0 (.int .i64 e) (by omega)) w.heap.size 0 (.slice none 0 0) (by omega)) (w.heap.size+1) 0 (.int .i64 a0) (by omega)) (w.heap.size+1+1) 0 (.int .i64 e) (by omega))
  have k0:=(((((bp.far (c:=w.heap.size+1) (by omega) 0 (.int .i64 a0)).far (c:=w.heap.size+1+1) (by omega) 0 (.int .i64 e)).set 0 (.slice none 0 0)).far (c:=w.heap.size+1) (by omega) 0 (.int .i64 a0)).far (c:=w.heap.size+1+1) (by omega) 0 (.int .i64 e)).drew
  have k1:=(((((bq.set 0 (.int .i64 a0)).far (c:=w.heap.size+1+1) (by omega) 0 (.int .i64 e)).far (c:=w.heap.size) (by omega) 0 (.slice none 0 0)).set 0 (.int .i64 a0)).far (c:=w.heap.size+1+1) (by omega) 0 (.int .i64 e)).drew
  have k2:=(((((br.far (c:=w.heap.size+1) (by omega) 0 (.int .i64 a0)).set 0 (.int .i64 e)).far (c:=w.heap.size) (by omega) 0 (.slice none 0 0)).far (c:=w.heap.size+1) (by omega) 0 (.int .i64 a0)).set 0 (.int .i64 e)).drew
  clear p0 q0 r0 p1 q1 r1 bp bq br
  generalize (((((w1.setCell ⟨w.heap.size+1,0,none⟩ (.int .i64 a0)).setCell ⟨w.heap.size+1+1,0,none⟩ (.int .i64 e)).setCell ⟨w.heap.size,0,none⟩ (.slice none 0 0)).setCell ⟨w.heap.size+1,0,none⟩ (.int .i64 a0)).setCell ⟨w.heap.size+1+1,0,none⟩ (.int .i64 e)).drew=WF at *
  have m0:WF.cell? ⟨w.heap.size,0,none⟩=some (.slice none 0 0):=k0.cell 0
  have m1:WF.cell? ⟨w.heap.size+1,0,none⟩=some (.int .i64 a0):=k1.cell 0
  have m2:WF.cell? ⟨w.heap.size+1+1,0,none⟩=some (.int .i64 e):=k2.cell 0
  exact ⟨.tuple #[.slice none 0 0,.int .i64 a0,.int .i64 e],by simp [results,Tryz.results29,go_sem,m0,m1,m2],_,rfl,OR.nil _ _,hb⟩
 have hsz:s.size≤65536∧Pre s s.size l∧a0=0:=by
  rcases hOut with ⟨_,_,_,h⟩ | ⟨h1,h2,h3,_⟩ | ⟨_,_,h,_⟩
  ·cases h
  ·exact ⟨h1,h2,h3⟩
  ·cases h
 obtain ⟨hs6,hp,rfl⟩:=hsz
 have hcount:=hp.count
 have hall:=hp.right
 have hsize:=hp.sz
 have START:∀w1 a1 c1,SI (((w.alloc (.cells #[.slice none 0 0] 22)).alloc (.cells #[.int .i64 0] 3)).alloc (.cells #[.int .i64 0] 30)) w1 (.slice a1 l.length c1) l→∀x y:Value,RS ((w1.setCell ⟨w.heap.size+1,0,none⟩ x).setCell ⟨w.heap.size+1+1,0,none⟩ y) (((w1.setCell ⟨w.heap.size+1,0,none⟩ x).setCell ⟨w.heap.size+1+1,0,none⟩ y).alloc (.cells #[.slice a1 l.length c1,.int .i64 0,.int .i64 s.size,.slice none 0 0] 132)) w1.heap.size (.slice a1 l.length c1) l s.size 0 []:=fun w1 a1 c1 hI x y=>by
  have hz:((w1.setCell ⟨w.heap.size+1,0,none⟩ x).setCell ⟨w.heap.size+1+1,0,none⟩ y).heap.size=w1.heap.size:=by simp [World.setCell]
  have hlo:∀g,(Value.slice a1 l.length c1).ownBlock=some g→w.heap.size+3≤g:=fun g e=>by have:=(hI.own.lt g e).1;simp at this;omega
  have o1:=own_kept hI.own (grown_set w1 (w.heap.size+1) 0 x) (fun g e e2=>by have:=hlo g e;cases e2;omega)
  have o2:=own_kept o1 (grown_set _ (w.heap.size+1+1) 0 y) (fun g e e2=>by have:=hlo g e;cases e2;omega)
  have hb0:=bset (bset (B3 hI.below) (w.heap.size+1) 0 x (by omega)) (w.heap.size+1+1) 0 y (by omega)
  refine ⟨.slice none 0 0,⟨(own_sl o2).form,bal (Below.refl _ _) _,by rw [hz];exact Nat.le_refl _,?_,Nat.zero_le _,by omega,hall,fun k hk=>by have:=hsize k hk;omega,hv.below hb0⟩,OR.nil _ _,Nat.le_refl _⟩
  have:=bk_new ((w1.setCell ⟨w.heap.size+1,0,none⟩ x).setCell ⟨w.heap.size+1+1,0,none⟩ y) #[.slice a1 l.length c1,.int .i64 0,.int .i64 s.size,.slice none 0 0] 132
  rw [hz] at this
  exact this
 have PG:=fun W0 W1 rb ts h=>program_any W0 W1 rb ts l s.size h
 clear hall hsize hOut hp
 rcases hcase with ⟨p,x,hpr,rfl,rfl,rfl⟩ | ⟨hpr,rfl,rfl⟩
 ·have PG2:∀W0 W1 rb ts,RS W0 W1 rb ts l s.size 0 []→Calls Tryz.prog 61 #[.pointer (some ⟨rb,0,none⟩)] W1 fun x W'=>x=.panicked [flt (a,e)]∧Below W0.heap.size W0 W':=fun W0 W1 rb ts h=>(PG W0 W1 rb ts h).mono fun x W' ⟨h1,h2⟩=>by
   refine ⟨?_,h1⟩
   rcases h2 with ⟨q,e1,e2⟩ | ⟨rs,e1,_⟩
   ·rw [hpr] at e1;cases e1;exact e2
   ·rw [hpr] at e1;cases e1
  clear PG hpr
  go_enter_defers Tryz.func29,Tryz.ntmps29
  go_wp2_with (first | (go_at_call 59;(with_reducible refine (CS _).mono ?_);rintro x w1 ⟨v1,rfl,hI1⟩;obtain ⟨a1,c1,rfl⟩:=hI1.shape;obtain ⟨bp,bq,br⟩:=three hI1.below;have p0:w1.cell? ⟨w.heap.size,0,none⟩=some (.slice none 0 0):=bp.cell 0;have q0:w1.cell? ⟨w.heap.size+1,0,none⟩=some (.int .i64 0):=bq.cell 0;have r0:w1.cell? ⟨w.heap.size+1+1,0,none⟩=some (.int .i64 0):=br.cell 0;have p1:=bp.free 0;have q1:=bq.free 0;have r1:=br.free 0;have r2:=br.lt) | (go_at_call 61;(with_reducible refine (PG2 _ _ _ _ (START w1 a1 c1 hI1 _ _)).mono ?_);rintro x w2 ⟨rfl,hB2⟩))
  have e0:BK w2 w.heap.size #[.slice none 0 0] 22:=(hB2.block _ (by simp [World.setCell];omega)).trans ((bp.far (by omega) 0 (.int .i64 0)).far (by omega) 0 (.int .i64 0))
  have e1:BK w2 (w.heap.size+1) #[.int .i64 0] 3:=(hB2.block _ (by simp [World.setCell];omega)).trans ((bq.set 0 (.int .i64 0)).far (by omega) 0 (.int .i64 0))
  have e2:BK w2 (w.heap.size+1+1) #[.int .i64 0] 30:=(hB2.block _ (by simp [World.setCell];omega)).trans ((br.far (by omega) 0 (.int .i64 0)).set 0 (.int .i64 0))
  have hb:=bset (bset (B3 hI1.below) (w.heap.size+1) 0 (.int .i64 0) (by omega)) (w.heap.size+1+1) 0 (.int .i64 0) (by omega)
  have hbb:=btr hb hB2
  refine leaves_cons (f:=60) (args:=#[.pointer (some ⟨w.heap.size,0,none⟩),.pointer (some ⟨w.heap.size+1,0,none⟩),.pointer (some ⟨w.heap.size+1+1,0,none⟩)]) (by simp) (by simp [go_sem]) ?_
  refine (catch_it w.heap.size (w.heap.size+1) (w.heap.size+1+1) (a,e) _ _ _ _ (by omega) (by omega) (by omega) e0 e1 e2).mono ?_
  rintro x u w3 ⟨rfl,rfl,k0,k1,k2,hB3⟩
  simp [Leaves,settle,results,Tryz.results29,go_sem,k0,k1,k2]
  exact ⟨OR.nil _ _,hbb.trans (hB3 _ hbb.size (by omega) (by omega) (by omega))⟩
 ·have PG2:∀W0 W1 rb ts,RS W0 W1 rb ts l s.size 0 []→Calls Tryz.prog 61 #[.pointer (some ⟨rb,0,none⟩)] W1 fun x W'=>x=.returned (.tuple #[])∧Below W0.heap.size W0 W'∧RS W0 W' rb ts l s.size l.length rs:=fun W0 W1 rb ts h=>(PG W0 W1 rb ts h).mono fun x W' ⟨h1,h2⟩=>by
   rcases h2 with ⟨q,e1,e2⟩ | ⟨rs,e1,e2,e3⟩
   ·rw [hpr] at e1;cases e1
   ·rw [hpr] at e1;cases e1;exact ⟨e2,h1,e3⟩
  clear PG hpr
  go_enter_defers Tryz.func29,Tryz.ntmps29
  go_wp2_with (first | (go_at_call 59;(with_reducible refine (CS _).mono ?_);rintro x w1 ⟨v1,rfl,hI1⟩;obtain ⟨a1,c1,rfl⟩:=hI1.shape;obtain ⟨bp,bq,br⟩:=three hI1.below;have p0:w1.cell? ⟨w.heap.size,0,none⟩=some (.slice none 0 0):=bp.cell 0;have q0:w1.cell? ⟨w.heap.size+1,0,none⟩=some (.int .i64 0):=bq.cell 0;have r0:w1.cell? ⟨w.heap.size+1+1,0,none⟩=some (.int .i64 0):=br.cell 0;have p1:=bp.free 0;have q1:=bq.free 0;have r1:=br.free 0;have r2:=br.lt) | (go_at_call 61;(with_reducible refine (PG2 _ _ _ _ (START w1 a1 c1 hI1 _ _)).mono ?_);rintro x w2 ⟨rfl,hB2,v2,hR2,hO2,hc2⟩;obtain ⟨a2,c2,rfl⟩:=hO2.shape;have n3:w2.cell? ⟨w1.heap.size,3,none⟩=some (.slice a2 rs.length c2):=hR2.blk.cell 3;have e0:BK w2 w.heap.size #[.slice none 0 0] 22:=(hB2.block _ (by simp [World.setCell];omega)).trans ((bp.far (by omega) 0 (.int .i64 0)).far (by omega) 0 (.int .i64 0));have e1:BK w2 (w.heap.size+1) #[.int .i64 0] 3:=(hB2.block _ (by simp [World.setCell];omega)).trans ((bq.set 0 (.int .i64 0)).far (by omega) 0 (.int .i64 0));have e2:BK w2 (w.heap.size+1+1) #[.int .i64 0] 30:=(hB2.block _ (by simp [World.setCell];omega)).trans ((br.far (by omega) 0 (.int .i64 0)).set 0 (.int .i64 0));have f0:w2.cell? ⟨w.heap.size,0,none⟩=some (.slice none 0 0):=e0.cell 0;have f1:w2.cell? ⟨w.heap.size+1,0,none⟩=some (.int .i64 0):=e1.cell 0;have f2:w2.cell? ⟨w.heap.size+1+1,0,none⟩=some (.int .i64 0):=e2.cell 0;have g0:=e0.free 0;have g1:=e1.free 0;have g2:=e2.free 0))
  have hb:=bset (bset (B3 hI1.below) (w.heap.size+1) 0 (.int .i64 0) (by omega)) (w.heap.size+1+1) 0 (.int .i64 0) (by omega)
  have hw0:w.heap.size+3≤((w1.setCell ⟨w.heap.size+1,0,none⟩ (.int .i64 0)).setCell ⟨w.heap.size+1+1,0,none⟩ (.int .i64 0)).heap.size:=by simp [World.setCell];omega
  have hO3:=((hO2.low (b:=w.heap.size) (by omega) 0 (.slice a2 rs.length c2)).low (b:=w.heap.size+1) (by omega) 0 (.int .i64 0)).low (b:=w.heap.size+1+1) (by omega) 0 (.int .i64 0)
  have hb3:=bset (bset (bset (btr hb hB2) w.heap.size 0 (.slice a2 rs.length c2) (by omega)) (w.heap.size+1) 0 (.int .i64 0) (by omega)) (w.heap.size+1+1) 0 (.int .i64 0) (by omega)
  have k0:=((e0.set 0 (.slice a2 rs.length c2)).far (c:=w.heap.size+1) (by omega) 0 (.int .i64 0)).far (c:=w.heap.size+1+1) (by omega) 0 (.int .i64 0)
  have k1:=((e1.far (c:=w.heap.size) (by omega) 0 (.slice a2 rs.length c2)).set 0 (.int .i64 0)).far (c:=w.heap.size+1+1) (by omega) 0 (.int .i64 0)
  have k2:=((e2.far (c:=w.heap.size) (by omega) 0 (.slice a2 rs.length c2)).far (c:=w.heap.size+1) (by omega) 0 (.int .i64 0)).set 0 (.int .i64 0)
  refine leaves_cons (f:=60) (args:=#[.pointer (some ⟨w.heap.size,0,none⟩),.pointer (some ⟨w.heap.size+1,0,none⟩),.pointer (some ⟨w.heap.size+1+1,0,none⟩)]) (by simp) (by simp [go_sem]) ?_
  refine (catch_idle w.heap.size (w.heap.size+1) (w.heap.size+1+1) _).mono ?_
  rintro x u w3 ⟨rfl,rfl,hB3⟩
  have m0:w3.cell? ⟨w.heap.size,0,none⟩=some (.slice a2 rs.length c2):=BK.cell ((hB3.block _ k0.lt).trans k0) 0
  have m1:w3.cell? ⟨w.heap.size+1,0,none⟩=some (.int .i64 0):=BK.cell ((hB3.block _ k1.lt).trans k1) 0
  have m2:w3.cell? ⟨w.heap.size+1+1,0,none⟩=some (.int .i64 0):=BK.cell ((hB3.block _ k2.lt).trans k2) 0
  have hOF:=(hO3.below hB3).mono (show w.heap.size≤_ by omega)
  have hBF:=btr hb3 hB3
  clear hO3 hb3 k0 k1 k2 hB3
  simp [Leaves,settle,results,Tryz.results29,go_sem,m0,m1,m2]
  exact ⟨hOF,hBF⟩
end Go.Proofs.YtdjfpghgklkejaaGreatDoor
