/-
  Put together of: LP8ft.
-/
import Derived.Test.YtdjfpghgklkejaaGreatDoorXI
namespace Go.Proofs.YtdjfpghgklkejaaGreatDoor
open Go.RowKit Go.Sort
set_option maxHeartbeats 4000000 in
set_option maxRecDepth 100000 in
theorem stmt_own_ft (n:Int) (rec:Nat→List Tk→Except Fa (List Rw × List Tk)) (w W:World) (rb:Nat) (ts:Value) (l:List Tk) (i:Nat) (rs:List Rw) (d:Nat) (sb:Int) (sc se:Bool) (H:RS w W rb ts l n i rs) (hB:BodyOk n rec (l.drop i).length) (hd:d≤32) (hi:i<l.length) (ho:ownB l[i].t=true) (hsh:shK l[i]=⟨false,sb,sc,true,se⟩) (hsb:sb= -1∨(0≤sb∧sb≤2)) :
  Calls Tryz.prog 112 #[.pointer (some ⟨rb,0,none⟩),.int .i64 d] W (Did w rb ts l n rs (stmtP n rec d (l.drop i))):=by
 obtain ⟨v,hR,hO,hcnt⟩:=H
 obtain ⟨va,vc,rfl⟩:=hO.shape
 obtain ⟨i4,hi4,hz4,hs4,hb4⟩:=info_parts Tryz.info79
 have TK:=take_ok w W rb ts l n i _ hR hi
 have OW:=fun w=>isOwn_any l[i].t w
 rw [ho] at OW
 have hkk:kindK l[i]=l[i].t:=by unfold kindK;rw [if_pos ho]
 have hrk:restK l[i] (l.drop (i+1))=l.drop (i+1):=by unfold restK;rw [if_pos ho]
 have SH:∀W,∃ok,Calls Tryz.prog 118 #[.string l[i].t] W fun e W'=>e=.returned (.tuple #[.agg #[.bool false,.int .i64 sb,.bool sc,.bool true,.bool se],.bool ok])∧Below W.heap.size W W':=fun W=>⟨(shp l[i].t).isSome,by
  have h:=shape_any l[i].t W
  have e:(shp l[i].t).getD shNone=⟨false,sb,sc,true,se⟩:=by rw [←hsh];unfold shK;rw [hkk]
  rw [e] at h
  exact h⟩
 have hws:=hR.below.size
 have hwl:=hR.ge
 have HRO:Hid (RS0 w W rb ts l n i _∧OR W w.heap.size _ rs):=⟨hR,hO⟩
 have hln:=hR.len
 have hdl:(l.drop i).length=l.length-i:=List.length_drop
 have ED:l.drop i=l[i]::l.drop (i+1):=drop_at hi
 rw [ED]
 clear hR hO
 have H1:optName n (⟨false,sb,sc,true,se⟩:Sh).name (l.drop (i+1))=.ok (⟨#[]⟩,l.drop (i+1)):=by unfold optName;rw [if_neg Bool.false_ne_true]
 have hl1:(l.drop (i+1)).length≤(l.drop (i+1)).length:=Nat.le_refl _
 cases h2:argsP n (⟨false,sb,sc,true,se⟩:Sh) ((l.drop (i+1)).length+1) [] (l.drop (i+1)) with
 | error q=>
  have EQ:Hid (stmtP n rec d (l[i]::l.drop (i+1))=.error q):=stmt_mid (by rw [hsh,hrk];exact mid_e2 H1 h2)
  unfold Did
  go_enter Tryz.func112,Tryz.ntmps112
  go_wp2_with (first | (go_at_call 145;(with_reducible refine TK.mono ?_);rintro e w1 ⟨rfl,hG1,hR1⟩;have hbl1:=hR1.blk.lt;have hqr:w1.heap.size+1≠rb:=Nat.ne_of_gt (Nat.lt_succ_of_lt hbl1);have hqr2:rb≠w1.heap.size+1:=Ne.symm hqr) | (go_at_call 146;(with_reducible refine (OW _).mono ?_);rintro e w2 ⟨rfl,hN2⟩;have s2:=(sq_start HRO.out.1 HRO.out.2 hG1 hR1 _ _).on hN2;have fx:=first_box hN2;have u0:w2.cell? ⟨w1.heap.size+1,0,none⟩=some (.string ⟨#[117,115,101]⟩):=s2.q.cell 0;have u1:=s2.q.free 0;have u2:w2.cell? ⟨w1.heap.size,1,none⟩=some (.string l[i].t):=fx.cell 1;have u3:w2.cell? ⟨rb,1,none⟩=some (.int .i64 ((i+1:Nat):Int)):=s2.r.blk.cell 1;have u4:=s2.r.blk.free 1;clear fx hN2) | (go_at_call 118;obtain ⟨ok3,SH3⟩:=SH _;(with_reducible refine SH3.mono ?_);rintro e w3 ⟨rfl,hN3⟩;clear SH3;have s3:=(s2.set 0 (.string l[i].t)).on hN3;have S0:=s3.form false sb sc true se;have z3:=s3.q.lt;have z4:=s3.r.blk.lt;have b0:w3.cell? ⟨w1.heap.size+1,0,none⟩=some (.string l[i].t):=s3.q.cell 0;have b1:w3.cell? ⟨w1.heap.size+1,1,none⟩=some (.string ⟨#[]⟩):=s3.q.cell 1;have b2:w3.cell? ⟨w1.heap.size+1,2,none⟩=some (.slice none 0 0):=s3.q.cell 2;have b3:w3.cell? ⟨w1.heap.size+1,3,none⟩=some (.int .i64 0):=s3.q.cell 3;have bf:=s3.q.free;clear hN3) | (go_at_call 148;(with_reducible refine (args_err S0.s.r hsb rfl h2).mono ?_);rintro e w5 ⟨rfl,hG5⟩;have hE:=S0.s.r.below.grown hG5 S0.s.r.below.size (fun k e=>(by cases e;exact hwl))))
  exact ⟨rfl,hE,.inl ⟨q,EQ.out,rfl⟩⟩
 | ok y=>
  obtain ⟨aa,l2⟩:=y
  have hl2:=argsP_len _ h2
  have NUA:=fun W' j h=>number_any w W' rb ts l n j (.slice va rs.length vc) h
  cases h3:numP n l2 with
  | error q=>
   have EQ:Hid (stmtP n rec d (l[i]::l.drop (i+1))=.error q):=stmt_mid (by rw [hsh,hrk];exact mid_e3 H1 h2 (by unfold optNum;rw [if_pos rfl];exact h3))
   have NU:∀W' {j2},RS0 w W' rb ts l n j2 (.slice va rs.length vc)→l2=l.drop j2→_:=fun W' j2 h e=>told_err (by have:=NUA W' j2 h;rw [←e,h3] at this;exact this)
   clear NUA h3
   unfold Did
   go_enter Tryz.func112,Tryz.ntmps112
   go_wp2_with (first | (go_at_call 145;(with_reducible refine TK.mono ?_);rintro e w1 ⟨rfl,hG1,hR1⟩;have hbl1:=hR1.blk.lt;have hqr:w1.heap.size+1≠rb:=Nat.ne_of_gt (Nat.lt_succ_of_lt hbl1);have hqr2:rb≠w1.heap.size+1:=Ne.symm hqr) | (go_at_call 146;(with_reducible refine (OW _).mono ?_);rintro e w2 ⟨rfl,hN2⟩;have s2:=(sq_start HRO.out.1 HRO.out.2 hG1 hR1 _ _).on hN2;have fx:=first_box hN2;have u0:w2.cell? ⟨w1.heap.size+1,0,none⟩=some (.string ⟨#[117,115,101]⟩):=s2.q.cell 0;have u1:=s2.q.free 0;have u2:w2.cell? ⟨w1.heap.size,1,none⟩=some (.string l[i].t):=fx.cell 1;have u3:w2.cell? ⟨rb,1,none⟩=some (.int .i64 ((i+1:Nat):Int)):=s2.r.blk.cell 1;have u4:=s2.r.blk.free 1;clear fx hN2) | (go_at_call 118;obtain ⟨ok3,SH3⟩:=SH _;(with_reducible refine SH3.mono ?_);rintro e w3 ⟨rfl,hN3⟩;clear SH3;have s3:=(s2.set 0 (.string l[i].t)).on hN3;have S0:=s3.form false sb sc true se;have z3:=s3.q.lt;have z4:=s3.r.blk.lt;have b0:w3.cell? ⟨w1.heap.size+1,0,none⟩=some (.string l[i].t):=s3.q.cell 0;have b1:w3.cell? ⟨w1.heap.size+1,1,none⟩=some (.string ⟨#[]⟩):=s3.q.cell 1;have b2:w3.cell? ⟨w1.heap.size+1,2,none⟩=some (.slice none 0 0):=s3.q.cell 2;have b3:w3.cell? ⟨w1.heap.size+1,3,none⟩=some (.int .i64 0):=s3.q.cell 3;have bf:=s3.q.free;clear hN3) | (go_at_call 148;(with_reducible refine (args_ok S0.s.r hsb rfl h2).mono ?_);rintro e w5 ⟨c5,k5,rfl,hG5,j2,hj2,hR5,hA5⟩;have S3:=S0.gb hG5 hR5;have S4:=S3.setArgs (.slice c5 aa.length k5);have A3:=own_mono hA5 S0.s.r.below.size;have A4:=own_kept A3 (grown_set w5 (w1.heap.size+1) 2 (.slice c5 aa.length k5)) (own_ne A3 S3.s.q (by decide));clear hA5;obtain ⟨⟨a0,a1,a2,a3,a4⟩,⟨b0,b1,b2,b3,b4,b5⟩,bf,d0,d1⟩:=S3.cells) | (go_at_call 149;(with_reducible refine (NU _ S4.s.r hj2).mono ?_);rintro e w6 ⟨rfl,hG6⟩;have hE:=S4.s.r.below.grown hG6 S4.s.r.below.size (fun k e=>(by cases e;exact hwl))))
   exact ⟨rfl,hE,.inl ⟨q,EQ.out,rfl⟩⟩
  | ok y=>
   obtain ⟨x,l3⟩:=y
   have NU:∀W' {j2},RS0 w W' rb ts l n j2 (.slice va rs.length vc)→l2=l.drop j2→_:=fun W' j2 h e=>told_ok (by have:=NUA W' j2 h;rw [←e,h3] at this;exact this)
   obtain ⟨t3,ht3,_⟩:=numP_len h3
   have hl3:l3.length+1=l2.length:=by rw [ht3];rfl
   have H3:optNum n (⟨false,sb,sc,true,se⟩:Sh).num l2=.ok (x,l3):=by unfold optNum;rw [if_pos rfl];exact h3
   clear NUA ht3 h3
   have hdl3:l3.length+1≤l.length-i:=by
    have e7:(l.drop (i+1)).length=l.length-(i+1):=List.length_drop
    omega
   have LA:∀w,Calls Tryz.prog 151 #[.agg #[.bool false,.int .i64 sb,.bool sc,.bool true,.bool se]] w fun e w'=>e=.returned (.string (lastS (⟨false,sb,sc,true,se⟩:Sh)))∧Below w.heap.size w w':=fun w=>last_any (⟨false,sb,sc,true,se⟩:Sh) w
   unfold Did
   go_enter Tryz.func112,Tryz.ntmps112
   go_upto_region 12 with (first | (go_at_call 145;(with_reducible refine TK.mono ?_);rintro e w1 ⟨rfl,hG1,hR1⟩;have hbl1:=hR1.blk.lt;have hqr:w1.heap.size+1≠rb:=Nat.ne_of_gt (Nat.lt_succ_of_lt hbl1);have hqr2:rb≠w1.heap.size+1:=Ne.symm hqr) | (go_at_call 146;(with_reducible refine (OW _).mono ?_);rintro e w2 ⟨rfl,hN2⟩;have s2:=(sq_start HRO.out.1 HRO.out.2 hG1 hR1 _ _).on hN2;have fx:=first_box hN2;have u0:w2.cell? ⟨w1.heap.size+1,0,none⟩=some (.string ⟨#[117,115,101]⟩):=s2.q.cell 0;have u1:=s2.q.free 0;have u2:w2.cell? ⟨w1.heap.size,1,none⟩=some (.string l[i].t):=fx.cell 1;have u3:w2.cell? ⟨rb,1,none⟩=some (.int .i64 ((i+1:Nat):Int)):=s2.r.blk.cell 1;have u4:=s2.r.blk.free 1;clear fx hN2) | (go_at_call 118;obtain ⟨ok3,SH3⟩:=SH _;(with_reducible refine SH3.mono ?_);rintro e w3 ⟨rfl,hN3⟩;clear SH3;have s3:=(s2.set 0 (.string l[i].t)).on hN3;have S0:=s3.form false sb sc true se;have z3:=s3.q.lt;have z4:=s3.r.blk.lt;have b0:w3.cell? ⟨w1.heap.size+1,0,none⟩=some (.string l[i].t):=s3.q.cell 0;have b1:w3.cell? ⟨w1.heap.size+1,1,none⟩=some (.string ⟨#[]⟩):=s3.q.cell 1;have b2:w3.cell? ⟨w1.heap.size+1,2,none⟩=some (.slice none 0 0):=s3.q.cell 2;have b3:w3.cell? ⟨w1.heap.size+1,3,none⟩=some (.int .i64 0):=s3.q.cell 3;have bf:=s3.q.free;clear hN3) | (go_at_call 148;(with_reducible refine (args_ok S0.s.r hsb rfl h2).mono ?_);rintro e w5 ⟨c5,k5,rfl,hG5,j2,hj2,hR5,hA5⟩;have S3:=S0.gb hG5 hR5;have S4:=S3.setArgs (.slice c5 aa.length k5);have A3:=own_mono hA5 S0.s.r.below.size;have A4:=own_kept A3 (grown_set w5 (w1.heap.size+1) 2 (.slice c5 aa.length k5)) (own_ne A3 S3.s.q (by decide));clear hA5;obtain ⟨⟨a0,a1,a2,a3,a4⟩,⟨b0,b1,b2,b3,b4,b5⟩,bf,d0,d1⟩:=S3.cells) | (go_at_call 149;(with_reducible refine (NU _ S4.s.r hj2).mono ?_);rintro e w6 ⟨rfl,hG6,j3,hj3,hR6⟩;have S5:=S4.gb hG6 hR6;have S6:=S5.setNum (x:Int);have A5:=own_kept A4 hG6 (own_ne A4 S4.s.r.blk (by decide));have A6:=own_kept A5 (grown_set w6 (w1.heap.size+1) 3 (.int .i64 (x:Int))) (own_ne A5 S5.s.q (by decide));obtain ⟨⟨a0,a1,a2,a3,a4⟩,⟨b0,b1,b2,b3,b4,b5⟩,bf,d0,d1⟩:=S5.cells))
   generalize hWA:(w6.setCell ⟨w1.heap.size+1,3,none⟩ (.int .i64 (x:Int)))=WA at *
   clear hWA
   obtain ⟨⟨a0,a1,a2,a3,a4⟩,⟨b0,b1,b2,b3,b4,b5⟩,bf,d0,d1⟩:=S6.cells
   obtain ⟨vs,hvs,hown,hargs⟩:=S6.s.o
   have HVS:Hid (rs.length=vs.length):=hvs
   clear hvs
   have hgt:=fun g (hg:(Value.slice va rs.length vc).ownBlock=some g)=>own_ty hown hg
   have zq:=S6.s.q.lt
   have zr:=S6.s.r.blk.lt
   have zf:=S6.f.lt
   have hlo:=S6.s.lo
   have hWs:=S6.s.r.below.size
   have hj3l:j3≤l.length:=S6.s.r.le
   have hrows:rs.length+1≤j3:=by
    have e9:l3.length=l.length-j3:=by rw [hj3,List.length_drop]
    omega
   go_region_law
    ((refine step_own rfl _ _ 22 (by rfl) w.heap.size 79 i4 zRow 6 80 Tryz.underlying22 hi4 hz4 hs4 hb4 rfl (by decide) _ rs.length (rws rs vs) (by rfl) (own_below hown (by first | exact below_drew (bal (Below.refl _ _) _) | exact bal (below_drew (Below.refl _ _)) _ | exact bal (Below.refl _ _) _)) ⟨_,0,none⟩ 1 1 (rwc (⟨l[i].t,⟨#[]⟩,aa,(x:Int),0,l[i].p⟩:Rw) (.slice c5 aa.length k5)) (by rfl) rfl (new_row _ _ (by rfl) (⟨l[i].t,⟨#[]⟩,aa,(x:Int),0,l[i].p⟩:Rw) (.slice c5 aa.length k5)) (one_row _ _ _ _) (by unfold maxLen;omega) (by omega) (by simp;omega) ?_;intro v7 w7 hown7 hgrow7 hloc7;obtain ⟨a7,k7,rfl⟩:=own_shape hown7;have c7r:BK w7 rb #[ts,.int .i64 j3,.int .i64 n,.slice va rs.length vc] 132:=(hgrow7.block rb (by simp;omega) (fun e=>own_ne hown S6.s.r.blk (by decide) rb e.symm rfl)).trans (by first | exact S6.s.r.blk.alloc _ | exact (S6.s.r.blk.alloc _).drew | exact S6.s.r.blk.drew.alloc _);have c7a:w7.cell? ⟨rb,3,none⟩=some (.slice va rs.length vc):=c7r.cell 3;have c7b:=c7r.free 3;have c7q:BK w7 (w1.heap.size+1) #[.string l[i].t,.string ⟨#[]⟩,.slice c5 aa.length k5,.int .i64 (x:Int),.int .i64 0,.int .i64 l[i].p] 79:=(hgrow7.block (w1.heap.size+1) (by simp;omega) (fun e=>Nat.lt_irrefl _ (hlo _ e.symm))).trans (by first | exact S6.s.q.alloc _ | exact (S6.s.q.alloc _).drew | exact S6.s.q.drew.alloc _)))
   all_goals
    have B7:Below WA.heap.size WA (WA.alloc (.cells (rwc (⟨l[i].t,⟨#[]⟩,aa,(x:Int),0,l[i].p⟩:Rw) (.slice c5 aa.length k5)).toArray 79)).drew:=below_drew (bal (Below.refl _ _) _)
    have hO7:=OR.put (r:=(⟨l[i].t,⟨#[]⟩,aa,(x:Int),0,l[i].p⟩:Rw)) HVS.out (fun k h h'=>own_below (hargs k h h') B7) (fun g hg=>own_ty (own_below hown B7) hg) (own_below A6 B7) hgrow7 hown7
    have f7:BK w7 w3.heap.size #[.bool false,.int .i64 sb,.bool sc,.bool true,.bool se] 187:=(hgrow7.block w3.heap.size (by simp;omega) (fun e=>own_ne hown S6.f (by decide) _ e.symm rfl)).trans ((S6.f.alloc _).drew)
    have hR7:RS0 w (w7.setCell ⟨rb,3,none⟩ (.slice a7 (rs.length+1) k7)) rb ts l n j3 (.slice a7 (rs.length+1) k7):=⟨S6.s.r.tok,bset ((btr S6.s.r.below B7).grown hgrow7 (by simp;omega) (fun k e=>(hown.lt k e).1)) rb 3 _ hwl,hwl,c7r.set 3 _,S6.s.r.le,S6.s.r.len,S6.s.r.all,S6.s.r.sz,S6.s.r.vr⟩
    have hO8:=hO7.gb (gb_set (gb_refl w7 rb) rb 3 (.slice a7 (rs.length+1) k7) (.inl rfl)) c7r
    have f8:=f7.far (Ne.symm S6.nf) 3 (.slice a7 (rs.length+1) k7)
    have hfr:=S6.nf
    clear hO7 f7 B7 hgrow7 hown7 hloc7 c7r c7a c7b c7q hown hargs HVS hgt
    generalize hWB:w7.setCell ⟨rb,3,none⟩ (.slice a7 (rs.length+1) k7)=WB at *
    clear hWB
    have g0:WB.cell? ⟨w3.heap.size,0,none⟩=some (.bool false):=f8.cell 0
    have g1:WB.cell? ⟨w3.heap.size,1,none⟩=some (.int .i64 sb):=f8.cell 1
    have g2:WB.cell? ⟨w3.heap.size,2,none⟩=some (.bool sc):=f8.cell 2
    have g3:WB.cell? ⟨w3.heap.size,3,none⟩=some (.bool true):=f8.cell 3
    have g4:WB.cell? ⟨w3.heap.size,4,none⟩=some (.bool se):=f8.cell 4
    clear a0 a1 a2 a3 a4 b0 b1 b2 b3 b4 b5 bf d0 d1
    cases h4:signP n (lastS (⟨false,sb,sc,true,se⟩:Sh)) l3 with
    | error q=>
     have EQ:Hid (stmtP n rec d (l[i]::l.drop (i+1))=.error q):=stmt_mid (by rw [hsh,hrk];exact mid_e4 H1 h2 H3 h4)
     have SG:∀W' {j},RS0 w W' rb ts l n j (.slice a7 (rs.length+1) k7)→l3=l.drop j→_:=fun W' j h e=>told_err (by have:=sign_any' w W' rb ts l n j (.slice a7 (rs.length+1) k7) (lastS (⟨false,sb,sc,true,se⟩:Sh)) h;rw [←e,h4] at this;exact this)
     clear h4
     go_wp2_with (first | (go_at_call 151;(with_reducible refine (LA _).mono ?_);rintro e w8 ⟨rfl,hN8⟩;have hR8:=hR7.on hN8;have hO9:=hO8.below hN8;have f9:=(hN8.block _ f8.lt).trans f8) | (go_at_call 150;(with_reducible refine (SG _ hR8 hj3).mono ?_);rintro e w9 ⟨rfl,hG9⟩;have hE:=hR8.below.grown hG9 hR8.below.size (fun k e=>(by cases e;exact hwl))))
     exact ⟨rfl,hE,.inl ⟨q,EQ.out,rfl⟩⟩
    | ok y=>
     obtain ⟨u,l4⟩:=y
     have SG:∀W' {j},RS0 w W' rb ts l n j (.slice a7 (rs.length+1) k7)→l3=l.drop j→_:=fun W' j h e=>told_ok (by have:=sign_any' w W' rb ts l n j (.slice a7 (rs.length+1) k7) (lastS (⟨false,sb,sc,true,se⟩:Sh)) h;rw [←e,h4] at this;exact this)
     have HM:=mid_ok H1 h2 H3 h4
     have hl4:=(signP_len h4).1
     have hl4n:l4.length+1=l3.length:=by rw [hl4];rfl
     clear hl4 h4
     cases se with
     | false=>
      have EQ:Hid (stmtP n rec d (l[i]::l.drop (i+1))=.ok ([(⟨l[i].t,⟨#[]⟩,aa,(x:Int),0,l[i].p⟩:Rw)],l4)):=by
       have h:=stmt_flat (rec:=rec) (d:=d) (t:=l[i]) (r:=l.drop (i+1)) (by rw [hsh,hrk];exact HM) (by rw [hsh])
       rw [hkk] at h
       exact h
      go_wp2_with (first | (go_at_call 151;(with_reducible refine (LA _).mono ?_);rintro e w8 ⟨rfl,hN8⟩;have hR8:=hR7.on hN8;have hO9:=hO8.below hN8;have f9:=(hN8.block _ f8.lt).trans f8) | (go_at_call 150;(with_reducible refine (SG _ hR8 hj3).mono ?_);rintro e w9 ⟨rfl,hG9,j4,hj4,hR9⟩;have hO10:=hO9.gb hG9 hR8.blk;have f10:=gb_bk hG9 f9 hfr;have g4:w9.cell? ⟨w3.heap.size,4,none⟩=some (.bool false):=f10.cell 4;have z9:=f10.lt))
      go_end0
      exact ⟨(hR9.on (bal (Below.refl _ _) _)).below,.inr ⟨[(⟨l[i].t,⟨#[]⟩,aa,(x:Int),0,l[i].p⟩:Rw)],j4,by rw [←hj4];exact EQ.out,rfl,_,hR9.on (bal (Below.refl _ _) _),hO10.below (bal (Below.refl _ _) _),by
       have e8:l4.length=l.length-j4:=by rw [hj4,List.length_drop]
       have:=hR9.le
       rw [List.length_append]
       show rs.length+1≤j4
       omega⟩⟩
     | true=>
      have BOA:∀W' {j},RS0 w W' rb ts l n j (.slice a7 (rs.length+1) k7)→OR W' w.heap.size (.slice a7 (rs.length+1) k7) (rs++[(⟨l[i].t,⟨#[]⟩,aa,(x:Int),0,l[i].p⟩:Rw)])→l4=l.drop j→Calls Tryz.prog 152 #[.pointer (some ⟨rb,0,none⟩),tv u,.int .i64 d] W' (Did w rb ts l n (rs++[(⟨l[i].t,⟨#[]⟩,aa,(x:Int),0,l[i].p⟩:Rw)]) (bodyP rec d u.p l4)):=fun W' j h1 h2 e=>by
       have e8:l4.length=l.length-j:=by rw [e,List.length_drop]
       have:=h1.le
       have hb:=hB w W' rb ts l j (rs++[(⟨l[i].t,⟨#[]⟩,aa,(x:Int),0,l[i].p⟩:Rw)]) d u ⟨_,h1,h2,by rw [List.length_append];show rs.length+1≤j;omega⟩ (by rw [←e];omega) hd
       rw [←e] at hb
       exact hb
      cases h5:bodyP rec d u.p l4 with
      | error q=>
       have EQ:Hid (stmtP n rec d (l[i]::l.drop (i+1))=.error q):=stmt_be (by rw [hsh,hrk];exact HM) (by rw [hsh]) h5
       have BO:∀W' {j},RS0 w W' rb ts l n j (.slice a7 (rs.length+1) k7)→OR W' w.heap.size (.slice a7 (rs.length+1) k7) (rs++[(⟨l[i].t,⟨#[]⟩,aa,(x:Int),0,l[i].p⟩:Rw)])→l4=l.drop j→_:=fun W' j h1 h2 e=>did_err (by have:=BOA W' h1 h2 e;rw [h5] at this;exact this)
       clear BOA h5
       go_wp2_with (first | (go_at_call 151;(with_reducible refine (LA _).mono ?_);rintro e w8 ⟨rfl,hN8⟩;have hR8:=hR7.on hN8;have hO9:=hO8.below hN8;have f9:=(hN8.block _ f8.lt).trans f8) | (go_at_call 150;(with_reducible refine (SG _ hR8 hj3).mono ?_);rintro e w9 ⟨rfl,hG9,j4,hj4,hR9⟩;have hO10:=hO9.gb hG9 hR8.blk;have f10:=gb_bk hG9 f9 hfr;have g4:w9.cell? ⟨w3.heap.size,4,none⟩=some (.bool true):=f10.cell 4;have z9:=f10.lt) | (go_at_call 152;(with_reducible refine (BO _ (hR9.on (bal (Below.refl _ _) (.cells #[.int .i64 u.k,.string u.t,.int .i64 u.p] 175))) (hO10.below (bal (Below.refl _ _) (.cells #[.int .i64 u.k,.string u.t,.int .i64 u.p] 175))) hj4).mono ?_);rintro e w10 ⟨rfl,hE⟩))
       exact ⟨rfl,hE,.inl ⟨q,EQ.out,rfl⟩⟩
      | ok y=>
       obtain ⟨rs2,l5⟩:=y
       have EQ:Hid (stmtP n rec d (l[i]::l.drop (i+1))=.ok ((⟨l[i].t,⟨#[]⟩,aa,(x:Int),0,l[i].p⟩:Rw).set rs2.length::rs2,l5)):=by
        have h:=stmt_bo (rec:=rec) (d:=d) (t:=l[i]) (r:=l.drop (i+1)) (by rw [hsh,hrk];exact HM) (by rw [hsh]) h5
        rw [hkk] at h
        exact h
       have BO:∀W' {j},RS0 w W' rb ts l n j (.slice a7 (rs.length+1) k7)→OR W' w.heap.size (.slice a7 (rs.length+1) k7) (rs++[(⟨l[i].t,⟨#[]⟩,aa,(x:Int),0,l[i].p⟩:Rw)])→l4=l.drop j→_:=fun W' j h1 h2 e=>did_ok (by have:=BOA W' h1 h2 e;rw [h5] at this;exact this)
       clear BOA h5
       go_upto_region 16 with (first | (go_at_call 151;(with_reducible refine (LA _).mono ?_);rintro e w8 ⟨rfl,hN8⟩;have hR8:=hR7.on hN8;have hO9:=hO8.below hN8;have f9:=(hN8.block _ f8.lt).trans f8) | (go_at_call 150;(with_reducible refine (SG _ hR8 hj3).mono ?_);rintro e w9 ⟨rfl,hG9,j4,hj4,hR9⟩;have hO10:=hO9.gb hG9 hR8.blk;have f10:=gb_bk hG9 f9 hfr;have g4:w9.cell? ⟨w3.heap.size,4,none⟩=some (.bool true):=f10.cell 4;have z9:=f10.lt) | (go_at_call 152;(with_reducible refine (BO _ (hR9.on (bal (Below.refl _ _) (.cells #[.int .i64 u.k,.string u.t,.int .i64 u.p] 175))) (hO10.below (bal (Below.refl _ _) (.cells #[.int .i64 u.k,.string u.t,.int .i64 u.p] 175))) hj4).mono ?_);rintro e w10 ⟨rfl,hE,j5,hj5,v10,hR10,hO11,hc10⟩))
       have hl10:(rs++[(⟨l[i].t,⟨#[]⟩,aa,(x:Int),0,l[i].p⟩:Rw)]++rs2).length=rs.length+1+rs2.length:=by simp;omega
       obtain ⟨g,cap,rfl,hcap,hfz,hcl,hgb,hgl,⟨csg,hgt⟩,hset⟩:=hO11.rows rs.length (by rw [hl10];omega)
       have hj5l:=hR10.le
       have hl5l:(rs++[(⟨l[i].t,⟨#[]⟩,aa,(x:Int),0,l[i].p⟩:Rw)]++rs2).length≤l.length:=by omega
       have hst:=hset (rs2.length:Int)
       rw [at_mid,set_mid] at hst
       have HL10:Hid ((rs++[(⟨l[i].t,⟨#[]⟩,aa,(x:Int),0,l[i].p⟩:Rw)]++rs2).length=rs.length+1+rs2.length):=hl10
       have hgr:g≠rb:=fun e=>(by rw [e] at hgt;have h2:=hR10.blk;unfold BK at h2;rw [hgt] at h2;cases h2)
       have k0:w10.cell? ⟨rb,3,none⟩=some (.slice (some ⟨g,0,none⟩) (rs++[(⟨l[i].t,⟨#[]⟩,aa,(x:Int),0,l[i].p⟩:Rw)]++rs2).length cap):=hR10.blk.cell 3
       have k1:=hfz (rs.length*6+4)
       have hgz:rb<w10.heap.size:=hR10.blk.lt
       have hRA:=hR10.own (grown_set w10 g (rs.length*6+4) (.int .i64 (rs2.length:Int))) (fun k e=>(by cases e;exact ⟨hgb,hgr⟩))
       have hlast:(rs++(⟨l[i].t,⟨#[]⟩,aa,(x:Int),0,l[i].p⟩:Rw).set rs2.length::rs2).length=(rs++[(⟨l[i].t,⟨#[]⟩,aa,(x:Int),0,l[i].p⟩:Rw)]++rs2).length:=by simp
       rw [at_mid] at hcl
       clear hset hR10 hO11 hl10
       generalize (rs++[(⟨l[i].t,⟨#[]⟩,aa,(x:Int),0,l[i].p⟩:Rw)]++rs2).length=N10 at *
       have nn1:(N10:Int)-(rs.length:Int)-1=(rs2.length:Int):=by have:=HL10.out;omega
       have nn2:rs.length<N10:=by have:=HL10.out;omega
       have nn3:(rs.length:Int)<(N10:Int):=by omega
       go_region
       go_end0
       exact ⟨below_drew hRA.below,.inr ⟨_,j5,by rw [←hj5];exact EQ.out,rfl,_,hRA.on (below_drew (Below.refl _ _)),hst.below (below_drew (Below.refl _ _)),by rw [hlast];exact hc10⟩⟩
end Go.Proofs.YtdjfpghgklkejaaGreatDoor
