/-
  Put together of: LP4 LP5 LP6.
-/
import Derived.Test.YtdjfpghgklkejaaGreatDoorXG
import Derived.Deep.RegionHeldLaw
import Derived.Deep.RegionLaw
namespace Go.Proofs.YtdjfpghgklkejaaGreatDoor
open Go.RowKit Go.Sort
set_option maxHeartbeats 4000000 in
set_option maxRecDepth 100000 in
theorem args_any_n (w W:World) (rb:Nat) (ts:Value) (l:List Tk) (n:Int) (i:Nat) (v:Value) (sa:Bool) (sc sd se:Bool) (H:RS0 w W rb ts l n i v)  :
  Calls Tryz.prog 148 #[.pointer (some ⟨rb,0,none⟩),.agg #[.bool sa,.int .i64 (-1),.bool sc,.bool sd,.bool se]] W fun e W'=>GB W W' rb ∧
   ((∃q,argsP n ⟨sa,(-1),sc,sd,se⟩ ((l.drop i).length+1) [] (l.drop i)=.error q∧e=.panicked [flt q]) ∨
    ∃av aa j,argsP n ⟨sa,(-1),sc,sd,se⟩ ((l.drop i).length+1) [] (l.drop i)=.ok (aa,l.drop j)∧e=.returned av∧RS0 w W' rb ts l n j v∧W'.ownsRow W.heap.size 100 2 av aa.length (ars aa)):=by
 obtain ⟨i6,hi6,hz6,hs6,hb6⟩:=info_parts Tryz.info100
 have hlt:=H.blk.lt
 have hfb:W.heap.size≠rb:=by omega
 have HR:Hid (RS0 w W rb ts l n i v):=H
 have hlen:=H.len
 have hbx:=bk_new W #[.bool sa,.int .i64 (-1),.bool sc,.bool sd,.bool se] 187
 have hA0:Hid (AI w (W.alloc (.cells #[.bool sa,.int .i64 (-1),.bool sc,.bool sd,.bool se] 187)) (W.alloc (.cells #[.bool sa,.int .i64 (-1),.bool sc,.bool sd,.bool se] 187)) rb ts l n v (.slice none 0 0) [] i):=
  ⟨by simp;omega,gb_refl _ _,H.on (bal (Below.refl _ _) _),World.ownsRow_nil _ _ _ _⟩
 have own_out:∀ {W':World} {av:Value} {aa:List Ar},W'.ownsRow (W.alloc (.cells #[.bool sa,.int .i64 (-1),.bool sc,.bool sd,.bool se] 187)).heap.size 100 2 av aa.length (ars aa)→W'.ownsRow W.heap.size 100 2 av aa.length (ars aa):=fun h=>⟨h.1,by
  rcases h.2 with h | ⟨g,cap,cur,e,h1,r⟩
  ·exact .inl h
  ·exact .inr ⟨g,cap,cur,e,by simp at h1;omega,r⟩⟩
 have gb_out:∀ {W':World},GB (W.alloc (.cells #[.bool sa,.int .i64 (-1),.bool sc,.bool sd,.bool se] 187)) W' rb→GB W W' rb:=fun h=>gb_trans (gb_alloc (gb_refl _ _) _) h
 generalize hsp:(⟨sa,(-1),sc,sd,se⟩:Sh)=sp at *
 have LA:∀w,Calls Tryz.prog 151 #[.agg #[.bool sa,.int .i64 (-1),.bool sc,.bool sd,.bool se]] w fun e w'=>e=.returned (.string (lastS sp))∧Below w.heap.size w w':=fun w=>by subst hsp;exact last_any ⟨sa,(-1),sc,sd,se⟩ w
 obtain ⟨lst,hlst⟩:∃lst,lst=lastS sp:=⟨_,rfl⟩
 rw [←hlst] at LA
 have HL:Hid (lst=lastS sp):=hlst
 have HS:Hid (⟨sa,(-1),sc,sd,se⟩=sp):=hsp
 obtain ⟨F,hF⟩:∃F,F=(l.drop i).length+1:=⟨_,rfl⟩
 have HFF:Hid (F=(l.drop i).length+1):=hF
 clear hlst hsp H
 rw [←hF]
 clear hF
 go_enter Tryz.func148,Tryz.ntmps148
 go_upto_region 2 with (fail)
 go_loopg [5] F (fun g v5 wr=>∃(acc:List Ar) (j f0:Nat),f0=g∧acc.length+(l.drop j).length≤l.length∧(l.drop j).length<f0∧Hid (argsP n sp F [] (l.drop i)=argsP n sp f0 acc (l.drop j))∧Hid (AI w (W.alloc (.cells #[.bool sa,.int .i64 (-1),.bool sc,.bool sd,.bool se] 187)) wr rb ts l n v v5 acc j))
 case atStart=>exact ⟨[],i,F,rfl,by simp,by rw [HFF.out];omega,rfl,hA0⟩
 case round=>
  clear hA0
  obtain ⟨acc,j,f0,rfl,hcount,hfuel,hP,hH⟩:=hrel
  obtain ⟨ava,avc,rfl⟩:=own_shape hH.out.o
  obtain ⟨q0,q1,q2,q3,q4,q5⟩:=hH.out.form hbx hfb
  obtain ⟨f,rfl⟩:∃f,f0=f+1:=⟨f0-1,by omega⟩
  have EP:Hid (argsP n sp (f+1) acc (l.drop j)=if moreB sp acc.length (l.drop j)=true then (match argP n sp.idx (l.drop j) with | .error e=>.error e | .ok (a,r)=>argsP n sp f (acc++[a]) r) else .ok (acc,l.drop j)):=rfl
  have EI:sp.idx=sc:=by rw [←HS.out]
  have EA:sp.args=(-1):=by rw [←HS.out]
  have hcnt:¬((acc.length:Int) < -1):=by omega
  have hmore:moreB sp acc.length (l.drop j)=!seesB lst (l.drop j):=by
   unfold moreB
   rw [EA,decide_eq_false hcnt,←HL.out]
   simp
  have SE:=fun W' h=>sees_any w W' rb ts l n j v lst h
  generalize hsee:seesB lst (l.drop j)=sB at *
  cases sB with
  | true=>
   have EQ:Hid (argsP n sp F [] (l.drop i)=.ok (acc,l.drop j)):=by show _=_;rw [hP.out,EP.out,hmore];rfl
   clear hP EP hmore
   go_wp2_with (first
    | (go_at_call 151;(with_reducible refine (LA _).mono ?_);rintro e wA ⟨rfl,hNA⟩;have hA:=hH.out.on hNA)
    | (go_at_call 165;(with_reducible refine (SE _ hA.r).mono ?_);rintro e wS ⟨rfl,mS,rfl⟩;have hM:=hA.drewN mS))
   go_ret
   exact ⟨gb_out hM.g,.inr ⟨_,acc,j,EQ.out,rfl,hM.r,own_out hM.o⟩⟩
  | false=>
   have hmt:moreB sp acc.length (l.drop j)=true:=by rw [hmore];rfl
   clear hmore
   have EP2:Hid (argsP n sp F [] (l.drop i)=(match argP n sc (l.drop j) with | .error e=>.error e | .ok (a,r)=>argsP n sp f (acc++[a]) r)):=by show _=_;rw [hP.out,EP.out,if_pos hmt,EI]
   clear hP EP hmt
   cases hn:nameP n (l.drop j) with
   | error q=>
    have EQ:Hid (argsP n sp F [] (l.drop i)=.error q):=by show _=_;rw [EP2.out];unfold argP;rw [hn]
    have NM:=fun W' (h:RS0 w W' rb ts l n j v)=>told_err (by have:=name_any w W' rb ts l n j v h;rwa [hn] at this)
    clear hn EP2
    go_wp2_with (first
     | (go_at_call 151;(with_reducible refine (LA _).mono ?_);rintro e wA ⟨rfl,hNA⟩;have hA:=hH.out.on hNA;obtain ⟨q0,q1,q2,q3,q4,q5⟩:=hA.form hbx hfb) | (go_at_call 165;(with_reducible refine (SE _ hA.r).mono ?_);rintro e wS ⟨rfl,mS,rfl⟩;have hM:=hA.drewN mS) | (go_at_call 147;(with_reducible refine (NM _ hM.r).mono ?_);rintro e wB ⟨rfl,hGB⟩))
    exact ⟨rfl,gb_out (gb_trans hM.g hGB),.inl ⟨q,EQ.out,rfl⟩⟩
   | ok y=>
    obtain ⟨a1,r1⟩:=y
    have NM:=fun W' (h:RS0 w W' rb ts l n j v)=>told_ok (by have:=name_any w W' rb ts l n j v h;rwa [hn] at this)
    obtain ⟨t1,ht1,_,_⟩:=nameP_len hn
    have hlr1:r1.length+1=(l.drop j).length:=by rw [ht1];rfl
    have SL:∀W' {j1},RS0 w W' rb ts l n j1 v→r1=l.drop j1→Calls Tryz.prog 165 #[.pointer (some ⟨rb,0,none⟩),.string ⟨#[91]⟩] W' fun e W''=>e=.returned (.bool (seesB wLeft r1))∧∃m,W''=W'.drewN m:=fun W' j1 h e=>by rw [e];exact sees_any w W' rb ts l n j1 v wLeft h
    cases sc with
    | false=>
     have hr:argP n false (l.drop j)=.ok (⟨a1,-1⟩,r1):=by unfold argP;rw [hn];simp
     have EQ:Hid (argsP n sp F [] (l.drop i)=argsP n sp f (acc++[⟨a1,-1⟩]) r1):=by show _=_;rw [EP2.out,hr]
     clear EP2 hn hr ht1
     go_wp2_with (first
      | (go_at_call 151;(with_reducible refine (LA _).mono ?_);rintro e wA ⟨rfl,hNA⟩;have hA:=hH.out.on hNA;obtain ⟨q0,q1,q2,q3,q4,q5⟩:=hA.form hbx hfb) | (go_at_call 165;(with_reducible refine (SE _ hA.r).mono ?_);rintro e wS ⟨rfl,mS,rfl⟩;have hM:=hA.drewN mS) | (go_at_call 147;(with_reducible refine (NM _ hM.r).mono ?_);rintro e wB ⟨rfl,hGB,j1,hj1,hRB⟩;have hB:=hM.gb hGB hRB;obtain ⟨q0,q1,q2,q3,q4,q5⟩:=hB.form hbx hfb;have hbw:=hB.r.blk.lt) | (at_builtin;have hV:=(hB.alloc (.cells #[.string a1,.int .i64 (-1)] 100)).alloc (.cells #[.string a1,.int .i64 (-1)] 100);refine wpList_append_own_at _ rfl _ _ 77 rfl _ 100 i6 zArg 2 24 Tryz.underlying77 hi6 hz6 hs6 hb6 rfl (by decide) _ acc.length (ars acc) rfl hV.o ⟨_,0,none⟩ 1 1 (arc ⟨a1,(-1)⟩) rfl rfl (new_arg' _ _ (by simp) ⟨a1,(-1)⟩) (one_arg _) (by unfold maxLen;omega) (by omega) hV.g.size ?_;intro v6 w6 hown6 hgrow6 hnil6 hloc6;have hZ:=hV.put hgrow6 hown6;clear hown6 hgrow6 hnil6 hloc6 hV))
     go_roundg f
     case measure=>omega
     case rel=>exact ⟨acc++[(⟨a1,-1⟩:Ar)],j1,f,rfl,by rw [←hj1,List.length_append];show acc.length+1+_≤_;omega,by rw [←hj1];omega,by rw [←hj1];exact EQ,hZ⟩
    | true=>
     cases hse:seesB wLeft r1 with
     | false=>
      rw [hse] at SL
      have hr:argP n true (l.drop j)=.ok (⟨a1,-1⟩,r1):=by unfold argP;rw [hn];simp [hse]
      have EQ:Hid (argsP n sp F [] (l.drop i)=argsP n sp f (acc++[⟨a1,-1⟩]) r1):=by show _=_;rw [EP2.out,hr]
      clear EP2 hn hr ht1 hse
      go_wp2_with (first
       | (go_at_call 151;(with_reducible refine (LA _).mono ?_);rintro e wA ⟨rfl,hNA⟩;have hA:=hH.out.on hNA;obtain ⟨q0,q1,q2,q3,q4,q5⟩:=hA.form hbx hfb) | (go_at_call 165;(with_reducible refine (SE _ hA.r).mono ?_);rintro e wS ⟨rfl,mS,rfl⟩;have hM:=hA.drewN mS) | (go_at_call 147;(with_reducible refine (NM _ hM.r).mono ?_);rintro e wB ⟨rfl,hGB,j1,hj1,hRB⟩;have hB:=hM.gb hGB hRB;obtain ⟨q0,q1,q2,q3,q4,q5⟩:=hB.form hbx hfb;have hbw:=hB.r.blk.lt) | (go_at_call 165;(with_reducible refine (SL _ (hB.alloc (.cells #[.string a1,.int .i64 (-1)] 100)).r hj1).mono ?_);rintro e wT ⟨rfl,mT,rfl⟩;have hT:=(hB.alloc (.cells #[.string a1,.int .i64 (-1)] 100)).drewN mT) | (at_builtin;have hV:=(hT).alloc (.cells #[.string a1,.int .i64 (-1)] 100);refine wpList_append_own_at _ rfl _ _ 77 rfl _ 100 i6 zArg 2 24 Tryz.underlying77 hi6 hz6 hs6 hb6 rfl (by decide) _ acc.length (ars acc) rfl hV.o ⟨_,0,none⟩ 1 1 (arc ⟨a1,(-1)⟩) rfl rfl (new_arg' _ _ (by simp) ⟨a1,(-1)⟩) (one_arg _) (by unfold maxLen;omega) (by omega) hV.g.size ?_;intro v6 w6 hown6 hgrow6 hnil6 hloc6;have hZ:=hV.put hgrow6 hown6;clear hown6 hgrow6 hnil6 hloc6 hV))
      go_roundg f
      case measure=>omega
      case rel=>exact ⟨acc++[(⟨a1,-1⟩:Ar)],j1,f,rfl,by rw [←hj1,List.length_append];show acc.length+1+_≤_;omega,by rw [←hj1];omega,by rw [←hj1];exact EQ,hZ⟩
     | true=>
      rw [hse] at SL
      obtain ⟨t2,r2,rfl,ht2⟩:=seesB_cons hse
      have SG:∀W' {j1},RS0 w W' rb ts l n j1 v→t2::r2=l.drop j1→Calls Tryz.prog 150 #[.pointer (some ⟨rb,0,none⟩),.string ⟨#[91]⟩] W' fun e W''=>e=.returned (tv t2)∧GB W' W'' rb∧∃j2,r2=l.drop j2∧RS0 w W'' rb ts l n j2 v:=fun W' j1 h e=>told_ok (by
       have:=sign_any' w W' rb ts l n j1 v wLeft h
       have e2:signP n wLeft (l.drop j1)=.ok (t2,r2):=by rw [←e];simp only [signP,if_pos ht2]
       rwa [e2] at this)
      have hr:argP n true (l.drop j)=(match numP n r2 with | .error e=>.error e | .ok (x,r3)=>match signP n wRight r3 with | .error e=>.error e | .ok (_,r4)=>.ok (⟨a1,x⟩,r4)):=by
       unfold argP;rw [hn];simp only [hse,and_self,if_true,List.tail_cons];rfl
      have NUA:=fun W' j2 h=>number_any w W' rb ts l n j2 v h
      clear hse ht2
      cases hx:numP n r2 with
      | error q=>
       have EQ:Hid (argsP n sp F [] (l.drop i)=.error q):=by show _=_;rw [EP2.out,hr,hx]
       have NU:∀W' {j2},RS0 w W' rb ts l n j2 v→r2=l.drop j2→_:=fun W' j2 h e=>told_err (by have:=NUA W' j2 h;rw [←e,hx] at this;exact this)
       clear EP2 hn hr ht1 hx NUA
       go_wp2_with (first
        | (go_at_call 151;(with_reducible refine (LA _).mono ?_);rintro e wA ⟨rfl,hNA⟩;have hA:=hH.out.on hNA;obtain ⟨q0,q1,q2,q3,q4,q5⟩:=hA.form hbx hfb) | (go_at_call 165;(with_reducible refine (SE _ hA.r).mono ?_);rintro e wS ⟨rfl,mS,rfl⟩;have hM:=hA.drewN mS) | (go_at_call 147;(with_reducible refine (NM _ hM.r).mono ?_);rintro e wB ⟨rfl,hGB,j1,hj1,hRB⟩;have hB:=hM.gb hGB hRB;obtain ⟨q0,q1,q2,q3,q4,q5⟩:=hB.form hbx hfb;have hbw:=hB.r.blk.lt) | (go_at_call 165;(with_reducible refine (SL _ (hB.alloc (.cells #[.string a1,.int .i64 (-1)] 100)).r hj1).mono ?_);rintro e wT ⟨rfl,mT,rfl⟩;have hT:=(hB.alloc (.cells #[.string a1,.int .i64 (-1)] 100)).drewN mT) | (go_at_call 150;(with_reducible refine (SG _ hT.r hj1).mono ?_);rintro e wC ⟨rfl,hGC,j2,hj2,hRC⟩;have hC:=hT.gb hGC hRC;have bC:=gb_bk hGC ((bk_new wB #[.string a1,.int .i64 (-1)] 100).drewN mT) (Nat.ne_of_gt hbw)) | (go_at_call 149;(with_reducible refine (NU _ hC.r hj2).mono ?_);rintro e wD ⟨rfl,hGD⟩))
       exact ⟨rfl,gb_out (gb_trans hC.g hGD),.inl ⟨q,EQ.out,rfl⟩⟩
      | ok y=>
       obtain ⟨x1,r3⟩:=y
       have NU:∀W' {j2},RS0 w W' rb ts l n j2 v→r2=l.drop j2→_:=fun W' j2 h e=>told_ok (by have:=NUA W' j2 h;rw [←e,hx] at this;exact this)
       obtain ⟨t3,rfl,_⟩:=numP_len hx
       have SRA:=fun W' j2 h=>sign_any' w W' rb ts l n j2 v wRight h
       cases hy:signP n wRight r3 with
       | error q=>
        have EQ:Hid (argsP n sp F [] (l.drop i)=.error q):=by show _=_;rw [EP2.out,hr,hx];simp only [hy]
        have SR:∀W' {j3},RS0 w W' rb ts l n j3 v→r3=l.drop j3→_:=fun W' j3 h e=>told_err (by have:=SRA W' j3 h;rw [←e,hy] at this;exact this)
        clear EP2 hn hr ht1 hx NUA SRA hy
        go_wp2_with (first
         | (go_at_call 151;(with_reducible refine (LA _).mono ?_);rintro e wA ⟨rfl,hNA⟩;have hA:=hH.out.on hNA;obtain ⟨q0,q1,q2,q3,q4,q5⟩:=hA.form hbx hfb) | (go_at_call 165;(with_reducible refine (SE _ hA.r).mono ?_);rintro e wS ⟨rfl,mS,rfl⟩;have hM:=hA.drewN mS) | (go_at_call 147;(with_reducible refine (NM _ hM.r).mono ?_);rintro e wB ⟨rfl,hGB,j1,hj1,hRB⟩;have hB:=hM.gb hGB hRB;obtain ⟨q0,q1,q2,q3,q4,q5⟩:=hB.form hbx hfb;have hbw:=hB.r.blk.lt) | (go_at_call 165;(with_reducible refine (SL _ (hB.alloc (.cells #[.string a1,.int .i64 (-1)] 100)).r hj1).mono ?_);rintro e wT ⟨rfl,mT,rfl⟩;have hT:=(hB.alloc (.cells #[.string a1,.int .i64 (-1)] 100)).drewN mT) | (go_at_call 150;(with_reducible refine (SG _ hT.r hj1).mono ?_);rintro e wC ⟨rfl,hGC,j2,hj2,hRC⟩;have hC:=hT.gb hGC hRC;have bC:=gb_bk hGC ((bk_new wB #[.string a1,.int .i64 (-1)] 100).drewN mT) (Nat.ne_of_gt hbw)) | (go_at_call 149;(with_reducible refine (NU _ hC.r hj2).mono ?_);rintro e wD ⟨rfl,hGD,j3,hj3,hRD⟩;have hD:=hC.gb hGD hRD;have bD:=gb_bk hGD bC (Nat.ne_of_gt hbw);have u0:wD.cell? ⟨wB.heap.size,0,none⟩=some (.string a1):=bD.cell 0;have u1:wD.cell? ⟨wB.heap.size,1,none⟩=some (.int .i64 (-1)):=bD.cell 1;have u2:=bD.free 1;have hE:=hD.set (b:=wB.heap.size) hB.g.size (fun g e e2=>(by have:=hB.o.lt g e;omega)) 1 (.int .i64 x1)) | (go_at_call 150;(with_reducible refine (SR _ hE.r hj3).mono ?_);rintro e wE ⟨rfl,hGE⟩))
        exact ⟨rfl,gb_out (gb_trans hE.g hGE),.inl ⟨q,EQ.out,rfl⟩⟩
       | ok y=>
        obtain ⟨t4,r4⟩:=y
        have EQ:Hid (argsP n sp F [] (l.drop i)=argsP n sp f (acc++[⟨a1,x1⟩]) r4):=by show _=_;rw [EP2.out,hr,hx];simp only [hy]
        have SR:∀W' {j3},RS0 w W' rb ts l n j3 v→r3=l.drop j3→_:=fun W' j3 h e=>told_ok (by have:=SRA W' j3 h;rw [←e,hy] at this;exact this)
        obtain ⟨rfl,_⟩:=signP_len hy
        have hlr4:r4.length+4=(l.drop j).length:=by simp only [List.length_cons] at hlr1;omega
        clear EP2 hn hr ht1 hx NUA SRA hy
        go_wp2_with (first
         | (go_at_call 151;(with_reducible refine (LA _).mono ?_);rintro e wA ⟨rfl,hNA⟩;have hA:=hH.out.on hNA;obtain ⟨q0,q1,q2,q3,q4,q5⟩:=hA.form hbx hfb) | (go_at_call 165;(with_reducible refine (SE _ hA.r).mono ?_);rintro e wS ⟨rfl,mS,rfl⟩;have hM:=hA.drewN mS) | (go_at_call 147;(with_reducible refine (NM _ hM.r).mono ?_);rintro e wB ⟨rfl,hGB,j1,hj1,hRB⟩;have hB:=hM.gb hGB hRB;obtain ⟨q0,q1,q2,q3,q4,q5⟩:=hB.form hbx hfb;have hbw:=hB.r.blk.lt) | (go_at_call 165;(with_reducible refine (SL _ (hB.alloc (.cells #[.string a1,.int .i64 (-1)] 100)).r hj1).mono ?_);rintro e wT ⟨rfl,mT,rfl⟩;have hT:=(hB.alloc (.cells #[.string a1,.int .i64 (-1)] 100)).drewN mT) | (go_at_call 150;(with_reducible refine (SG _ hT.r hj1).mono ?_);rintro e wC ⟨rfl,hGC,j2,hj2,hRC⟩;have hC:=hT.gb hGC hRC;have bC:=gb_bk hGC ((bk_new wB #[.string a1,.int .i64 (-1)] 100).drewN mT) (Nat.ne_of_gt hbw)) | (go_at_call 149;(with_reducible refine (NU _ hC.r hj2).mono ?_);rintro e wD ⟨rfl,hGD,j3,hj3,hRD⟩;have hD:=hC.gb hGD hRD;have bD:=gb_bk hGD bC (Nat.ne_of_gt hbw);have u0:wD.cell? ⟨wB.heap.size,0,none⟩=some (.string a1):=bD.cell 0;have u1:wD.cell? ⟨wB.heap.size,1,none⟩=some (.int .i64 (-1)):=bD.cell 1;have u2:=bD.free 1;have hE:=hD.set (b:=wB.heap.size) hB.g.size (fun g e e2=>(by have:=hB.o.lt g e;omega)) 1 (.int .i64 x1)) | (go_at_call 150;(with_reducible refine (SR _ hE.r hj3).mono ?_);rintro e wE ⟨rfl,hGE,j4,hj4,hRE⟩;have hF:=hE.gb hGE hRE;have bE:=gb_bk hGE (bD.set 1 (.int .i64 x1)) (Nat.ne_of_gt hbw);have u3:wE.cell? ⟨wB.heap.size,0,none⟩=some (.string a1):=bE.cell 0;have u4:wE.cell? ⟨wB.heap.size,1,none⟩=some (.int .i64 x1):=bE.cell 1;have u5:=bE.lt) | (at_builtin;have hV:=(hF).alloc (.cells #[.string a1,.int .i64 x1] 100);refine wpList_append_own_at _ rfl _ _ 77 rfl _ 100 i6 zArg 2 24 Tryz.underlying77 hi6 hz6 hs6 hb6 rfl (by decide) _ acc.length (ars acc) rfl hV.o ⟨_,0,none⟩ 1 1 (arc ⟨a1,x1⟩) rfl rfl (new_arg' _ _ (by simp) ⟨a1,x1⟩) (one_arg _) (by unfold maxLen;omega) (by omega) hV.g.size ?_;intro v6 w6 hown6 hgrow6 hnil6 hloc6;have hZ:=hV.put hgrow6 hown6;clear hown6 hgrow6 hnil6 hloc6 hV))
        go_roundg f
        case measure=>omega
        case rel=>exact ⟨acc++[(⟨a1,(x1:Int)⟩:Ar)],j4,f,rfl,by rw [←hj4,List.length_append];show acc.length+1+_≤_;omega,by rw [←hj4];omega,by rw [←hj4];exact EQ,hZ⟩
end Go.Proofs.YtdjfpghgklkejaaGreatDoor
namespace Go.Proofs.YtdjfpghgklkejaaGreatDoor
open Go.RowKit Go.Sort
abbrev rwc (r:Rw) (v:Value):List Value:=[.string r.kind,.string r.name,v,.int .i64 r.num,.int .i64 r.rows,.int .i64 r.place]
def rws:List Rw→List Value→List Value
 | r::rs,v::vs=>rwc r v++rws rs vs
 | _,_=>[]
theorem rws_put:∀(rs:List Rw) (vs:List Value) (r:Rw) (v:Value),rs.length=vs.length→rws (rs++[r]) (vs++[v])=rws rs vs++rwc r v
 | [],[],_,_,_=>rfl
 | [],_::_,_,_,h=>by cases h
 | _::_,[],_,_,h=>by cases h
 | r0::rs,v0::vs,r,v,h=>by
  show rwc r0 v0++rws (rs++[r]) (vs++[v])=rwc r0 v0++rws rs vs++rwc r v
  rw [rws_put rs vs r v (by simpa using h),List.append_assoc]
theorem rws_length:∀(rs:List Rw) (vs:List Value),rs.length=vs.length→(rws rs vs).length=rs.length*6
 | [],[],_=>rfl
 | [],_::_,h=>by cases h
 | _::_,[],h=>by cases h
 | r0::rs,v0::vs,h=>by
  show (rwc r0 v0++rws rs vs).length=_
  rw [List.length_append,rws_length rs vs (by simpa using h)]
  show 6+_=(rs.length+1)*6
  omega
theorem rws_at:∀(rs:List Rw) (vs:List Value),rs.length=vs.length→∀(j:Nat) (h:j<rs.length) (h':j<vs.length),
  (rws rs vs)[j*6]?=some (.string rs[j].kind)∧(rws rs vs)[j*6+1]?=some (.string rs[j].name)∧(rws rs vs)[j*6+2]?=some vs[j] ∧
  (rws rs vs)[j*6+3]?=some (.int .i64 rs[j].num)∧(rws rs vs)[j*6+4]?=some (.int .i64 rs[j].rows)∧(rws rs vs)[j*6+5]?=some (.int .i64 rs[j].place)
 | [],_,_,j,h,_=>absurd h (Nat.not_lt_zero _)
 | _::_,[],h,_,_,_=>by cases h
 | r0::rs,v0::vs,h,j,hj,hj'=>by
  have e:rws (r0::rs) (v0::vs)=rwc r0 v0++rws rs vs:=rfl
  cases j with
  | zero=>rw [e];exact ⟨rfl,rfl,rfl,rfl,rfl,rfl⟩
  | succ j=>
   have:=rws_at rs vs (by simpa using h) j (by simpa using hj) (by simpa using hj')
   rw [e,show (j+1)*6=j*6+6 by omega]
   exact this
abbrev Rw.set (r:Rw) (x:Int):Rw:=⟨r.kind,r.name,r.args,r.num,x,r.place⟩
theorem rws_set:∀(rs:List Rw) (vs:List Value),rs.length=vs.length→∀(j:Nat) (h:j<rs.length) (x:Int),(rws rs vs).set (j*6+4) (.int .i64 x)=rws (rs.set j (rs[j].set x)) vs
 | [],_,_,j,h,_=>absurd h (Nat.not_lt_zero _)
 | _::_,[],h,_,_,_=>by cases h
 | r0::rs,v0::vs,h,j,hj,x=>by
  cases j with
  | zero=>rfl
  | succ j=>
   have hj2:j<rs.length:=by simpa using hj
   have:=rws_set rs vs (by simpa using h) j hj2 x
   show (rwc r0 v0++rws rs vs).set ((j+1)*6+4) _=rwc r0 v0++rws (rs.set j (rs[j].set x)) vs
   rw [←this,show (j+1)*6+4=6+(j*6+4) by omega]
   exact List.set_append_right (s:=rwc r0 v0) (t:=rws rs vs) (6+(j*6+4)) _ (by show 6≤_;omega) |>.trans (by rw [show (rwc r0 v0).length=6 from rfl,Nat.add_sub_cancel_left])
abbrev zRow:Value:=.agg #[.string ⟨#[]⟩,.string ⟨#[]⟩,.slice none 0 0,.int .i64 0,.int .i64 0,.int .i64 0]
theorem Tryz.info79:(Tryz.prog.info? 79).map (fun i=>(i.zero,i.size,i.bytes))=some (some zRow,6,80):=by kernel_rfl
def OR (W:World) (B:Nat) (v:Value) (rs:List Rw):Prop:=
 ∃vs:List Value,rs.length=vs.length∧W.ownsRow B 79 6 v rs.length (rws rs vs)∧∀k (h:k<rs.length) (h':k<vs.length),W.ownsRow B 100 2 vs[k] rs[k].args.length (ars rs[k].args)
theorem OR.nil (W:World) (B:Nat):OR W B (.slice none 0 0) []:=⟨[],rfl,World.ownsRow_nil _ _ _ _,fun _ h=>absurd h (Nat.not_lt_zero _)⟩
section
variable {W W' : World} {B : Nat} {v v' : Value} {rs : List Rw}
theorem OR.below (h:OR W B v rs) (hb:Below W.heap.size W W'):OR W' B v rs:=by
 obtain ⟨vs,h1,h2,h3⟩:=h
 exact ⟨vs,h1,own_below h2 hb,fun k hk hk'=>own_below (h3 k hk hk') hb⟩
theorem OR.gb {rb:Nat} {cs:Array Value} (h:OR W B v rs) (g:GB W W' rb) (hb:BK W rb cs 132):OR W' B v rs:=by
 obtain ⟨vs,h1,h2,h3⟩:=h
 exact ⟨vs,h1,own_kept h2 g (own_ne h2 hb (by decide)),fun k hk hk'=>own_kept (h3 k hk hk') g (own_ne (h3 k hk hk') hb (by decide))⟩
theorem OR.far {b:Nat} (h:OR W B v rs) {S:World} (hS:∀g,v.ownBlock=some g→g<b) {cs:Array Value} {T:TypeId} (hT:T≠100) (hb:BK W b cs T) (g:W.grownBy W' (some b)) (_:S=W):OR W' B v rs:=by
 obtain ⟨vs,h1,h2,h3⟩:=h
 exact ⟨vs,h1,own_kept h2 g (fun k e e2=>by have:=hS k e;cases e2;omega),fun k hk hk'=>own_kept (h3 k hk hk') g (own_ne (h3 k hk hk') hb (fun e=>hT e.symm))⟩
theorem OR.shape (h:OR W B v rs):∃a c,v=.slice a rs.length c:=by
 obtain ⟨vs,_,h2,_⟩:=h
 exact own_shape h2
end
theorem new_row (w4:World) (b:Nat) (hb:b=w4.heap.size) (r:Rw) (v:Value):∀j u,(rwc r v)[j]?=some u→(w4.alloc (.cells (rwc r v).toArray 79)).cell? ((⟨b,0,none⟩:Addr).add j)=some u:=by
 intro j u hj
 subst hb
 rw [WideShapes.add_plain,Nat.zero_add]
 match j,hj with
 | 0,hj=>simp at hj;subst hj;simp [go_sem]
 | 1,hj=>simp at hj;subst hj;simp [go_sem]
 | 2,hj=>simp at hj;subst hj;simp [go_sem]
 | 3,hj=>simp at hj;subst hj;simp [go_sem]
 | 4,hj=>simp at hj;subst hj;simp [go_sem]
 | 5,hj=>simp at hj;subst hj;simp [go_sem]
theorem one_row (r:Rw) (a:Option Addr) (m c:Nat):∀u∈rwc r (.slice a m c),u.oneCell'=true:=fun u hu=>by
 simp at hu
 rcases hu with rfl | rfl | rfl | rfl | rfl | rfl <;> rfl
theorem OR.put {W W':World} {B:Nat} {v v' av:Value} {rs vs} {r:Rw} (h1:rs.length=vs.length) (h3:∀k (h:k<rs.length) (h':k<vs.length),W.ownsRow B 100 2 vs[k] rs[k].args.length (ars rs[k].args)) (hv:∀g,v.ownBlock=some g→∃cs,W.heap[g]?=some (.cells cs 79 (0,0)))
  (ha:W.ownsRow B 100 2 av r.args.length (ars r.args)) (hg:W.grownBy W' v.ownBlock) (ho:W'.ownsRow B 79 6 v' (rs.length+1) (rws rs vs++rwc r av)):OR W' B v' (rs++[r]):=by
 have key:∀ {x:Value} {n xs},W.ownsRow B 100 2 x n xs→W'.ownsRow B 100 2 x n xs:=fun hx=>own_kept hx hg (fun g e e2=>by
  obtain ⟨cs,h⟩:=hv g e2.symm
  exact own_ne hx (b:=g) h (by decide) g e rfl)
 refine ⟨vs++[av],by simp [h1],by rw [rws_put _ _ _ _ h1,List.length_append];exact ho,fun k hk hk'=>?_⟩
 by_cases e:k<rs.length
 ·rw [List.getElem_append_left (by omega),List.getElem_append_left e]
  exact key (h3 k e (by omega))
 ·have e1:k=rs.length:=by rw [List.length_append] at hk;simp at hk;omega
  subst e1
  have e2:(rs++[r])[rs.length]'hk=r:=by simp
  have e3:(vs++[av])[rs.length]'hk'=av:=by simp [h1]
  rw [e2,e3]
  exact key ha
end Go.Proofs.YtdjfpghgklkejaaGreatDoor
namespace Go.Proofs.YtdjfpghgklkejaaGreatDoor
open Go.RowKit Go.Sort
def RS (w W:World) (rb:Nat) (ts:Value) (l:List Tk) (n:Int) (i:Nat) (rs:List Rw):Prop:=
 ∃v,RS0 w W rb ts l n i v∧OR W w.heap.size v rs∧rs.length≤i
def Did (w:World) (rb:Nat) (ts:Value) (l:List Tk) (n:Int) (rs:List Rw) (r:Except Fa (List Rw × List Tk)) (e:Ending) (W':World):Prop:=
 Below w.heap.size w W'∧((∃q,r=.error q∧e=.panicked [flt q])∨∃rs2 j,r=.ok (rs2,l.drop j)∧e=.returned (.tuple #[])∧RS w W' rb ts l n j (rs++rs2))
def bodyP (rec:Nat→List Tk→Except Fa (List Rw × List Tk)) (d:Nat) (p:Int) (l:List Tk):Except Fa (List Rw × List Tk):=
 if 32≤d then .error (p,102) else match rec (d+1) l with | .error e=>.error e | .ok (rs,l5)=>.ok (rs,l5.tail)
def BodyOk (n:Int) (rec:Nat→List Tk→Except Fa (List Rw × List Tk)) (N:Nat):Prop:=
 ∀(w W:World) (rb:Nat) (ts:Value) (l:List Tk) (i:Nat) (rs:List Rw) (d:Nat) (t:Tk),RS w W rb ts l n i rs→(l.drop i).length<N→d≤32 →
  Calls Tryz.prog 152 #[.pointer (some ⟨rb,0,none⟩),tv t,.int .i64 d] W (Did w rb ts l n rs (bodyP rec d t.p (l.drop i)))
theorem did_err {w W:World} {rb:Nat} {ts:Value} {l:List Tk} {n:Int} {rs:List Rw} {k:FuncId} {a:Array Value} {q:Fa} (h:Calls Tryz.prog k a W (Did w rb ts l n rs (.error q))) :
  Calls Tryz.prog k a W fun e W'=>e=.panicked [flt q]∧Below w.heap.size w W':=h.mono fun e W' ⟨hg,h⟩=>by
 rcases h with ⟨q',e1,e2⟩ | ⟨x,j,e1,_⟩
 ·cases e1;exact ⟨e2,hg⟩
 ·cases e1
theorem did_ok {w W:World} {rb:Nat} {ts:Value} {l:List Tk} {n:Int} {rs:List Rw} {k:FuncId} {a:Array Value} {rs2:List Rw} {r:List Tk} (h:Calls Tryz.prog k a W (Did w rb ts l n rs (.ok (rs2,r)))) :
  Calls Tryz.prog k a W fun e W'=>e=.returned (.tuple #[])∧Below w.heap.size w W'∧∃j,r=l.drop j∧RS w W' rb ts l n j (rs++rs2):=h.mono fun e W' ⟨hg,h⟩=>by
 rcases h with ⟨q',e1,e2⟩ | ⟨x,j,e1,e2,hr⟩
 ·cases e1
 ·cases e1;exact ⟨e2,hg,j,rfl,hr⟩
structure SQ (w W:World) (rb:Nat) (ts:Value) (l:List Tk) (n:Int) (i:Nat) (v:Value) (rs:List Rw) (qb:Nat) (row:Array Value):Prop where
 r:RS0 w W rb ts l n i v
 o:OR W w.heap.size v rs
 q:BK W qb row 79
 lo:∀g,v.ownBlock=some g→g<qb
 nq:qb≠rb
 ge:w.heap.size≤qb
section
variable {w W W' : World} {rb : Nat} {ts : Value} {l : List Tk} {n : Int} {i j : Nat} {v : Value} {rs : List Rw} {qb : Nat} {row : Array Value}
theorem SQ.on (h:SQ w W rb ts l n i v rs qb row) (g:Below W.heap.size W W'):SQ w W' rb ts l n i v rs qb row:=
 ⟨h.r.on g,h.o.below g,(g.block qb h.q.lt).trans h.q,h.lo,h.nq,h.ge⟩
theorem SQ.alloc (h:SQ w W rb ts l n i v rs qb row) (o:Obj):SQ w (W.alloc o) rb ts l n i v rs qb row:=h.on (bal (Below.refl _ _) _)
theorem SQ.gb (h:SQ w W rb ts l n i v rs qb row) (g:GB W W' rb) (r:RS0 w W' rb ts l n j v):SQ w W' rb ts l n j v rs qb row:=
 ⟨r,h.o.gb g h.r.blk,gb_bk g h.q h.nq,h.lo,h.nq,h.ge⟩
theorem SQ.set (h:SQ w W rb ts l n i v rs qb row) (k:Nat) (y:Value):SQ w (W.setCell ⟨qb,k,none⟩ y) rb ts l n i v rs qb (row.setIfInBounds k y):=
 ⟨h.r.own (grown_set W qb k y) (fun m e=>by cases e;exact ⟨h.ge,h.nq⟩),h.o.far (S:=W) h.lo (by decide) h.q (grown_set W qb k y) rfl,h.q.set k y,h.lo,h.nq,h.ge⟩
theorem SQ.back (h:SQ w W rb ts l n i v rs qb row) (j:Nat) (hj:j≤l.length) (y:Value) (hy:y=.int .i64 j):SQ w (W.setCell ⟨rb,1,none⟩ y) rb ts l n j v rs qb row:=by
 subst hy
 exact h.gb (gb_set (gb_refl _ _) rb 1 _ (.inl rfl)) (h.r.go (gb_set (gb_refl _ _) rb 1 _ (.inl rfl)) (h.r.blk.set 1 _) hj)
end
structure ST (w W:World) (rb:Nat) (ts:Value) (l:List Tk) (n:Int) (i:Nat) (v:Value) (rs:List Rw) (qb:Nat) (K nm:ByteArray) (av:Value) (x p:Int) (fb:Nat) (sa:Bool) (sb:Int) (sc sd se:Bool):Prop where
 s:SQ w W rb ts l n i v rs qb #[.string K,.string nm,av,.int .i64 x,.int .i64 0,.int .i64 p]
 f:BK W fb #[.bool sa,.int .i64 sb,.bool sc,.bool sd,.bool se] 187
 nf:fb≠rb
 nn:fb≠qb
section
variable {w W W' : World} {rb : Nat} {ts : Value} {l : List Tk} {n : Int} {i j : Nat} {v : Value} {rs : List Rw} {qb : Nat} {K nm : ByteArray} {av : Value} {x p : Int} {fb : Nat} {sa : Bool} {sb : Int} {sc sd se : Bool}
theorem SQ.form (h:SQ w W rb ts l n i v rs qb #[.string K,.string nm,av,.int .i64 x,.int .i64 0,.int .i64 p]) (sa:Bool) (sb:Int) (sc sd se:Bool):ST w (W.alloc (.cells #[.bool sa,.int .i64 sb,.bool sc,.bool sd,.bool se] 187)) rb ts l n i v rs qb K nm av x p W.heap.size sa sb sc sd se:=
 ⟨h.alloc _,bk_new _ _ _,Nat.ne_of_gt h.r.blk.lt,Nat.ne_of_gt h.q.lt⟩
theorem ST.gb (h:ST w W rb ts l n i v rs qb K nm av x p fb sa sb sc sd se) (g:GB W W' rb) (r:RS0 w W' rb ts l n j v):ST w W' rb ts l n j v rs qb K nm av x p fb sa sb sc sd se:=
 ⟨h.s.gb g r,gb_bk g h.f h.nf,h.nf,h.nn⟩
theorem ST.setName (h:ST w W rb ts l n i v rs qb K nm av x p fb sa sb sc sd se) (y:ByteArray):ST w (W.setCell ⟨qb,1,none⟩ (.string y)) rb ts l n i v rs qb K y av x p fb sa sb sc sd se:=
 ⟨h.s.set 1 (.string y),h.f.far (Ne.symm h.nn) 1 _,h.nf,h.nn⟩
theorem ST.setArgs (h:ST w W rb ts l n i v rs qb K nm av x p fb sa sb sc sd se) (y:Value):ST w (W.setCell ⟨qb,2,none⟩ y) rb ts l n i v rs qb K nm y x p fb sa sb sc sd se:=
 ⟨h.s.set 2 y,h.f.far (Ne.symm h.nn) 2 _,h.nf,h.nn⟩
theorem ST.setNum (h:ST w W rb ts l n i v rs qb K nm av x p fb sa sb sc sd se) (y:Int):ST w (W.setCell ⟨qb,3,none⟩ (.int .i64 y)) rb ts l n i v rs qb K nm av y p fb sa sb sc sd se:=
 ⟨h.s.set 3 (.int .i64 y),h.f.far (Ne.symm h.nn) 3 _,h.nf,h.nn⟩
theorem ST.cells (h:ST w W rb ts l n i v rs qb K nm av x p fb sa sb sc sd se):(W.cell? ⟨fb,0,none⟩=some (.bool sa)∧W.cell? ⟨fb,1,none⟩=some (.int .i64 sb)∧W.cell? ⟨fb,2,none⟩=some (.bool sc)∧W.cell? ⟨fb,3,none⟩=some (.bool sd)∧W.cell? ⟨fb,4,none⟩=some (.bool se)) ∧
  (W.cell? ⟨qb,0,none⟩=some (.string K)∧W.cell? ⟨qb,1,none⟩=some (.string nm)∧W.cell? ⟨qb,2,none⟩=some av∧W.cell? ⟨qb,3,none⟩=some (.int .i64 x)∧W.cell? ⟨qb,4,none⟩=some (.int .i64 0)∧W.cell? ⟨qb,5,none⟩=some (.int .i64 p)) ∧
  (∀k,W.frozen? ⟨qb,k,none⟩=false)∧(W.cell? ⟨rb,3,none⟩=some v∧W.frozen? ⟨rb,3,none⟩=false):=
 ⟨⟨h.f.cell 0,h.f.cell 1,h.f.cell 2,h.f.cell 3,h.f.cell 4⟩,⟨h.s.q.cell 0,h.s.q.cell 1,h.s.q.cell 2,h.s.q.cell 3,h.s.q.cell 4,h.s.q.cell 5⟩,fun k=>h.s.q.free k,h.s.r.blk.cell 3,h.s.r.blk.free 3⟩
end
theorem args_any (w W:World) (rb:Nat) (ts:Value) (l:List Tk) (n:Int) (i:Nat) (v:Value) (sa:Bool) (sb:Int) (sc sd se:Bool) (H:RS0 w W rb ts l n i v) (hs:sb= -1∨(0≤sb∧sb≤2)) :
  Calls Tryz.prog 148 #[.pointer (some ⟨rb,0,none⟩),.agg #[.bool sa,.int .i64 sb,.bool sc,.bool sd,.bool se]] W fun e W'=>GB W W' rb ∧
   ((∃q,argsP n ⟨sa,sb,sc,sd,se⟩ ((l.drop i).length+1) [] (l.drop i)=.error q∧e=.panicked [flt q]) ∨
    ∃av aa j,argsP n ⟨sa,sb,sc,sd,se⟩ ((l.drop i).length+1) [] (l.drop i)=.ok (aa,l.drop j)∧e=.returned av∧RS0 w W' rb ts l n j v∧W'.ownsRow W.heap.size 100 2 av aa.length (ars aa)):=by
 rcases hs with rfl | ⟨h1,h2⟩
 ·exact args_any_n w W rb ts l n i v sa sc sd se H
 ·exact args_count w W rb ts l n i v sa sb sc sd se H h1 h2
theorem args_err {w W:World} {rb:Nat} {ts:Value} {l:List Tk} {n:Int} {i:Nat} {v:Value} {sa:Bool} {sb:Int} {sc sd se:Bool} (H:RS0 w W rb ts l n i v) (hs:sb= -1∨(0≤sb∧sb≤2)) {q:Fa} {r:List Tk} (hr:r=l.drop i) (h:argsP n ⟨sa,sb,sc,sd,se⟩ (r.length+1) [] r=.error q) :
  Calls Tryz.prog 148 #[.pointer (some ⟨rb,0,none⟩),.agg #[.bool sa,.int .i64 sb,.bool sc,.bool sd,.bool se]] W fun e W'=>e=.panicked [flt q]∧GB W W' rb:=
 (args_any w W rb ts l n i v sa sb sc sd se H hs).mono fun e W' ⟨g,h2⟩=>by
  subst hr
  rcases h2 with ⟨q',e1,e2⟩ | ⟨av,aa,j,e1,_⟩
  ·rw [h] at e1;cases e1;exact ⟨e2,g⟩
  ·rw [h] at e1;cases e1
theorem args_ok {w W:World} {rb:Nat} {ts:Value} {l:List Tk} {n:Int} {i:Nat} {v:Value} {sa:Bool} {sb:Int} {sc sd se:Bool} (H:RS0 w W rb ts l n i v) (hs:sb= -1∨(0≤sb∧sb≤2)) {aa:List Ar} {r r2:List Tk} (hr:r=l.drop i) (h:argsP n ⟨sa,sb,sc,sd,se⟩ (r.length+1) [] r=.ok (aa,r2)) :
  Calls Tryz.prog 148 #[.pointer (some ⟨rb,0,none⟩),.agg #[.bool sa,.int .i64 sb,.bool sc,.bool sd,.bool se]] W fun e W'=>∃a0 c0,e=.returned (.slice a0 aa.length c0)∧GB W W' rb∧∃j,r2=l.drop j∧RS0 w W' rb ts l n j v∧W'.ownsRow W.heap.size 100 2 (.slice a0 aa.length c0) aa.length (ars aa):=
 (args_any w W rb ts l n i v sa sb sc sd se H hs).mono fun e W' ⟨g,h2⟩=>by
  subst hr
  rcases h2 with ⟨q',e1,e2⟩ | ⟨av,aa',j,e1,e2,hR,ho⟩
  ·rw [h] at e1;cases e1
  ·rw [h] at e1
   cases e1
   obtain ⟨a0,c0,rfl⟩:=own_shape ho
   exact ⟨a0,c0,e2,g,j,rfl,hR,ho⟩
end Go.Proofs.YtdjfpghgklkejaaGreatDoor
