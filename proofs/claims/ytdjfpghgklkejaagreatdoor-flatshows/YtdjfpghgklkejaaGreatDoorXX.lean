/-
  Put together of: FT.
-/
import Derived.Test.YtdjfpghgklkejaaGreatDoorYU
import Derived.Test.YtdjfpghgklkejaaGreatDoorYR
namespace Go.Proofs.YtdjfpghgklkejaaGreatDoor
open Go.RowKit Go.Sort
theorem row_drew {w0 W w1:World} {lb mb M:Nat} {hi:HG} {pr:En × Bool} {S:Except Fa (En × List TO)} {e:Ending} (h:RowO w0 W.drew w1 lb mb hi M pr S e):RowO w0 W w1 lb mb hi M pr S e:=⟨(fr_of_below (below_drew (Below.refl _ _))).trans h.1,h.2⟩
theorem mean_long:∀(ps:List PP) (Ls:List (List TO)),Ls.length=ps.length→(∀k (h:k<ps.length) (h':k<Ls.length),mean ps[k] Ls[k]≠[])→ps.length≤(((ps.zip Ls).map fun x=>mean x.1 x.2).flatten).length
 | [],_,_,_=>Nat.zero_le _
 | p::ps,[],h,_=>by cases h
 | p::ps,l::Ls,h,hm=>by
  have h0:=hm 0 (by simp) (by simp)
  have ih:=mean_long ps Ls (by simpa using h) (fun k h1 h2=>hm (k+1) (by simpa using h1) (by simpa using h2))
  have h0:mean p l≠[]:=h0
  have h1:0<(mean p l).length:=List.length_pos_iff.2 h0
  rw [List.zip_cons_cons,List.map_cons,List.flatten_cons,List.length_append,List.length_cons]
  show ps.length+1≤(mean p l).length+_
  omega
theorem T4.more {a b:List TO} (h:T4 a b) (hl:4097≤a.length) (c:List TO):T4 a (b++c):=by
 have h2:=h.len
 have h3:T4 b (b++c):=by
  unfold T4
  rw [List.take_append_of_le_length (by omega)]
 exact h.trans h3
theorem tup_inj {cs:Array Value} {p:PP} {x y:Int} (h:Ending.returned (.tuple #[.agg cs,.int .i64 x])=.returned (.tuple #[ppV p,.int .i64 y])):cs=(ppc p).toArray∧x=y:=by
 have h2:=Value.tuple.inj (Ending.returned.inj h)
 have a0:=congrArg (fun a:Array Value=>a[0]?) h2
 have a1:=congrArg (fun a:Array Value=>a[1]?) h2
 have a0:some (Value.agg cs)=some (ppV p):=a0
 have a1:some (Value.int .i64 x)=some (.int .i64 y):=a1
 refine ⟨Value.agg.inj (Option.some.inj a0),?_⟩
 have:=Option.some.inj a1
 injection this
set_option maxHeartbeats 1500000 in
set_option maxRecDepth 100000 in
theorem body_step {w0:World} {lb mb K:Nat} (IH:FBody w0 lb mb K (lookB K)):FBody w0 lb mb (K+1) (lookB (K+1)):=by
 intro W hi N en pl v0 rs sd H hok hbv hlen hz hg hn hm hv hN
 have HIH:=hid IH
 have HL:=hid H
 have HLEN:=hid hlen
 have HG:=hid hg
 have HMM:=hid (And.intro hm hv)
 obtain ⟨p,n,g,m,v⟩:=sd
 simp only at *
 have HB0:Hid (BS w0 W (W.alloc (.cells #[.int .i64 p,.int .i64 (n:Nat),.bool g,.int .u64 (m:Nat),.int .u64 (v:Nat)] 69)) lb mb hi n g m v p en N en pl (.slice none 0 0) []):=by
  have hB:Below W.heap.size W (W.alloc (.cells #[.int .i64 p,.int .i64 (n:Nat),.bool g,.int .u64 (m:Nat),.int .u64 (v:Nat)] 69)):=bal (Below.refl _ _) _
  have hk:=H.cut hB
  have e:(W.alloc (.cells #[.int .i64 p,.int .i64 (n:Nat),.bool g,.int .u64 (m:Nat),.int .u64 (v:Nat)] 69)).heap.size=W.heap.size+1:=by simp
  rw [e] at hk
  exact ⟨fr_of_below hB,bk_new _ _ _,hk.wide rfl (fun b _ hb=>⟨hb,fun h=>by cases h⟩) (fun b hb=>⟨hk.up b hb,fun h=>by cases h⟩),hok,nx_refl _ _,pt_nil _ _ _ _,fun t ht=>(by cases ht),H.o5,H.up⟩
 have HN0:=hid hN
 obtain ⟨va,vl,vc,rfl⟩:∃a n c,v0=.slice a n c:=by obtain ⟨a,c,vs,e,_⟩:=hbv;exact ⟨_,_,_,e⟩
 have HV0:=hid hbv
 have HZ0:=hid hz
 clear hm hv hg hN H hbv hok hz hlen IH hn
 generalize hQ:(fun e W'=>BodyO w0 W W' lb mb hi (N+2*rs.length) (en,g) (lookB (K+1) en ⟨p,n,g,m,v⟩ rs) e)=Q
 have HQ:=hid hQ
 clear hQ
 go_enter Tryz.func25,Tryz.ntmps25
 go_wp2
 obtain ⟨W1,hW1⟩:∃W1,W1=W.alloc (.cells #[.int .i64 p,.int .i64 (n:Nat),.bool g,.int .u64 (m:Nat),.int .u64 (v:Nat)] 69):=⟨_,rfl⟩
 rw [←hW1] at HB0 ⊢
 clear hW1
 go_loopw [1,8] (fun v1 v8 wr=>∃(rs':List Rw) (a:Option Addr) (c:Nat) (pv:Value) (p':Int) (N':Nat) (en':En) (pl':Int) (L Lm:List TO),v1=.slice a rs'.length c∧v8=pv∧Hid (SR w0 (.slice a rs'.length c) rs')∧Hid (BS w0 W wr lb mb hi n g m v p' en N' en' pl' pv L)∧Hid (T4 L Lm∧lookB (K+1) en ⟨p,n,g,m,v⟩ rs=cmb Lm (lookB (K+1) en' ⟨p,n,g,m,v⟩ rs')∧rs'.length≤rs.length∧N'+2*rs'.length≤N+2*rs.length∧SzR rs')) (fun v1 _ _=>match v1 with | .slice _ l _=>l | _=>0)
 case atStart=>
  obtain ⟨a,c,vs,e,hc⟩:=id HV0.out
  cases e
  refine ⟨rs,va,vc,_,p,N,en,pl,[],[],rfl,rfl,HV0,HB0,T4.refl _,?_,Nat.le_refl _,Nat.le_refl _,HZ0.out⟩
  cases lookB (K+1) en ⟨p,n,g,m,v⟩ rs with
  | error e=>rfl
  | ok x=>rfl
 case round=>
  obtain ⟨rs',a,c,pv,p',N',en',pl',L,Lm,rfl,rfl,hSR,hB,hT⟩:=hrel
  clear HB0 HV0
  cases rs' with
  | nil=>
   simp only [List.length_nil]
   go_wp2
   rw [←HQ.out]
   obtain ⟨h1,h2,h3,h4,h5⟩:=hT.out
   obtain ⟨k1,k2⟩:=hB.out.fin
   rw [h2]
   exact ⟨hB.out.fr,.inr ⟨en',Lm,_,L,pl',N',by show Except.ok (en',Lm++[])=_;rw [List.append_nil],rfl,k1,by simpa using h4,hB.out.ok,hB.out.nx,k2,h1⟩⟩
  | cons r rest=>
   obtain ⟨b,o,cc,aa,ac,e1,hA,hc6,hbl⟩:=sr_head hSR.out
   have e1':a=some ⟨b,o,none⟩∧c=cc:=by
    injection e1 with x1 x2 x3
    exact ⟨x1,x3⟩
   obtain ⟨rfl,rfl⟩:=e1'
   obtain ⟨a1,c1,hsl,hSR1⟩:=hSR.out.drop 1 (by simp)
   have hsl1:∀w,(Instr.slice 22 (.slice (some ⟨b,o,none⟩) (rest.length+1) c) (some (.int .i64 1)) none none).run Tryz.prog w=.ok (.slice a1 rest.length c1) w:=hsl
   have hSR1:SR w0 (.slice a1 rest.length c1) rest:=hSR1
   have HSR1:=hid hSR1
   have HA:=hid hA
   have hpos:(0:Int)<((rest.length+1:Nat):Int):=by omega
   have hpos2:0<rest.length+1:=by omega
   obtain ⟨k,nm,ar,nu,ro,pc⟩:=r
   simp only [List.length_cons] at *
   have S3K:Hid (∀w',Below wr.heap.size wr w'→Below wr.heap.size wr w'∧((w'.cell? ⟨b,o,none⟩=some (.string k)∧w'.cell? ⟨b,o+1,none⟩=some (.string nm)∧w'.cell? ⟨b,o+2,none⟩=some (.slice aa ar.length ac)∧w'.cell? ⟨b,o+3,none⟩=some (.int .i64 nu)∧w'.cell? ⟨b,o+4,none⟩=some (.int .i64 ro)∧w'.cell? ⟨b,o+5,none⟩=some (.int .i64 pc))∧b<w'.heap.size)):=fun w' h=>by
    have hb:Below w0.heap.size w0 w':=btr hB.out.lk.below h
    exact ⟨h,⟨(hb.cell (p:=⟨b,o,none⟩) hbl).trans hc6.1,(hb.cell (p:=⟨b,o+1,none⟩) hbl).trans hc6.2.1,(hb.cell (p:=⟨b,o+2,none⟩) hbl).trans hc6.2.2.1,(hb.cell (p:=⟨b,o+3,none⟩) hbl).trans hc6.2.2.2.1,(hb.cell (p:=⟨b,o+4,none⟩) hbl).trans hc6.2.2.2.2.1,(hb.cell (p:=⟨b,o+5,none⟩) hbl).trans hc6.2.2.2.2.2⟩,Nat.lt_of_lt_of_le hbl hb.size⟩
   clear e1 hA hc6 hbl hsl hSR1
   go_upto_region 3 with (fail)
   go_cut [9,10] from 17 to 21 (fun v9 v10 w'=>∃rb,v9=.pointer (some ⟨rb,0,none⟩)∧v10=.slice a1 rest.length c1∧BK w' rb #[.string k,.string nm,.slice aa ar.length ac,.int .i64 nu,.int .i64 ro,.int .i64 pc] 79∧Below wr.heap.size wr w'∧wr.heap.size≤rb)
   case first=>
    go_region_held3 (fun w'=>Below wr.heap.size wr w'∧((w'.cell? ⟨b,o,none⟩=some (.string k)∧w'.cell? ⟨b,o+1,none⟩=some (.string nm)∧w'.cell? ⟨b,o+2,none⟩=some (.slice aa ar.length ac)∧w'.cell? ⟨b,o+3,none⟩=some (.int .i64 nu)∧w'.cell? ⟨b,o+4,none⟩=some (.int .i64 ro)∧w'.cell? ⟨b,o+5,none⟩=some (.int .i64 pc))∧b<w'.heap.size))
     ((refine S3K.out _ ?_;first | exact below_drew (Below.refl _ _) | exact below_drew (bal (Below.refl _ _) _) | exact bal (below_drew (Below.refl _ _)) _ | exact bal (And.left (by assumption)) _ | exact And.left (by assumption)))
     (fail)
    all_goals
     go_wp2
     go_meet
     case rel=>exact ⟨_,rfl,rfl,(bk_new wr _ _).drew,below_drew (bal (Below.refl _ _) _),Nat.le_refl _⟩
   all_goals
    obtain ⟨rb,rfl,rfl,hbr,hB3,hrb⟩:=hcut
    have HB3:=hid (hB.out.on hB3)
    have HBR:=hid hbr.drew
    have HNE:Hid (lb<rb∧W.heap.size<rb∧lb<W.heap.size):=by
     have h1:=hB.out.at_.lt
     have h3:lb<hi.h:=hB.out.lk.o3
     have h4:=hB.out.hh
     show _∧_∧_
     omega
    have S4K:Hid (wc.drew.cell? ⟨rb,5,none⟩=some (.int .i64 pc)∧rb<wc.drew.heap.size):=⟨HBR.out.cell 5,HBR.out.lt⟩
    have e5:∃pvx,BK wc lb #[.map (some mb),.int .i64 (en'.q:Nat),.int .i64 (en'.b:Nat),pvx,.int .i64 (en'.d:Nat),.int .i64 pl'] 64:=by
     obtain ⟨pvx,kb,_⟩:=HB3.out.lk.box
     exact ⟨pvx,kb⟩
    obtain ⟨pvx,kb5⟩:=e5
    have y1:=kb5.cell
    have y2:=kb5.free
    have y3:=kb5.lt
    have y4:=HB3.out.at_.cell
    have y5:=HB3.out.at_.free
    have y6:=HB3.out.at_.lt
    have y7:lb≠W.heap.size:=by have:=HNE.out;omega
    clear hbr hB3 hrb hB S3K kb5
    go_upto_region 4 with (fail)
    refine wp_region_noPanic ?_
    refine wp_region_held_drew (S:=fun w'=>w'.cell? ⟨rb,5,none⟩=some (.int .i64 pc)∧rb<w'.heap.size) (by kernel_rfl) (by exact S4K.out) (fun hHeld=>?_)
    refine zt 0 (v:=?_) rfl (Or.inl ⟨by rfl,?_⟩) (by assumption) ?_
    rotate_left
    (intro w0 hSw;(try dsimp only at hSw);go_simp;try (with_reducible rfl))
    (try simp only [Act.put])
    refine zt 1 (v:=?_) rfl (Or.inl ⟨by rfl,?_⟩) (by assumption) ?_
    rotate_left
    (intro w0 hSw;(try dsimp only at hSw);go_simp;try (with_reducible rfl))
    (try simp only [Act.put])
    refine zt 2 (v:=?_) rfl (Or.inl ⟨by rfl,?_⟩) (by assumption) ?_
    rotate_left
    (intro w0 hSw;(try dsimp only at hSw);go_simp;try (with_reducible rfl))
    (try simp only [Act.put])
    refine zt 3 (v:=?_) rfl (Or.inl ⟨by rfl,?_⟩) (by assumption) ?_
    rotate_left
    (intro w0 hSw;(try dsimp only at hSw);go_simp;try (with_reducible rfl))
    (try simp only [Act.put])
    refine zt 4 (v:=?_) rfl (Or.inl ⟨by rfl,?_⟩) (by assumption) ?_
    rotate_left
    (intro w0 hSw;(try dsimp only at hSw);go_simp;try (with_reducible rfl))
    (try simp only [Act.put])
    refine zt 5 (v:=?_) rfl (Or.inl ⟨by rfl,?_⟩) (by assumption) ?_
    rotate_left
    (intro w0 hSw;(try dsimp only at hSw);go_simp;try (with_reducible rfl))
    (try simp only [Act.put])
    refine zt 6 (v:=?_) rfl (Or.inl ⟨by rfl,?_⟩) (by assumption) ?_
    rotate_left
    (intro w0 hSw;(try dsimp only at hSw);go_simp;try (with_reducible rfl))
    (try simp only [Act.put])
    refine wpAnyH_ready (rs := [7]) (by kernel_rfl) (by simp) (AllReadyH.cons (o := { dst := none, op := Op.store 3 (Operand.tmp 28) (Operand.tmp 24), type := 0, pos := "look.go:68", after := #[{ on := 6, ground := Ground.data }, { on := 2, ground := Ground.data }, { on := 0, ground := Ground.phase }, { on := 1, ground := Ground.phase }, { on := 2, ground := Ground.phase }, { on := 3, ground := Ground.textOnly Departure.lateStores }, { on := 4, ground := Ground.textOnly Departure.lateStores }], guard := none }) rfl (fun K hK => ?_) AllReadyH.nil)
    go_simp
    refine hK.out _ _ (by exact ⟨(BK.far HBR.out (by have:=HNE.out;omega) 5 (.int .i64 pc)).cell 5,(BK.far HBR.out (by have:=HNE.out;omega) 5 (.int .i64 pc)).lt⟩) (fun hHeld=>?_)
    clear hK K
    (try simp only [Act.put])
    refine zt 8 (v:=?_) rfl (Or.inl ⟨by rfl,?_⟩) (by assumption) ?_
    rotate_left
    (intro w0 hSw;(try dsimp only at hSw);go_simp;try (with_reducible rfl))
    (try simp only [Act.put])
    refine wpAnyH_ready (rs := [9]) (by kernel_rfl) (by simp) (AllReadyH.cons (o := { dst := none, op := Op.store 3 (Operand.tmp 29) (Operand.tmp 26), type := 0, pos := "look.go:68", after := #[{ on := 8, ground := Ground.data }, { on := 4, ground := Ground.data }, { on := 7, ground := Ground.chain }, { on := 0, ground := Ground.phase }, { on := 1, ground := Ground.phase }, { on := 2, ground := Ground.phase }, { on := 3, ground := Ground.phase }, { on := 4, ground := Ground.phase }, { on := 5, ground := Ground.phase }, { on := 6, ground := Ground.phase }, { on := 7, ground := Ground.phase }], guard := none }) rfl (fun K hK => ?_) AllReadyH.nil)
    go_simp
    refine hK.out _ _ (by exact ⟨(BK.far (BK.far HBR.out (by have:=HNE.out;omega) 5 (.int .i64 pc)) (by have:=HNE.out;omega) 0 (.int .i64 pc)).cell 5,(BK.far (BK.far HBR.out (by have:=HNE.out;omega) 5 (.int .i64 pc)) (by have:=HNE.out;omega) 0 (.int .i64 pc)).lt⟩) (fun hHeld=>?_)
    clear hK K
    (try simp only [Act.put])
    refine wpAnyH_done (by kernel_rfl) ?_ _
    refine NoPanic.normal ?_
    obtain ⟨W4,hW4⟩:∃W4,W4=((wc.setCell ⟨lb,5,none⟩ (.int .i64 pc)).setCell ⟨W.heap.size,0,none⟩ (.int .i64 pc)).drew:=⟨_,rfl⟩
    have HB4:Hid (BS w0 W W4 lb mb hi n g m v pc en N' en' pc u8 L):=by rw [hW4];exact (HB3.out.place pc).on (below_drew (Below.refl _ _))
    have HR4:Hid (BK W4 rb #[.string k,.string nm,.slice aa ar.length ac,.int .i64 nu,.int .i64 ro,.int .i64 pc] 79):=by rw [hW4];exact BK.far (BK.far HBR.out (by have:=HNE.out;omega) 5 (.int .i64 pc)) (by have:=HNE.out;omega) 0 (.int .i64 pc)
    rw [←hW4]
    clear hW4 y1 y2 y3 y4 y5 y6 y7 S4K HB3 HBR
    obtain ⟨hT4,hEQ,hle1,hle2,hsz⟩:=hT.out
    have HT4:=hid hT4
    have hlk:=lookB_cons K en' ⟨p,n,g,m,v⟩ ⟨k,nm,ar,nu,ro,pc⟩ rest (by have:=HLEN.out;omega)
    rw [form_p _ _ ⟨p,n,g,m,v⟩ ⟨pc,n,g,m,v⟩ rfl rfl] at hlk
    have HEQ:=hid (hEQ.trans (by rw [hlk]))
    have HLE:=hid (And.intro hle1 hle2)
    have HSZ:=hid hsz
    clear hT hT4 hEQ hle1 hle2 hsz hlk
    have FA:=fun w=>form_any ⟨k,nm,ar,nu,ro,pc⟩ aa ac rest.length ⟨pc,n,g,m,v⟩ w
    have HFO:Hid (formE ⟨k,nm,ar,nu,ro,pc⟩ rest.length ⟨pc,n,g,m,v⟩=0→_):=fun h=>form_ok h
    generalize formE ⟨k,nm,ar,nu,ro,pc⟩ rest.length ⟨pc,n,g,m,v⟩=FE at *
    have c1:=HR4.out.cell
    have l1:=HR4.out.lt
    have c2:=HB4.out.at_.cell
    have l2:=HB4.out.at_.lt
    by_cases hf:FE=0
    case neg=>
     have hf':((FE:Int) != 0)=true:=bne_iff_ne.2 (by omega)
     have HF0:=hid hf
     clear hf
     go_wp2_with (go_at_call 53;(with_reducible refine (FA _).mono ?_);rintro e w5 ⟨rfl,hB5⟩)
     rw [←HQ.out,HEQ.out,if_pos HF0.out]
     exact ⟨(HB4.out.on hB5).fr,.inl ⟨(pc,FE),_,rfl,rfl,⟨_,_,_,rfl⟩,HF0.out,(HB4.out.on hB5).lk.le (by have:=HLE.out;omega)⟩⟩
    have hf':((FE:Int) != 0)=false:=by rw [hf];rfl
    obtain ⟨o1,o2,o3,o4,o5⟩:=HFO.out hf
    obtain ⟨rr,hrr⟩:∃rr:Nat,ro=(rr:Int):=⟨ro.toNat,by have:0≤ro:=o4;omega⟩
    subst hrr
    have hrl:rr≤rest.length:=by have:(rr:Int)≤(rest.length:Int):=o5;omega
    have HEQ2:=hid (HEQ.out.trans (by rw [if_neg (by simpa using hf),Int.toNat_natCast]))
    obtain ⟨a2,c2',hs2,hSR2⟩:=HSR1.out.take rr hrl
    obtain ⟨a3,c3',hs3,hSR3⟩:=HSR1.out.drop rr hrl
    have HSR3:=hid hSR3
    obtain ⟨bl,hbl⟩:∃bl,bl=(rest.take rr).length:=⟨_,rfl⟩
    obtain ⟨dl,hdl⟩:∃dl,dl=(rest.drop rr).length:=⟨_,rfl⟩
    rw [←hbl] at hs2
    rw [←hdl] at hs3
    have RA:Hid (∀(w':World) (hiX:YtdjfpghgklkejaaGreatDoor.HG),LK w0 w' lb mb hiX N' en' pc→Calls Tryz.prog 54 #[.pointer (some ⟨lb,0,none⟩),rwV ⟨k,nm,ar,nu,(rr:Int),pc⟩ aa ac,.slice a2 bl c2',sdV ⟨pc,n,g,m,v⟩] w' fun e W'=>RowO w0 w' W' lb mb hiX (N'+2+2*(rest.take rr).length) (en',g) (rowR (lookB K) en' ⟨pc,n,g,m,v⟩ ⟨k,nm,ar,nu,(rr:Int),pc⟩ (rest.take rr)) e):=fun w' hiX hlk=>by
     rw [hbl]
     exact row_any HIH.out (lookB_st K) (lookB_L K) hlk HB4.out.ok ⟨k,nm,ar,nu,(rr:Int),pc⟩ aa ac _ (rest.take rr) hSR2 (by rw [List.length_take];have:=HLEN.out;have:=HLE.out;omega) (fun r hr=>HSZ.out r (List.mem_cons_of_mem _ (List.mem_of_mem_take hr))) ⟨pc,n,g,m,v⟩ rfl HA.out (fun r hr=>HSZ.out r (by rw [List.mem_singleton] at hr;rw [hr];exact List.mem_cons_self)) o1 o2 (fun h=>⟨by have h1:=(HG.out h).1;have h2:=HB4.out.nx.1 h;rw [h2];exact h1,(HG.out h).2⟩) o3 HMM.out.1 HMM.out.2 (by rw [List.length_take];have:=HN0.out;have:=HLE.out;omega)
    have HF0:=hid hf
    have HDL:=hid hdl
    clear hbl hdl hf HFO o1 o2 o3 o4 o5 HSR1 hSR2 hSR3 HEQ
    have HRL:=hid hrl
    clear hrl
    go_upto_region 8 with (go_at_call 53;(with_reducible refine (FA _).mono ?_);rintro e w5 ⟨rfl,hB5⟩;(have HB5:=hid (HB4.out.on hB5));(have HR5:=hid (below_bk HR4.out hB5));clear hB5 c1 l1 c2 l2 HB4 HR4)
    have HA5:=hid HB5.out.at_
    have S8K:Hid (∀w',BK w' rb #[.string k,.string nm,.slice aa ar.length ac,.int .i64 nu,.int .i64 (rr:Nat),.int .i64 pc] 79→BK w' W.heap.size #[.int .i64 pc,.int .i64 (n:Nat),.bool g,.int .u64 (m:Nat),.int .u64 (v:Nat)] 69→(w'.cell? ⟨rb,0,none⟩=some (.string k)∧w'.cell? ⟨rb,1,none⟩=some (.string nm)∧w'.cell? ⟨rb,2,none⟩=some (.slice aa ar.length ac)∧w'.cell? ⟨rb,3,none⟩=some (.int .i64 nu)∧w'.cell? ⟨rb,4,none⟩=some (.int .i64 (rr:Nat))∧w'.cell? ⟨rb,5,none⟩=some (.int .i64 pc)∧rb<w'.heap.size)∧(w'.cell? ⟨W.heap.size,0,none⟩=some (.int .i64 pc)∧w'.cell? ⟨W.heap.size,1,none⟩=some (.int .i64 (n:Nat))∧w'.cell? ⟨W.heap.size,2,none⟩=some (.bool g)∧w'.cell? ⟨W.heap.size,3,none⟩=some (.int .u64 (m:Nat))∧w'.cell? ⟨W.heap.size,4,none⟩=some (.int .u64 (v:Nat)))∧W.heap.size<w'.heap.size):=fun w' h1 h2=>⟨⟨h1.cell 0,h1.cell 1,h1.cell 2,h1.cell 3,h1.cell 4,h1.cell 5,h1.lt⟩,⟨h2.cell 0,h2.cell 1,h2.cell 2,h2.cell 3,h2.cell 4⟩,h2.lt⟩
    go_cut [12,13] from 38 to 48 (fun v12 v13 w'=>∃(pp:PP) (x:Int) (pb:Nat),v12=.pointer (some ⟨pb,0,none⟩)∧v13=.int .i64 x∧BK w' pb (ppc pp).toArray 113∧rb<pb∧RowO w0 w5 w' lb mb ((hi.cut W.heap.size (W.heap.size+1)).but u8.ownBlock) (N'+2+2*(rest.take rr).length) (en',g) (rowR (lookB K) en' ⟨pc,n,g,m,v⟩ ⟨k,nm,ar,nu,(rr:Int),pc⟩ (rest.take rr)) (.returned (.tuple #[ppV pp,.int .i64 x]))∧BK w' rb #[.string k,.string nm,.slice aa ar.length ac,.int .i64 nu,.int .i64 (rr:Nat),.int .i64 pc] 79)
    case first=>
     refine wp_region_noPanic ?_
     refine wp_region_held_drew (S:=fun w'=>(w'.cell? ⟨rb,0,none⟩=some (.string k)∧w'.cell? ⟨rb,1,none⟩=some (.string nm)∧w'.cell? ⟨rb,2,none⟩=some (.slice aa ar.length ac)∧w'.cell? ⟨rb,3,none⟩=some (.int .i64 nu)∧w'.cell? ⟨rb,4,none⟩=some (.int .i64 (rr:Nat))∧w'.cell? ⟨rb,5,none⟩=some (.int .i64 pc)∧rb<w'.heap.size)∧(w'.cell? ⟨W.heap.size,0,none⟩=some (.int .i64 pc)∧w'.cell? ⟨W.heap.size,1,none⟩=some (.int .i64 (n:Nat))∧w'.cell? ⟨W.heap.size,2,none⟩=some (.bool g)∧w'.cell? ⟨W.heap.size,3,none⟩=some (.int .u64 (m:Nat))∧w'.cell? ⟨W.heap.size,4,none⟩=some (.int .u64 (v:Nat)))∧W.heap.size<w'.heap.size) (by kernel_rfl) (S8K.out _ HR5.out.drew HA5.out.drew) (fun hHeld=>?_)
     refine zt 0 (v:=?_) rfl (Or.inl ⟨by rfl,?_⟩) (by assumption) ?_
     rotate_left
     (intro w0 hSw;(try dsimp only at hSw);go_simp;try (with_reducible rfl))
     (try simp only [Act.put])
     refine zt 1 (v:=?_) rfl (Or.inl ⟨by rfl,?_⟩) (by assumption) ?_
     rotate_left
     (intro w0 hSw;(try dsimp only at hSw);go_simp;try (with_reducible rfl))
     (try simp only [Act.put])
     refine zt 2 (v:=?_) rfl (Or.inl ⟨by rfl,?_⟩) (by assumption) ?_
     rotate_left
     (intro w0 hSw;(try dsimp only at hSw);go_simp;try (with_reducible rfl))
     (try simp only [Act.put])
     refine zt 3 (v:=?_) rfl (Or.inl ⟨by rfl,?_⟩) (by assumption) ?_
     rotate_left
     (intro w0 hSw;(try dsimp only at hSw);go_simp;try (with_reducible rfl))
     (try simp only [Act.put])
     refine zt 4 (v:=?_) rfl (Or.inl ⟨by rfl,?_⟩) (by assumption) ?_
     rotate_left
     (intro w0 hSw;(try dsimp only at hSw);go_simp;try (with_reducible rfl))
     (try simp only [Act.put])
     refine zt 5 (v:=?_) rfl (Or.inl ⟨by rfl,?_⟩) (by assumption) ?_
     rotate_left
     (intro w0 hSw;(try dsimp only at hSw);go_simp;try (with_reducible rfl))
     (try simp only [Act.put])
     refine zt 6 (v:=?_) rfl (Or.inl ⟨by rfl,?_⟩) (by assumption) ?_
     rotate_left
     (intro w0 hSw;(try dsimp only at hSw);go_simp;try (with_reducible rfl))
     (try simp only [Act.put])
     refine wpAnyH_ready (rs := [7, 11]) (by kernel_rfl) (by simp) (AllReadyH.cons (o := { dst := some 46, op := Op.call { callee := Callee.value (Operand.func 54), args := #[Operand.tmp 39, Operand.tmp 40, Operand.tmp 44, Operand.tmp 45], argTypes := #[110, 79, 22, 69] }, type := 114, pos := "look.go:72", after := #[{ on := 0, ground := Ground.data }, { on := 1, ground := Ground.data }, { on := 5, ground := Ground.data }, { on := 6, ground := Ground.data }], guard := none }) rfl (fun K hK => ?_) (AllReadyH.cons (o := { dst := some 12, op := Op.alloc 113, type := 0, pos := "look.go:72", after := #[], guard := none }) rfl (fun K hK => ?_) AllReadyH.nil))
     ·go_simp
      (with_reducible refine (RA.out w5.drew ((hi.cut W.heap.size (W.heap.size+1)).but u8.ownBlock) (HB5.out.lk.fr (below_drew (Below.refl _ _)))).mono ?_);rintro e w1 hrow;obtain ⟨pp,x,rfl⟩:=hrow.shape;obtain ⟨⟨q1,q2,q3,q4,q5⟩,q6,q7,q8,q9,q10,q11,q12,q13,q14,q15⟩:=pp;have HR6:=hid (hrow.1.bk HR5.out.drew (.inr (by have:=HNE.out;have:=HB5.out.hh;show hi.h≤_;omega)));have HA6:=hid (hrow.1.bk HA5.out.drew (.inr (by have:=HB5.out.hh;show hi.h≤_;omega)));have HRW:=hid hrow;clear hrow;try go_simp
      refine hK.out _ _ (S8K.out _ HR6.out HA6.out) (fun hHeld=>?_)
      clear hK K
      (try simp only [Act.put])
      refine zt 8 (v:=?_) rfl (Or.inl ⟨by rfl,?_⟩) (by assumption) ?_
      rotate_left
      (intro w0 hSw;(try dsimp only at hSw);go_simp;try (with_reducible rfl))
      (try simp only [Act.put])
      refine zt 9 (v:=?_) rfl (Or.inl ⟨by rfl,?_⟩) (by assumption) ?_
      rotate_left
      (intro w0 hSw;(try dsimp only at hSw);go_simp;try (with_reducible rfl))
      (try simp only [Act.put])
      refine zt 10 (v:=?_) rfl (Or.inl ⟨by rfl,?_⟩) (by assumption) ?_
      rotate_left
      (intro w0 hSw;(try dsimp only at hSw);go_simp;try (with_reducible rfl))
      (try simp only [Act.put])
      refine wpAnyH_ready (rs := [11]) (by kernel_rfl) (by simp) (AllReadyH.cons (o := { dst := some 12, op := Op.alloc 113, type := 0, pos := "look.go:72", after := #[], guard := none }) rfl (fun K hK => ?_) AllReadyH.nil)
      go_simp
      refine hK.out _ _ (by exact S8K.out _ (HR6.out.alloc _) (HA6.out.alloc _)) (fun hHeld=>?_)
      clear hK K
      (try simp only [Act.put])
      refine wpAnyH_ready (rs := [12]) (by kernel_rfl) (by simp) (AllReadyH.cons (o := { dst := none, op := Op.store 113 (Operand.tmp 12) (Operand.tmp 47), type := 0, pos := "look.go:72", after := #[{ on := 11, ground := Ground.data }, { on := 9, ground := Ground.data }, { on := 7, ground := Ground.chain }, { on := 0, ground := Ground.phase }, { on := 1, ground := Ground.phase }, { on := 2, ground := Ground.phase }, { on := 3, ground := Ground.phase }, { on := 4, ground := Ground.phase }, { on := 5, ground := Ground.phase }, { on := 6, ground := Ground.phase }, { on := 7, ground := Ground.phase }, { on := 8, ground := Ground.phase }, { on := 9, ground := Ground.phase }, { on := 10, ground := Ground.textOnly Departure.lateStores }, { on := 11, ground := Ground.phase }], guard := none }) rfl (fun K hK => ?_) AllReadyH.nil)
      go_simp
      refine hK.out _ _ (by exact S8K.out _ (HR6.out.alloc _) (HA6.out.alloc _)) (fun hHeld=>?_)
      clear hK K
      (try simp only [Act.put])
      refine wpAnyH_ready (rs := [13]) (by kernel_rfl) (by simp) (AllReadyH.cons (o := { dst := some 13, op := Op.assign (Operand.tmp 48), type := 30, pos := "look.go:72", after := #[{ on := 10, ground := Ground.data }, { on := 12, ground := Ground.chain }, { on := 0, ground := Ground.phase }, { on := 1, ground := Ground.phase }, { on := 2, ground := Ground.phase }, { on := 3, ground := Ground.phase }, { on := 4, ground := Ground.phase }, { on := 5, ground := Ground.phase }, { on := 6, ground := Ground.phase }, { on := 7, ground := Ground.phase }, { on := 8, ground := Ground.phase }, { on := 9, ground := Ground.phase }, { on := 10, ground := Ground.phase }, { on := 11, ground := Ground.phase }, { on := 12, ground := Ground.phase }], guard := none }) rfl (fun K hK => ?_) AllReadyH.nil)
      go_simp
      refine hK.out _ _ (by exact hHeld) (fun hHeld=>?_)
      clear hK K
      (try simp only [Act.put])
      refine wpAnyH_done (by kernel_rfl) ?_ _
      refine NoPanic.normal ?_
      go_wp2
      go_meet
      case rel=>exact ⟨⟨⟨q1,q2,q3,q4,q5⟩,q6,q7,q8,q9,q10,q11,q12,q13,q14,q15⟩,x,_,rfl,rfl,bk_new w1 _ _,by have:=HRW.out.1.size;have:=HNE.out;have h9:w5.drew.heap.size=w5.heap.size:=rfl;omega,row_drew (HRW.out.on (bal (Below.refl _ _) _)),HR6.out.alloc _⟩
     ·go_simp
      refine hK.out _ _ (S8K.out _ (HR5.out.alloc _) (HA5.out.alloc _)) (fun hHeld=>?_)
      clear hK K
      (try simp only [Act.put])
      obtain ⟨W6,hW6⟩:∃W6,W6=(w5.alloc (.cells pzC 113)).drew:=⟨_,rfl⟩
      rw [←hW6]
      have HB6:Hid (Below w5.heap.size w5 W6):=by rw [hW6];exact below_drew (bal (Below.refl _ _) _)
      have HZ6:Hid (BK W6 w5.heap.size pzC 113):=by rw [hW6];exact (bk_new w5 _ _).drew
      have HR7:=hid (below_bk HR5.out HB6.out)
      have HA7:=hid (below_bk HA5.out HB6.out)
      have hHeld2:=S8K.out _ HR7.out HA7.out
      clear hW6 hHeld
      have hHeld:=hHeld2
      clear hHeld2
      refine wpAnyH_ready (rs := [7]) (by kernel_rfl) (by simp) (AllReadyH.cons (o := { dst := some 46, op := Op.call { callee := Callee.value (Operand.func 54), args := #[Operand.tmp 39, Operand.tmp 40, Operand.tmp 44, Operand.tmp 45], argTypes := #[110, 79, 22, 69] }, type := 114, pos := "look.go:72", after := #[{ on := 0, ground := Ground.data }, { on := 1, ground := Ground.data }, { on := 5, ground := Ground.data }, { on := 6, ground := Ground.data }], guard := none }) rfl (fun K hK => ?_) AllReadyH.nil)
      go_simp
      (with_reducible refine (RA.out W6 _ (HB5.out.lk.cut HB6.out)).mono ?_);rintro e w1 hrow;obtain ⟨pp,x,rfl⟩:=hrow.shape;obtain ⟨⟨q1,q2,q3,q4,q5⟩,q6,q7,q8,q9,q10,q11,q12,q13,q14,q15⟩:=pp;have HR6:=hid (hrow.1.bk HR7.out (.inr (by have:=HNE.out;have:=HB5.out.hh;show hi.h≤_;omega)));have HA6:=hid (hrow.1.bk HA7.out (.inr (by have:=HB5.out.hh;show hi.h≤_;omega)));have HZ8:=hid (hrow.1.bk HZ6.out (.inr (by have:=HB5.out.lk.o5;exact this)));have d3:=HZ8.out.cell;have f3:=HZ8.out.free;have l3:=HZ8.out.lt;have HRW:=hid hrow;clear hrow;try go_simp
      refine hK.out _ _ (by exact S8K.out _ HR6.out HA6.out) (fun hHeld=>?_)
      clear hK K
      (try simp only [Act.put])
      refine zt 8 (v:=?_) rfl (Or.inl ⟨by rfl,?_⟩) (by assumption) ?_
      rotate_left
      (intro w0 hSw;(try dsimp only at hSw);go_simp;try (with_reducible rfl))
      (try simp only [Act.put])
      refine zt 9 (v:=?_) rfl (Or.inl ⟨by rfl,?_⟩) (by assumption) ?_
      rotate_left
      (intro w0 hSw;(try dsimp only at hSw);go_simp;try (with_reducible rfl))
      (try simp only [Act.put])
      refine zt 10 (v:=?_) rfl (Or.inl ⟨by rfl,?_⟩) (by assumption) ?_
      rotate_left
      (intro w0 hSw;(try dsimp only at hSw);go_simp;try (with_reducible rfl))
      (try simp only [Act.put])
      refine wpAnyH_ready (rs := [12]) (by kernel_rfl) (by simp) (AllReadyH.cons (o := { dst := none, op := Op.store 113 (Operand.tmp 12) (Operand.tmp 47), type := 0, pos := "look.go:72", after := #[{ on := 11, ground := Ground.data }, { on := 9, ground := Ground.data }, { on := 7, ground := Ground.chain }, { on := 0, ground := Ground.phase }, { on := 1, ground := Ground.phase }, { on := 2, ground := Ground.phase }, { on := 3, ground := Ground.phase }, { on := 4, ground := Ground.phase }, { on := 5, ground := Ground.phase }, { on := 6, ground := Ground.phase }, { on := 7, ground := Ground.phase }, { on := 8, ground := Ground.phase }, { on := 9, ground := Ground.phase }, { on := 10, ground := Ground.textOnly Departure.lateStores }, { on := 11, ground := Ground.phase }], guard := none }) rfl (fun K hK => ?_) AllReadyH.nil)
      go_simp
      refine hK.out _ _ (by exact S8K.out _ ((fr_sets w5.heap.size (ppc ⟨⟨q1,q2,q3,q4,q5⟩,q6,q7,q8,q9,q10,q11,q12,q13,q14,q15⟩) 0 w1).1.bk HR6.out (.inl (by have:=HB5.out.at_.lt;have:=HR5.out.lt;omega))) ((fr_sets w5.heap.size (ppc ⟨⟨q1,q2,q3,q4,q5⟩,q6,q7,q8,q9,q10,q11,q12,q13,q14,q15⟩) 0 w1).1.bk HA6.out (.inl (by have:=HB5.out.at_.lt;have:=HR5.out.lt;omega)))) (fun hHeld=>?_)
      clear hK K
      (try simp only [Act.put])
      refine wpAnyH_ready (rs := [13]) (by kernel_rfl) (by simp) (AllReadyH.cons (o := { dst := some 13, op := Op.assign (Operand.tmp 48), type := 30, pos := "look.go:72", after := #[{ on := 10, ground := Ground.data }, { on := 12, ground := Ground.chain }, { on := 0, ground := Ground.phase }, { on := 1, ground := Ground.phase }, { on := 2, ground := Ground.phase }, { on := 3, ground := Ground.phase }, { on := 4, ground := Ground.phase }, { on := 5, ground := Ground.phase }, { on := 6, ground := Ground.phase }, { on := 7, ground := Ground.phase }, { on := 8, ground := Ground.phase }, { on := 9, ground := Ground.phase }, { on := 10, ground := Ground.phase }, { on := 11, ground := Ground.phase }, { on := 12, ground := Ground.phase }], guard := none }) rfl (fun K hK => ?_) AllReadyH.nil)
      go_simp
      refine hK.out _ _ (by exact hHeld) (fun hHeld=>?_)
      clear hK K
      (try simp only [Act.put])
      refine wpAnyH_done (by kernel_rfl) ?_ _
      refine NoPanic.normal ?_
      go_wp2
      go_meet
      case rel=>exact ⟨⟨⟨q1,q2,q3,q4,q5⟩,q6,q7,q8,q9,q10,q11,q12,q13,q14,q15⟩,x,w5.heap.size,rfl,rfl,bk_pp HZ8.out ⟨⟨q1,q2,q3,q4,q5⟩,q6,q7,q8,q9,q10,q11,q12,q13,q14,q15⟩,HR5.out.lt,rowO_up (hi:=((hi.cut W.heap.size (W.heap.size+1)).but u8.ownBlock)) (V:=W6) (b:=w5.heap.size) ⟨HB6.out,HRW.out.1,Nat.le_refl _,HZ6.out.lt,HB5.out.lk.o5,HB5.out.lk.up⟩ (ppc ⟨⟨q1,q2,q3,q4,q5⟩,q6,q7,q8,q9,q10,q11,q12,q13,q14,q15⟩) HRW.out HB5.out.lk.o3 HB5.out.lk.o4 (Nat.le_refl _),(fr_sets w5.heap.size (ppc ⟨⟨q1,q2,q3,q4,q5⟩,q6,q7,q8,q9,q10,q11,q12,q13,q14,q15⟩) 0 w1).1.bk HR6.out (.inl HR5.out.lt)⟩
    obtain ⟨pp,x,pb,rfl,rfl,hbp,hpb,hrow,hbr⟩:=hcut
    clear S8K HA5 HR5 RA hs2
    rcases HB5.out.row hrow with ⟨y,hS,⟨p2,he⟩,hy,hle,hfr⟩ | ⟨en1,L1,p2,pl1,N1,hS,he,hN1,hBS,hRP⟩
    ·obtain ⟨_,hx⟩:=tup_inj he
     have hx':(x != 0)=true:=by rw [hx];exact bne_iff_ne.2 (by omega)
     have HX:=hid hx
     have HS:=hid hS
     have HLEE:=hid hle
     clear hrow he hx hS hle
     go_wp2
     rw [←HQ.out,HEQ2.out,HS.out,HX.out]
     exact ⟨hfr,.inl ⟨y,_,rfl,rfl,⟨_,_,_,rfl⟩,hy,HLEE.out.mono (by rw [List.length_take];have:=HLE.out;omega)⟩⟩
    ·obtain ⟨hcs,hx⟩:=tup_inj he
     subst hx
     rw [hcs] at hbp
     have hcl:=row_cls hS HB5.out.ok.l
     have HCL:=hid hcl
     have HS:=hid hS
     have HBS:=hid hBS
     have HBP:=hid hbp
     have HBR2:=hid hbr
     have HN1:=hid hN1
     obtain ⟨Lb,L',q1,q2,q3,q4,q5,q6,q7⟩:=hRP
     subst q3
     have HQ1:=hid q1
     have HQ2:=hid q2
     have HQ4:=hid q4
     have HQ6:=hid q6
     have HQ7:=hid q7
     have LA:=fun w=>leads_any p2 w
     have hLB:=leadB_iff (p:=p2)
     have HLB2:Hid (leadB p2=false↔mean p2 Lb=[]):=hLB.trans q5
     obtain ⟨ps,Ls,hown,t2,t3,t4,t5⟩:=hBS.pt
     obtain ⟨sa,sc,hsv⟩:=own_shape hown
     have HOWN:=hid hown
     have HT34:=hid (And.intro t3 (And.intro t4 t5))
     have HSV:=hid hsv
     clear hrow he hcs hcl hS hBS hbp hbr hN1 q1 q2 q4 q5 q6 q7 hLB hown t3 t4 t5 HB5 hsv
     have d12:=HBP.out.cell
     have l12:=HBP.out.lt
     have d9:=HBR2.out.cell
     have l9:=HBR2.out.lt
     generalize leadB p2=LD at *
     have HEQ3:Hid (lookB (K+1) en ⟨p,n,g,m,v⟩ rs=cmb (Lm++L1) (lookB (K+1) en1 ⟨p,n,g,m,v⟩ (rest.drop rr))):=by
      have h:=HEQ2.out
      rw [HS.out] at h
      simp only at h
      rw [cmb_cmb] at h
      exact h
     have HDB:Hid (dl=rest.length-rr):=by rw [HDL.out,List.length_drop];exact rfl
     have HSR3x:Hid (SR w0 (.slice a3 dl c3') (rest.drop rr)):=by
      have h:=HSR3.out
      rw [←HDL.out] at h
      exact h
     obtain ⟨⟨z1,z2,z3,z4,z5⟩,z6,z7,z8,z9,z10,z11,z12,z13,z14,z15⟩:=p2
     clear HSR3 HEQ2 HQ
     cases LD with
     | false=>
      have hmn:mean ⟨⟨z1,z2,z3,z4,z5⟩,z6,z7,z8,z9,z10,z11,z12,z13,z14,z15⟩ Lb=[]:=HLB2.out.1 rfl
      have hL1:L1=[]:=(HQ4.out.nil_iff).1 hmn
      have HT5:Hid (T4 L (Lm++L1)):=by rw [hL1,List.append_nil];exact HT4.out
      clear hmn hL1
      go_wp2_with (go_at_call 55;(with_reducible refine (LA _).mono ?_);rintro e w7 ⟨rfl,hB7⟩;(have HB7:=hid (HBS.out.on hB7));(have d9':=(below_bk HBR2.out hB7).cell);(have l9':=(below_bk HBR2.out hB7).lt);clear hB7 d9 l9 d12 l12)
      go_round
      case rel=>exact ⟨rest.drop rr,a3,c3',u8,pc,N1,en1,pl1,L,Lm++L1,by rw [HDL.out],rfl,by rw [←HDL.out];exact HSR3x.out,HB7,HT5.out,HEQ3.out,by rw [←HDL.out];have:=HLE.out;have:=HDB.out;omega,by rw [←HDL.out];have h1:=HLE.out;have h2:=HDB.out;have h3:=HN1.out;rw [List.length_take] at h3;omega,fun r hr=>HSZ.out r (List.mem_cons_of_mem _ (List.mem_of_mem_drop hr))⟩
      case measure=>simp only [];have:=HDB.out;omega
     | true=>
      have hmn:mean ⟨⟨z1,z2,z3,z4,z5⟩,z6,z7,z8,z9,z10,z11,z12,z13,z14,z15⟩ Lb≠[]:=fun e=>by have:=HLB2.out.2 e;cases this
      have HMN:=hid hmn
      clear hmn
      have hsv2:=HSV.out
      subst hsv2
      by_cases hps:ps.length≤4096
      ·have hps':(ps.length:Int)≤4096:=by omega
       have HPS:=hid hps
       clear hps
       obtain ⟨i7,hi7,hz7,hs7,hb7⟩:=info_parts Tryz.info113
       have HI7:=hid hi7
       clear hi7
       go_wp2_with (first
        | (go_at_call 55;(with_reducible refine (LA _).mono ?_);rintro e w7 ⟨rfl,hB7⟩;(have HB7:=hid (HBS.out.on hB7));(have HBP7:=hid (below_bk HBP.out hB7));(have HBR7:=hid (below_bk HBR2.out hB7));(have HO7:=hid (own_below HOWN.out hB7));(have HBW:=hid hB7);(have d12':=HBP7.out.cell);(have l12':=HBP7.out.lt);clear hB7 d9 l9 d12 l12)
        | (at_builtin;refine wpList_append_own_at _ rfl _ _ 65 rfl (W.heap.size+1) 113 i7 (.agg pzC) 14 152 Tryz.underlying65 HI7.out hz7 hs7 hb7 rfl (by decide) _ ps.length (ppw ps) rfl (own_below HO7.out (bal (Below.refl _ _) _)) ⟨w7.heap.size,0,none⟩ 1 1 (ppc ⟨⟨z1,z2,z3,z4,z5⟩,z6,z7,z8,z9,z10,z11,z12,z13,z14,z15⟩) rfl rfl (new_pp w7 _ rfl _) (one_pp _) (by have:=HPS.out;unfold maxLen;omega) (by have:=HPS.out;omega) (Nat.le_trans HB7.out.at_.lt (bal (Below.refl w7.heap.size w7) _).size) ?_;intro v8 w8 hown8 hgrow8 hnil8 hloc8;(have HBR8:Hid (BK w8 rb _ 79):=(hgrow8.block rb (HBR7.out.alloc _).lt (fun e=>own_ne HO7.out HBR7.out (by decide) rb e.symm rfl)).trans (HBR7.out.alloc _));(have HX8:=hid (And.intro hown8 (And.intro hgrow8 hloc8)));(have d9':=HBR8.out.cell);(have l9':=HBR8.out.lt);clear hown8 hgrow8 hnil8 hloc8))
       obtain ⟨w7a,hw7a⟩:∃w7a,w7a=w7.alloc (.cells (ppc ⟨⟨z1,z2,z3,z4,z5⟩,z6,z7,z8,z9,z10,z11,z12,z13,z14,z15⟩).toArray 113):=⟨_,rfl⟩
       have hBa:Below wc.heap.size wc w7a:=by rw [hw7a];exact btr HBW.out (bal (Below.refl _ _) _)
       have hBb:Below w7.heap.size w7 w7a:=by rw [hw7a];exact bal (Below.refl _ _) _
       have hXX:w8.ownsRow (W.heap.size+1) 113 14 v8 (ps.length+1) (ppw ps++ppc ⟨⟨z1,z2,z3,z4,z5⟩,z6,z7,z8,z9,z10,z11,z12,z13,z14,z15⟩)∧w7a.grownBy w8 (Value.slice sa ps.length sc).ownBlock∧(v8.ownBlock=(Value.slice sa ps.length sc).ownBlock∨v8.ownBlock=some w7a.heap.size):=by rw [hw7a];exact HX8.out
       have fB:Fr wc w7a 0 0:=fr_of_below hBa
       have HB8:Hid (BS w0 W w8 lb mb hi n g m v pc en N1 en1 pl1 v8 (L++mean ⟨⟨z1,z2,z3,z4,z5⟩,z6,z7,z8,z9,z10,z11,z12,z13,z14,z15⟩ Lb)):=BS.put (HB7.out.on hBb) (by have:=HPS.out;omega) HT34.out.1 (fun k h h'=>⟨(HT34.out.2.1 k h h').1.far fB (fun _ _=>.inr (Nat.zero_le _)),(HT34.out.2.1 k h h').2.1.far fB (fun _ _=>.inr (Nat.zero_le _)),(HT34.out.2.1 k h h').2.2⟩) HT34.out.2.2 (HQ1.out.far fB (fun _ _=>.inr (Nat.zero_le _))) (HQ2.out.far fB (fun _ _=>.inr (Nat.zero_le _))) HMN.out HQ6.out HQ7.out HQ4.out HCL.out hXX.1 hXX.2.1 hXX.2.2
       have HT5:=hid (HT4.out.app HQ4.out)
       clear hw7a hBa hBb hXX fB
       go_round
       case rel=>exact ⟨rest.drop rr,a3,c3',v8,pc,N1,en1,pl1,L++mean ⟨⟨z1,z2,z3,z4,z5⟩,z6,z7,z8,z9,z10,z11,z12,z13,z14,z15⟩ Lb,Lm++L1,by rw [HDL.out],rfl,by rw [←HDL.out];exact HSR3x.out,HB8,HT5.out,HEQ3.out,by rw [←HDL.out];have:=HLE.out;have:=HDB.out;omega,by rw [←HDL.out];have h1:=HLE.out;have h2:=HDB.out;have h3:=HN1.out;rw [List.length_take] at h3;omega,fun r hr=>HSZ.out r (List.mem_cons_of_mem _ (List.mem_of_mem_drop hr))⟩
       case measure=>simp only [];have:=HDB.out;omega
      ·have hps':¬(ps.length:Int)≤4096:=by omega
       have HT5:Hid (T4 L (Lm++L1)):=by
        have hl:ps.length≤L.length:=by rw [HT34.out.2.2];exact mean_long _ _ HT34.out.1 (fun k h h'=>(HT34.out.2.1 k h h').2.2.1)
        exact HT4.out.more (by omega) L1
       clear hps
       go_wp2_with (go_at_call 55;(with_reducible refine (LA _).mono ?_);rintro e w7 ⟨rfl,hB7⟩;(have HB7:=hid (HBS.out.on hB7));(have d9':=(below_bk HBR2.out hB7).cell);(have l9':=(below_bk HBR2.out hB7).lt);clear hB7 d9 l9 d12 l12)
       go_round
       case rel=>exact ⟨rest.drop rr,a3,c3',(Value.slice sa ps.length sc),pc,N1,en1,pl1,L,Lm++L1,by rw [HDL.out],rfl,by rw [←HDL.out];exact HSR3x.out,HB7,HT5.out,HEQ3.out,by rw [←HDL.out];have:=HLE.out;have:=HDB.out;omega,by rw [←HDL.out];have h1:=HLE.out;have h2:=HDB.out;have h3:=HN1.out;rw [List.length_take] at h3;omega,fun r hr=>HSZ.out r (List.mem_cons_of_mem _ (List.mem_of_mem_drop hr))⟩
       case measure=>simp only [];have:=HDB.out;omega
theorem bodyF_any (w0:World) (lb mb:Nat):∀K,FBody w0 lb mb K (lookB K)
 | 0=>fun _ _ _ _ _ _ _ _ _ _ _ h=>absurd h (Nat.not_lt_zero _)
 | K+1=>body_step (bodyF_any w0 lb mb K)
end Go.Proofs.YtdjfpghgklkejaaGreatDoor
