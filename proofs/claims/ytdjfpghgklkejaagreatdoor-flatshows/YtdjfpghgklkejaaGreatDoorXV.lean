/-
  Put together of: FU.
-/
import Derived.Test.YtdjfpghgklkejaaGreatDoorYU
import Derived.Test.YtdjfpghgklkejaaGreatDoorYO
namespace Go.Proofs.YtdjfpghgklkejaaGreatDoor
open Go.RowKit Go.Sort
set_option maxHeartbeats 1500000 in
set_option maxRecDepth 100000 in
theorem add_any {W:World} {B mk:Nat} {ov pv:Value} {os:List Oq} {vs:List (Option Addr × Nat)} {pls:List Int} {f:Sd} (H:MK W B mk ov pv os vs pls f) (ok:Int) (on:ByteArray) (ob:Int) (qa:Option Addr) (ql qc:Nat) (lb:Nat) (l:List Int) (lc:Nat) (hown:W.ownsRow B 3 1 (.slice (some ⟨lb,0,none⟩) l.length lc) l.length (zl l)) (hlb:∀k (h:k<vs.length),vs[k].1≠some ⟨lb,0,none⟩) (hlp:some lb≠pv.ownBlock) (hon:on.size≤281474976710656) (hl:l.length≤6000000000000) (hos:os.length≤4096) :
  Calls Tryz.prog 92 #[.pointer (some ⟨mk,0,none⟩),.agg #[.int .i64 ok,.string on,.slice qa ql qc,.int .i64 ob,.bool false,.int .u64 0,.int .u64 0],.slice (some ⟨lb,0,none⟩) l.length lc] W fun e W'=>e=.returned (.bool (decide (os.length+1≤4096)))∧∃ov' pv',MK W' B mk ov' pv' (os++[⟨ok,on,l,ob,decide (f.m≠0),(f.m:Nat),(f.v:Nat)⟩]) (vs++[(some ⟨lb,0,none⟩,lc)]) (pls++[f.p]) f∧KMk W W' mk ov pv ov' pv':=by
 obtain ⟨p,n,g,m,v⟩:=f
 simp only at *
 obtain ⟨fb,hfb⟩:∃fb:Bool,fb=decide (m≠0):=⟨_,rfl⟩
 rw [←hfb]
 have HFB:=hid hfb
 clear hfb
 have CL:=fun w=>clone_any on w hon
 have HH:=hid H
 have HOWL:=hid hown
 have HLB:=hid hlb
 have HLP:=hid hlp
 have HOS:=hid hos
 have HLL:=hid hl
 have HNE:Hid (mk<W.heap.size):=H.box.lt
 have HOLT:Hid (∀g,ov.ownBlock=some g→g<W.heap.size):=fun g e=>(H.ops.own.lt g e).2
 clear H hown hlb hlp hon hos hl
 generalize hQ:(fun e W'=>e=Ending.returned (.bool (decide (os.length+1≤4096)))∧∃ov' pv',MK W' B mk ov' pv' (os++[⟨ok,on,l,ob,fb,(m:Nat),(v:Nat)⟩]) (vs++[(some ⟨lb,0,none⟩,lc)]) (pls++[p]) ⟨p,n,g,m,v⟩∧KMk W W' mk ov pv ov' pv')=Q
 have HQ:=hid hQ
 clear hQ
 go_enter Tryz.func92,Tryz.ntmps92
 go_upto_region 2 with (go_at_call 111;(with_reducible refine (CL _).mono ?_);rintro e w1 ⟨rfl,hB1⟩;(have HB1:=hid hB1);(have b1:=bbk (bk_new W #[.int .i64 ok,.string on,.slice qa ql qc,.int .i64 ob,.bool false,.int .u64 0,.int .u64 0] 49) hB1);(have c1:=b1.cell);(have f1:=b1.free);(have l1:=b1.lt);(have HX1:=hid b1);clear b1 hB1)
 obtain ⟨V2,hV2⟩:∃V2,V2=(w1.setCell ⟨W.heap.size,1,none⟩ (.string on)).setCell ⟨W.heap.size,2,none⟩ (.slice (some ⟨lb,0,none⟩) l.length lc):=⟨_,rfl⟩
 have HX2:Hid (BK V2 W.heap.size #[.int .i64 ok,.string on,.slice (some ⟨lb,0,none⟩) l.length lc,.int .i64 ob,.bool false,.int .u64 0,.int .u64 0] 49):=by rw [hV2];exact (HX1.out.set 1 _).set 2 _
 have HBV:Hid (Below W.heap.size W V2):=by rw [hV2];exact bset (bset (btr (bal (Below.refl _ _) _) HB1.out) _ _ _ (Nat.le_refl _)) _ _ _ (Nat.le_refl _)
 have HM2:Hid (BK V2.drew mk #[ov,pv,.int .i64 p,.int .i64 (n:Nat),.bool g,.int .u64 (m:Nat),.int .u64 (v:Nat)] 117):=(bbk HH.out.box HBV.out).drew
 rw [←hV2]
 clear hV2 c1 f1 l1 HX1 HB1
 have c2:=HX2.out.cell
 have f2:=HX2.out.free
 have l2:=HX2.out.lt
 refine wp_region_noPanic ?_
 refine wp_region_held_drew (S:=fun w'=>w'.cell? ⟨mk,5,none⟩=some (.int .u64 (m:Nat))∧w'.cell? ⟨mk,6,none⟩=some (.int .u64 (v:Nat))∧mk<w'.heap.size) (by kernel_rfl) (by exact ⟨HM2.out.cell 5,HM2.out.cell 6,HM2.out.lt⟩) (fun hHeld=>?_)
 refine zt 0 (v:=?_) rfl (Or.inl ⟨by rfl,?_⟩) (by assumption) ?_
 rotate_left
 (intro w0 hSw;(try dsimp only at hSw);go_simp;try (with_reducible rfl))
 (try simp only [Act.put])
 refine zt 1 (v:=?_) rfl (Or.inl ⟨by rfl,?_⟩) (by assumption) ?_
 rotate_left
 (intro w0 hSw;(try dsimp only at hSw);go_simp;try (with_reducible rfl))
 (try simp only [Act.put])
 refine zt 2 (v:=?_) rfl (Or.inl ⟨by rfl,?_⟩) (by assumption) ?_
 rotate_left
 (intro w0 hSw;(try dsimp only at hSw);go_simp;try (with_reducible rfl))
 (try simp only [Act.put])
 refine zt 3 (v:=?_) rfl (Or.inl ⟨by rfl,?_⟩) (by assumption) ?_
 rotate_left
 (intro w0 hSw;(try dsimp only at hSw);go_simp;try (with_reducible rfl))
 (try simp only [Act.put])
 refine zt 4 (v:=?_) rfl (Or.inl ⟨by rfl,?_⟩) (by assumption) ?_
 rotate_left
 (intro w0 hSw;(try dsimp only at hSw);go_simp;try (with_reducible rfl))
 (try simp only [Act.put])
 refine zt 5 (v:=?_) rfl (Or.inl ⟨by rfl,?_⟩) (by assumption) ?_
 rotate_left
 (intro w0 hSw;(try dsimp only at hSw);go_simp;try (with_reducible rfl))
 (try simp only [Act.put])
 refine zt 6 (v:=?_) rfl (Or.inl ⟨by rfl,?_⟩) (by assumption) ?_
 rotate_left
 (intro w0 hSw;(try dsimp only at hSw);go_simp;try (with_reducible rfl))
 (try simp only [Act.put])
 refine zt 7 (v:=?_) rfl (Or.inl ⟨by rfl,?_⟩) (by assumption) ?_
 rotate_left
 (intro w0 hSw;(try dsimp only at hSw);go_simp;try (with_reducible rfl))
 (try simp only [Act.put])
 refine zt 8 (v:=?_) rfl (Or.inl ⟨by rfl,?_⟩) (by assumption) ?_
 rotate_left
 (intro w0 hSw;(try dsimp only at hSw);go_simp;try (with_reducible rfl))
 (try simp only [Act.put])
 refine zt 9 (v:=?_) rfl (Or.inl ⟨by rfl,?_⟩) (by assumption) ?_
 rotate_left
 (intro w0 hSw;(try dsimp only at hSw);go_simp;try (with_reducible rfl))
 (try simp only [Act.put])
 refine zt 10 (v:=?_) rfl (Or.inl ⟨by rfl,?_⟩) (by assumption) ?_
 rotate_left
 (intro w0 hSw;(try dsimp only at hSw);go_simp;try (with_reducible rfl))
 (try simp only [Act.put])
 refine zt 11 (v:=?_) rfl (Or.inl ⟨by rfl,?_⟩) (by assumption) ?_
 rotate_left
 (intro w0 hSw;(try dsimp only at hSw);go_simp;try (with_reducible rfl))
 (try simp only [Act.put])
 refine zt 12 (v:=?_) rfl (Or.inl ⟨by rfl,?_⟩) (by assumption) ?_
 rotate_left
 (intro w0 hSw;(try dsimp only at hSw);go_simp;try (with_reducible rfl))
 (try simp only [Act.put])
 refine zt 13 (v:=?_) rfl (Or.inl ⟨by rfl,?_⟩) (by assumption) ?_
 rotate_left
 (intro w0 hSw;(try dsimp only at hSw);go_simp;try (with_reducible rfl))
 (try simp only [Act.put])
 refine zt 14 (v:=?_) rfl (Or.inl ⟨by rfl,?_⟩) (by assumption) ?_
 rotate_left
 (intro w0 hSw;(try dsimp only at hSw);go_simp;try (with_reducible rfl))
 (try simp only [Act.put])
 refine zt 15 (v:=?_) rfl (Or.inl ⟨by rfl,?_⟩) (by assumption) ?_
 rotate_left
 (intro w0 hSw;(try dsimp only at hSw);go_simp;try (with_reducible rfl))
 (try simp only [Act.put])
 refine zt 16 (v:=?_) rfl (Or.inl ⟨by rfl,?_⟩) (by assumption) ?_
 rotate_left
 (intro w0 hSw;(try dsimp only at hSw);go_simp;try (with_reducible rfl))
 (try simp only [Act.put])
 refine wpAnyH_ready (rs := [17]) (by kernel_rfl) (by simp) (AllReadyH.cons (o := { dst := none, op := Op.store 4 (Operand.tmp 29) (Operand.tmp 18), type := 0, pos := "lay.go:68", after := #[{ on := 16, ground := Ground.data }, { on := 5, ground := Ground.data }, { on := 0, ground := Ground.phase }, { on := 1, ground := Ground.phase }, { on := 2, ground := Ground.phase }, { on := 3, ground := Ground.phase }, { on := 4, ground := Ground.phase }, { on := 5, ground := Ground.phase }, { on := 6, ground := Ground.textOnly Departure.lateStores }, { on := 7, ground := Ground.textOnly Departure.lateStores }, { on := 8, ground := Ground.textOnly Departure.lateStores }, { on := 9, ground := Ground.textOnly Departure.lateStores }, { on := 10, ground := Ground.textOnly Departure.lateStores }, { on := 11, ground := Ground.textOnly Departure.lateStores }, { on := 12, ground := Ground.textOnly Departure.lateStores }, { on := 13, ground := Ground.textOnly Departure.lateStores }, { on := 14, ground := Ground.textOnly Departure.lateStores }, { on := 15, ground := Ground.textOnly Departure.lateStores }], guard := none }) rfl (fun K hK => ?_) AllReadyH.nil)
 go_simp
 refine hK.out _ _ (by exact ⟨(BK.far HM2.out (by have:=HNE.out;omega) 4 _).cell 5,(BK.far HM2.out (by have:=HNE.out;omega) 4 _).cell 6,(BK.far HM2.out (by have:=HNE.out;omega) 4 _).lt⟩) (fun hHeld=>?_)
 clear hK K
 (try simp only [Act.put])
 refine zt 18 (v:=?_) rfl (Or.inl ⟨by rfl,?_⟩) (by assumption) ?_
 rotate_left
 (intro w0 hSw;(try dsimp only at hSw);go_simp;try (with_reducible rfl))
 (try simp only [Act.put])
 refine wpAnyH_ready (rs := [19]) (by kernel_rfl) (by simp) (AllReadyH.cons (o := { dst := none, op := Op.store 47 (Operand.tmp 30) (Operand.tmp 23), type := 0, pos := "lay.go:68", after := #[{ on := 18, ground := Ground.data }, { on := 10, ground := Ground.data }, { on := 17, ground := Ground.chain }, { on := 0, ground := Ground.phase }, { on := 1, ground := Ground.phase }, { on := 2, ground := Ground.phase }, { on := 3, ground := Ground.phase }, { on := 4, ground := Ground.phase }, { on := 5, ground := Ground.phase }, { on := 6, ground := Ground.phase }, { on := 7, ground := Ground.phase }, { on := 8, ground := Ground.phase }, { on := 9, ground := Ground.phase }, { on := 10, ground := Ground.phase }, { on := 11, ground := Ground.textOnly Departure.lateStores }, { on := 12, ground := Ground.textOnly Departure.lateStores }, { on := 13, ground := Ground.textOnly Departure.lateStores }, { on := 14, ground := Ground.textOnly Departure.lateStores }, { on := 15, ground := Ground.textOnly Departure.lateStores }, { on := 16, ground := Ground.phase }, { on := 17, ground := Ground.phase }], guard := none }) rfl (fun K hK => ?_) AllReadyH.nil)
 go_simp
 refine hK.out _ _ (by exact ⟨(BK.far (BK.far HM2.out (by have:=HNE.out;omega) 4 _) (by have:=HNE.out;omega) 5 _).cell 5,(BK.far (BK.far HM2.out (by have:=HNE.out;omega) 4 _) (by have:=HNE.out;omega) 5 _).cell 6,(BK.far (BK.far HM2.out (by have:=HNE.out;omega) 4 _) (by have:=HNE.out;omega) 5 _).lt⟩) (fun hHeld=>?_)
 clear hK K
 (try simp only [Act.put])
 refine zt 20 (v:=?_) rfl (Or.inl ⟨by rfl,?_⟩) (by assumption) ?_
 rotate_left
 (intro w0 hSw;(try dsimp only at hSw);go_simp;try (with_reducible rfl))
 (try simp only [Act.put])
 refine wpAnyH_ready (rs := [21]) (by kernel_rfl) (by simp) (AllReadyH.cons (o := { dst := none, op := Op.store 47 (Operand.tmp 31) (Operand.tmp 28), type := 0, pos := "lay.go:68", after := #[{ on := 20, ground := Ground.data }, { on := 15, ground := Ground.data }, { on := 19, ground := Ground.chain }, { on := 0, ground := Ground.phase }, { on := 1, ground := Ground.phase }, { on := 2, ground := Ground.phase }, { on := 3, ground := Ground.phase }, { on := 4, ground := Ground.phase }, { on := 5, ground := Ground.phase }, { on := 6, ground := Ground.phase }, { on := 7, ground := Ground.phase }, { on := 8, ground := Ground.phase }, { on := 9, ground := Ground.phase }, { on := 10, ground := Ground.phase }, { on := 11, ground := Ground.phase }, { on := 12, ground := Ground.phase }, { on := 13, ground := Ground.phase }, { on := 14, ground := Ground.phase }, { on := 15, ground := Ground.phase }, { on := 16, ground := Ground.phase }, { on := 17, ground := Ground.phase }, { on := 18, ground := Ground.phase }, { on := 19, ground := Ground.phase }], guard := none }) rfl (fun K hK => ?_) AllReadyH.nil)
 go_simp
 refine hK.out _ _ (by exact ⟨(BK.far (BK.far (BK.far HM2.out (by have:=HNE.out;omega) 4 _) (by have:=HNE.out;omega) 5 _) (by have:=HNE.out;omega) 6 _).cell 5,(BK.far (BK.far (BK.far HM2.out (by have:=HNE.out;omega) 4 _) (by have:=HNE.out;omega) 5 _) (by have:=HNE.out;omega) 6 _).cell 6,(BK.far (BK.far (BK.far HM2.out (by have:=HNE.out;omega) 4 _) (by have:=HNE.out;omega) 5 _) (by have:=HNE.out;omega) 6 _).lt⟩) (fun hHeld=>?_)
 clear hK K
 (try simp only [Act.put])
 refine wpAnyH_done (by kernel_rfl) ?_ _
 refine NoPanic.normal ?_
 have hmz:((m:Int) != 0)=fb:=by
  rw [HFB.out]
  by_cases h:m=0
  ·simp [h]
  ·rw [decide_eq_true h]
   exact bne_iff_ne.2 (by omega)
 rw [hmz]
 obtain ⟨V3,hV3⟩:∃V3,V3=(((V2.setCell ⟨W.heap.size,4,none⟩ (.bool (fb))).setCell ⟨W.heap.size,5,none⟩ (.int .u64 (m:Nat))).setCell ⟨W.heap.size,6,none⟩ (.int .u64 (v:Nat))).drew:=⟨_,rfl⟩
 rw [←hV3]
 have HX3:Hid (BK V3.drew W.heap.size #[.int .i64 ok,.string on,.slice (some ⟨lb,0,none⟩) l.length lc,.int .i64 ob,.bool fb,.int .u64 (m:Nat),.int .u64 (v:Nat)] 49):=by rw [hV3];exact ((HX2.out.set 4 _).set 5 _).set 6 _
 have HB3:Hid (Below W.heap.size W V3):=by rw [hV3];exact below_drew (bset (bset (bset HBV.out _ _ _ (Nat.le_refl _)) _ _ _ (Nat.le_refl _)) _ _ _ (Nat.le_refl _))
 have HK3:=hid (HH.out.below (below_drew HB3.out))
 have HM3:=hid HK3.out.box
 clear hV3 hmz c2 f2 l2 HX2 HM2 HBV
 have S3K:Hid (∀w',BK w' mk #[ov,pv,.int .i64 p,.int .i64 (n:Nat),.bool g,.int .u64 (m:Nat),.int .u64 (v:Nat)] 117→BK w' W.heap.size #[.int .i64 ok,.string on,.slice (some ⟨lb,0,none⟩) l.length lc,.int .i64 ob,.bool fb,.int .u64 (m:Nat),.int .u64 (v:Nat)] 49→(w'.cell? ⟨mk,0,none⟩=some ov∧mk<w'.heap.size)∧(w'.cell? ⟨W.heap.size,0,none⟩=some (.int .i64 ok)∧w'.cell? ⟨W.heap.size,1,none⟩=some (.string on)∧w'.cell? ⟨W.heap.size,2,none⟩=some (.slice (some ⟨lb,0,none⟩) l.length lc)∧w'.cell? ⟨W.heap.size,3,none⟩=some (.int .i64 ob)∧w'.cell? ⟨W.heap.size,4,none⟩=some (.bool fb)∧w'.cell? ⟨W.heap.size,5,none⟩=some (.int .u64 (m:Nat))∧w'.cell? ⟨W.heap.size,6,none⟩=some (.int .u64 (v:Nat)))∧W.heap.size<w'.heap.size):=fun w' h1 h2=>⟨⟨h1.cell 0,h1.lt⟩,⟨h2.cell 0,h2.cell 1,h2.cell 2,h2.cell 3,h2.cell 4,h2.cell 5,h2.cell 6⟩,h2.lt⟩
 obtain ⟨i4,hi4,hz4,hs4,hb4⟩:=info_parts Tryz.info49
 have HI4:=hid hi4
 clear hi4
 go_upto_region 3 with (fail)
 refine wp_region_noPanic ?_
 refine region_z (S:=fun w'=>(w'.cell? ⟨mk,0,none⟩=some ov∧mk<w'.heap.size)∧(w'.cell? ⟨W.heap.size,0,none⟩=some (.int .i64 ok)∧w'.cell? ⟨W.heap.size,1,none⟩=some (.string on)∧w'.cell? ⟨W.heap.size,2,none⟩=some (.slice (some ⟨lb,0,none⟩) l.length lc)∧w'.cell? ⟨W.heap.size,3,none⟩=some (.int .i64 ob)∧w'.cell? ⟨W.heap.size,4,none⟩=some (.bool fb)∧w'.cell? ⟨W.heap.size,5,none⟩=some (.int .u64 (m:Nat))∧w'.cell? ⟨W.heap.size,6,none⟩=some (.int .u64 (v:Nat)))∧W.heap.size<w'.heap.size) 10 (by kernel_rfl) (S3K.out _ HM3.out HX3.out) (fun hHeld=>?_)
 refine zqq 0 (v:=?_) rfl (Or.inl ⟨by rfl,?_⟩) (by assumption) ?_
 rotate_left
 (intro w0 hSw;(try dsimp only at hSw);go_simp;try (with_reducible rfl))
 (try simp only [Act.put])
 refine zqq 1 (v:=?_) rfl (Or.inl ⟨by rfl,?_⟩) (by assumption) ?_
 rotate_left
 (intro w0 hSw;(try dsimp only at hSw);go_simp;try (with_reducible rfl))
 (try simp only [Act.put])
 refine zqq 2 (v:=?_) rfl (Or.inl ⟨by rfl,?_⟩) (by assumption) ?_
 rotate_left
 (intro w0 hSw;(try dsimp only at hSw);go_simp;try (with_reducible rfl))
 (try simp only [Act.put])
 refine zqq 3 (v:=?_) rfl (Or.inl ⟨by rfl,?_⟩) (by assumption) ?_
 rotate_left
 (intro w0 hSw;(try dsimp only at hSw);go_simp;try (with_reducible rfl))
 (try simp only [Act.put])
 refine zqq 4 (v:=?_) rfl (Or.inl ⟨by rfl,?_⟩) (by assumption) ?_
 rotate_left
 (intro w0 hSw;(try dsimp only at hSw);go_simp;try (with_reducible rfl))
 (try simp only [Act.put])
 refine zqq 5 (v:=?_) rfl (Or.inl ⟨by rfl,?_⟩) (by assumption) ?_
 rotate_left
 (intro w0 hSw;(try dsimp only at hSw);go_simp;try (with_reducible rfl))
 (try simp only [Act.put])
 refine zAny_ready (rs := [6]) (by kernel_rfl) (by simp) (zReady.cons (o := { dst := some 38, op := Op.buildSlice 25 1 #[(0, Operand.tmp 37)], type := 25, pos := "lay.go:69", after := #[{ on := 5, ground := Ground.data }], guard := none }) rfl (fun K hK => ?_) zReady.nil)
 go_simp
 refine hK.out _ _ (fun _=>S3K.out _ (HM3.out.alloc _) (HX3.out.alloc _)) (fun _=>?_)
 clear hK K
 (try simp only [Act.put])
 refine zAny_ready (rs := [7]) (by kernel_rfl) (by simp) (zReady.cons (o := { dst := some 39, op := Op.call { callee := Callee.builtin Builtin.append, args := #[Operand.tmp 36, Operand.tmp 38], argTypes := #[25, 25] }, type := 25, pos := "lay.go:69", after := #[{ on := 4, ground := Ground.data }, { on := 6, ground := Ground.data }], guard := none }) rfl (fun K hK => ?_) zReady.nil)
 refine step_own rfl _ _ 25 rfl B 49 i4 _ 7 80 Tryz.underlying25 HI4.out hz4 hs4 hb4 rfl (by decide) _ os.length (opw os vs) rfl (own_below HK3.out.ops.own (bal (Below.refl _ _) _)) ⟨_,0,none⟩ 1 1 (opc ⟨ok,on,l,ob,fb,(m:Nat),(v:Nat)⟩ (some ⟨lb,0,none⟩) lc) rfl rfl (new_oq _ _ rfl ⟨ok,on,l,ob,fb,(m:Nat),(v:Nat)⟩ _ _) (one_oq ⟨ok,on,l,ob,fb,(m:Nat),(v:Nat)⟩ _ _) (by have:=HOS.out;unfold maxLen;omega) (by have:=HOS.out;omega) (Nat.le_trans HK3.out.hB (bal (Below.refl V3.drew.heap.size V3.drew) _).size) ?_
 intro v8 w8 hown8 hgrow8 hloc8
 obtain ⟨a8,c8,rfl⟩:=own_shape hown8
 obtain ⟨W4,hW4⟩:∃W4,W4=V3.drew.alloc (.cells (opc ⟨ok,on,l,ob,fb,(m:Nat),(v:Nat)⟩ (some ⟨lb,0,none⟩) lc).toArray 49):=⟨_,rfl⟩
 have hB4:Below V3.drew.heap.size V3.drew W4:=by rw [hW4];exact bal (Below.refl _ _) _
 have hG4:W4.grownBy w8 ov.ownBlock:=by rw [hW4];exact hgrow8
 have hL4:(Value.slice a8 (os.length+1) c8).ownBlock=ov.ownBlock∨(Value.slice a8 (os.length+1) c8).ownBlock=some W4.heap.size:=by rw [hW4];exact hloc8
 have HM4:Hid (BK w8 mk _ 117):=(hG4.block mk (bbk HM3.out hB4).lt (fun e=>own_ne HK3.out.ops.own HM3.out (by decide) mk e.symm rfl)).trans (bbk HM3.out hB4)
 have HX4:Hid (BK w8 W.heap.size _ 49):=(hG4.block W.heap.size (bbk HX3.out hB4).lt (fun e=>by have:=(HOLT.out _ e.symm);omega)).trans (bbk HX3.out hB4)
 have HO4:=hid hown8
 have HG4:=hid hG4
 have HB4:=hid hB4
 have HL4:=hid hL4
 clear hown8 hgrow8 hloc8 hG4 hL4 hB4 hW4
 refine hK.out _ _ (fun _=>S3K.out _ HM4.out HX4.out) (fun _=>?_)
 clear hK K
 (try simp only [Act.put])
 have hH4:=S3K.out _ HM4.out HX4.out
 refine zAny_ready (rs := [8]) (by kernel_rfl) (by simp) (zReady.cons (o := { dst := some 40, op := Op.nilCheck (Operand.tmp 32), type := 0, pos := "lay.go:69", after := #[{ on := 0, ground := Ground.data }, { on := 0, ground := Ground.phase }, { on := 1, ground := Ground.phase }, { on := 2, ground := Ground.phase }, { on := 3, ground := Ground.phase }, { on := 4, ground := Ground.phase }, { on := 5, ground := Ground.phase }, { on := 6, ground := Ground.phase }, { on := 7, ground := Ground.phase }], guard := none }) rfl (fun K hK => ?_) zReady.nil)
 go_simp
 refine hK.out _ _ (fun _=>by assumption) (fun _=>?_)
 clear hK K
 (try simp only [Act.put])
 refine zqq 9 (v:=?_) rfl (Or.inl ⟨by rfl,?_⟩) (by assumption) ?_
 rotate_left
 (intro w0 hSw;(try dsimp only at hSw);go_simp;try (with_reducible rfl))
 (try simp only [Act.put])
 refine zAny_ready (rs := [10]) (by kernel_rfl) (by simp) (zReady.cons (o := { dst := none, op := Op.store 25 (Operand.tmp 41) (Operand.tmp 39), type := 0, pos := "lay.go:69", after := #[{ on := 9, ground := Ground.data }, { on := 7, ground := Ground.data }, { on := 7, ground := Ground.chain }, { on := 0, ground := Ground.phase }, { on := 1, ground := Ground.phase }, { on := 2, ground := Ground.phase }, { on := 3, ground := Ground.phase }, { on := 4, ground := Ground.phase }, { on := 5, ground := Ground.phase }, { on := 6, ground := Ground.phase }, { on := 7, ground := Ground.phase }], guard := none }) rfl (fun K hK => ?_) zReady.nil)
 have y1:=HM4.out.cell
 have y2:=HM4.out.free
 have y3:=HM4.out.lt
 go_simp
 refine hK.out _ _ (fun h=>absurd rfl h) (fun _=>?_)
 clear hK K hHeld
 (try simp only [Act.put])
 refine zAny_done (by kernel_rfl) ?_ _
 refine NoPanic.normal ?_
 obtain ⟨W5,hW5⟩:∃W5,W5=w8.setCell ⟨mk,0,none⟩ (.slice a8 (os.length+1) c8):=⟨_,rfl⟩
 have H5:Hid (MK1 V3.drew W5 B mk (.slice a8 (os.length+1) c8) pv ov (os++[⟨ok,on,l,ob,fb,(m:Nat),(v:Nat)⟩]) (vs++[(some ⟨lb,0,none⟩,lc)]) pls ⟨p,n,g,m,v⟩):=by
  rw [hW5]
  exact mk_one (oq:=⟨ok,on,l,ob,fb,(m:Nat),(v:Nat)⟩) HK3.out HB4.out HG4.out HO4.out HL4.out (own_below HOWL.out (below_drew HB3.out)) HLB.out HLP.out ⟨by show (0:Int)≤(m:Int);omega,by show (m:Int)≤_;have:=HH.out.fm.1;simp only at this;omega,by show (0:Int)≤(v:Int);omega,by show (v:Int)≤_;have:=HH.out.fm.2;simp only at this;omega,by show l.length≤_;have:=HLL.out;omega⟩
 have HN5:Hid (BK W5 mk #[.slice a8 (os.length+1) c8,pv,.int .i64 p,.int .i64 (n:Nat),.bool g,.int .u64 (m:Nat),.int .u64 (v:Nat)] 117):=H5.out.box
 rw [←hW5]
 have HPLN:Hid (pls.length=os.length∧os.length≤4096):=⟨HH.out.len,HOS.out⟩
 clear hW5 y1 y2 y3 hH4 HM4 HX4 HO4 HG4 HL4
 have S4K:Hid (∀w',BK w' mk #[.slice a8 (os.length+1) c8,pv,.int .i64 p,.int .i64 (n:Nat),.bool g,.int .u64 (m:Nat),.int .u64 (v:Nat)] 117→w'.cell? ⟨mk,1,none⟩=some pv∧w'.cell? ⟨mk,2,none⟩=some (.int .i64 p)∧mk<w'.heap.size):=fun w' h=>⟨h.cell 1,h.cell 2,h.lt⟩
 obtain ⟨i5,hi5,hz5,hs5,hb5⟩:=info_parts info3z
 have HI5:=hid hi5
 clear hi5
 go_upto_region 4 with (fail)
 refine wp_region_noPanic ?_
 refine region_z (S:=fun w'=>w'.cell? ⟨mk,1,none⟩=some pv∧w'.cell? ⟨mk,2,none⟩=some (.int .i64 p)∧mk<w'.heap.size) 14 (by kernel_rfl) (S4K.out _ HN5.out) (fun hHeld=>?_)
 refine zqq 0 (v:=?_) rfl (Or.inl ⟨by rfl,?_⟩) (by assumption) ?_
 rotate_left
 (intro w0 hSw;(try dsimp only at hSw);go_simp;try (with_reducible rfl))
 (try simp only [Act.put])
 refine zqq 1 (v:=?_) rfl (Or.inl ⟨by rfl,?_⟩) (by assumption) ?_
 rotate_left
 (intro w0 hSw;(try dsimp only at hSw);go_simp;try (with_reducible rfl))
 (try simp only [Act.put])
 refine zqq 2 (v:=?_) rfl (Or.inl ⟨by rfl,?_⟩) (by assumption) ?_
 rotate_left
 (intro w0 hSw;(try dsimp only at hSw);go_simp;try (with_reducible rfl))
 (try simp only [Act.put])
 refine zqq 3 (v:=?_) rfl (Or.inl ⟨by rfl,?_⟩) (by assumption) ?_
 rotate_left
 (intro w0 hSw;(try dsimp only at hSw);go_simp;try (with_reducible rfl))
 (try simp only [Act.put])
 refine zqq 4 (v:=?_) rfl (Or.inl ⟨by rfl,?_⟩) (by assumption) ?_
 rotate_left
 (intro w0 hSw;(try dsimp only at hSw);go_simp;try (with_reducible rfl))
 (try simp only [Act.put])
 refine zqq 5 (v:=?_) rfl (Or.inl ⟨by rfl,?_⟩) (by assumption) ?_
 rotate_left
 (intro w0 hSw;(try dsimp only at hSw);go_simp;try (with_reducible rfl))
 (try simp only [Act.put])
 refine zqq 6 (v:=?_) rfl (Or.inl ⟨by rfl,?_⟩) (by assumption) ?_
 rotate_left
 (intro w0 hSw;(try dsimp only at hSw);go_simp;try (with_reducible rfl))
 (try simp only [Act.put])
 refine zqq 7 (v:=?_) rfl (Or.inl ⟨by rfl,?_⟩) (by assumption) ?_
 rotate_left
 (intro w0 hSw;(try dsimp only at hSw);go_simp;try (with_reducible rfl))
 (try simp only [Act.put])
 refine zqq 8 (v:=?_) rfl (Or.inl ⟨by rfl,?_⟩) (by assumption) ?_
 rotate_left
 (intro w0 hSw;(try dsimp only at hSw);go_simp;try (with_reducible rfl))
 (try simp only [Act.put])
 refine zqq 9 (v:=?_) rfl (Or.inl ⟨by rfl,?_⟩) (by assumption) ?_
 rotate_left
 (intro w0 hSw;(try dsimp only at hSw);go_simp;try (with_reducible rfl))
 (try simp only [Act.put])
 refine zAny_ready (rs := [10]) (by kernel_rfl) (by simp) (zReady.cons (o := { dst := some 52, op := Op.buildSlice 46 1 #[(0, Operand.tmp 51)], type := 46, pos := "lay.go:70", after := #[{ on := 9, ground := Ground.data }], guard := none }) rfl (fun K hK => ?_) zReady.nil)
 go_simp
 refine hK.out _ _ (fun _=>S4K.out _ (HN5.out.alloc _)) (fun _=>?_)
 clear hK K
 (try simp only [Act.put])
 refine zAny_ready (rs := [11]) (by kernel_rfl) (by simp) (zReady.cons (o := { dst := some 53, op := Op.call { callee := Callee.builtin Builtin.append, args := #[Operand.tmp 46, Operand.tmp 52], argTypes := #[46, 46] }, type := 46, pos := "lay.go:70", after := #[{ on := 4, ground := Ground.data }, { on := 10, ground := Ground.data }], guard := none }) rfl (fun K hK => ?_) zReady.nil)
 refine step_own rfl _ _ 46 rfl B 3 i5 _ 1 8 Tryz.underlying46 HI5.out hz5 hs5 hb5 rfl (by decide) _ pls.length (zl pls) rfl (own_below H5.out.pl (btr (below_drew (Below.refl _ _)) (bal (Below.refl _ _) _))) ⟨_,0,none⟩ 1 1 [.int .i64 p] rfl rfl (new_int _ _ rfl p) (one_int p) (by have:=HPLN.out;unfold maxLen;omega) (by have:=HPLN.out;omega) (Nat.le_trans H5.out.hB (btr (below_drew (Below.refl _ _)) (bal (Below.refl _ _) (.cells #[.int .i64 p] 3))).size) ?_
 intro v9 w9 hown9 hgrow9 hloc9
 obtain ⟨a9,c9,rfl⟩:=own_shape hown9
 obtain ⟨W6,hW6⟩:∃W6,W6=W5.drew.alloc (.cells #[.int .i64 p] 3):=⟨_,rfl⟩
 have hB6:Below W5.heap.size W5 W6:=by rw [hW6];exact btr (below_drew (Below.refl _ _)) (bal (Below.refl _ _) _)
 have hG6:W6.grownBy w9 pv.ownBlock:=by rw [hW6];exact hgrow9
 have hL6:(Value.slice a9 (pls.length+1) c9).ownBlock=pv.ownBlock∨(Value.slice a9 (pls.length+1) c9).ownBlock=some W6.heap.size:=by rw [hW6];exact hloc9
 have HM6:Hid (BK w9 mk #[.slice a8 (os.length+1) c8,pv,.int .i64 p,.int .i64 (n:Nat),.bool g,.int .u64 (m:Nat),.int .u64 (v:Nat)] 117):=(hG6.block mk (bbk HN5.out hB6).lt (fun e=>own_ne (own_below H5.out.pl hB6) (bbk HN5.out hB6) (by decide) mk e.symm rfl)).trans (bbk HN5.out hB6)
 have HR6:=hid (mk_two (f:=⟨p,n,g,m,v⟩) H5.out hB6 hG6 hown9 hL6 (by have:=HPLN.out;simp;omega) HH.out.fm HH.out.hm)
 clear hown9 hgrow9 hloc9 hG6 hL6 hB6 hW6
 refine hK.out _ _ (fun _=>S4K.out _ HM6.out) (fun _=>?_)
 clear hK K
 (try simp only [Act.put])
 have hH6:=S4K.out _ HM6.out
 refine zAny_ready (rs := [12]) (by kernel_rfl) (by simp) (zReady.cons (o := { dst := some 54, op := Op.nilCheck (Operand.tmp 42), type := 0, pos := "lay.go:70", after := #[{ on := 0, ground := Ground.data }, { on := 0, ground := Ground.phase }, { on := 1, ground := Ground.phase }, { on := 2, ground := Ground.phase }, { on := 3, ground := Ground.phase }, { on := 4, ground := Ground.phase }, { on := 5, ground := Ground.phase }, { on := 6, ground := Ground.phase }, { on := 7, ground := Ground.phase }, { on := 8, ground := Ground.phase }, { on := 9, ground := Ground.phase }, { on := 10, ground := Ground.phase }, { on := 11, ground := Ground.phase }], guard := none }) rfl (fun K hK => ?_) zReady.nil)
 go_simp
 refine hK.out _ _ (fun _=>by assumption) (fun _=>?_)
 clear hK K
 (try simp only [Act.put])
 refine zqq 13 (v:=?_) rfl (Or.inl ⟨by rfl,?_⟩) (by assumption) ?_
 rotate_left
 (intro w0 hSw;(try dsimp only at hSw);go_simp;try (with_reducible rfl))
 (try simp only [Act.put])
 refine zAny_ready (rs := [14]) (by kernel_rfl) (by simp) (zReady.cons (o := { dst := none, op := Op.store 46 (Operand.tmp 55) (Operand.tmp 53), type := 0, pos := "lay.go:70", after := #[{ on := 13, ground := Ground.data }, { on := 11, ground := Ground.data }, { on := 11, ground := Ground.chain }, { on := 0, ground := Ground.phase }, { on := 1, ground := Ground.phase }, { on := 2, ground := Ground.phase }, { on := 3, ground := Ground.phase }, { on := 4, ground := Ground.phase }, { on := 5, ground := Ground.phase }, { on := 6, ground := Ground.phase }, { on := 7, ground := Ground.phase }, { on := 8, ground := Ground.phase }, { on := 9, ground := Ground.phase }, { on := 10, ground := Ground.phase }, { on := 11, ground := Ground.phase }], guard := none }) rfl (fun K hK => ?_) zReady.nil)
 have x1:=HM6.out.cell
 have x2:=HM6.out.free
 have x3:=HM6.out.lt
 go_simp
 refine hK.out _ _ (fun h=>absurd rfl h) (fun _=>?_)
 clear hK K hHeld
 (try simp only [Act.put])
 refine zAny_done (by kernel_rfl) ?_ _
 refine NoPanic.normal ?_
 obtain ⟨W7,hW7⟩:∃W7,W7=w9.setCell ⟨mk,1,none⟩ (.slice a9 (pls.length+1) c9):=⟨_,rfl⟩
 rw [←hW7] at HR6 ⊢
 have c7:=HR6.out.1.box.cell
 have l7:=HR6.out.1.box.lt
 clear hW7 x1 x2 x3 hH6 HM6
 go_wp2
 rw [←HQ.out]
 have hk0:KMk W V3.drew mk ov pv ov pv:=(KMk.refl W mk ov pv).blw (below_drew HB3.out)
 refine ⟨?_,_,_,HR6.out.1,hk0.trans HR6.out.2⟩
 congr 2
 exact decide_eq_decide.2 (by omega)
end Go.Proofs.YtdjfpghgklkejaaGreatDoor
