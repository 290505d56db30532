/-
  The reference's reader: statement.
-/
import Derived.Test.YtiepbfeliehjnaaDoorR7
namespace Go.Proofs.YtiepbfeliehjnaaDoor
open Go.RowKit Go.Sort

set_option maxHeartbeats 16000000 in
set_option maxRecDepth 100000 in
theorem rst_bits (n : Int) (rec : Nat → List Tk → Except Fa (List Rw × List Tk)) (w W : World) (rb : Nat) (ts : Value) (l : List Tk) (i : Nat) (v : Value) (rs : List Rw) (d : Nat) (H : RV w W rb ts l n i 0 0 v) (hO : OR W w.heap.size v rs) (hcnt : rs.length ≤ i) (hi : i < l.length) (hk : l[i].k = 1) (ht : l[i].t = wBits) :
    Calls Tryd.prog 19 #[.pointer (some ⟨rb, 0, none⟩), .int .i64 d] W (SD w W rb ts l n v rs (stmtP n rec d (l.drop i))) := by
  have EQ : Hid (∀ nm x, isv (stp (.ok (l.drop (i + 1))) (nameP n)) nm → isv (stp (rst (stp (.ok (l.drop (i + 1))) (nameP n))) (numP n)) x → rst (stmtP n rec d (l.drop i)) = rst (stp (rst (stp (rst (stp (.ok (l.drop (i + 1))) (nameP n))) (numP n))) (signP n wSemi)) ∧ ∀ rs2 r2, stmtP n rec d (l.drop i) = .ok (rs2, r2) → rs2 = [⟨wBits, nm, [], x, 0, l[i].p⟩]) := fun nm x h1 h3 => by
    rw [drop_at hi, ← ht]
    exact st_decl (by rw [ht]; rfl) (by rw [ht]; decide +kernel) nm x h1 h3
  unfold SD
  have HH : Hid (RV w W rb ts l n i 0 0 v) := H
  have hOs := hO.shape
  obtain ⟨va, vc, rfl⟩ := hOs
  obtain ⟨i4, hi4, hz4, hs4, hb4⟩ := info_parts Tryd.info45
  obtain ⟨c0, c1, c2, c3, c4, c5⟩ := H.cells
  have f1 := H.blk.free 1
  have f5 := H.blk.free 5
  have hlt := H.blk.lt
  have hlen := H.len
  have hB := H.below.size
  have hge := H.ge
  have hts : Hid (SF w ts l) := H.tok
  obtain ⟨a, c, hte, hc, hr⟩ := H.tok
  subst hte
  obtain ⟨b, o, hae, r0⟩ := hr i hi
  subst hae
  have hne : rb ≠ b := by have := r0.lt; omega
  have hne2 : b ≠ rb := by omega
  have r := r0.below H.below
  have d0 := r.c0 i hi
  have d1 := r.c1 i hi
  have d2 := r.c2 i hi
  have hbl := r.lt
  rw [hk] at d0
  rw [ht] at d1
  have OW := fun w => rown_any wBits w
  rw [show ownB wBits = true by decide +kernel] at OW
  clear r r0 hr H
  generalize htp : l[i].p = tp at *
  go_enter Tryd.func19, Tryd.ntmps19
  go_upto_region 1 with (fail)
  go_quiet (fail)
  go_wp2
  have HV2 := HH.out.drawn nq
  have hO2 : OR (W.drewN nq) w.heap.size _ rs := hO.below (below_drewN (Below.refl _ _) _)
  have hF2 : FR W (W.drewN nq) rb (.slice va rs.length vc) (.slice va rs.length vc) := (FR.refl W rb _).below (below_drewN (Below.refl _ _) _)
  have d1 : (W.drewN nq).cell? _ = _ := d1
  have d0 : (W.drewN nq).cell? _ = _ := d0
  have d2 : (W.drewN nq).cell? _ = _ := d2
  have hbl : b < (W.drewN nq).heap.size := hbl
  generalize hW2 : W.drewN nq = W2 at *
  clear hW2
  obtain ⟨c0, c1, c2, c3, c4, c5⟩ := HV2.cells
  have f1 := HV2.blk.free 1
  have f5 := HV2.blk.free 5
  have hlt := HV2.blk.lt
  go_region
  go_wp2_with (go_at_call 40; (with_reducible refine (OW _).mono ?_); rintro e w1 ⟨rfl, rfl⟩)
  have HVA : RV w (((W2.setCell ⟨rb, 1, none⟩ (.int .i64 ((i : Int) + 1))).alloc (.cells #[.int .i64 1, .string wBits, .int .i64 tp] 47)).alloc (.cells #[.string wBits, .string ⟨#[]⟩, .slice none 0 0, .int .i64 0, .int .i64 0, .int .i64 tp] 45)).drew rb _ l n (i + 1) 0 0 _ :=
    (((HV2.go (j := i + 1) (gb_set (gb_refl _ _) rb 1 _ (.inl rfl)) (HV2.blk.set 1 _) (by omega)).on (bal (Below.refl _ _) _)).on (bal (Below.refl _ _) _)).drawn 1
  have hOA : OR (((W2.setCell ⟨rb, 1, none⟩ (.int .i64 ((i : Int) + 1))).alloc (.cells #[.int .i64 1, .string wBits, .int .i64 tp] 47)).alloc (.cells #[.string wBits, .string ⟨#[]⟩, .slice none 0 0, .int .i64 0, .int .i64 0, .int .i64 tp] 45)).drew w.heap.size _ rs :=
    (((hO2.gbT (gb_set (gb_refl _ _) rb 1 _ (.inl rfl)) HV2.blk (by decide) (by decide)).below (bal (Below.refl _ _) _)).below (bal (Below.refl _ _) _)).below (below_drew (Below.refl _ _))
  have hqA : BK (((W2.setCell ⟨rb, 1, none⟩ (.int .i64 ((i : Int) + 1))).alloc (.cells #[.int .i64 1, .string wBits, .int .i64 tp] 47)).alloc (.cells #[.string wBits, .string ⟨#[]⟩, .slice none 0 0, .int .i64 0, .int .i64 0, .int .i64 tp] 45)).drew (W2.heap.size + 1) #[.string wBits, .string ⟨#[]⟩, .slice none 0 0, .int .i64 0, .int .i64 0, .int .i64 tp] 45 := by
    have h := bk_new ((W2.setCell ⟨rb, 1, none⟩ (.int .i64 ((i : Int) + 1))).alloc (.cells #[.int .i64 1, .string wBits, .int .i64 tp] 47)) #[.string wBits, .string ⟨#[]⟩, .slice none 0 0, .int .i64 0, .int .i64 0, .int .i64 tp] 45
    have e : ((W2.setCell ⟨rb, 1, none⟩ (.int .i64 ((i : Int) + 1))).alloc (.cells #[.int .i64 1, .string wBits, .int .i64 tp] 47)).heap.size = W2.heap.size + 1 := by simp
    rw [e] at h
    exact h.drew
  have hFA : FR W (((W2.setCell ⟨rb, 1, none⟩ (.int .i64 ((i : Int) + 1))).alloc (.cells #[.int .i64 1, .string wBits, .int .i64 tp] 47)).alloc (.cells #[.string wBits, .string ⟨#[]⟩, .slice none 0 0, .int .i64 0, .int .i64 0, .int .i64 tp] 45)).drew rb _ _ :=
    ((hF2.set rb 1 _ (.inr (.inl rfl))).below (bal (Below.refl _ _) _)).below (bal (Below.refl _ _) _) |>.below (below_drew (Below.refl _ _))
  generalize hWA : (((W2.setCell ⟨rb, 1, none⟩ (.int .i64 ((i : Int) + 1))).alloc (.cells #[.int .i64 1, .string wBits, .int .i64 tp] 47)).alloc (.cells #[.string wBits, .string ⟨#[]⟩, .slice none 0 0, .int .i64 0, .int .i64 0, .int .i64 tp] 45)).drew = WA at HVA hOA hqA hFA ⊢
  clear hWA
  have hq2 : rb < W2.heap.size := hlt
  have hs2 : w.heap.size ≤ W2.heap.size := HV2.below.size
  have hW0 : W.heap.size ≤ W2.heap.size := hF2.size
  have hlo : ∀ g, (Value.slice va rs.length vc).ownBlock = some g → g < W2.heap.size + 1 := fun g hg => by
    obtain ⟨vs, _, h2, _⟩ := hO2
    have := (h2.lt g hg).2
    omega
  obtain ⟨vs, hvs, hown, hargs⟩ := hOA
  have HVS : Hid (rs.length = vs.length) := hvs
  have HAR : Hid (∀ k (h : k < rs.length) (h' : k < vs.length), WA.ownsRow w.heap.size 61 2 vs[k] rs[k].args.length (ars rs[k].args)) := hargs
  have hMS : Hid (∀ w7 v7 WB, Below WA.heap.size WA WB → WB.grownBy w7 (Value.slice va rs.length vc).ownBlock → w7.ownsRow w.heap.size 45 6 v7 (rs.length + 1) (rws rs vs ++ rwc (⟨wBits, ⟨#[]⟩, [], 0, 0, tp⟩ : Rw) (.slice none 0 0)) → (v7.ownBlock = (Value.slice va rs.length vc).ownBlock ∨ v7.ownBlock = some WB.heap.size) → MR w W (w7.setCell ⟨rb, 5, none⟩ v7) rb _ l n _ v7 (.ok (l.drop (i + 1))) (rs ++ [(⟨wBits, ⟨#[]⟩, [], 0, 0, tp⟩ : Rw)]) (W2.heap.size + 1) #[.string wBits, .string ⟨#[]⟩, .slice none 0 0, .int .i64 0, .int .i64 0, .int .i64 tp]) :=
    fun w7 v7 WB h1 h2 h3 h4 => mr_start HVA HVS.out hown HAR.out rfl hqA hlo (by omega) (by omega) hFA (by omega) h1 h2 h3 h4
  obtain ⟨c0, c1, c2, c3, c4, c5⟩ := HVA.cells
  have f5 := HVA.blk.free 5
  have e0 : WA.cell? ⟨W2.heap.size + 1, 0, none⟩ = some (.string wBits) := hqA.cell 0
  have e1 : WA.cell? ⟨W2.heap.size + 1, 1, none⟩ = some (.string ⟨#[]⟩) := hqA.cell 1
  have e2 : WA.cell? ⟨W2.heap.size + 1, 2, none⟩ = some (.slice none 0 0) := hqA.cell 2
  have e3 : WA.cell? ⟨W2.heap.size + 1, 3, none⟩ = some (.int .i64 0) := hqA.cell 3
  have e4 : WA.cell? ⟨W2.heap.size + 1, 4, none⟩ = some (.int .i64 0) := hqA.cell 4
  have e5 : WA.cell? ⟨W2.heap.size + 1, 5, none⟩ = some (.int .i64 tp) := hqA.cell 5
  have hlA := HVA.blk.lt
  have hqL := hqA.lt
  have hBA := HVA.below.size
  have hgt := fun g (hg : (Value.slice va rs.length vc).ownBlock = some g) => own_ty hown hg
  clear hvs hargs
  go_region_law
    ((refine step_own rfl _ _ 23 (by rfl) w.heap.size 45 i4 zRow 6 80 Tryd.underlying23 hi4 hz4 hs4 hb4 rfl (by decide) _ rs.length (rws rs vs) (by rfl) (own_below hown (by first | exact below_drew (bal (Below.refl _ _) _) | exact bal (below_drew (Below.refl _ _)) _ | exact bal (Below.refl _ _) _)) ⟨_, 0, none⟩ 1 1 (rwc (⟨wBits, ⟨#[]⟩, [], 0, 0, tp⟩ : Rw) (.slice none 0 0)) (by rfl) rfl (new_row _ _ (by rfl) (⟨wBits, ⟨#[]⟩, [], 0, 0, tp⟩ : Rw) (.slice none 0 0)) (one_row _ _ _ _) (by unfold maxLen; omega) (by omega) (by simp; omega) ?_; intro v7 w7 hown7 hgrow7 hloc7; obtain ⟨a7, k7, rfl⟩ := own_shape hown7; have c7r : BK w7 rb _ 53 := (hgrow7.block rb (by simp; omega) (fun e => own_ne hown HVA.blk (by decide) rb e.symm rfl)).trans (by first | exact HVA.blk.alloc _ | exact (HVA.blk.alloc _).drew | exact HVA.blk.drew.alloc _); have c7a : w7.cell? ⟨rb, 5, none⟩ = some (.slice va rs.length vc) := c7r.cell 5; have c7b := c7r.free 5))
  all_goals
    have M0 := hMS.out _ _ _ (below_drew (bal (Below.refl _ _) _)) hgrow7 hown7 hloc7
    clear hgrow7 hown7 hloc7 c7r c7a c7b
    generalize hWB : w7.setCell ⟨rb, 5, none⟩ (.slice a7 (rs.length + 1) k7) = WB at M0 ⊢
    clear hWB hMS HAR HVS hown hgt e0 e1 e2 e3 e4 e5 c0 c1 c2 c3 c4 c5 f5
    have u0 : WB.cell? ⟨W2.heap.size + 1, 0, none⟩ = some (.string wBits) := M0.b.q.cell 0
    have NM := rname_any w WB rb _ l n _ _ M0.b.x
    unfold RG at NM
    go_wp2_with (first | (go_at_call 41; (with_reducible refine NM.mono ?_); rintro e w8 ⟨hG_w8, nm, rfl, hnm, hR_w8⟩; have M1 := M0.gb hG_w8 hR_w8; have t1_w8 : w8.cell? ⟨W2.heap.size + 1, 1, none⟩ = some (.string ⟨#[]⟩) := M1.b.q.cell 1; have t2_w8 := M1.b.q.free 1; have t3_w8 := M1.b.q.lt; have NU := fun y => rnumber_any w _ rb _ l n _ _ (M1.set 1 y).b.x; unfold RG at NU) | (go_at_call 42; (with_reducible refine (NU _).mono ?_); rintro e w9 ⟨hG_w9, x, rfl, hx, hR_w9⟩; have M2 := (M1.set 1 (.string nm)).gb hG_w9 hR_w9; have t1_w9 : w9.cell? ⟨W2.heap.size + 1, 3, none⟩ = some (.int .i64 0) := M2.b.q.cell 3; have t2_w9 := M2.b.q.free 3; have t3_w9 := M2.b.q.lt; have WT := fun y => rwant_any w _ rb _ l n _ _ wSemi sg_semi (M2.set 3 y).b.x) | (go_at_call 43; (with_reducible refine (WT _).mono ?_); rintro e wA ⟨rfl, hGA, hRA⟩; have M3 := (M2.set 3 (.int .i64 x)).gb hGA hRA; have q0 : wA.cell? ⟨W2.heap.size + 1, 0, none⟩ = some (.string wBits) := M3.b.q.cell 0; have q1 : wA.cell? ⟨W2.heap.size + 1, 1, none⟩ = some (.string nm) := M3.b.q.cell 1; have q2 : wA.cell? ⟨W2.heap.size + 1, 2, none⟩ = some (.slice none 0 0) := M3.b.q.cell 2; have q3 : wA.cell? ⟨W2.heap.size + 1, 3, none⟩ = some (.int .i64 x) := M3.b.q.cell 3; have q4 : wA.cell? ⟨W2.heap.size + 1, 4, none⟩ = some (.int .i64 0) := M3.b.q.cell 4; have q5 : wA.cell? ⟨W2.heap.size + 1, 5, none⟩ = some (.int .i64 tp) := M3.b.q.cell 5; have qf := M3.b.q.free 4; have ql := M3.b.q.lt; have q6 := M3.b.x.rowc; have q7 := M3.b.x.lt; have q8 := M3.b.nq))
    have M4 := M3.set 4 (.int .i64 ((rs.length : Int) + 1 - rs.length - 1))
    generalize hWC : wA.setCell ⟨W2.heap.size + 1, 4, none⟩ (.int .i64 ((rs.length : Int) + 1 - rs.length - 1)) = WC at M4 ⊢
    obtain ⟨g, cap, hv, hcap, hfz, hcl, hgl, hgq, hgr, FIN⟩ := M4.done rs.length (by simp)
    simp at hv
    obtain ⟨rfl, rfl⟩ := hv
    have hk9 : rs.length < rs.length + 1 := by omega
    clear q0 q1 q2 q3 q4 q5 qf q6 q7
    obtain ⟨y0, g0⟩ := hcl 0 (by omega)
    have g0 : WC.cell? ⟨g, rs.length * 6, none⟩ = some y0 := g0
    obtain ⟨y1, g1⟩ := hcl 1 (by omega)
    obtain ⟨y2, g2⟩ := hcl 2 (by omega)
    obtain ⟨y3, g3⟩ := hcl 3 (by omega)
    obtain ⟨y4, g4⟩ := hcl 4 (by omega)
    obtain ⟨y5, g5⟩ := hcl 5 (by omega)
    have z0 := hfz (rs.length * 6)
    have z1 := hfz (rs.length * 6 + 1)
    have z2 := hfz (rs.length * 6 + 2)
    have z3 := hfz (rs.length * 6 + 3)
    have z4 := hfz (rs.length * 6 + 4)
    have z5 := hfz (rs.length * 6 + 5)
    have q0 : WC.cell? ⟨W2.heap.size + 1, 0, none⟩ = some (.string wBits) := M4.b.q.cell 0
    have q1 : WC.cell? ⟨W2.heap.size + 1, 1, none⟩ = some (.string nm) := M4.b.q.cell 1
    have q2 : WC.cell? ⟨W2.heap.size + 1, 2, none⟩ = some (.slice none 0 0) := M4.b.q.cell 2
    have q3 : WC.cell? ⟨W2.heap.size + 1, 3, none⟩ = some (.int .i64 x) := M4.b.q.cell 3
    have q4 : WC.cell? ⟨W2.heap.size + 1, 4, none⟩ = some (.int .i64 ((rs.length : Int) + 1 - rs.length - 1)) := M4.b.q.cell 4
    have q5 : WC.cell? ⟨W2.heap.size + 1, 5, none⟩ = some (.int .i64 tp) := M4.b.q.cell 5
    have q6 := M4.b.x.rowc
    have q7 := M4.b.x.lt
    have q9 := M4.b.q.lt
    clear hcl hfz
    go_region
    obtain ⟨x1, x2, x3⟩ := FIN.out ⟨wBits, nm, [], x, ((rs.length : Int) + 1 - rs.length - 1), tp⟩ (.slice none 0 0) (World.ownsRow_nil _ _ _ _)
    obtain ⟨E1, E2⟩ := EQ.out nm x hnm hx
    refine bodyPost_end (results_none rfl _ _ _) rfl ⟨rfl, _, _, x3.below (below_drew (Below.refl _ _)), ?_, x2.below (below_drew (Below.refl _ _)), by simp, by simp; omega, fun rs2 r2 h => ?_⟩
    · rw [E1]; exact x1.drawn 1
    · rw [E2 rs2 r2 h, set_last, show ((rs.length : Int) + 1 - rs.length - 1) = 0 by omega]
end Go.Proofs.YtiepbfeliehjnaaDoor
