/-
  The walk of the law LinearKeeps.
-/
import Derived.Test.YtinkdonaedoojaaN2
import Derived.Test.YtinkdonaedoojaaZ0
namespace Go.Proofs.Ytinkdonaedoojaa
open Go.RowKit

set_option maxHeartbeats 8000000 in
set_option maxRecDepth 100000 in
theorem rr_old {W W' : World} {n : Nat} {a : Option Addr} {f : Nat → Nat} (h : RR W a n f) (hb : Below W.heap.size W W') : RR W' a n f := h.below hb
theorem f2_at {W : World} {g n : Nat} {f : Nat → Nat} (h : OR W g (n + 2) (f2 n f)) : W.cell? ⟨g, n, none⟩ = some (.int .u64 71) ∧ W.cell? ⟨g, n + 1, none⟩ = some (.int .u64 72) := by
  have e1 : f2 n f n = 71 := by unfold f2; rw [if_neg (by omega), if_pos rfl]
  have e2 : f2 n f (n + 1) = 72 := by unfold f2; rw [if_neg (by omega), if_neg (by omega)]
  have h1 := h.cell (i := n) (by omega)
  have h2 := h.cell (i := n + 1) (by omega)
  rw [e1] at h1
  rw [e2] at h2
  exact ⟨h1, h2⟩
theorem or_rr {W : World} {g n : Nat} {f : Nat → Nat} (h : OR W g (n + 2) (f2 n f)) (hl : n ≤ 1048576 := by assumption) : RR W (some ⟨g, 0, none⟩) n f :=
  ⟨fun i hi => ⟨g, 0, rfl, by
    have e : f2 n f i = f i := by unfold f2; rw [if_pos hi]
    rw [Nat.zero_add, h.cell (show i < n + 2 by omega), e], h.gl⟩, fun i hi => by
    have e : f2 n f i = f i := by unfold f2; rw [if_pos hi]
    rw [← e]; exact h.lt i (by omega), by omega⟩
set_option maxHeartbeats 8000000 in
set_option maxRecDepth 100000 in
theorem keeps_any (N N' : Int) (n n' : Nat) (f f' : Nat → Nat) (a a' : Option Addr) (c c' : Nat) (w : World) (RA : RR w a n f) (RB : RR w a' n' f') (hn : n ≤ 1048576)
    (k : Nat) (Ek : Int) (C1 : RankK 18 N n f k Ek) (D1 : RankK 19 N n f k Ek)
    (Mm : Int) (mm : Nat) (Fm : Nat → Nat) (Em : Int) (C2 : MulK 14 N N' n n' f f' Mm mm Fm Em) (D2 : MulK 15 N N' n n' f f' Mm mm Fm Em)
    (Mi : Int) (mi : Nat) (Fi : Nat → Nat) (Ei : Int) (C3 : InvK 20 N n f Mi mi Fi Ei) (D3 : InvK 21 N n f Mi mi Fi Ei)
    (Ms : Int) (ls : List (Nat × Nat)) (Es : Int) (C4 : SynK 24 N n f Ms ls Es) (hls : ls.length ≤ 4096) (HF : Hid ((Es != 0) = true ∨ (Es = 0 ∧ FroK 22 N n f Ms ls))) :
    Calls Try.prog 7 #[lv N a n c, lv N' a' n' c'] w fun e w' => e = .returned (.bool true) ∧ Below w.heap.size w w' := by
  obtain ⟨hB0, hK0, hK1⟩ := boxes2 w (lcs N a n c) (lcs N' a' n' c')
  have HB := hid hB0
  have K2 := hid hK0
  have K3 := hid hK1
  have RA0 := hid RA
  have RA := hid RA
  have RB := hid RB
  have AL := alive_any
  clear hB0 hK0 hK1
  go_enter Try.func7, Try.ntmps7
  go_upto_region 3 with (go_at_call 8; (with_reducible refine (AL _).mono ?_); rintro e w1 ⟨rfl, hN⟩)
  replace HB := hid (btr HB.out hN)
  replace K2 := hid (bk_on K2.out hN)
  replace K3 := hid (bk_on K3.out hN)
  replace RA := hid (RA.out.below HB.out)
  replace RB := hid (RB.out.below HB.out)
  clear hN AL
  have hbw : Hid (w.heap.size + 1 < w1.heap.size) := K3.out.lt
  have HR := hid (Below.refl w1.heap.size w1)
  have HW := hid HB.out.size
  have e2 : Hid (w.heap.size < w.heap.size + 1) := Nat.lt_succ_self _
  have d2 := K2.out.cell
  have l2 := K2.out.lt
  go_wp2_with (at_builtin; refine Hid.out ?_)
  refine hid ?_
  refine app_row rfl _ _ rfl rfl rfl RA.out hn ?_
  intro v6 w6 hown6 hB6
  have HO6 := hid hown6
  have HB6 := hid hB6
  clear hown6 hB6 d2 l2
  go_wp2_with (at_builtin; refine Hid.out ?_)
  refine hid ?_
  refine app_two rfl _ _ rfl rfl rfl HO6.out HB6.out hn RA.out.lt ?_
  intro g cg w7 hg hOR hcg hcm hB7
  have HG := hid hg
  have HC := hid (And.intro hcg hcm)
  have HOR := hid hOR
  replace HB := hid (btr HB.out hB7)
  replace K2 := hid (bk_on K2.out hB7)
  replace K3 := hid (bk_on K3.out hB7)
  replace RA := hid (RA.out.below hB7)
  replace RB := hid (RB.out.below hB7)
  clear hg hcg hcm hOR hB7 HO6 HB6 HR
  have d2 := K2.out.cell
  have l2 := K2.out.lt
  have l3 := K3.out.lt
  have hc1 : (n : Int) ≤ (cg : Int) := by have := HC.out.1; omega
  have hn0 : (0 : Int) ≤ (n : Int) := by omega
  go_wp2
  go_region
  have hA := below_drew (bal (Below.refl w7.heap.size w7) (.cells (lcs N (some ⟨g, 0, none⟩) n cg) 24))
  have K6 : Hid (BK (w7.alloc (.cells (lcs N (some ⟨g, 0, none⟩) n cg) 24)).drew w7.heap.size (lcs N (some ⟨g, 0, none⟩) n cg) 24) := hid (BK.drew (bk_new w7 (lcs N (some ⟨g, 0, none⟩) n cg) 24))
  replace HB := hid (btr HB.out hA)
  replace K2 := hid (bk_on K2.out hA)
  replace K3 := hid (bk_on K3.out hA)
  replace RA := hid (RA.out.below hA)
  replace RB := hid (RB.out.below hA)
  replace HOR := hid (HOR.out.on hA)
  have RG := hid (or_rr HOR.out)
  have I6 := hid HOR.out.gl
  have J6 := hid K6.out.lt
  clear hA d2 l2 l3 hc1 hn0
  generalize (w7.alloc (.cells (lcs N (some ⟨g, 0, none⟩) n cg) 24)).drew = W at *
  generalize w7.heap.size = b6 at *
  have d6 := K6.out.cell
  have l6 := K6.out.lt
  go_upto_region 6 with (go_at_call 18; (with_reducible refine (C1.go RG.out).mono ?_); rintro e W9 ⟨rfl, hN⟩)
  replace HB := hid (btr HB.out hN)
  replace K2 := hid (bk_on K2.out hN)
  replace K3 := hid (bk_on K3.out hN)
  replace K6 := hid (bk_on K6.out hN)
  replace RA := hid (RA.out.below hN)
  replace RB := hid (RB.out.below hN)
  replace RG := hid (RG.out.below hN)
  replace HOR := hid (HOR.out.on hN)
  clear d6 l6 hN C1
  have G9 : Hid (g < W9.heap.size) := HOR.out.gl
  have d6 := K6.out.cell
  have l6 := K6.out.lt
  have d3 := K3.out.cell
  have l3 := K3.out.lt
  have S9 : Hid (b6 < W9.heap.size) := K6.out.lt
  go_upto_region 7 with (go_at_call 14; (with_reducible refine (C2.go RG.out RB.out).mono ?_); rintro e wb hC; obtain ⟨p9, c9, rfl, ⟨g9, hO, hcc⟩, hN⟩ := lr_ex hC)
  have hA := bal (Below.refl wb.heap.size wb) (.cells (lcs Mm p9 mm c9) 24)
  have hNA := btr hN hA
  have Z9 : Hid (W9.heap.size ≤ wb.heap.size) := hN.size
  have Q9 := hid (hO.on hA)
  have H9 := hid hcc
  have K9 := hid (bk_new wb (lcs Mm p9 mm c9) 24)
  replace HB := hid (btr HB.out hNA)
  replace K2 := hid (bk_on K2.out hNA)
  replace K3 := hid (bk_on K3.out hNA)
  replace K6 := hid (bk_on K6.out hNA)
  replace RA := hid (RA.out.below hNA)
  replace RB := hid (RB.out.below hNA)
  replace RG := hid (RG.out.below hNA)
  replace HOR := hid (HOR.out.on hNA)
  clear d6 l6 d3 l3 hN hA hNA hO hcc hC C2
  generalize wb.alloc (.cells (lcs Mm p9 mm c9) 24) = W11 at *
  generalize wb.heap.size = b9 at *
  generalize W9.heap.size = s9 at *
  have d6 := K6.out.cell
  have l6 := K6.out.lt
  have S11 : Hid (b9 < W11.heap.size) := K9.out.lt
  go_upto_region 8 with (go_at_call 20; (with_reducible refine (C3.go RG.out).mono ?_); rintro e wb hC; obtain ⟨p11, c11, rfl, ⟨g11, hO, hcc⟩, hN⟩ := lr_ex hC)
  have hA := bal (Below.refl wb.heap.size wb) (.cells (lcs Mi p11 mi c11) 24)
  have hNA := btr hN hA
  have Z11 : Hid (W11.heap.size ≤ wb.heap.size) := hN.size
  have Q11 := hid (hO.on hA)
  have H11 := hid hcc
  have K11 := hid (bk_new wb (lcs Mi p11 mi c11) 24)
  replace HB := hid (btr HB.out hNA)
  replace K2 := hid (bk_on K2.out hNA)
  replace K3 := hid (bk_on K3.out hNA)
  replace K6 := hid (bk_on K6.out hNA)
  replace RA := hid (RA.out.below hNA)
  replace RB := hid (RB.out.below hNA)
  replace RG := hid (RG.out.below hNA)
  replace HOR := hid (HOR.out.on hNA)
  replace K9 := hid (bk_on K9.out hNA)
  replace Q9 := hid (Q9.out.on hNA)
  clear d6 l6 hN hA hNA hO hcc hC C3
  generalize wb.alloc (.cells (lcs Mi p11 mi c11) 24) = W13 at *
  generalize wb.heap.size = b11 at *
  generalize W11.heap.size = s11 at *
  have d6 := K6.out.cell
  have l6 := K6.out.lt
  have S13 : Hid (b11 < W13.heap.size) := K11.out.lt
  go_upto_region 9 with (go_at_call 24; (with_reducible refine (C4.go RG.out).mono ?_); rintro e wb hC; obtain ⟨p13, c13, rfl, hO, hN⟩ := cr_box hC)
  have hA := bal (Below.refl wb.heap.size wb) (.cells (ccs Ms p13 ls.length c13) 50)
  have hNA := btr hN hA
  have Z13 : Hid (W13.heap.size ≤ wb.heap.size) := hN.size
  have Q13 := hid ((sz_of hO).on hA)
  have K13 := hid (bk_new wb (ccs Ms p13 ls.length c13) 50)
  replace HB := hid (btr HB.out hNA)
  replace K2 := hid (bk_on K2.out hNA)
  replace K3 := hid (bk_on K3.out hNA)
  replace K6 := hid (bk_on K6.out hNA)
  replace RA := hid (RA.out.below hNA)
  replace RB := hid (RB.out.below hNA)
  replace RG := hid (RG.out.below hNA)
  replace HOR := hid (HOR.out.on hNA)
  replace K9 := hid (bk_on K9.out hNA)
  replace Q9 := hid (Q9.out.on hNA)
  replace K11 := hid (bk_on K11.out hNA)
  replace Q11 := hid (Q11.out.on hNA)
  clear d6 l6 hN hA hNA hO hC
  generalize wb.alloc (.cells (ccs Ms p13 ls.length c13) 50) = W15 at *
  generalize wb.heap.size = b13 at *
  generalize W13.heap.size = s13 at *
  have d6 := K6.out.cell
  have l6 := K6.out.lt
  have S15 : Hid (b13 < W15.heap.size) := K13.out.lt
  go_upto_region 10 with (go_at_call 24; (with_reducible refine (C4.go RG.out).mono ?_); rintro e wb hC; obtain ⟨p15, c15, rfl, hO, hN⟩ := cr_box hC)
  have hA := bal (Below.refl wb.heap.size wb) (.cells (ccs Ms p15 ls.length c15) 50)
  have hNA := btr hN hA
  have Z15 : Hid (W15.heap.size ≤ wb.heap.size) := hN.size
  have Q15 := hid (hO.on hA)
  have K15 := hid (bk_new wb (ccs Ms p15 ls.length c15) 50)
  replace HB := hid (btr HB.out hNA)
  replace K2 := hid (bk_on K2.out hNA)
  replace K3 := hid (bk_on K3.out hNA)
  replace K6 := hid (bk_on K6.out hNA)
  replace RA := hid (RA.out.below hNA)
  replace RB := hid (RB.out.below hNA)
  replace RG := hid (RG.out.below hNA)
  replace HOR := hid (HOR.out.on hNA)
  replace K9 := hid (bk_on K9.out hNA)
  replace Q9 := hid (Q9.out.on hNA)
  replace K11 := hid (bk_on K11.out hNA)
  replace Q11 := hid (Q11.out.on hNA)
  replace K13 := hid (bk_on K13.out hNA)
  replace Q13 := hid (Q13.out.on hNA)
  clear d6 l6 hN hA hNA hO hC C4
  generalize wb.alloc (.cells (ccs Ms p15 ls.length c15) 50) = W17 at *
  generalize wb.heap.size = b15 at *
  generalize W15.heap.size = s15 at *
  have d2 := K2.out.cell
  have l2 := K2.out.lt
  have d3 := K3.out.cell
  have l3 := K3.out.lt
  have S17 : Hid (b15 < W17.heap.size) := K15.out.lt
  go_upto_region 11 with (go_at_call 15; (with_reducible refine (D2.go RA.out RB.out).mono ?_); rintro e wb hC; obtain ⟨p17, c17, rfl, ⟨g17, hO, hcc⟩, hN⟩ := lr_ex hC)
  have hA := bal (Below.refl wb.heap.size wb) (.cells (lcs Mm p17 mm c17) 24)
  have hNA := btr hN hA
  have Z17 : Hid (W17.heap.size ≤ wb.heap.size) := hN.size
  have Q17 := hid (hO.on hA)
  have H17 := hid hcc
  have K17 := hid (bk_new wb (lcs Mm p17 mm c17) 24)
  replace HB := hid (btr HB.out hNA)
  replace K2 := hid (bk_on K2.out hNA)
  replace K3 := hid (bk_on K3.out hNA)
  replace K6 := hid (bk_on K6.out hNA)
  replace RA := hid (RA.out.below hNA)
  replace RB := hid (RB.out.below hNA)
  replace RG := hid (RG.out.below hNA)
  replace HOR := hid (HOR.out.on hNA)
  replace K9 := hid (bk_on K9.out hNA)
  replace Q9 := hid (Q9.out.on hNA)
  replace K11 := hid (bk_on K11.out hNA)
  replace Q11 := hid (Q11.out.on hNA)
  replace K13 := hid (bk_on K13.out hNA)
  replace Q13 := hid (Q13.out.on hNA)
  replace K15 := hid (bk_on K15.out hNA)
  replace Q15 := hid (Q15.out.on hNA)
  clear d2 l2 d3 l3 hN hA hNA hO hcc hC D2
  generalize wb.alloc (.cells (lcs Mm p17 mm c17) 24) = W19 at *
  generalize wb.heap.size = b17 at *
  generalize W17.heap.size = s17 at *
  clear K3 RB
  have d2 := K2.out.cell
  have l2 := K2.out.lt
  have S19 : Hid (b17 < W19.heap.size) := K17.out.lt
  go_upto_region 12 with (go_at_call 21; (with_reducible refine (D3.go RA.out).mono ?_); rintro e wb hC; obtain ⟨p19, c19, rfl, ⟨g19, hO, hcc⟩, hN⟩ := lr_ex hC)
  have hA := bal (Below.refl wb.heap.size wb) (.cells (lcs Mi p19 mi c19) 24)
  have hNA := btr hN hA
  have Z19 : Hid (W19.heap.size ≤ wb.heap.size) := hN.size
  have Q19 := hid (hO.on hA)
  have H19 := hid hcc
  have K19 := hid (bk_new wb (lcs Mi p19 mi c19) 24)
  replace HB := hid (btr HB.out hNA)
  replace K2 := hid (bk_on K2.out hNA)
  replace K6 := hid (bk_on K6.out hNA)
  replace RA := hid (RA.out.below hNA)
  replace RG := hid (RG.out.below hNA)
  replace HOR := hid (HOR.out.on hNA)
  replace K9 := hid (bk_on K9.out hNA)
  replace Q9 := hid (Q9.out.on hNA)
  replace K11 := hid (bk_on K11.out hNA)
  replace Q11 := hid (Q11.out.on hNA)
  replace K13 := hid (bk_on K13.out hNA)
  replace Q13 := hid (Q13.out.on hNA)
  replace K15 := hid (bk_on K15.out hNA)
  replace Q15 := hid (Q15.out.on hNA)
  replace K17 := hid (bk_on K17.out hNA)
  replace Q17 := hid (Q17.out.on hNA)
  clear d2 l2 hN hA hNA hO hcc hC D3
  generalize wb.alloc (.cells (lcs Mi p19 mi c19) 24) = W21 at *
  generalize wb.heap.size = b19 at *
  generalize W19.heap.size = s19 at *
  have d2 := K2.out.cell
  have l2 := K2.out.lt
  go_upto_region 13 with (go_at_call 19; (with_reducible refine (D1.go RA.out).mono ?_); rintro e wc ⟨rfl, hN⟩)
  replace HB := hid (btr HB.out hN)
  replace K2 := hid (bk_on K2.out hN)
  replace K6 := hid (bk_on K6.out hN)
  replace RA := hid (RA.out.below hN)
  replace RG := hid (RG.out.below hN)
  replace HOR := hid (HOR.out.on hN)
  replace K9 := hid (bk_on K9.out hN)
  replace Q9 := hid (Q9.out.on hN)
  replace K11 := hid (bk_on K11.out hN)
  replace Q11 := hid (Q11.out.on hN)
  replace K13 := hid (bk_on K13.out hN)
  replace Q13 := hid (Q13.out.on hN)
  replace K15 := hid (bk_on K15.out hN)
  replace Q15 := hid (Q15.out.on hN)
  replace K17 := hid (bk_on K17.out hN)
  replace Q17 := hid (Q17.out.on hN)
  replace K19 := hid (bk_on K19.out hN)
  replace Q19 := hid (Q19.out.on hN)
  clear d2 l2 hN D1
  have hkk : ((k : Int) != (k : Int)) = false := bne_self_eq_false' _
  have hem : (Em != Em) = false := bne_self_eq_false' _
  have hei : (Ei != Ei) = false := bne_self_eq_false' _
  have d2 := K2.out.cell
  have l2 := K2.out.lt
  have d6 := K6.out.cell
  have l6 := K6.out.lt
  go_cut [124] from 87 to 124 (fun v124 X => v124 = Value.bool false ∧ Below wc.heap.size wc X)
  case first =>
    clear Q9 Q11 Q13 Q15 Q17 Q19 K9 K11 K13 K15 K17 K19 HF
    have hgl := HC.out.1
    go_wp2_with (go_at_call 13; (with_reducible refine (sameK RG.out RA.out).mono ?_); rintro e wq ⟨rfl, hN⟩; have d2 := (bk_on K2.out hN).cell; have l2 := (bk_on K2.out hN).lt; obtain ⟨m71, m72⟩ := f2_at (HOR.out.on hN); have lg := (HOR.out.on hN).gl)
    go_meet
    case rel => exact ⟨rfl, hN⟩
  obtain ⟨rfl, hNq⟩ := hcut
  replace HB := hid (btr HB.out hNq)
  replace K2 := hid (bk_on K2.out hNq)
  replace K6 := hid (bk_on K6.out hNq)
  replace RA := hid (RA.out.below hNq)
  replace RG := hid (RG.out.below hNq)
  replace HOR := hid (HOR.out.on hNq)
  replace K9 := hid (bk_on K9.out hNq)
  replace Q9 := hid (Q9.out.on hNq)
  replace K11 := hid (bk_on K11.out hNq)
  replace Q11 := hid (Q11.out.on hNq)
  replace K13 := hid (bk_on K13.out hNq)
  replace Q13 := hid (Q13.out.on hNq)
  replace K15 := hid (bk_on K15.out hNq)
  replace Q15 := hid (Q15.out.on hNq)
  replace K17 := hid (bk_on K17.out hNq)
  replace Q17 := hid (Q17.out.on hNq)
  replace K19 := hid (bk_on K19.out hNq)
  replace Q19 := hid (Q19.out.on hNq)
  clear d2 l2 d6 l6 hNq hkk hem hei
  clear K6 RG
  have ORD : Hid (w.heap.size < g ∧ g < s9 ∧ s9 ≤ b9 ∧ b9 < s11 ∧ s11 ≤ b11 ∧ b11 < s13 ∧ s13 ≤ b13 ∧ b13 < s15 ∧ s15 ≤ b15 ∧ b15 < s17 ∧ s17 ≤ b17 ∧ b17 < s19 ∧ s19 ≤ b19) := by
    have h1 := HW.out; have h2 := HG.out; have h3 := hbw.out
    exact ⟨by omega, G9.out, Z9.out, S11.out, Z11.out, S13.out, Z13.out, S15.out, Z15.out, S17.out, Z17.out, S19.out, Z19.out⟩
  have ORD2 : Hid (0 < mm → s9 ≤ g9 ∧ g9 < b9) := fun h0 => by rcases Q9.out with h | ⟨_, h1, h2, _⟩ <;> omega
  clear HW HG hbw e2 I6 J6 G9 S9 Z9 S11 Z11 S13 Z13 S15 Z15 S17 Z17 S19 Z19
  have hcg := HC.out
  go_wp2
  go_loopw [23] (fun v23 wx => ∃ (j : Nat) (F : Nat → Nat), j ≤ n ∧ v23 = .int .i64 j ∧ Hid (Kx (fun b => b = g) wc wx) ∧ Hid (OR wx g (n + 2) F) ∧ Hid (Below w.heap.size w wx)) (fun v23 _ => n - (intOf v23).toNat)
  case atStart => exact ⟨0, _, Nat.zero_le _, rfl, hid (Kx.refl _ _), HOR, HB⟩
  case round =>
    clear HB HOR
    obtain ⟨j, F, hj, rfl, HK, HOR, HB⟩ := hrel
    replace K2 := hid (HK.out.bk K2.out (fun e => by have o := ORD.out; change w.heap.size = g at e; omega))
    have d2 := K2.out.cell
    have l2 := K2.out.lt
    by_cases hlt : j < n
    case pos =>
      have x1 := HOR.out.cell (i := j) (by omega)
      have x2 := HOR.out.free j
      have x3 := HOR.out.gl
      have HO2 := hid (HOR.out.set j 73 (by omega))
      have HK2 := hid (HK.out.set (b := g) rfl j (.int .u64 73))
      have HB2 := hid (bset HB.out g j (.int .u64 73) (by have o := ORD.out; omega))
      clear HF Q9 Q11 Q13 Q15 Q17 Q19 K9 K11 K13 K15 K17 K19 HK HOR HB
      go_wp2
      exact ⟨⟨j + 1, _, by omega, by go_num, HK2, HO2, HB2⟩, by simp only [intOf]; omega⟩
    obtain rfl : j = n := by omega
    replace RA := hid (rr_old RA0.out HB.out)
    replace K9 := hid (HK.out.bk K9.out (fun e => by have o := ORD.out; change b9 = g at e; omega))
    replace K11 := hid (HK.out.bk K11.out (fun e => by have o := ORD.out; change b11 = g at e; omega))
    replace K13 := hid (HK.out.bk K13.out (fun e => by have o := ORD.out; change b13 = g at e; omega))
    replace K15 := hid (HK.out.bk K15.out (fun e => by have o := ORD.out; change b15 = g at e; omega))
    replace K17 := hid (HK.out.bk K17.out (fun e => by have o := ORD.out; change b17 = g at e; omega))
    replace K19 := hid (HK.out.bk K19.out (fun e => by have o := ORD.out; change b19 = g at e; omega))
    replace Q9 := hid (HK.out.oq Q9.out (fun h1 h2 e => by have o := ORD.out; change g9 = g at e; omega))
    replace Q11 := hid (HK.out.oq Q11.out (fun h1 h2 e => by have o := ORD.out; change g11 = g at e; omega))
    replace Q17 := hid (HK.out.oq Q17.out (fun h1 h2 e => by have o := ORD.out; change g17 = g at e; omega))
    replace Q19 := hid (HK.out.oq Q19.out (fun h1 h2 e => by have o := ORD.out; change g19 = g at e; omega))
    replace Q13 := hid (Q13.out.kx HK.out (fun b h1 h2 e => by have o := ORD.out; change b = g at e; omega))
    replace Q15 := hid (HK.out.oz Q15.out (fun b h1 e => by have o := ORD.out; change b = g at e; omega))
    clear HK HOR
    go_upto_region 19 with (fail)
    have d9 := K9.out.cell
    have l9 := K9.out.lt
    have d17 := K17.out.cell
    have l17 := K17.out.lt
    have d11 := K11.out.cell
    have l11 := K11.out.lt
    have d19 := K19.out.cell
    have l19 := K19.out.lt
    have hq9 := (Q9.out.rr H9.out.1 H9.out.2)
    have hq17 := (Q17.out.rr H17.out.1 H17.out.2)
    have hq11 := (Q11.out.rr H11.out.1 H11.out.2)
    have hq19 := (Q19.out.rr H19.out.1 H19.out.2)
    go_cut [144] from 135 to 144 (fun v144 X => v144 = Value.bool false ∧ Below wr.heap.size wr X)
    case first =>
      clear HF Q9 Q11 Q13 Q15 Q17 Q19 K13 K15 K2 d2 l2 HB RA
      go_wp2_with (first | (go_at_call 13; (with_reducible refine (sameK hq9 hq17).mono ?_); rintro e y1 ⟨rfl, hN1⟩; have d11 := (bk_on K11.out hN1).cell; have l11 := (bk_on K11.out hN1).lt; have d19 := (bk_on K19.out hN1).cell; have l19 := (bk_on K19.out hN1).lt) | (go_at_call 13; (with_reducible refine (sameK (hq11.below hN1) (hq19.below hN1)).mono ?_); rintro e y2 ⟨rfl, hN2⟩))
      go_meet
      case rel => exact ⟨rfl, btr hN1 hN2⟩
    obtain ⟨rfl, hNq⟩ := hcut
    replace HB := hid (btr HB.out hNq)
    replace K2 := hid (bk_on K2.out hNq)
    replace RA := hid (RA.out.below hNq)
    replace K9 := hid (bk_on K9.out hNq)
    replace Q9 := hid (Q9.out.on hNq)
    replace K11 := hid (bk_on K11.out hNq)
    replace Q11 := hid (Q11.out.on hNq)
    replace K13 := hid (bk_on K13.out hNq)
    replace Q13 := hid (Q13.out.on hNq)
    replace K15 := hid (bk_on K15.out hNq)
    replace Q15 := hid (Q15.out.on hNq)
    replace K17 := hid (bk_on K17.out hNq)
    replace Q17 := hid (Q17.out.on hNq)
    replace K19 := hid (bk_on K19.out hNq)
    replace Q19 := hid (Q19.out.on hNq)
    clear d2 l2 d9 l9 d17 l17 d11 l11 d19 l19 hq9 hq17 hq11 hq19 K17 Q17
    go_wp2
    have HN2 : Hid (0 < mm → s9 ≤ g9 ∧ g9 < b9) := ORD2
    have HML := hid H9.out
    have hmm : mm ≤ 9223372036854775807 := by have := H9.out; omega
    go_loopw [24] (fun v24 wx => ∃ (i : Nat) (F : Nat → Nat), i ≤ mm ∧ v24 = .int .i64 i ∧ Hid (Kx (fun b => 0 < mm ∧ b = g9) wc wx) ∧ Hid (OQ wx s9 b9 p9 g9 mm F) ∧ Hid (Below w.heap.size w wx)) (fun v24 _ => mm - (intOf v24).toNat)
    case atStart => exact ⟨0, _, Nat.zero_le _, rfl, hid (Kx.refl _ _), Q9, HB⟩
    case round =>
      clear HB Q9
      obtain ⟨i, F, hi, rfl, HK, Q9, HB⟩ := hrel
      replace K9 := hid (HK.out.bk K9.out (fun e => by have o := ORD.out; have e : 0 < mm ∧ b9 = g9 := e; have o2 := ORD2.out e.1; omega))
      have d9 := K9.out.cell
      have l9 := K9.out.lt
      by_cases hlt : i < mm
      case pos =>
        rcases Q9.out with h0 | ⟨rfl, hb1, hb2, hO⟩
        · omega
        have x1 := hO.cell (i := i) hlt
        have x2 := hO.free i
        have x3 := hO.gl
        have x4 := H9.out.1
        have HO2 : Hid (OQ (wr.setCell ⟨g9, i, none⟩ (.int .u64 74)) s9 b9 (some ⟨g9, 0, none⟩) g9 mm (up F i 74)) := hid (.inr ⟨rfl, hb1, hb2, hO.set i 74 (by omega)⟩)
        have HK2 := hid (HK.out.set (b := g9) ⟨by omega, rfl⟩ i (.int .u64 74))
        have HB2 := hid (bset HB.out g9 i (.int .u64 74) (by have o := ORD.out; omega))
        clear HF Q9 Q11 Q13 Q15 Q19 K9 K11 K13 K15 K19 HK HB hO K2 RA
        go_wp2
        exact ⟨⟨i + 1, _, by omega, by go_num, HK2, HO2, HB2⟩, by simp only [intOf]; omega⟩
      replace RA := hid (rr_old RA0.out HB.out)
      replace K2 := hid (HK.out.bk K2.out (fun e => by have o := ORD.out; have e : 0 < mm ∧ w.heap.size = g9 := e; have o2 := ORD2.out e.1; omega))
      replace K11 := hid (HK.out.bk K11.out (fun e => by have o := ORD.out; have e : 0 < mm ∧ b11 = g9 := e; have o2 := ORD2.out e.1; omega))
      replace K13 := hid (HK.out.bk K13.out (fun e => by have o := ORD.out; have e : 0 < mm ∧ b13 = g9 := e; have o2 := ORD2.out e.1; omega))
      replace K15 := hid (HK.out.bk K15.out (fun e => by have o := ORD.out; have e : 0 < mm ∧ b15 = g9 := e; have o2 := ORD2.out e.1; omega))
      replace K19 := hid (HK.out.bk K19.out (fun e => by have o := ORD.out; have e : 0 < mm ∧ b19 = g9 := e; have o2 := ORD2.out e.1; omega))
      replace Q11 := hid (HK.out.oq Q11.out (fun h1 h2 e => by have o := ORD.out; have e : 0 < mm ∧ g11 = g9 := e; have o2 := ORD2.out e.1; omega))
      replace Q19 := hid (HK.out.oq Q19.out (fun h1 h2 e => by have o := ORD.out; have e : 0 < mm ∧ g19 = g9 := e; have o2 := ORD2.out e.1; omega))
      replace Q13 := hid (Q13.out.kx HK.out (fun b h1 h2 e => by have o := ORD.out; have e : 0 < mm ∧ b = g9 := e; have o2 := ORD2.out e.1; omega))
      replace Q15 := hid (HK.out.oz Q15.out (fun b h1 e => by have o := ORD.out; have e : 0 < mm ∧ b = g9 := e; have o2 := ORD2.out e.1; omega))
      clear HK Q9
      go_upto_region 25 with (fail)
      clear K9 d9 l9
      obtain ⟨V, eV⟩ : ∃ V : World, wr = V := ⟨_, rfl⟩
      rw [eV]; subst eV
      go_wp2
      have HKr := hid (Kx.refl (fun b => s13 ≤ b ∧ b < b13) wr)
      generalize hwr : wr = V at *
      clear hwr
      go_loopw [25] (fun v25 wx => ∃ (i : Nat), i ≤ ls.length ∧ v25 = .int .i64 i ∧ Hid (Kx (fun b => s13 ≤ b ∧ b < b13) V wx) ∧ Hid (SZ wx s13 b13 p13 ls.length c13) ∧ Hid (Below w.heap.size w wx)) (fun v25 _ => ls.length - (intOf v25).toNat)
      case atStart => exact ⟨0, Nat.zero_le _, rfl, HKr, Q13, HB⟩
      case round =>
        clear HB Q13 HKr
        obtain ⟨i, hi, rfl, HK, Q13, HB⟩ := hrel
        have k13 := hid (HK.out.bk K13.out (fun e => by have o := ORD.out; have e : s13 ≤ b13 ∧ b13 < b13 := e; omega))
        have d13 := k13.out.cell
        have l13 := k13.out.lt
        by_cases hlt : i < ls.length
        case pos =>
          clear HF Q11 Q15 Q19 K2 K11 K15 K19 RA
          obtain ⟨h1, h2, gs, A, C, h3⟩ := Q13.out
          obtain ⟨rfl, e1, e2, e3, e4, e5, e6, ⟨cs, e7⟩, cs2, e8, e9⟩ := h3 i hlt
          clear e1 e2 e3 e4 e5 e6 e7 e8 e9 h3 A C
          go_wp2
          go_loopw [26] (fun v26 wx => ∃ (q : Nat), q ≤ 2 ∧ v26 = .int .i64 q ∧ Hid (Kx (fun b => s13 ≤ b ∧ b < b13) V wx) ∧ Hid (SZ wx s13 b13 (some ⟨gs, 0, none⟩) ls.length c13) ∧ Hid (Below w.heap.size w wx)) (fun v26 _ => 2 - (intOf v26).toNat)
          case atStart => exact ⟨0, by omega, rfl, HK, Q13, HB⟩
          case round =>
            clear HB Q13 HK k13 d13 l13
            obtain ⟨q, hq, rfl, HK, Q13, HB⟩ := hrel
            have k13 := hid (HK.out.bk K13.out (fun e => by have o := ORD.out; have e : s13 ≤ b13 ∧ b13 < b13 := e; omega))
            have d13 := k13.out.cell
            have l13 := k13.out.lt
            obtain ⟨_, _, gs', A, C, h3⟩ := Q13.out
            obtain ⟨eg, e1, e2, e3, e4, e5, e6, ⟨cs, e7⟩, cs2, e8, e9⟩ := h3 i hlt
            obtain rfl : gs = gs' := by cases eg; rfl
            clear h3 eg
            have gl := e7.lt
            have bl := e9.lt
            by_cases hq2 : q < 2
            case pos =>
              have x1 : wr.cell? ⟨A i, q, none⟩ = some (cs2[q]'(by omega)) := by rw [e9.cell]; exact Array.getElem?_eq_getElem (by omega)
              have x2 := e9.free q
              have HZ2 := hid (Q13.out.put e9 (o := q) (.int .i64 (-1)))
              have HK2 := hid (HK.out.set (b := A i) ⟨e3, e4⟩ q (.int .i64 (-1)))
              have HB2 := hid (bset HB.out (A i) q (.int .i64 (-1)) (by have o := ORD.out; omega))
              generalize cs2[q]'(by omega) = xv at *
              generalize A i = bq at *
              generalize C i = qc at *
              clear HK Q13 HB k13 e7 e9 e8 e3 e4 e5 e6
              go_wp2
              exact ⟨⟨q + 1, by omega, by go_num, HK2, HZ2, HB2⟩, by simp only [intOf]; omega⟩
            obtain rfl : q = 2 := by omega
            generalize A i = bq at *
            generalize C i = qc at *
            clear k13 e7 e9 e8 e3 e4 e5 e6
            go_wp2
            exact ⟨⟨i + 1, by omega, by go_num, HK, Q13, HB⟩, by simp only [intOf]; omega⟩
        obtain rfl : i = ls.length := by omega
        replace RA := hid (rr_old RA0.out HB.out)
        replace K2 := hid (HK.out.bk K2.out (fun e => by have o := ORD.out; have e : s13 ≤ w.heap.size ∧ w.heap.size < b13 := e; omega))
        replace K11 := hid (HK.out.bk K11.out (fun e => by have o := ORD.out; have e : s13 ≤ b11 ∧ b11 < b13 := e; omega))
        replace K15 := hid (HK.out.bk K15.out (fun e => by have o := ORD.out; have e : s13 ≤ b15 ∧ b15 < b13 := e; omega))
        replace K19 := hid (HK.out.bk K19.out (fun e => by have o := ORD.out; have e : s13 ≤ b19 ∧ b19 < b13 := e; omega))
        replace Q11 := hid (HK.out.oq Q11.out (fun h1 h2 e => by have o := ORD.out; have e : s13 ≤ g11 ∧ g11 < b13 := e; omega))
        replace Q19 := hid (HK.out.oq Q19.out (fun h1 h2 e => by have o := ORD.out; have e : s13 ≤ g19 ∧ g19 < b13 := e; omega))
        replace Q15 := hid (HK.out.oz Q15.out (fun b h1 e => by have o := ORD.out; have e : s13 ≤ b ∧ b < b13 := e; omega))
        clear HK Q13 K13
        go_upto_region 32 with (fail)
        clear k13 d13 l13
        have hq11 := (Q11.out.rr H11.out.1 H11.out.2)
        have hq19 := (Q19.out.rr H19.out.1 H19.out.2)
        rcases HF.out with hE | ⟨rfl, hF⟩
        · clear Q15 K15 K2 RA Q11 Q19 HF
          have d11 := K11.out.cell
          have l11 := K11.out.lt
          have d19 := K19.out.cell
          have l19 := K19.out.lt
          go_wp2_with (go_at_call 13; (with_reducible refine (sameK hq11 hq19).mono ?_); rintro e y1 ⟨rfl, hN1⟩)
          go_ret
          exact ⟨rfl, btr HB.out hN1⟩
        · have hHF := HF
          clear hHF HF Q11 Q19
          have hE0 : ((0 : Int) != 0) = false := rfl
          have d15 := K15.out.cell
          have l15 := K15.out.lt
          go_upto_region 35 with (go_at_call 22; (with_reducible refine (hF.go Q15.out).mono ?_); rintro e wb hC; obtain ⟨p27, c27, rfl, ⟨g27, hO, hcc⟩, hN⟩ := lr_ex hC)
          have hA := bal (Below.refl wb.heap.size wb) (.cells (lcs N p27 j c27) 24)
          have hNA := btr hN hA
          have h27 := (hO.on hA).rr hcc.1 hcc.2
          have K27 := hid (bk_new wb (lcs N p27 j c27) 24)
          replace K2 := hid (bk_on K2.out hNA)
          replace K11 := hid (bk_on K11.out hNA)
          replace K19 := hid (bk_on K19.out hNA)
          replace RA := hid (RA.out.below hNA)
          replace HB := hid (btr HB.out hNA)
          replace hq11 := hq11.below hNA
          replace hq19 := hq19.below hNA
          clear hA hNA hO hC hN hcc Q15 K15 d15 l15 hF
          generalize wb.alloc (.cells (lcs N p27 j c27) 24) = Z at *
          generalize wb.heap.size = b27 at *
          have d2 := K2.out.cell
          have l2 := K2.out.lt
          have d27 := K27.out.cell
          have l27 := K27.out.lt
          go_wp2_with (first | (go_at_call 13; (with_reducible refine (sameK h27 RA.out).mono ?_); rintro e y1 ⟨rfl, hN1⟩; have d11 := (bk_on K11.out hN1).cell; have l11 := (bk_on K11.out hN1).lt; have d19 := (bk_on K19.out hN1).cell; have l19 := (bk_on K19.out hN1).lt) | (go_at_call 13; (with_reducible refine (sameK (hq11.below hN1) (hq19.below hN1)).mono ?_); rintro e y2 ⟨rfl, hN2⟩))
          go_ret
          exact ⟨rfl, btr HB.out (btr hN1 hN2)⟩
end Go.Proofs.Ytinkdonaedoojaa
