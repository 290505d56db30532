/-
  Put together of: LE.
-/
import Derived.Test.YtoddbaljnlhhaaaYT
import Derived.Test.YtoddbaljnlhhaaaYU
import Derived.Test.YtoddbaljnlhhaaaYV
import Derived.Test.YtoddbaljnlhhaaaXK
namespace Go.Proofs.Ytoddbaljnlhhaaa
open Go.RowKit Go.Sort
open PL (pv PS bt cgk cgT)

theorem EP.cases {X : Nat} {W W' : World} {T : Tb} {E : Int} (h : EP X W W' T E) : (E ≠ 0 ∧ Below W.heap.size W W') ∨ (E = 0 ∧ ∃ W1 a1 c1, Below W.heap.size W W1 ∧ OT W1 W.heap.size (.slice a1 T.rows.length c1) T.rows ∧ W' = (W1.setCell ⟨X, 0, none⟩ (.int .i64 T.n)).setCell ⟨X, 1, none⟩ (.slice a1 T.rows.length c1)) := by
  rcases h with h | ⟨h, W1, v, h1, h2, h3⟩
  · exact .inl h
  · obtain ⟨a1, c1, rfl⟩ := own_shape h2.own
    exact .inr ⟨h, W1, a1, c1, h1, h2, h3⟩
theorem wt_form (r : Int × Bool × Int) : ∃ p1 q1 k1 p2 q2 k2 E, wtV r = .tuple #[rtV p1 q1 k1, rtV p2 q2 k2, .int .i64 E] := by
  unfold wtV
  split
  · split
    · exact ⟨_, _, _, _, _, _, _, rfl⟩
    · exact ⟨_, _, _, _, _, _, _, rfl⟩
  · exact ⟨_, _, _, _, _, _, _, rfl⟩
theorem rt_two (w : World) (p q k p' q' k' : Int) : BK ((w.alloc (rtC p q k)).alloc (rtC p' q' k')) w.heap.size #[.int .i64 p, .int .i64 q, .int .i64 k] 60 ∧ BK ((w.alloc (rtC p q k)).alloc (rtC p' q' k')) (w.heap.size + 1) #[.int .i64 p', .int .i64 q', .int .i64 k'] 60 := by
  have k1 := (bk_new w #[.int .i64 p, .int .i64 q, .int .i64 k] 60).alloc (rtC p' q' k')
  have k2 := bk_new (w.alloc (rtC p q k)) #[.int .i64 p', .int .i64 q', .int .i64 k'] 60
  rw [PL.alz] at k2
  exact ⟨k1, k2⟩
theorem OT.set0 {W : World} {B g c n : Nat} {xs : List Pr} (h : OT W B (.slice (some ⟨g, 0, none⟩) n c) xs) (hn : xs.length = n) {j : Nat} (hj : j < xs.length) (r : Pr) (hr : r.w64) :
    OT ((((W.setCell ⟨g, j * 4, none⟩ (.int .i64 r.n)).setCell ⟨g, j * 4 + 1, none⟩ (.int .u64 (r.x : Int))).setCell ⟨g, j * 4 + 2, none⟩ (.int .u64 (r.z : Int))).setCell ⟨g, j * 4 + 3, none⟩ (.int .i64 r.f)) B (.slice (some ⟨g, 0, none⟩) n c) (xs.set j r) := by
  subst hn
  exact h.set hj r hr
set_option maxHeartbeats 8000000 in
set_option maxRecDepth 100000 in
theorem engine_walk (n : Int) (ss : List St) (a : Option Addr) (c : Nat) (w : World) (H : SS w a c ss) :
    Calls Try.prog 6 #[.int .i64 n, .slice a ss.length c] w fun e w' => e = .returned (.bool true) ∧ Below w.heap.size w w' := by
  have AW := hid (fun w' => awake_any w')
  have N25 := hid (fun w' => en25_nil 0 w')
  have HS := hid H
  have HL := hid H.l
  have HC := hid H.cap
  have RZ := hid (fun w' => rzero_any n w')
  have ZR := hid (zero_rt n)
  have NN := hid (fun w' => new_no n w')
  have NY := hid (fun w' => new_yes n w')
  obtain ⟨T, F, hT⟩ : ∃ T F, zrT n = (T, F) := ⟨_, _, rfl⟩
  rw [hT] at RZ ZR NN NY
  clear hT
  obtain ⟨N, rs⟩ := T
  simp only at RZ ZR NN NY
  have FD : ∀ w : World, Sem.run Try.prog (Instr.field 24 (.agg #[.int .i64 0, .slice none 0 0]) 1) w = .ok (.slice none 0 0) w := fun w => by kernel_rfl
  clear H
  go_enter Try.func6, Try.ntmps6
  go_wp2_with (go_at_call 9; refine Hid.out ?_)
  refine hid ?_
  refine (AW.out _).mono ?_
  rintro e w1 ⟨rfl, hN⟩
  have HB := hid hN
  clear hN AW
  go_wp2_with (go_at_call 25; refine Hid.out ?_)
  refine hid ?_
  refine (N25.out _).mono ?_
  rintro e w2 ⟨rfl, hN⟩
  replace HB := hid (btr HB.out hN)
  clear hN N25
  go_wp2_with (first | (go_at_call 26; (with_reducible refine (en26_nil _ _ _ _ _).mono ?_); rintro e w3 ⟨rfl, rfl⟩) | (go_at_call 27; (with_reducible refine (en27_nil _ _ _).mono ?_); rintro e w4 ⟨rfl, rfl⟩) | (go_at_call 28; refine Hid.out ?_))
  refine hid ?_
  refine (en28_nil _).mono ?_
  rintro e w5 ⟨rfl, hN⟩
  replace HB := hid (btr (bal (bal (bal HB.out (rtC 0 0 0)) (rtC 0 0 0)) (.cells #[.int .i64 0] 3)) hN)
  clear hN
  have hG5 := HB.out.size
  go_wp2_with (go_at_call 10; refine Hid.out ?_)
  refine hid ?_
  refine (RZ.out _).mono ?_
  rintro e w6 ⟨v, rfl, hO, hN⟩
  obtain ⟨ag, cg, rfl⟩ := own_shape hO.own
  have hA := bal (Below.refl w6.heap.size w6) (.cells #[.int .i64 N, .slice ag rs.length cg] 24)
  have KG := hid (bk_new w6 #[.int .i64 N, .slice ag rs.length cg] 24)
  replace HB := hid (btr HB.out hN)
  have hG : Hid (w.heap.size ≤ w6.heap.size) := HB.out.size
  have OG := hid ((hO.below hA).mono hG5)
  replace HB := hid (btr HB.out hA)
  clear hO hN hA hG5 RZ FD
  by_cases hF : F = 0
  case neg =>
    have NN2 := hid (NN.out (w6.alloc (.cells #[.int .i64 N, .slice ag rs.length cg] 24)) hF)
    have hb : (F == 0) = false := beq_eq_false_iff_ne.2 hF
    have hFF : (F == F) = true := by simp
    have hFn : (F != F) = false := by simp
    have hF0 : (F != 0) = true := bne_iff_ne.2 hF
    clear NN NY ZR OG KG
    go_wp2_with (go_at_call 29; refine Hid.out ?_)
    refine hid ?_
    refine NN2.out.mono ?_
    rintro e w7 ⟨rfl, hN⟩
    replace HB := hid (btr HB.out hN)
    clear hN NN2
    go_wp2
    go_ret
    exact ⟨rfl, HB.out⟩
  subst hF
  have NY2 := hid (NY.out (w6.alloc (.cells #[.int .i64 N, .slice ag rs.length cg] 24)) rfl)
  have RT := hid (ZR.out rfl)
  clear NN NY ZR
  go_wp2_with (go_at_call 29; refine Hid.out ?_)
  refine hid ?_
  refine NY2.out.mono ?_
  rintro e w7 ⟨X, v, rfl, hN, hX, kX, hO⟩
  obtain ⟨ax, cx, rfl⟩ := own_shape hO.own
  have hs := HB.out.size
  have HE : Hid (EN w w7 X w6.heap.size ⟨N, rs⟩ ax ag cx cg) := ⟨btr HB.out hN, Nat.le_trans hs hX, hG.out, RT.out, kX, hO.mono hs, bk_on KG.out hN, OG.out.below hN⟩
  have HLT := hid (Nat.lt_of_lt_of_le (Nat.lt_succ_self w6.heap.size) (Nat.le_refl _))
  clear hs hX kX hO hN HB RT KG OG NY2 hG HLT
  generalize w6.heap.size = G at *
  go_wp2
  go_loopw [12] (fun v12 wx => ∃ (i : Nat) (t : Tb) (a1 a2 : Option Addr) (c1 c2 : Nat), i ≤ ss.length ∧ i ≤ 300 ∧ v12 = .int .i64 (i : Nat) ∧ Hid (EN w wx X G t a1 a2 c1 c2)) (fun v12 _ => 300 - (intOf v12).toNat)
  case atStart => exact ⟨0, ⟨N, rs⟩, ax, ag, cx, cg, Nat.zero_le _, Nat.zero_le _, rfl, HE⟩
  case round =>
    clear HE
    obtain ⟨i, t, a1, a2, c1, c2, hi, hi3, rfl, HE⟩ := hrel
    obtain ⟨m, us⟩ := t
    by_cases hlt : i < ss.length
    case neg =>
      go_upto_region 43 with (fail)
      have kX : BK wr X #[.int .i64 m, .slice a1 us.length c1] 101 := HE.out.kX
      have kG : BK wr G #[.int .i64 m, .slice a2 us.length c2] 24 := HE.out.kG
      have hl1 : us.length ≤ 1000 := HE.out.oX.l
      have HX := hid (below_drew (Below.refl wr.heap.size wr))
      refine wp_region_noPanic ?_
      refine region_z (S := fun Y => RowKit.Below wr.heap.size wr Y) 3 (by kernel_rfl) HX.out (fun hHeld => ?_)
      clear hHeld
      generalize wr.drew = Y0 at *
      refine zAny_take (i := 2) (oi := { dst := some 189, op := Op.load 24 (Operand.tmp 9), type := 24, pos := "law.go:127", after := #[], guard := none }) (v := ?_) rfl (by kernel_rfl) (by kernel_rfl) (by kernel_rfl) (by kernel_rfl) (fun _ _ _ h => h) (Or.inl ⟨by rfl, ?_⟩) HX.out ?_
      rotate_left
      (intro w0 hSw; have e9 := (bk_on kG hSw).cell; clear hSw; go_simp; try (with_reducible rfl))
      (try simp only [Act.put, List.setIfInBounds_toArray, List.set_cons_zero, List.set_cons_succ])
      refine zAny_ready (rs := [0]) (by kernel_rfl) (by simp) (zReady.cons (o := { dst := some 187, op := Op.move (Operand.tmp 11), type := 58, pos := "law.go:127", after := #[], guard := none }) rfl (fun K hK => ?_) zReady.nil)
      go_simp
      refine hK.out _ _ (fun _ => HX.out) (fun _ => ?_)
      clear hK K
      (try simp only [Act.put, List.setIfInBounds_toArray, List.set_cons_zero, List.set_cons_succ])
      refine zAny_ready (rs := [1]) (by kernel_rfl) (by simp) (zReady.cons (o := { dst := some 188, op := Op.call { callee := Callee.value (Operand.func 28), args := #[Operand.tmp 187], argTypes := #[58] }, type := 24, pos := "law.go:127", after := #[{ on := 0, ground := Ground.data }], guard := none }) rfl (fun K hK => ?_) zReady.nil)
      go_simp
      refine (en28_any X ⟨m, us⟩ a1 c1 Y0 (bk_on kX HX.out) (HE.out.tX.below HX.out) hl1).mono ?_
      rintro e w10 ⟨v, rfl, hO, hN⟩
      obtain ⟨a9, c9, rfl⟩ := own_shape hO.own
      have HX2 := hid (btr HX.out hN)
      refine hK.out _ _ (fun _ => HX2.out) (fun _ => ?_)
      clear hK K
      refine zAny_ready (rs := [3]) (by kernel_rfl) (by simp) (zReady.cons (o := { dst := some 190, op := Op.call { callee := Callee.value (Operand.func 20), args := #[Operand.tmp 188, Operand.tmp 189], argTypes := #[24, 24] }, type := 4, pos := "law.go:127", after := #[{ on := 1, ground := Ground.data }, { on := 2, ground := Ground.data }, { on := 1, ground := Ground.chain }], guard := none }) rfl (fun K hK => ?_) zReady.nil)
      go_simp
      refine (requal_any ⟨m, us⟩ ⟨m, us⟩ a9 a2 c9 c2 w10 (OT.ts' hO) (HE.out.tG.below HX2.out) true (fun _ => rfl) (fun h => absurd rfl h)).mono ?_
      rintro e w11 ⟨rfl, hN2⟩
      have HX3 := hid (btr HX2.out hN2)
      refine hK.out _ _ (fun h => absurd rfl h) (fun _ => ?_)
      clear hK K
      (try simp only [Act.put, List.setIfInBounds_toArray, List.set_cons_zero, List.set_cons_succ])
      refine zAny_ready (rs := [4]) (by kernel_rfl) (by simp) (zReady.cons (o := { dst := some 4, op := Op.assign (Operand.tmp 190), type := 4, pos := "law.go:127", after := #[{ on := 3, ground := Ground.data }, { on := 3, ground := Ground.chain }, { on := 0, ground := Ground.phase }, { on := 1, ground := Ground.phase }, { on := 2, ground := Ground.phase }, { on := 3, ground := Ground.phase }], guard := none }) rfl (fun K hK => ?_) zReady.nil)
      go_simp
      refine hK.out _ _ (fun _ => HX3.out) (fun _ => ?_)
      clear hK K
      (try simp only [Act.put, List.setIfInBounds_toArray, List.set_cons_zero, List.set_cons_succ])
      refine zAny_done (by kernel_rfl) ?_ _
      refine NoPanic.normal ?_
      go_wp2
      go_ret
      exact ⟨rfl, btr HE.out.b HX3.out⟩
    by_cases hl3 : i < 300
    case neg =>
      go_upto_region 43 with (fail)
      have kX : BK wr X #[.int .i64 m, .slice a1 us.length c1] 101 := HE.out.kX
      have kG : BK wr G #[.int .i64 m, .slice a2 us.length c2] 24 := HE.out.kG
      have hl1 : us.length ≤ 1000 := HE.out.oX.l
      have HX := hid (below_drew (Below.refl wr.heap.size wr))
      refine wp_region_noPanic ?_
      refine region_z (S := fun Y => RowKit.Below wr.heap.size wr Y) 3 (by kernel_rfl) HX.out (fun hHeld => ?_)
      clear hHeld
      generalize wr.drew = Y0 at *
      refine zAny_take (i := 2) (oi := { dst := some 189, op := Op.load 24 (Operand.tmp 9), type := 24, pos := "law.go:127", after := #[], guard := none }) (v := ?_) rfl (by kernel_rfl) (by kernel_rfl) (by kernel_rfl) (by kernel_rfl) (fun _ _ _ h => h) (Or.inl ⟨by rfl, ?_⟩) HX.out ?_
      rotate_left
      (intro w0 hSw; have e9 := (bk_on kG hSw).cell; clear hSw; go_simp; try (with_reducible rfl))
      (try simp only [Act.put, List.setIfInBounds_toArray, List.set_cons_zero, List.set_cons_succ])
      refine zAny_ready (rs := [0]) (by kernel_rfl) (by simp) (zReady.cons (o := { dst := some 187, op := Op.move (Operand.tmp 11), type := 58, pos := "law.go:127", after := #[], guard := none }) rfl (fun K hK => ?_) zReady.nil)
      go_simp
      refine hK.out _ _ (fun _ => HX.out) (fun _ => ?_)
      clear hK K
      (try simp only [Act.put, List.setIfInBounds_toArray, List.set_cons_zero, List.set_cons_succ])
      refine zAny_ready (rs := [1]) (by kernel_rfl) (by simp) (zReady.cons (o := { dst := some 188, op := Op.call { callee := Callee.value (Operand.func 28), args := #[Operand.tmp 187], argTypes := #[58] }, type := 24, pos := "law.go:127", after := #[{ on := 0, ground := Ground.data }], guard := none }) rfl (fun K hK => ?_) zReady.nil)
      go_simp
      refine (en28_any X ⟨m, us⟩ a1 c1 Y0 (bk_on kX HX.out) (HE.out.tX.below HX.out) hl1).mono ?_
      rintro e w10 ⟨v, rfl, hO, hN⟩
      obtain ⟨a9, c9, rfl⟩ := own_shape hO.own
      have HX2 := hid (btr HX.out hN)
      refine hK.out _ _ (fun _ => HX2.out) (fun _ => ?_)
      clear hK K
      refine zAny_ready (rs := [3]) (by kernel_rfl) (by simp) (zReady.cons (o := { dst := some 190, op := Op.call { callee := Callee.value (Operand.func 20), args := #[Operand.tmp 188, Operand.tmp 189], argTypes := #[24, 24] }, type := 4, pos := "law.go:127", after := #[{ on := 1, ground := Ground.data }, { on := 2, ground := Ground.data }, { on := 1, ground := Ground.chain }], guard := none }) rfl (fun K hK => ?_) zReady.nil)
      go_simp
      refine (requal_any ⟨m, us⟩ ⟨m, us⟩ a9 a2 c9 c2 w10 (OT.ts' hO) (HE.out.tG.below HX2.out) true (fun _ => rfl) (fun h => absurd rfl h)).mono ?_
      rintro e w11 ⟨rfl, hN2⟩
      have HX3 := hid (btr HX2.out hN2)
      refine hK.out _ _ (fun h => absurd rfl h) (fun _ => ?_)
      clear hK K
      (try simp only [Act.put, List.setIfInBounds_toArray, List.set_cons_zero, List.set_cons_succ])
      refine zAny_ready (rs := [4]) (by kernel_rfl) (by simp) (zReady.cons (o := { dst := some 4, op := Op.assign (Operand.tmp 190), type := 4, pos := "law.go:127", after := #[{ on := 3, ground := Ground.data }, { on := 3, ground := Ground.chain }, { on := 0, ground := Ground.phase }, { on := 1, ground := Ground.phase }, { on := 2, ground := Ground.phase }, { on := 3, ground := Ground.phase }], guard := none }) rfl (fun K hK => ?_) zReady.nil)
      go_simp
      refine hK.out _ _ (fun _ => HX3.out) (fun _ => ?_)
      clear hK K
      (try simp only [Act.put, List.setIfInBounds_toArray, List.set_cons_zero, List.set_cons_succ])
      refine zAny_done (by kernel_rfl) ?_ _
      refine NoPanic.normal ?_
      go_wp2
      go_ret
      exact ⟨rfl, btr HE.out.b HX3.out⟩
    obtain ⟨b, o, rfl, r⟩ := (HS.out.below HE.out.b).at_ i hlt
    have m0 := r.c0 i hlt
    have m1 := r.c1 i hlt
    have m2 := r.c2 i hlt
    have m3 := r.c3 i hlt
    have m4 := r.c4 i hlt
    have hbl := r.lt
    have hRow := (HS.out.below HE.out.b).row i hlt
    have hLc := HL.out
    have hCc := HC.out
    clear r HS HL HC
    generalize ss[i] = st at *
    obtain ⟨k, s, aq, mq, cq, q, qb, bit⟩ := st
    simp only at m0 m1 m2 m3 m4 hRow
    obtain ⟨hRow, hmq, hcq⟩ := hRow
    go_upto_region 17 with (fail)
    have hA := bal (Below.refl wr.heap.size wr) (.cells #[.int .i64 k, .string s, .slice aq mq cq, .int .i64 qb, .int .i64 bit] 69)
    have K13 := hid (bk_new wr #[.int .i64 k, .string s, .slice aq mq cq, .int .i64 qb, .int .i64 bit] 69)
    replace HE := hid (HE.out.on hA)
    have HQ := hid (hRow.below hA)
    clear m0 m1 m2 m3 m4 hbl hRow hA hLc hCc
    generalize wr.alloc (.cells #[.int .i64 k, .string s, .slice aq mq cq, .int .i64 qb, .int .i64 bit] 69) = V at *
    generalize wr.heap.size = b13 at *
    have d13 := K13.out.cell
    have l13 := K13.out.lt
    by_cases hk0 : k = 0
    · subst hk0
      obtain ⟨T, E, hTR, P1, P2⟩ := ap_step HE.out.rt s q mq
      have HTR := hid hTR
      have P1 := hid (P1 a2 c2 aq cq V HE.out.tG HQ.out hmq hcq)
      have P2 := hid P2
      have hEE : (E == E) = true := by simp
      have hEn : (E != E) = false := by simp
      obtain ⟨N', vs⟩ := T
      simp only at P1 P2 HTR
      have kG : BK V G #[.int .i64 m, .slice a2 us.length c2] 24 := HE.out.kG
      have d13 := K13.out.cell
      have l13 := K13.out.lt
      have dG := kG.cell
      have lG := kG.lt
      clear hTR
      go_wp2_with (go_at_call 21; refine Hid.out ?_)
      refine hid ?_
      refine P1.out.mono ?_
      rintro e z2 ⟨v, rfl, hO, hN⟩
      obtain ⟨a3, c3, rfl⟩ := own_shape hO.own
      go_upto_region 20 with (fail)
      have hA := bal (Below.refl z2.heap.size z2) (.cells #[.int .i64 N', .slice a3 vs.length c3] 24)
      have K14 := hid (bk_new z2 #[.int .i64 N', .slice a3 vs.length c3] 24)
      have O14 := hid ((hO.below hA).mono HE.out.b.size)
      replace HE := hid (HE.out.on (btr hN hA))
      replace HQ := hid (HQ.out.below (btr hN hA))
      replace K13 := hid (bk_on K13.out (btr hN hA))
      clear hO hN hA d13 l13 dG lG kG P1
      generalize z2.alloc (.cells #[.int .i64 N', .slice a3 vs.length c3] 24) = Z at *
      generalize z2.heap.size = b14 at *
      have P3 := hid (en26_any X m a1 us.length c1 s aq mq cq ⟨N', vs⟩ E Z HE.out.kX (P2.out a1 c1 aq cq Z HE.out.tX HQ.out hmq hcq))
      have d13 := K13.out.cell
      have l13 := K13.out.lt
      clear P2
      go_wp2_with (go_at_call 26; refine Hid.out ?_)
      refine hid ?_
      refine P3.out.mono ?_
      rintro e z3 ⟨rfl, hEP⟩
      have HEP := hid hEP.cases
      clear hEP P3 d13 l13 K13 HQ
      by_cases hE : E = 0
      · subst hE
        obtain ⟨W1, a4, c4, hB1, hO1, hz⟩ : ∃ W1 a4 c4, Below Z.heap.size Z W1 ∧ OT W1 Z.heap.size (.slice a4 vs.length c4) vs ∧ z3 = (W1.setCell ⟨X, 0, none⟩ (.int .i64 N')).setCell ⟨X, 1, none⟩ (.slice a4 vs.length c4) := by
          rcases HEP.out with ⟨h, _⟩ | ⟨_, h⟩
          · exact absurd rfl h
          · exact h
        have HU := hid (HE.out.up (T := ⟨N', vs⟩) (HTR.out rfl) hB1 (hO1.mono HE.out.b.size) (O14.out.below hB1))
        have hX14 : X ≠ b14 := fun e => by
          have h1 : BK Z X #[.int .i64 m, .slice a1 us.length c1] 101 := HE.out.kX
          have h2 := K14.out
          rw [e] at h1
          have h4 := Option.some.inj (h1.symm.trans h2)
          injection h4 with _ h5
          exact absurd h5 (by decide)
        have k14 := ((bk_on K14.out hB1).far hX14 0 (.int .i64 N')).far hX14 1 (.slice a4 vs.length c4)
        have kG : BK W1 G #[.int .i64 m, .slice a2 us.length c2] 24 := bk_on HE.out.kG hB1
        have kG2 := (kG.far HE.out.ne 0 (.int .i64 N')).far HE.out.ne 1 (.slice a4 vs.length c4)
        rw [← hz] at k14 kG2 HU
        clear hz hB1 hO1 kG HEP HTR O14 K14 HE hX14
        have d14 := k14.cell
        have l14 := k14.lt
        have dG := kG2.cell
        have fG := kG2.free
        have lG := kG2.lt
        clear k14 kG2
        go_wp2
        exact ⟨⟨i + 1, ⟨N', vs⟩, a4, a3, c4, c3, by omega, by omega, rfl, HU⟩, by simp only [intOf]; omega⟩
      · have hE0 : (E == 0) = false := beq_eq_false_iff_ne.2 hE
        have hB1 : Below Z.heap.size Z z3 := by
          rcases HEP.out with ⟨_, h⟩ | ⟨h, _⟩
          · exact h
          · exact absurd h hE
        replace HE := hid (HE.out.on hB1)
        clear hB1 HEP HTR O14 K14
        go_wp2
        exact ⟨⟨i + 1, ⟨m, us⟩, a1, a2, c1, c2, by omega, by omega, rfl, HE⟩, by simp only [intOf]; omega⟩
    by_cases hk1 : k = 1
    · subst hk1
      obtain ⟨T, E, hTR, P1, P2⟩ := pr_step HE.out.rt qb bit
      have HTR := hid hTR
      have P1 := hid (P1 a2 c2 V HE.out.tG)
      have P2 := hid P2
      have hEE : (E == E) = true := by simp
      have hEn : (E != E) = false := by simp
      obtain ⟨N', vs⟩ := T
      simp only at P1 P2 HTR
      have kG : BK V G #[.int .i64 m, .slice a2 us.length c2] 24 := HE.out.kG
      have d13 := K13.out.cell
      have l13 := K13.out.lt
      have dG := kG.cell
      have lG := kG.lt
      clear hTR
      go_wp2_with (go_at_call 23; refine Hid.out ?_)
      refine hid ?_
      refine P1.out.mono ?_
      rintro e z2 ⟨v, rfl, hO, hN⟩
      obtain ⟨a3, c3, rfl⟩ := own_shape hO.own
      go_upto_region 26 with (fail)
      have hA := bal (Below.refl z2.heap.size z2) (.cells #[.int .i64 N', .slice a3 vs.length c3] 24)
      have K14 := hid (bk_new z2 #[.int .i64 N', .slice a3 vs.length c3] 24)
      have O14 := hid ((hO.below hA).mono HE.out.b.size)
      replace HE := hid (HE.out.on (btr hN hA))
      replace HQ := hid (HQ.out.below (btr hN hA))
      replace K13 := hid (bk_on K13.out (btr hN hA))
      clear hO hN hA d13 l13 dG lG kG P1
      generalize z2.alloc (.cells #[.int .i64 N', .slice a3 vs.length c3] 24) = Z at *
      generalize z2.heap.size = b14 at *
      have P3 := hid (en27_any X m a1 us.length c1 qb bit ⟨N', vs⟩ E Z HE.out.kX (P2.out a1 c1 Z HE.out.tX))
      have d13 := K13.out.cell
      have l13 := K13.out.lt
      clear P2
      go_wp2_with (go_at_call 27; refine Hid.out ?_)
      refine hid ?_
      refine P3.out.mono ?_
      rintro e z3 ⟨rfl, hEP⟩
      have HEP := hid hEP.cases
      clear hEP P3 d13 l13 K13 HQ
      by_cases hE : E = 0
      · subst hE
        obtain ⟨W1, a4, c4, hB1, hO1, hz⟩ : ∃ W1 a4 c4, Below Z.heap.size Z W1 ∧ OT W1 Z.heap.size (.slice a4 vs.length c4) vs ∧ z3 = (W1.setCell ⟨X, 0, none⟩ (.int .i64 N')).setCell ⟨X, 1, none⟩ (.slice a4 vs.length c4) := by
          rcases HEP.out with ⟨h, _⟩ | ⟨_, h⟩
          · exact absurd rfl h
          · exact h
        have HU := hid (HE.out.up (T := ⟨N', vs⟩) (HTR.out rfl) hB1 (hO1.mono HE.out.b.size) (O14.out.below hB1))
        have hX14 : X ≠ b14 := fun e => by
          have h1 : BK Z X #[.int .i64 m, .slice a1 us.length c1] 101 := HE.out.kX
          have h2 := K14.out
          rw [e] at h1
          have h4 := Option.some.inj (h1.symm.trans h2)
          injection h4 with _ h5
          exact absurd h5 (by decide)
        have k14 := ((bk_on K14.out hB1).far hX14 0 (.int .i64 N')).far hX14 1 (.slice a4 vs.length c4)
        have kG : BK W1 G #[.int .i64 m, .slice a2 us.length c2] 24 := bk_on HE.out.kG hB1
        have kG2 := (kG.far HE.out.ne 0 (.int .i64 N')).far HE.out.ne 1 (.slice a4 vs.length c4)
        rw [← hz] at k14 kG2 HU
        clear hz hB1 hO1 kG HEP HTR O14 K14 HE hX14
        have d14 := k14.cell
        have l14 := k14.lt
        have dG := kG2.cell
        have fG := kG2.free
        have lG := kG2.lt
        clear k14 kG2
        go_wp2
        exact ⟨⟨i + 1, ⟨N', vs⟩, a4, a3, c4, c3, by omega, by omega, rfl, HU⟩, by simp only [intOf]; omega⟩
      · have hE0 : (E == 0) = false := beq_eq_false_iff_ne.2 hE
        have hB1 : Below Z.heap.size Z z3 := by
          rcases HEP.out with ⟨_, h⟩ | ⟨h, _⟩
          · exact h
          · exact absurd h hE
        replace HE := hid (HE.out.on hB1)
        clear hB1 HEP HTR O14 K14
        go_wp2
        exact ⟨⟨i + 1, ⟨m, us⟩, a1, a2, c1, c2, by omega, by omega, rfl, HE⟩, by simp only [intOf]; omega⟩
    by_cases hk2 : k = 2
    · subst hk2
      obtain ⟨p1, q1, k1, p2, q2, k2, E, hW⟩ := wt_form (fndT ⟨m, us⟩ qb)
      have P1 := rw30_any ⟨m, us⟩ a2 c2 qb V HE.out.tG HE.out.rt
      rw [hW] at P1
      have P1 := hid P1
      have P2 := fun (W : World) (h : EN w W X G ⟨m, us⟩ a1 a2 c1 c2) => en25_any X ⟨m, us⟩ a1 c1 qb W h.kX h.tX h.rt
      rw [hW] at P2
      have P2 := hid P2
      clear hW
      have hEn : (E != E) = false := by simp
      have hEE : (E == E) = true := by simp
      have kG : BK V G #[.int .i64 m, .slice a2 us.length c2] 24 := HE.out.kG
      have d13 := K13.out.cell
      have l13 := K13.out.lt
      have dG := kG.cell
      have lG := kG.lt
      go_wp2_with (go_at_call 30; refine Hid.out ?_)
      refine hid ?_
      refine P1.out.mono ?_
      rintro e z2 ⟨rfl, hN⟩
      go_upto_region 32 with (fail)
      have hA := bal (bal (Below.refl z2.heap.size z2) (rtC p1 q1 k1)) (rtC p2 q2 k2)
      obtain ⟨k18, k19⟩ := rt_two z2 p1 q1 k1 p2 q2 k2
      have K18 := hid k18
      have K19 := hid k19
      replace HE := hid (HE.out.on (btr hN hA))
      replace K13 := hid (bk_on K13.out (btr hN hA))
      clear hN hA d13 l13 dG lG kG P1 k18 k19 HQ
      generalize (z2.alloc (rtC p1 q1 k1)).alloc (rtC p2 q2 k2) = Z at *
      generalize hb19 : z2.heap.size + 1 = b19 at *
      generalize z2.heap.size = b18 at *
      have P3 := hid (P2.out Z HE.out)
      have d13 := K13.out.cell
      have l13 := K13.out.lt
      clear P2 hb19
      go_wp2_with (go_at_call 25; refine Hid.out ?_)
      refine hid ?_
      refine P3.out.mono ?_
      rintro e z3 ⟨rfl, hN⟩
      go_upto_region 33 with (fail)
      have hA := bal (bal (Below.refl z3.heap.size z3) (rtC p1 q1 k1)) (rtC p2 q2 k2)
      obtain ⟨k21, k22⟩ := rt_two z3 p1 q1 k1 p2 q2 k2
      have k18 := bk_on K18.out (btr hN hA)
      have k19 := bk_on K19.out (btr hN hA)
      replace HE := hid (HE.out.on (btr hN hA))
      clear hN hA d13 l13 P3 K13 K18 K19
      generalize (z3.alloc (rtC p1 q1 k1)).alloc (rtC p2 q2 k2) = Z3 at *
      generalize z3.heap.size + 1 = b22 at *
      generalize z3.heap.size = b21 at *
      have d18 := k18.cell
      have d19 := k19.cell
      have d21 := k21.cell
      have d22 := k22.cell
      clear k18 k19 k21 k22
      go_wp2
      exact ⟨⟨i + 1, ⟨m, us⟩, a1, a2, c1, c2, by omega, by omega, rfl, HE⟩, by simp only [intOf]; omega⟩
    by_cases hk3 : k = 3
    · subst hk3
      have hl1 : us.length ≤ 1000 := HE.out.oX.l
      have P1 := hid (en28_any X ⟨m, us⟩ a1 c1 V HE.out.kX HE.out.tX hl1)
      clear K13 HQ
      go_wp2_with (go_at_call 28; refine Hid.out ?_)
      refine hid ?_
      refine P1.out.mono ?_
      rintro e z2 ⟨v, rfl, hO, hN⟩
      obtain ⟨a3, c3, rfl⟩ := own_shape hO.own
      go_upto_region 37 with (fail)
      have hcap3 : us.length ≤ c3 := (OT.ts' hO).cap
      have hcl3 : c3 ≤ 9223372036854775807 := (OT.ts' hO).l
      have hA := bal (Below.refl z2.heap.size z2) (.cells #[.int .i64 m, .slice a3 us.length c3] 24)
      have K24 := hid (bk_new z2 #[.int .i64 m, .slice a3 us.length c3] 24)
      have O24 := hid (hO.below hA)
      have HN := hid (btr hN hA)
      clear hO hN hA P1
      generalize z2.alloc (.cells #[.int .i64 m, .slice a3 us.length c3] 24) = Z at *
      generalize z2.heap.size = b24 at *
      have kG : BK Z G #[.int .i64 m, .slice a2 us.length c2] 24 := bk_on HE.out.kG HN.out
      have EQ := hid (requal_any ⟨m, us⟩ ⟨m, us⟩ a3 a2 c3 c2 Z (OT.ts' O24.out) (HE.out.tG.below HN.out) true (fun _ => rfl) (fun h => absurd rfl h))
      have dG := kG.cell
      have lG := kG.lt
      have d24 := K24.out.cell
      have l24 := K24.out.lt
      clear kG
      go_wp2_with (go_at_call 20; refine Hid.out ?_)
      refine hid ?_
      refine EQ.out.mono ?_
      rintro e z3 ⟨rfl, hN⟩
      replace HN := hid (btr HN.out hN)
      replace K24 := hid (bk_on K24.out hN)
      replace O24 := hid (O24.out.below hN)
      clear hN EQ dG lG d24 l24
      go_wp2
      go_loopw [25] (fun v25 wx => ∃ (j : Nat) (xs : List Pr), j ≤ us.length ∧ v25 = .int .i64 (j : Nat) ∧ Hid (xs.length = us.length) ∧ Hid (OT wx V.heap.size (.slice a3 us.length c3) xs) ∧ Hid (BK wx b24 #[.int .i64 m, .slice a3 us.length c3] 24) ∧ Hid (Below V.heap.size V wx)) (fun v25 _ => us.length - (intOf v25).toNat)
      case atStart => exact ⟨0, us, Nat.zero_le _, rfl, hid rfl, O24, K24, HN⟩
      case round =>
        clear O24 K24 HN
        obtain ⟨j, xs, hj, rfl, HXL, HO, HK, HN⟩ := hrel
        have d24 := HK.out.cell
        have l24 := HK.out.lt
        by_cases hju : j < us.length
        case neg =>
          replace HE := hid (HE.out.on HN.out)
          go_wp2
          exact ⟨⟨i + 1, ⟨m, us⟩, a1, a2, c1, c2, by omega, by omega, rfl, HE⟩, by simp only [intOf]; omega⟩
        have hjx : j < xs.length := by rw [HXL.out]; exact hju
        obtain ⟨g, cap, e, hnc, _, _, _, _⟩ := own_at HO.out.own (by omega)
        injection e with e1 hle e3
        subst e1
        subst e3
        clear hle hnc
        obtain ⟨hfz, m0, m1, m2', m3, hgB, hgl⟩ := OT.at_ HO.out hjx
        have hne : g ≠ b24 := fun e => own_ne HO.out.own HK.out (by decide) g rfl (by rw [e])
        have hSET := OT.set0 HO.out HXL.out hjx ⟨9, 0, 0, 0⟩ ⟨by decide, by decide⟩
        have HS1 := hid hSET
        have HK1 := hid ((((HK.out.far hne (j * 4) (.int .i64 9)).far hne (j * 4 + 1) (.int .u64 0)).far hne (j * 4 + 2) (.int .u64 0)).far hne (j * 4 + 3) (.int .i64 0))
        have HN1 := hid (bset (bset (bset (bset HN.out g (j * 4) (.int .i64 9) hgB) g (j * 4 + 1) (.int .u64 0) hgB) g (j * 4 + 2) (.int .u64 0) hgB) g (j * 4 + 3) (.int .i64 0) hgB)
        clear hSET HO HK HN
        go_wp2
        exact ⟨⟨j + 1, xs.set j ⟨9, 0, 0, 0⟩, by omega, rfl, hid (by rw [List.length_set]; exact HXL.out), HS1, HK1, HN1⟩, by simp only [intOf]; omega⟩
    have g0 : (k == 0) = false := beq_eq_false_iff_ne.2 hk0
    have g1 : (k == 1) = false := beq_eq_false_iff_ne.2 hk1
    have g2 : (k == 2) = false := beq_eq_false_iff_ne.2 hk2
    have g3 : (k == 3) = false := beq_eq_false_iff_ne.2 hk3
    go_wp2
    exact ⟨⟨i + 1, ⟨m, us⟩, a1, a2, c1, c2, by omega, by omega, rfl, HE⟩, by simp only [intOf]; omega⟩
end Go.Proofs.Ytoddbaljnlhhaaa
