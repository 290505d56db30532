/-
  CircuitLayers: the loop over those ahead in the layer.
-/
import Derived.Test.YtfaoegiignalkaaL2
namespace Go.Proofs.Ytfaoegiignalkaa
open Go.RowKit Go.Shelf
attribute [local go_sem] Oper.semAt_some

section
variable {w V : World} {q b : Int} {os : List Oq} {a : Option Addr} {cp : Nat} {A : Nat → Option Addr} {C : Nat → Nat} {ls : List (List Nat)} {vs2 : List Value} {B : Nat} {a2 : Option Addr} {c2 : Nat}
set_option maxHeartbeats 8000000 in
set_option maxRecDepth 100000 in
theorem loopD {t0 t1 t3 t4 t5 t6 t7 t8 t9 t10 t14 t15 t16 t17 t18 t19 t20 t21 t22 t23 t24 t25 t26 t27 t28 t29 t30 t31 t32 t33 t34 t35 t36 t37 t38 t39 t40 t41 t42 t43 t44 t45 t46 t47 t48 t49 t50 t51 t52 t53 t54 t55 t56 t57 t58 t59 t60 t61 t62 t63 t64 t65 t66 t67 t68 t69 t70 t71 t72 t73 t74 t75 t76 t77 t78 t79 t80 t81 t82 t83 t84 t85 t86 t87 t88 t89 t90 t91 t92 t93 t94 t95 t96 t97 t98 t99 t100 t101 t102 t103 t104 t105 t106 t107 t108 t109 t110 t111 t112 t113 t114 t115 t116 t117 t118 t119 t120 t121 t122 t123 t124 t125 t126 t127 t128 t129 t130 t131 t132 t133 t134 t135 t136 t137 t138 t139 t140 t141 t142 t143 t144 t145 t146 t147 t148 t149 t150 t151 t152 t153 t154 t155 t156 t157 t158 t159 t160 t161 t162 t163 t164 t165 t166 t167 t168 t169 t170 t171 t172 t173 t174 t175 t176 t177 t178 t179 t180 t181 t182 t183 t184 t185 t186 t187 t188 t189 t190 t191 t192 t193 t194 t195 t196 t197 t198 t199 t200 t201 t202 t203 t204 t205 t206 t207 t208 t209 t210 t211 t212 t213 t214 t215 t216 t217 t218 t219 t220 t221 t222 t223 t224 t225 t226 t227 t228 t229 t230 t231 t232 t233 t234 t235 t236 t237 t238 t239 t240 t241 t242 t243 t244 t245 : Value} {Q : Exit → Act → World → Prop} {W : World} (hc : CX w V q b os a cp A C ls vs2 B a2 c2) {k n0 gl cL : Nat} {F : Nat → Bool} {v : Value} {od lf : List Nat} (hk : k < lf.length) (hl3 : lf.length ≤ 300) (hnl : n0 < os.length) (hlf : ∀ j, j < k → ∃ hj2 : j < lf.length, lf[j] < os.length ∧ bdB (os.getD lf[j] noOq) (os.getD n0 noOq) = false) (hW : LW2 V W V.heap.size os.length F v od) (hLr : W.ownsRow (V.heap.size + 1) 3 1 (.slice (some ⟨gl, 0, none⟩) lf.length cL) lf.length (il lf))
    (hQ : ∀ (s4 s17 s139 s140 s141 s142 s143 s144 s145 s146 s147 s148 s149 s150 s151 s152 s153 s154 s155 s156 s157 : Value) (W : World), LW2 V W V.heap.size os.length F v od → W.ownsRow (V.heap.size + 1) 3 1 (.slice (some ⟨gl, 0, none⟩) lf.length cL) lf.length (il lf) → Q .normal ⟨#[t0, t1, .pointer (some ⟨w.heap.size, 0, none⟩), t3, s4, t5, t6, t7, t8, t9, t10, .slice (some ⟨gl, 0, none⟩) lf.length cL, .int .i64 (k : Nat), .int .i64 (n0 : Nat), t14, t15, t16, s17, t18, t19, t20, t21, t22, t23, t24, t25, t26, t27, t28, t29, t30, t31, t32, t33, t34, t35, t36, t37, t38, t39, t40, t41, t42, t43, t44, t45, t46, t47, t48, t49, t50, t51, t52, t53, t54, t55, t56, t57, t58, t59, t60, t61, t62, t63, t64, t65, t66, t67, t68, t69, t70, t71, t72, t73, t74, t75, t76, t77, t78, t79, t80, t81, t82, t83, t84, t85, t86, t87, t88, t89, t90, t91, t92, t93, t94, t95, t96, t97, t98, t99, t100, t101, t102, t103, t104, t105, t106, t107, t108, t109, t110, t111, t112, t113, t114, t115, t116, t117, t118, t119, t120, t121, t122, t123, t124, t125, t126, t127, t128, t129, t130, t131, t132, t133, t134, t135, t136, t137, t138, s139, s140, s141, s142, s143, s144, s145, s146, s147, s148, s149, s150, s151, s152, s153, s154, s155, s156, s157, t158, t159, t160, t161, t162, t163, t164, t165, t166, t167, t168, t169, t170, t171, t172, t173, t174, t175, t176, t177, t178, t179, t180, t181, t182, t183, t184, t185, t186, t187, t188, t189, t190, t191, t192, t193, t194, t195, t196, t197, t198, t199, t200, t201, t202, t203, t204, t205, t206, t207, t208, t209, t210, t211, t212, t213, t214, t215, t216, t217, t218, t219, t220, t221, t222, t223, t224, t225, t226, t227, t228, t229, t230, t231, t232, t233, t234, t235, t236, t237, t238, t239, t240, t241, t242, t243, t244, t245], []⟩ W) :
    (sl (sr (sr (sr (sr (sr (bk (sl (sr (lp (bk (sr (sl (sr (bk (sl (sr (lp (bk (sr (sl (sr (sr (sr (sr (sr (sr (sr (sr (Try.f7.body.getD .skip)))))))))))))))))))))))))))))).wp Try.prog Q ⟨#[t0, t1, .pointer (some ⟨w.heap.size, 0, none⟩), t3, t4, t5, t6, t7, t8, t9, t10, .slice (some ⟨gl, 0, none⟩) lf.length cL, .int .i64 (k : Nat), .int .i64 (n0 : Nat), t14, t15, t16, t17, t18, t19, t20, t21, t22, t23, t24, t25, t26, t27, t28, t29, t30, t31, t32, t33, t34, t35, t36, t37, t38, t39, t40, t41, t42, t43, t44, t45, t46, t47, t48, t49, t50, t51, t52, t53, t54, t55, t56, t57, t58, t59, t60, t61, t62, t63, t64, t65, t66, t67, t68, t69, t70, t71, t72, t73, t74, t75, t76, t77, t78, t79, t80, t81, t82, t83, t84, t85, t86, t87, t88, t89, t90, t91, t92, t93, t94, t95, t96, t97, t98, t99, t100, t101, t102, t103, t104, t105, t106, t107, t108, t109, t110, t111, t112, t113, t114, t115, t116, t117, t118, t119, t120, t121, t122, t123, t124, t125, t126, t127, t128, t129, t130, t131, t132, t133, t134, t135, t136, t137, t138, t139, t140, t141, t142, t143, t144, t145, t146, t147, t148, t149, t150, t151, t152, t153, t154, t155, t156, t157, t158, t159, t160, t161, t162, t163, t164, t165, t166, t167, t168, t169, t170, t171, t172, t173, t174, t175, t176, t177, t178, t179, t180, t181, t182, t183, t184, t185, t186, t187, t188, t189, t190, t191, t192, t193, t194, t195, t196, t197, t198, t199, t200, t201, t202, t203, t204, t205, t206, t207, t208, t209, t210, t211, t212, t213, t214, t215, t216, t217, t218, t219, t220, t221, t222, t223, t224, t225, t226, t227, t228, t229, t230, t231, t232, t233, t234, t235, t236, t237, t238, t239, t240, t241, t242, t243, t244, t245], []⟩ W := by
  have HC := hid hc
  have HQ0 := hid hQ
  have HLF := hid hlf
  have hcapH := hc.ov.cap
  have hlen := hc.len
  have HW0 := hid hW
  have HL0 := hid hLr
  obtain ⟨aL, cL', eL, hcL⟩ := own_cap hLr
  cases eL
  clear hQ hW hLr hlf
  conv => arg 2; whnf
  go_wp2
  go_loopw [17] (fun v17 wr => ∃ j : Nat, j ≤ k ∧ v17 = .int .i64 (j : Nat) ∧ LW2 V wr V.heap.size os.length F v od ∧ wr.ownsRow (V.heap.size + 1) 3 1 (.slice (some ⟨gl, 0, none⟩) lf.length cL) lf.length (il lf)) (fun v17 _ => k - (intOf v17).toNat)
  case atStart => exact ⟨0, Nat.zero_le _, rfl, HW0.out, HL0.out⟩
  case round =>
    clear HW0 HL0
    obtain ⟨j, hj, rfl, hW, hLr⟩ := hrel
    have HW := hid hW
    have HLR := hid hLr
    by_cases hltj : j < k
    case neg =>
      obtain rfl : j = k := by omega
      clear hW hLr
      go_wp2
      exact HQ0.out _ _ _ _ _ _ _ _ _ _ _ _ _ _ _ _ _ _ _ _ _ _ HW.out HLR.out
    obtain ⟨hj2, hml, hbf⟩ := HLF.out j hltj
    obtain ⟨gl', cap', e', _, _, hcell, hgB', hgl⟩ := own_at hLr (by omega)
    cases e'
    have kV : BK wr w.heap.size _ 24 := (hW.below.block _ HC.out.kv.lt).trans HC.out.kv
    have cj : wr.cell? ⟨gl, j, none⟩ = some (.int .i64 ((lf[j]'hj2 : Nat) : Int)) := by
      rw [hcell j (by simp [il]; exact hj2)]
      simp [il]
    have hb2 : bdB (os[lf[j]'hj2]'hml) os[n0] = false := by
      rw [List.getD_eq_getElem?_getD, List.getElem?_eq_getElem hml, List.getD_eq_getElem?_getD, List.getElem?_eq_getElem hnl] at hbf
      exact hbf
    generalize lf[j]'hj2 = m at *
    obtain ⟨b', o', e5, r5⟩ := (HC.out.ov.below hW.below).at_ m hml
    subst e5
    have HSS : Hid (SS wr wr w.heap.size gl j m (some ⟨b', o', none⟩) cp os.length b' (o' + m * 7) (o' + n0 * 7) os[m] os[n0] (A m) (A n0) (C m) (C n0)) :=
      ⟨Below.refl _ _, cj, kV.cell 2, ⟨r5.c0 m hml, r5.c1 m hml, r5.c2 m hml, r5.c3 m hml, r5.c4 m hml, r5.c5 m hml, r5.c6 m hml⟩, ⟨r5.c0 n0 hnl, r5.c1 n0 hnl, r5.c2 n0 hnl, r5.c3 n0 hnl, r5.c4 n0 hnl, r5.c5 n0 hnl, r5.c6 n0 hnl⟩, hgl, kV.lt, r5.lt⟩
    have HQ1 := hid ((HC.out.ov.below hW.below).qs m hml)
    have HQ2 := hid ((HC.out.ov.below hW.below).qs n0 hnl)
    have ok1 := HC.out.ok m hml
    have ok2 := HC.out.ok n0 hnl
    have BD := fun w1 (g1 : QS w1 (A m) (C m) (os[m]'hml).qs) (g2 : QS w1 (A n0) (C n0) (os[n0]'hnl).qs) => bound_any (os[m]'hml) (os[n0]'hnl) (A m) (A n0) (C m) (C n0) w1 ok1 ok2 g1 g2
    rw [hb2] at BD
    have hbl5 := r5.lt
    have l1 := kV.lt
    clear r5 hcell hW hLr kV hgB' cj ok1 ok2 hb2 hbf HQ0
    generalize os[m] = p1 at *
    generalize os[n0] = p2 at *
    generalize A m = ak1 at *
    generalize A n0 = ak2 at *
    generalize C m = ck1 at *
    generalize C n0 = ck2 at *
    go_upto_region 31 with (fail)
    refine wp_region_noPanic ?_
    refine wp_region_held_drew (S := fun w' => SS wr w' w.heap.size gl j m (some ⟨b', o', none⟩) cp os.length b' (o' + m * 7) (o' + n0 * 7) p1 p2 ak1 ak2 ck1 ck2) (by kernel_rfl) (by exact ss_keep HSS.out (below_drew (Below.refl _ _))) (fun hHeld => ?_)
    refine wpAnyH_take (i := 0) (oi := { dst := some 144, op := Op.fieldAddr 24 (Operand.tmp 2) 2, type := 0, pos := "law.go:145", after := #[], guard := none }) (v := ?_) rfl (by kernel_rfl) (by kernel_rfl) (by kernel_rfl) (fun _ _ _ h => h) (Or.inl ⟨by rfl, ?_⟩) (by assumption) ?_
    rotate_left
    (intro w0 hSw; (try dsimp only at hSw); go_simp; try (with_reducible rfl))
    (try simp only [Act.put, List.setIfInBounds_toArray, List.set_cons_zero, List.set_cons_succ])
    refine wpAnyH_take (i := 1) (oi := { dst := some 145, op := Op.load 22 (Operand.tmp 144), type := 22, pos := "law.go:145", after := #[{ on := 0, ground := Ground.data }], guard := none }) (v := ?_) rfl (by kernel_rfl) (by kernel_rfl) (by kernel_rfl) (fun _ _ _ h => h) (Or.inl ⟨by rfl, ?_⟩) (by assumption) ?_
    rotate_left
    (intro w0 hSw; (try dsimp only at hSw); go_simp; try (with_reducible rfl))
    (try simp only [Act.put, List.setIfInBounds_toArray, List.set_cons_zero, List.set_cons_succ])
    refine wpAnyH_take (i := 2) (oi := { dst := some 146, op := Op.move (Operand.tmp 11), type := 43, pos := "law.go:145", after := #[], guard := none }) (v := ?_) rfl (by kernel_rfl) (by kernel_rfl) (by kernel_rfl) (fun _ _ _ h => h) (Or.inl ⟨by rfl, ?_⟩) (by assumption) ?_
    rotate_left
    (intro w0 hSw; (try dsimp only at hSw); go_simp; try (with_reducible rfl))
    (try simp only [Act.put, List.setIfInBounds_toArray, List.set_cons_zero, List.set_cons_succ])
    refine wpAnyH_take (i := 3) (oi := { dst := some 147, op := Op.move (Operand.tmp 17), type := 3, pos := "law.go:145", after := #[], guard := none }) (v := ?_) rfl (by kernel_rfl) (by kernel_rfl) (by kernel_rfl) (fun _ _ _ h => h) (Or.inl ⟨by rfl, ?_⟩) (by assumption) ?_
    rotate_left
    (intro w0 hSw; (try dsimp only at hSw); go_simp; try (with_reducible rfl))
    (try simp only [Act.put, List.setIfInBounds_toArray, List.set_cons_zero, List.set_cons_succ])
    refine wpAnyH_take (i := 4) (oi := { dst := some 148, op := Op.indexAddr 43 (Operand.tmp 146) (Operand.tmp 147), type := 0, pos := "law.go:145", after := #[{ on := 2, ground := Ground.data }, { on := 3, ground := Ground.data }], guard := none }) (v := ?_) rfl (by kernel_rfl) (by kernel_rfl) (by kernel_rfl) (fun _ _ _ h => h) (Or.inl ⟨by rfl, ?_⟩) (by assumption) ?_
    rotate_left
    (intro w0 hSw; (try dsimp only at hSw); go_simp; try (with_reducible rfl))
    (try simp only [Act.put, List.setIfInBounds_toArray, List.set_cons_zero, List.set_cons_succ])
    refine wpAnyH_take (i := 5) (oi := { dst := some 149, op := Op.load 3 (Operand.tmp 148), type := 3, pos := "law.go:145", after := #[{ on := 4, ground := Ground.data }], guard := none }) (v := ?_) rfl (by kernel_rfl) (by kernel_rfl) (by kernel_rfl) (fun _ _ _ h => h) (Or.inl ⟨by rfl, ?_⟩) (by assumption) ?_
    rotate_left
    (intro w0 hSw; (try dsimp only at hSw); go_simp; try (with_reducible rfl))
    (try simp only [Act.put, List.setIfInBounds_toArray, List.set_cons_zero, List.set_cons_succ])
    refine wpAnyH_take (i := 6) (oi := { dst := some 150, op := Op.indexAddr 22 (Operand.tmp 145) (Operand.tmp 149), type := 0, pos := "law.go:145", after := #[{ on := 1, ground := Ground.data }, { on := 5, ground := Ground.data }], guard := none }) (v := ?_) rfl (by kernel_rfl) (by kernel_rfl) (by kernel_rfl) (fun _ _ _ h => h) (Or.inl ⟨by rfl, ?_⟩) (by assumption) ?_
    rotate_left
    (intro w0 hSw; (try dsimp only at hSw); go_simp; try (with_reducible rfl))
    (try simp only [Act.put, List.setIfInBounds_toArray, List.set_cons_zero, List.set_cons_succ])
    refine wpAnyH_take (i := 7) (oi := { dst := some 151, op := Op.load 57 (Operand.tmp 150), type := 57, pos := "law.go:145", after := #[{ on := 6, ground := Ground.data }], guard := none }) (v := ?_) rfl (by kernel_rfl) (by kernel_rfl) (by kernel_rfl) (fun _ _ _ h => h) (Or.inl ⟨by rfl, ?_⟩) (by assumption) ?_
    rotate_left
    (intro w0 hSw; (try dsimp only at hSw); go_simp; try (with_reducible rfl))
    (try simp only [Act.put, List.setIfInBounds_toArray, List.set_cons_zero, List.set_cons_succ])
    refine wpAnyH_take (i := 8) (oi := { dst := some 152, op := Op.fieldAddr 24 (Operand.tmp 2) 2, type := 0, pos := "law.go:145", after := #[], guard := none }) (v := ?_) rfl (by kernel_rfl) (by kernel_rfl) (by kernel_rfl) (fun _ _ _ h => h) (Or.inl ⟨by rfl, ?_⟩) (by assumption) ?_
    rotate_left
    (intro w0 hSw; (try dsimp only at hSw); go_simp; try (with_reducible rfl))
    (try simp only [Act.put, List.setIfInBounds_toArray, List.set_cons_zero, List.set_cons_succ])
    refine wpAnyH_take (i := 9) (oi := { dst := some 153, op := Op.load 22 (Operand.tmp 152), type := 22, pos := "law.go:145", after := #[{ on := 8, ground := Ground.data }], guard := none }) (v := ?_) rfl (by kernel_rfl) (by kernel_rfl) (by kernel_rfl) (fun _ _ _ h => h) (Or.inl ⟨by rfl, ?_⟩) (by assumption) ?_
    rotate_left
    (intro w0 hSw; (try dsimp only at hSw); go_simp; try (with_reducible rfl))
    (try simp only [Act.put, List.setIfInBounds_toArray, List.set_cons_zero, List.set_cons_succ])
    refine wpAnyH_take (i := 10) (oi := { dst := some 154, op := Op.move (Operand.tmp 13), type := 3, pos := "law.go:145", after := #[], guard := none }) (v := ?_) rfl (by kernel_rfl) (by kernel_rfl) (by kernel_rfl) (fun _ _ _ h => h) (Or.inl ⟨by rfl, ?_⟩) (by assumption) ?_
    rotate_left
    (intro w0 hSw; (try dsimp only at hSw); go_simp; try (with_reducible rfl))
    (try simp only [Act.put, List.setIfInBounds_toArray, List.set_cons_zero, List.set_cons_succ])
    refine wpAnyH_take (i := 11) (oi := { dst := some 155, op := Op.indexAddr 22 (Operand.tmp 153) (Operand.tmp 154), type := 0, pos := "law.go:145", after := #[{ on := 9, ground := Ground.data }, { on := 10, ground := Ground.data }], guard := none }) (v := ?_) rfl (by kernel_rfl) (by kernel_rfl) (by kernel_rfl) (fun _ _ _ h => h) (Or.inl ⟨by rfl, ?_⟩) (by assumption) ?_
    rotate_left
    (intro w0 hSw; (try dsimp only at hSw); go_simp; try (with_reducible rfl))
    (try simp only [Act.put, List.setIfInBounds_toArray, List.set_cons_zero, List.set_cons_succ])
    refine wpAnyH_take (i := 12) (oi := { dst := some 156, op := Op.load 57 (Operand.tmp 155), type := 57, pos := "law.go:145", after := #[{ on := 11, ground := Ground.data }], guard := none }) (v := ?_) rfl (by kernel_rfl) (by kernel_rfl) (by kernel_rfl) (fun _ _ _ h => h) (Or.inl ⟨by rfl, ?_⟩) (by assumption) ?_
    rotate_left
    (intro w0 hSw; (try dsimp only at hSw); go_simp; try (with_reducible rfl))
    (try simp only [Act.put, List.setIfInBounds_toArray, List.set_cons_zero, List.set_cons_succ])
    refine wpAnyH_ready (rs := [13]) (by kernel_rfl) (by simp) (AllReadyH.cons (o := { dst := some 157, op := Op.call { callee := Callee.value (Operand.func 28), args := #[Operand.tmp 151, Operand.tmp 156], argTypes := #[57, 57] }, type := 4, pos := "law.go:145", after := #[{ on := 7, ground := Ground.data }, { on := 12, ground := Ground.data }], guard := none }) rfl (fun K hK => ?_) AllReadyH.nil)
    go_simp
    ((with_reducible refine (BD _ (HQ1.out.below hHeld.1) (HQ2.out.below hHeld.1)).mono ?_); rintro e w3 ⟨rfl, hB3⟩; have hL : Below wr.heap.size wr w3 := btr hHeld.1 hB3; clear hHeld)
    refine hK.out _ _ (by exact ss_keep HSS.out hL) (fun hHeld => ?_)
    clear hK K
    (try simp only [Act.put, List.setIfInBounds_toArray, List.set_cons_zero, List.set_cons_succ])
    refine wpAnyH_done (by kernel_rfl) ?_ _
    refine NoPanic.normal ?_
    have HW3 := hid (HW.out.on hL)
    have HL3 := hid (own_below HLR.out hL)
    clear hHeld HSS BD
    go_wp2
    go_roundw
    case rel => exact ⟨j + 1, by omega, by go_num, HW3.out, HL3.out⟩
    case measure => simp [intOf]; omega
end
end Go.Proofs.Ytfaoegiignalkaa
