/-
  CircuitLayers: a layer taken to pieces.
-/
import Derived.Test.YtfaoegiignalkaaL6
namespace Go.Proofs.Ytfaoegiignalkaa
open Go.RowKit Go.Shelf
attribute [local go_sem] Oper.semAt_some

theorem erase_perm (l : List Nat) (k : Nat) (h : k < l.length) : (l[k] :: l.eraseIdx k).Perm l := by
  rw [List.eraseIdx_eq_take_drop_succ]
  refine List.Perm.trans List.perm_middle.symm ?_
  rw [← List.drop_eq_getElem_cons h, List.take_append_drop]
section
variable {w V : World} {q b : Int} {os : List Oq} {a : Option Addr} {cp : Nat} {A : Nat → Option Addr} {C : Nat → Nat} {ls : List (List Nat)} {vs2 : List Value} {B : Nat} {a2 : Option Addr} {c2 : Nat}
set_option maxHeartbeats 8000000 in
set_option maxRecDepth 100000 in
theorem loopE {t0 t2 t3 t4 t5 t6 t7 t10 t12 t13 t14 t15 t16 t17 t18 t19 t20 t21 t22 t23 t24 t25 t26 t27 t28 t29 t30 t31 t32 t33 t34 t35 t36 t37 t38 t39 t40 t41 t42 t43 t44 t45 t46 t47 t48 t49 t50 t51 t52 t53 t54 t55 t56 t57 t58 t59 t60 t61 t62 t63 t64 t65 t66 t67 t68 t69 t70 t71 t72 t73 t74 t75 t76 t77 t78 t79 t80 t81 t82 t83 t84 t85 t86 t87 t88 t89 t90 t91 t92 t93 t94 t95 t96 t97 t98 t99 t100 t101 t102 t103 t104 t105 t106 t107 t108 t109 t110 t111 t112 t113 t114 t115 t116 t117 t118 t119 t120 t121 t122 t123 t124 t125 t126 t127 t128 t129 t130 t131 t132 t133 t134 t135 t136 t137 t138 t139 t140 t141 t142 t143 t144 t145 t146 t147 t148 t149 t150 t151 t152 t153 t154 t155 t156 t157 t158 t159 t160 t161 t162 t163 t164 t165 t166 t167 t168 t169 t170 t171 t172 t173 t174 t175 t176 t177 t178 t179 t180 t181 t182 t183 t184 t185 t186 t187 t188 t189 t190 t191 t192 t193 t194 t195 t196 t197 t198 t199 t200 t201 t202 t203 t204 t205 t206 t207 t208 t209 t210 t211 t212 t213 t214 t215 t216 t217 t218 t219 t220 t221 t222 t223 t224 t225 t226 t227 t228 t229 t230 t231 t232 t233 t234 t235 t236 t237 t238 t239 t240 t241 t242 t243 t244 t245 : Value} {Q : Exit → Act → World → Prop} {W : World} {l : List Int} {al : Option Addr} {cl : Nat} (hq : QS V al cl l) (hlm : l.length ≤ 9223372036854775807) (hpr : ∀ x ∈ l, -9223372036854775808 ≤ x ∧ x ≤ 9223372036854775807) {aL : Option Addr} {cL t : Nat} {F : Nat → Bool} {v : Value} {od lf : List Nat} (ht : t ≤ od.length) (hod : od.length + lf.length ≤ 300) (hW : LW2 V W V.heap.size os.length F v od) (hLr : W.ownsRow (V.heap.size + 1) 3 1 (.slice aL lf.length cL) lf.length (il lf))
    (hne : ∀ g, (Value.slice aL lf.length cL).ownBlock = some g → v.ownBlock ≠ some g)
    (hQ : ∀ (s11 s18 s160 s161 s162 s163 s164 s165 s166 s167 s168 s169 s170 s171 s172 s173 s174 s175 s176 s177 s178 s179 s180 s181 s182 s183 s184 s185 s186 s187 s188 s189 s190 s191 s192 s193 s194 s195 s196 s197 s198 : Value) (v' : Value) (t' : Nat) (e o2 : List Nat) (W : World), o2 = od ++ e → e.Perm lf → t' ≤ o2.length → LW2 V W V.heap.size os.length F v' o2 → Q .normal ⟨#[t0, .slice al l.length cl, t2, t3, t4, t5, t6, t7, v', .int .i64 (t' : Nat), t10, s11, t12, t13, t14, t15, t16, t17, s18, t19, t20, t21, t22, t23, t24, t25, t26, t27, t28, t29, t30, t31, t32, t33, t34, t35, t36, t37, t38, t39, t40, t41, t42, t43, t44, t45, t46, t47, t48, t49, t50, t51, t52, t53, t54, t55, t56, t57, t58, t59, t60, t61, t62, t63, t64, t65, t66, t67, t68, t69, t70, t71, t72, t73, t74, t75, t76, t77, t78, t79, t80, t81, t82, t83, t84, t85, t86, t87, t88, t89, t90, t91, t92, t93, t94, t95, t96, t97, t98, t99, t100, t101, t102, t103, t104, t105, t106, t107, t108, t109, t110, t111, t112, t113, t114, t115, t116, t117, t118, t119, t120, t121, t122, t123, t124, t125, t126, t127, t128, t129, t130, t131, t132, t133, t134, t135, t136, t137, t138, t139, t140, t141, t142, t143, t144, t145, t146, t147, t148, t149, t150, t151, t152, t153, t154, t155, t156, t157, t158, t159, s160, s161, s162, s163, s164, s165, s166, s167, s168, s169, s170, s171, s172, s173, s174, s175, s176, s177, s178, s179, s180, s181, s182, s183, s184, s185, s186, s187, s188, s189, s190, s191, s192, s193, s194, s195, s196, s197, s198, t199, t200, t201, t202, t203, t204, t205, t206, t207, t208, t209, t210, t211, t212, t213, t214, t215, t216, t217, t218, t219, t220, t221, t222, t223, t224, t225, t226, t227, t228, t229, t230, t231, t232, t233, t234, t235, t236, t237, t238, t239, t240, t241, t242, t243, t244, t245], []⟩ W) :
    (sr (sr (bk (sl (sr (lp (bk (sr (sl (sr (sr (sr (sr (sr (sr (sr (sr (Try.f7.body.getD .skip)))))))))))))))))).wp Try.prog Q ⟨#[t0, .slice al l.length cl, t2, t3, t4, t5, t6, t7, v, .int .i64 (t : Nat), t10, .slice aL lf.length cL, t12, t13, t14, t15, t16, t17, t18, t19, t20, t21, t22, t23, t24, t25, t26, t27, t28, t29, t30, t31, t32, t33, t34, t35, t36, t37, t38, t39, t40, t41, t42, t43, t44, t45, t46, t47, t48, t49, t50, t51, t52, t53, t54, t55, t56, t57, t58, t59, t60, t61, t62, t63, t64, t65, t66, t67, t68, t69, t70, t71, t72, t73, t74, t75, t76, t77, t78, t79, t80, t81, t82, t83, t84, t85, t86, t87, t88, t89, t90, t91, t92, t93, t94, t95, t96, t97, t98, t99, t100, t101, t102, t103, t104, t105, t106, t107, t108, t109, t110, t111, t112, t113, t114, t115, t116, t117, t118, t119, t120, t121, t122, t123, t124, t125, t126, t127, t128, t129, t130, t131, t132, t133, t134, t135, t136, t137, t138, t139, t140, t141, t142, t143, t144, t145, t146, t147, t148, t149, t150, t151, t152, t153, t154, t155, t156, t157, t158, t159, t160, t161, t162, t163, t164, t165, t166, t167, t168, t169, t170, t171, t172, t173, t174, t175, t176, t177, t178, t179, t180, t181, t182, t183, t184, t185, t186, t187, t188, t189, t190, t191, t192, t193, t194, t195, t196, t197, t198, t199, t200, t201, t202, t203, t204, t205, t206, t207, t208, t209, t210, t211, t212, t213, t214, t215, t216, t217, t218, t219, t220, t221, t222, t223, t224, t225, t226, t227, t228, t229, t230, t231, t232, t233, t234, t235, t236, t237, t238, t239, t240, t241, t242, t243, t244, t245], []⟩ W := by
  obtain ⟨i3, hi3, hz3, hs3, hb3⟩ := info_parts Try.info3
  have HI3 : Hid (Try.prog.info? 3 = some i3 ∧ i3.zero = some (.int .i64 0) ∧ i3.size = 1 ∧ i3.bytes = 8) := ⟨hi3, hz3, hs3, hb3⟩
  clear hi3 hz3 hs3 hb3
  have HQ0 := hid hQ
  have HPR := hid hpr
  have HQL := hid hq
  have hqc := hq.cap
  obtain ⟨av, cv, ev, hvc⟩ := own_cap hW.row
  subst ev
  have HW0 := hid hW
  have HL0 := hid hLr
  have HNE0 := hid hne
  clear hQ hW hLr hne hpr hq
  conv => arg 2; whnf
  go_wp2
  go_loopw [8, 9, 11] (fun v8 v9 v11 wr => ∃ (e lf' o2 : List Nat) (t' : Nat), v9 = .int .i64 (t' : Nat) ∧ t' ≤ o2.length ∧ LW2 V wr V.heap.size os.length F v8 o2 ∧ Hid (o2 = od ++ e) ∧ wr.ownsRow (V.heap.size + 1) 3 1 v11 lf'.length (il lf') ∧ Hid ((e ++ lf').Perm lf) ∧ Hid (∀ g, v11.ownBlock = some g → v8.ownBlock ≠ some g)) (fun _ _ v11 _ => slN v11)
  case atStart => exact ⟨[], lf, od, t, rfl, ht, HW0.out, (List.append_nil od).symm, HL0.out, List.Perm.refl _, HNE0.out⟩
  case round =>
    clear HW0 HL0 HNE0
    obtain ⟨e, lf', o2, t', rfl, ht', hW, hO2, hLr, hPM, hNE⟩ := hrel
    obtain ⟨a8, c8, rfl, hc8⟩ := own_cap hW.row
    obtain ⟨a9, c9, rfl, hc9⟩ := own_cap hLr
    have HW := hid hW
    have HLR := hid hLr
    have hsz : o2.length + lf'.length ≤ 300 := by
      have := hPM.out.length_eq
      rw [List.length_append] at this
      rw [hO2.out, List.length_append]
      omega
    by_cases h0 : lf'.length = 0
    · have h1 : ¬ ((0 : Int) < (lf'.length : Int)) := by omega
      have hnil : lf' = [] := List.length_eq_zero_iff.1 h0
      have HPE : Hid (e.Perm lf) := by have := hPM.out; rw [hnil, List.append_nil] at this; exact this
      clear hW hLr h0 hnil
      go_wp2
      exact HQ0.out _ _ _ _ _ _ _ _ _ _ _ _ _ _ _ _ _ _ _ _ _ _ _ _ _ _ _ _ _ _ _ _ _ _ _ _ _ _ _ _ _ _ _ _ _ _ hO2.out HPE.out ht' HW.out
    have h1 : (0 : Int) < (lf'.length : Int) := by omega
    obtain ⟨gl, cap', eg, hcc, hfz, hcell, hgB, hgl⟩ := own_at hLr (by omega)
    cases eg
    have HHC : Hid (∀ j (hj : j < lf'.length), wr.cell? ⟨gl, j, none⟩ = some (.int .i64 (lf'[j] : Nat))) := fun j hj => by
      rw [hcell j (by simp [il]; exact hj)]
      simp [il]
    clear hcell hW hLr HQ0
    by_cases hl0 : l.length = 0
    · have hl1 : ¬ ((0 : Int) < (l.length : Int)) := by omega
      clear hl0
      have c0 := HHC.out 0 (by omega)
      go_wp2_with (at_builtin; refine Hid.out ?_)
      refine hid ?_
      refine wpList_append_own_at _ rfl _ _ 43 rfl (V.heap.size + 1) 3 i3 (.int .i64 0) 1 8 Try.underlying43 HI3.out.1 HI3.out.2.1 HI3.out.2.2.1 HI3.out.2.2.2 rfl (by decide) _ o2.length (il o2) rfl (own_below HW.out.row (bal (Below.refl _ _) _)) ⟨_, 0, none⟩ 1 1 [.int .i64 ((lf'[0] : Nat) : Int)] rfl rfl (new_one _ _ (by simp) _ 3) (one_one _ rfl) (by unfold maxLen; omega) (by omega) (by have := HW.out.seen.lt; simp; omega) ?_
      intro v8 w8 hown8 hgrow8 _ hloc8
      have hW1 := HW.out.on (bal (Below.refl _ wr) (.cells #[.int .i64 ((lf'[0] : Nat) : Int)] 3))
      have hW8 : LW2 V w8 V.heap.size os.length F v8 (o2 ++ [lf'[0]]) := by
        obtain ⟨cs, hcs, _⟩ := hW1.seen
        refine ⟨hW1.below.grown hgrow8 hW1.below.size (fun g e => by have := (hW1.row.lt g e).1; omega), hW1.seen.of_block (hgrow8.block _ hW1.seen.lt (fun e => by have := (hW1.row.lt _ e.symm).1; omega)), ?_⟩
        rw [il_snoc, List.length_append]
        exact hown8
      have hL8 : w8.ownsRow (V.heap.size + 1) 3 1 (.slice (some ⟨gl, 0, none⟩) lf'.length c9) lf'.length (il lf') := own_kept (own_below HLR.out (bal (Below.refl _ _) _)) hgrow8 (fun g hg e2 => hNE.out g hg e2.symm)
      have hne8 : v8.ownBlock ≠ some gl := by
        rcases hloc8 with h | h
        · rw [h]; exact hNE.out gl rfl
        · rw [h]; intro e2; have e3 := Option.some.inj e2; simp at e3; omega
      obtain ⟨a10, c10, rfl⟩ := own_shape hown8
      have HW8 := hid hW8
      have HL8 := hid hL8
      have HNE8 := hid hne8
      clear hW1 hW8 hL8 hne8 hown8 hgrow8 hloc8
      have hw1 : IntKind.i64.wrap 1 = 1 := by decide
      have hw2 : (1 : Int) ≤ (lf'.length : Int) := by omega
      by_cases hcap : c9 = 1
      · subst hcap
        have hx8 : lf'.length - (0 + 1) + 0 = lf'.length - 1 := by omega
        obtain ⟨gz, cz, ez, _, hfz8, hcell8, _, hgl8⟩ := own_at HL8.out (by omega)
        cases ez
        have HCN : Hid (∀ (ad : Addr), (ad = ⟨gl, 0 + 1, none⟩ ∨ lf'.length = 0 + 1) → ∀ j u, (il (lf'.drop (0 + 1)))[j]? = some u → w8.drew.cell? (ad.add j) = some u) := fun ad had j u hu => by
          obtain ⟨hj, eu⟩ := List.getElem?_eq_some_iff.1 hu
          have hj2 : j < lf'.length - (0 + 1) := by simpa [il] using hj
          rcases had with rfl | had
          · rw [WideShapes.add_plain]
            show w8.cell? _ = _
            rw [hcell8 (0 + 1 + j) (by simp [il]; omega), ← eu]
            simp only [il, List.getElem_map, List.getElem_drop]
          · omega
        have HSP : Hid (∀ j, j < (il (lf'.drop (0 + 1))).length → (w8.drew.cell? ⟨gl, 0 + 0 * 1 + j, none⟩).isSome = true ∧ w8.drew.frozen? ⟨gl, 0 + 0 * 1 + j, none⟩ = false) := fun j hj => by
          have hj2 : j < lf'.length - (0 + 1) := by simpa [il] using hj
          refine ⟨?_, hfz8 _⟩
          show (w8.cell? _).isSome = true
          rw [hcell8 (0 + 0 * 1 + j) (by simp [il]; omega)]
          rfl
        have HOUT := hid (own_out (own_below HL8.out (below_drew (Below.refl _ _))) (k := 0) (by omega))
        have HLWN := hid ((HW8.out.on (below_drew (Below.refl _ _))).gb (gb_sets gl (il (lf'.drop (0 + 1))) 0 w8.drew) (by omega) (by omega) HNE8.out)
        have HPM2 : Hid ((e ++ [lf'[0]] ++ lf'.eraseIdx 0).Perm lf) := by
          refine List.Perm.trans ?_ hPM.out
          rw [List.append_assoc]
          exact List.Perm.append_left e (erase_perm lf' _ (by omega))
        have HO3 : Hid (o2 ++ [lf'[0]] = od ++ (e ++ [lf'[0]])) := by show _ = _; rw [hO2.out, List.append_assoc]
        have HLE : Hid ((lf'.eraseIdx 0).length = lf'.length - 1) := by show _ = _; rw [List.length_eraseIdx, if_pos (by omega)]
        clear hcell8 hfz8 HHC
        go_upto_region 44 with (fail)
        refine wp_region_noPanic ?_
        refine wp_region_held_drew (S := fun _ => True) (by kernel_rfl) (by trivial) (fun hHeld => ?_)
        refine wpAnyH_take (i := 0) (oi := { dst := some 191, op := Op.move (Operand.tmp 11), type := 43, pos := "law.go:164", after := #[], guard := none }) (v := ?_) rfl (by kernel_rfl) (by kernel_rfl) (by kernel_rfl) (fun _ _ _ h => h) (Or.inl ⟨by rfl, ?_⟩) (by assumption) ?_
        rotate_left
        (intro w0 hSw; (try dsimp only at hSw); go_simp; try (with_reducible rfl))
        (try simp only [Act.put, List.setIfInBounds_toArray, List.set_cons_zero, List.set_cons_succ])
        refine wpAnyH_take (i := 1) (oi := { dst := some 192, op := Op.move (Operand.tmp 18), type := 3, pos := "law.go:164", after := #[], guard := none }) (v := ?_) rfl (by kernel_rfl) (by kernel_rfl) (by kernel_rfl) (fun _ _ _ h => h) (Or.inl ⟨by rfl, ?_⟩) (by assumption) ?_
        rotate_left
        (intro w0 hSw; (try dsimp only at hSw); go_simp; try (with_reducible rfl))
        (try simp only [Act.put, List.setIfInBounds_toArray, List.set_cons_zero, List.set_cons_succ])
        refine wpAnyH_take (i := 2) (oi := { dst := some 193, op := Op.slice 43 (Operand.tmp 191) none (some (Operand.tmp 192)) none, type := 43, pos := "law.go:164", after := #[{ on := 0, ground := Ground.data }, { on := 1, ground := Ground.data }], guard := none }) (v := ?_) rfl (by kernel_rfl) (by kernel_rfl) (by kernel_rfl) (fun _ _ _ h => h) (Or.inl ⟨by rfl, ?_⟩) (by assumption) ?_
        rotate_left
        (intro w0 hSw; (try dsimp only at hSw); go_simp; try (with_reducible rfl))
        (try simp only [Act.put, List.setIfInBounds_toArray, List.set_cons_zero, List.set_cons_succ])
        refine wpAnyH_take (i := 3) (oi := { dst := some 194, op := Op.move (Operand.tmp 11), type := 43, pos := "law.go:164", after := #[], guard := none }) (v := ?_) rfl (by kernel_rfl) (by kernel_rfl) (by kernel_rfl) (fun _ _ _ h => h) (Or.inl ⟨by rfl, ?_⟩) (by assumption) ?_
        rotate_left
        (intro w0 hSw; (try dsimp only at hSw); go_simp; try (with_reducible rfl))
        (try simp only [Act.put, List.setIfInBounds_toArray, List.set_cons_zero, List.set_cons_succ])
        refine wpAnyH_take (i := 4) (oi := { dst := some 195, op := Op.move (Operand.tmp 18), type := 3, pos := "law.go:164", after := #[], guard := none }) (v := ?_) rfl (by kernel_rfl) (by kernel_rfl) (by kernel_rfl) (fun _ _ _ h => h) (Or.inl ⟨by rfl, ?_⟩) (by assumption) ?_
        rotate_left
        (intro w0 hSw; (try dsimp only at hSw); go_simp; try (with_reducible rfl))
        (try simp only [Act.put, List.setIfInBounds_toArray, List.set_cons_zero, List.set_cons_succ])
        refine wpAnyH_take (i := 5) (oi := { dst := some 196, op := Op.binOp BinOp.add 3 (Operand.tmp 195) (Operand.const (Value.int IntKind.i64 1)) 3, type := 3, pos := "law.go:164", after := #[{ on := 4, ground := Ground.data }], guard := none }) (v := ?_) rfl (by kernel_rfl) (by kernel_rfl) (by kernel_rfl) (fun _ _ _ h => h) (Or.inl ⟨by rfl, ?_⟩) (by assumption) ?_
        rotate_left
        (intro w0 hSw; (try dsimp only at hSw); go_simp; try (with_reducible rfl))
        (try simp only [Act.put, List.setIfInBounds_toArray, List.set_cons_zero, List.set_cons_succ])
        refine wpAnyH_take (i := 6) (oi := { dst := some 197, op := Op.slice 43 (Operand.tmp 194) (some (Operand.tmp 196)) none none, type := 43, pos := "law.go:164", after := #[{ on := 3, ground := Ground.data }, { on := 5, ground := Ground.data }], guard := none }) (v := ?_) rfl (by kernel_rfl) (by kernel_rfl) (by kernel_rfl) (fun _ _ _ h => h) (Or.inl ⟨by rfl, ?_⟩) (by assumption) ?_
        rotate_left
        (intro w0 hSw; (try dsimp only at hSw); go_simp; try (with_reducible rfl))
        (try simp only [Act.put, List.setIfInBounds_toArray, List.set_cons_zero, List.set_cons_succ])
        refine wpAnyH_ready (rs := [7]) (by kernel_rfl) (by simp) (AllReadyH.cons (o := { dst := some 198, op := Op.call { callee := Callee.builtin Builtin.append, args := #[Operand.tmp 193, Operand.tmp 197], argTypes := #[43, 43] }, type := 43, pos := "law.go:164", after := #[{ on := 2, ground := Ground.data }, { on := 6, ground := Ground.data }], guard := none }) rfl (fun K hK => ?_) AllReadyH.nil)
        (refine step_append_room rfl _ _ 43 rfl 3 i3 1 Try.underlying43 HI3.out.1 HI3.out.2.2.1 gl 0 0 1 rfl _ _ _ (il (lf'.drop (0 + 1))) rfl (by first | (simp [il]; done) | (simp [il]; omega)) (HCN.out _ (by first | exact .inl rfl | exact .inr (by omega))) (il_one _) (by omega) HSP.out ?_)
        refine hK.out _ _ (by trivial) (fun hHeld => ?_)
        clear hK K
        (try simp only [Act.put, List.setIfInBounds_toArray, List.set_cons_zero, List.set_cons_succ])
        refine wpAnyH_take (i := 8) (oi := { dst := some 11, op := Op.assign (Operand.tmp 198), type := 43, pos := "law.go:164", after := #[{ on := 7, ground := Ground.data }, { on := 7, ground := Ground.chain }, { on := 0, ground := Ground.phase }, { on := 1, ground := Ground.phase }, { on := 2, ground := Ground.phase }, { on := 3, ground := Ground.phase }, { on := 4, ground := Ground.phase }, { on := 5, ground := Ground.phase }, { on := 6, ground := Ground.phase }, { on := 7, ground := Ground.phase }], guard := none }) (v := ?_) rfl (by kernel_rfl) (by kernel_rfl) (by kernel_rfl) (fun _ _ _ h => h) (Or.inl ⟨by rfl, ?_⟩) (by assumption) ?_
        rotate_left
        (intro w0 hSw; (try dsimp only at hSw); go_simp; try (with_reducible rfl))
        (try simp only [Act.put, List.setIfInBounds_toArray, List.set_cons_zero, List.set_cons_succ])
        refine wpAnyH_done (by kernel_rfl) ?_ _
        refine NoPanic.normal ?_

        have HOUT2 := HOUT.out
        rw [← HLE.out] at HOUT2
        have HF := hid HOUT2
        clear HOUT2 HOUT HCN HSP
        (try rw [show 0 + (lf'.length - (0 + 1)) = 0 by omega])
        have hE : w8.drew.setCells gl (0 + 0 * 1) (il (lf'.drop (0 + 1))) = w8.drew.setCells gl 0 (il (lf'.drop (0 + 1))) := by simp
        rw [hE]
        go_wp2
        go_roundw
        case rel => exact ⟨e ++ [lf'[0]], lf'.eraseIdx 0, o2 ++ [lf'[0]], t', by simp, by simp; omega, by simpa using HLWN.out, HO3.out, by have h := HF.out; rw [show (lf'.eraseIdx 0).length = 0 from by rw [HLE.out]; omega] at h ⊢; exact h, HPM2.out, fun g hg => by cases hg; exact HNE8.out⟩
        case measure => simp [slN]; omega
      · skip
        have hx8 : lf'.length - (0 + 1) + 0 = lf'.length - 1 := by omega
        obtain ⟨gz, cz, ez, _, hfz8, hcell8, _, hgl8⟩ := own_at HL8.out (by omega)
        cases ez
        have HCN : Hid (∀ (ad : Addr), (ad = ⟨gl, 0 + 1, none⟩ ∨ lf'.length = 0 + 1) → ∀ j u, (il (lf'.drop (0 + 1)))[j]? = some u → w8.drew.cell? (ad.add j) = some u) := fun ad had j u hu => by
          obtain ⟨hj, eu⟩ := List.getElem?_eq_some_iff.1 hu
          have hj2 : j < lf'.length - (0 + 1) := by simpa [il] using hj
          rcases had with rfl | had
          · rw [WideShapes.add_plain]
            show w8.cell? _ = _
            rw [hcell8 (0 + 1 + j) (by simp [il]; omega), ← eu]
            simp only [il, List.getElem_map, List.getElem_drop]
          · omega
        have HSP : Hid (∀ j, j < (il (lf'.drop (0 + 1))).length → (w8.drew.cell? ⟨gl, 0 + 0 * 1 + j, none⟩).isSome = true ∧ w8.drew.frozen? ⟨gl, 0 + 0 * 1 + j, none⟩ = false) := fun j hj => by
          have hj2 : j < lf'.length - (0 + 1) := by simpa [il] using hj
          refine ⟨?_, hfz8 _⟩
          show (w8.cell? _).isSome = true
          rw [hcell8 (0 + 0 * 1 + j) (by simp [il]; omega)]
          rfl
        have HOUT := hid (own_out (own_below HL8.out (below_drew (Below.refl _ _))) (k := 0) (by omega))
        have HLWN := hid ((HW8.out.on (below_drew (Below.refl _ _))).gb (gb_sets gl (il (lf'.drop (0 + 1))) 0 w8.drew) (by omega) (by omega) HNE8.out)
        have HPM2 : Hid ((e ++ [lf'[0]] ++ lf'.eraseIdx 0).Perm lf) := by
          refine List.Perm.trans ?_ hPM.out
          rw [List.append_assoc]
          exact List.Perm.append_left e (erase_perm lf' _ (by omega))
        have HO3 : Hid (o2 ++ [lf'[0]] = od ++ (e ++ [lf'[0]])) := by show _ = _; rw [hO2.out, List.append_assoc]
        have HLE : Hid ((lf'.eraseIdx 0).length = lf'.length - 1) := by show _ = _; rw [List.length_eraseIdx, if_pos (by omega)]
        clear hcell8 hfz8 HHC
        go_upto_region 44 with (fail)
        refine wp_region_noPanic ?_
        refine wp_region_held_drew (S := fun _ => True) (by kernel_rfl) (by trivial) (fun hHeld => ?_)
        refine wpAnyH_take (i := 0) (oi := { dst := some 191, op := Op.move (Operand.tmp 11), type := 43, pos := "law.go:164", after := #[], guard := none }) (v := ?_) rfl (by kernel_rfl) (by kernel_rfl) (by kernel_rfl) (fun _ _ _ h => h) (Or.inl ⟨by rfl, ?_⟩) (by assumption) ?_
        rotate_left
        (intro w0 hSw; (try dsimp only at hSw); go_simp; try (with_reducible rfl))
        (try simp only [Act.put, List.setIfInBounds_toArray, List.set_cons_zero, List.set_cons_succ])
        refine wpAnyH_take (i := 1) (oi := { dst := some 192, op := Op.move (Operand.tmp 18), type := 3, pos := "law.go:164", after := #[], guard := none }) (v := ?_) rfl (by kernel_rfl) (by kernel_rfl) (by kernel_rfl) (fun _ _ _ h => h) (Or.inl ⟨by rfl, ?_⟩) (by assumption) ?_
        rotate_left
        (intro w0 hSw; (try dsimp only at hSw); go_simp; try (with_reducible rfl))
        (try simp only [Act.put, List.setIfInBounds_toArray, List.set_cons_zero, List.set_cons_succ])
        refine wpAnyH_take (i := 2) (oi := { dst := some 193, op := Op.slice 43 (Operand.tmp 191) none (some (Operand.tmp 192)) none, type := 43, pos := "law.go:164", after := #[{ on := 0, ground := Ground.data }, { on := 1, ground := Ground.data }], guard := none }) (v := ?_) rfl (by kernel_rfl) (by kernel_rfl) (by kernel_rfl) (fun _ _ _ h => h) (Or.inl ⟨by rfl, ?_⟩) (by assumption) ?_
        rotate_left
        (intro w0 hSw; (try dsimp only at hSw); go_simp; try (with_reducible rfl))
        (try simp only [Act.put, List.setIfInBounds_toArray, List.set_cons_zero, List.set_cons_succ])
        refine wpAnyH_take (i := 3) (oi := { dst := some 194, op := Op.move (Operand.tmp 11), type := 43, pos := "law.go:164", after := #[], guard := none }) (v := ?_) rfl (by kernel_rfl) (by kernel_rfl) (by kernel_rfl) (fun _ _ _ h => h) (Or.inl ⟨by rfl, ?_⟩) (by assumption) ?_
        rotate_left
        (intro w0 hSw; (try dsimp only at hSw); go_simp; try (with_reducible rfl))
        (try simp only [Act.put, List.setIfInBounds_toArray, List.set_cons_zero, List.set_cons_succ])
        refine wpAnyH_take (i := 4) (oi := { dst := some 195, op := Op.move (Operand.tmp 18), type := 3, pos := "law.go:164", after := #[], guard := none }) (v := ?_) rfl (by kernel_rfl) (by kernel_rfl) (by kernel_rfl) (fun _ _ _ h => h) (Or.inl ⟨by rfl, ?_⟩) (by assumption) ?_
        rotate_left
        (intro w0 hSw; (try dsimp only at hSw); go_simp; try (with_reducible rfl))
        (try simp only [Act.put, List.setIfInBounds_toArray, List.set_cons_zero, List.set_cons_succ])
        refine wpAnyH_take (i := 5) (oi := { dst := some 196, op := Op.binOp BinOp.add 3 (Operand.tmp 195) (Operand.const (Value.int IntKind.i64 1)) 3, type := 3, pos := "law.go:164", after := #[{ on := 4, ground := Ground.data }], guard := none }) (v := ?_) rfl (by kernel_rfl) (by kernel_rfl) (by kernel_rfl) (fun _ _ _ h => h) (Or.inl ⟨by rfl, ?_⟩) (by assumption) ?_
        rotate_left
        (intro w0 hSw; (try dsimp only at hSw); go_simp; try (with_reducible rfl))
        (try simp only [Act.put, List.setIfInBounds_toArray, List.set_cons_zero, List.set_cons_succ])
        refine wpAnyH_take (i := 6) (oi := { dst := some 197, op := Op.slice 43 (Operand.tmp 194) (some (Operand.tmp 196)) none none, type := 43, pos := "law.go:164", after := #[{ on := 3, ground := Ground.data }, { on := 5, ground := Ground.data }], guard := none }) (v := ?_) rfl (by kernel_rfl) (by kernel_rfl) (by kernel_rfl) (fun _ _ _ h => h) (Or.inl ⟨by rfl, ?_⟩) (by assumption) ?_
        rotate_left
        (intro w0 hSw; (try dsimp only at hSw); go_simp; try (with_reducible rfl))
        (try simp only [Act.put, List.setIfInBounds_toArray, List.set_cons_zero, List.set_cons_succ])
        refine wpAnyH_ready (rs := [7]) (by kernel_rfl) (by simp) (AllReadyH.cons (o := { dst := some 198, op := Op.call { callee := Callee.builtin Builtin.append, args := #[Operand.tmp 193, Operand.tmp 197], argTypes := #[43, 43] }, type := 43, pos := "law.go:164", after := #[{ on := 2, ground := Ground.data }, { on := 6, ground := Ground.data }], guard := none }) rfl (fun K hK => ?_) AllReadyH.nil)
        (refine step_append_room rfl _ _ 43 rfl 3 i3 1 Try.underlying43 HI3.out.1 HI3.out.2.2.1 gl 0 0 c9 rfl _ _ _ (il (lf'.drop (0 + 1))) rfl (by first | (simp [il]; done) | (simp [il]; omega)) (HCN.out _ (by first | exact .inl rfl | exact .inr (by omega))) (il_one _) (by omega) HSP.out ?_)
        refine hK.out _ _ (by trivial) (fun hHeld => ?_)
        clear hK K
        (try simp only [Act.put, List.setIfInBounds_toArray, List.set_cons_zero, List.set_cons_succ])
        refine wpAnyH_take (i := 8) (oi := { dst := some 11, op := Op.assign (Operand.tmp 198), type := 43, pos := "law.go:164", after := #[{ on := 7, ground := Ground.data }, { on := 7, ground := Ground.chain }, { on := 0, ground := Ground.phase }, { on := 1, ground := Ground.phase }, { on := 2, ground := Ground.phase }, { on := 3, ground := Ground.phase }, { on := 4, ground := Ground.phase }, { on := 5, ground := Ground.phase }, { on := 6, ground := Ground.phase }, { on := 7, ground := Ground.phase }], guard := none }) (v := ?_) rfl (by kernel_rfl) (by kernel_rfl) (by kernel_rfl) (fun _ _ _ h => h) (Or.inl ⟨by rfl, ?_⟩) (by assumption) ?_
        rotate_left
        (intro w0 hSw; (try dsimp only at hSw); go_simp; try (with_reducible rfl))
        (try simp only [Act.put, List.setIfInBounds_toArray, List.set_cons_zero, List.set_cons_succ])
        refine wpAnyH_done (by kernel_rfl) ?_ _
        refine NoPanic.normal ?_

        have HOUT2 := HOUT.out
        rw [← HLE.out] at HOUT2
        have HF := hid HOUT2
        clear HOUT2 HOUT HCN HSP
        rw [show 0 + (lf'.length - (0 + 1)) = lf'.length - 1 by omega]
        have hE : w8.drew.setCells gl (0 + 0 * 1) (il (lf'.drop (0 + 1))) = w8.drew.setCells gl 0 (il (lf'.drop (0 + 1))) := by simp
        rw [hE]
        go_wp2
        go_roundw
        case rel => exact ⟨e ++ [lf'[0]], lf'.eraseIdx 0, o2 ++ [lf'[0]], t', by simp, by simp; omega, by simpa using HLWN.out, HO3.out, by rw [HLE.out] at *; exact (by have := HF.out; rwa [HLE.out] at this), HPM2.out, fun g hg => by cases hg; exact HNE8.out⟩
        case measure => simp [slN]; omega
    have hl1 : (0 : Int) < (l.length : Int) := by omega
    have hix : t' % l.length < l.length := Nat.mod_lt _ (by omega)
    have hrem : Int.tmod (t' : Int) (l.length : Int) = ((t' % l.length : Nat) : Int) := rfl
    obtain ⟨bp, op, ep, rp⟩ := (HQL.out.below HW.out.below).at_ _ hix
    subst ep
    have cp1 := rp.c _ hix
    have hpb := rp.lt
    obtain ⟨hp1, hp2⟩ := HPR.out _ (List.getElem_mem hix)
    clear rp
    generalize l[t' % l.length]'hix = pk at *
    generalize t' % l.length = ix at *
    by_cases hneg : pk < 0
    · obtain ⟨kk, hkk, hkl⟩ : ∃ kk : Nat, Int.tmod (-(pk + 1)) (lf'.length : Int) = (kk : Int) ∧ kk < lf'.length := by
        obtain ⟨m, hm⟩ : ∃ m : Nat, -(pk + 1) = (m : Int) := ⟨(-(pk + 1)).toNat, by omega⟩
        exact ⟨m % lf'.length, by rw [hm]; rfl, Nat.mod_lt _ (by omega)⟩
      have ck := HHC.out kk hkl
      go_wp2_with (at_builtin; refine Hid.out ?_)
      refine hid ?_
      refine wpList_append_own_at _ rfl _ _ 43 rfl (V.heap.size + 1) 3 i3 (.int .i64 0) 1 8 Try.underlying43 HI3.out.1 HI3.out.2.1 HI3.out.2.2.1 HI3.out.2.2.2 rfl (by decide) _ o2.length (il o2) rfl (own_below HW.out.row (bal (Below.refl _ _) _)) ⟨_, 0, none⟩ 1 1 [.int .i64 ((lf'[kk] : Nat) : Int)] rfl rfl (new_one _ _ (by simp) _ 3) (one_one _ rfl) (by unfold maxLen; omega) (by omega) (by have := HW.out.seen.lt; simp; omega) ?_
      intro v8 w8 hown8 hgrow8 _ hloc8
      have hW1 := HW.out.on (bal (Below.refl _ wr) (.cells #[.int .i64 ((lf'[kk] : Nat) : Int)] 3))
      have hW8 : LW2 V w8 V.heap.size os.length F v8 (o2 ++ [lf'[kk]]) := by
        obtain ⟨cs, hcs, _⟩ := hW1.seen
        refine ⟨hW1.below.grown hgrow8 hW1.below.size (fun g e => by have := (hW1.row.lt g e).1; omega), hW1.seen.of_block (hgrow8.block _ hW1.seen.lt (fun e => by have := (hW1.row.lt _ e.symm).1; omega)), ?_⟩
        rw [il_snoc, List.length_append]
        exact hown8
      have hL8 : w8.ownsRow (V.heap.size + 1) 3 1 (.slice (some ⟨gl, 0, none⟩) lf'.length c9) lf'.length (il lf') := own_kept (own_below HLR.out (bal (Below.refl _ _) _)) hgrow8 (fun g hg e2 => hNE.out g hg e2.symm)
      have hne8 : v8.ownBlock ≠ some gl := by
        rcases hloc8 with h | h
        · rw [h]; exact hNE.out gl rfl
        · rw [h]; intro e2; have e3 := Option.some.inj e2; simp at e3; omega
      obtain ⟨a10, c10, rfl⟩ := own_shape hown8
      have HW8 := hid hW8
      have HL8 := hid hL8
      have HNE8 := hid hne8
      clear hW1 hW8 hL8 hne8 hown8 hgrow8 hloc8
      have hkc : (kk : Int) ≤ (c9 : Int) := by omega
      have hkn : (kk : Int) + 1 ≤ (lf'.length : Int) := by omega
      have hkb : kk ≤ 300 := by omega
      have hk01 : (0 : Int) ≤ (kk : Int) + 1 := by omega
      have hwk : IntKind.i64.wrap ((kk : Int) + 1) = (kk : Int) + 1 := by rw [IntKind.wrap_i64]; omega
      by_cases hcap : c9 = kk + 1
      · subst hcap
        have hkc2 : (kk : Int) ≤ (kk : Int) + 1 := by omega
        have hx8 : lf'.length - (kk + 1) + kk = lf'.length - 1 := by omega
        obtain ⟨gz, cz, ez, _, hfz8, hcell8, _, hgl8⟩ := own_at HL8.out (by omega)
        cases ez
        have HCN : Hid (∀ (ad : Addr), (ad = ⟨gl, kk + 1, none⟩ ∨ lf'.length = kk + 1) → ∀ j u, (il (lf'.drop (kk + 1)))[j]? = some u → w8.drew.cell? (ad.add j) = some u) := fun ad had j u hu => by
          obtain ⟨hj, eu⟩ := List.getElem?_eq_some_iff.1 hu
          have hj2 : j < lf'.length - (kk + 1) := by simpa [il] using hj
          rcases had with rfl | had
          · rw [WideShapes.add_plain]
            show w8.cell? _ = _
            rw [hcell8 (kk + 1 + j) (by simp [il]; omega), ← eu]
            simp only [il, List.getElem_map, List.getElem_drop]
          · omega
        have HSP : Hid (∀ j, j < (il (lf'.drop (kk + 1))).length → (w8.drew.cell? ⟨gl, 0 + kk * 1 + j, none⟩).isSome = true ∧ w8.drew.frozen? ⟨gl, 0 + kk * 1 + j, none⟩ = false) := fun j hj => by
          have hj2 : j < lf'.length - (kk + 1) := by simpa [il] using hj
          refine ⟨?_, hfz8 _⟩
          show (w8.cell? _).isSome = true
          rw [hcell8 (0 + kk * 1 + j) (by simp [il]; omega)]
          rfl
        have HOUT := hid (own_out (own_below HL8.out (below_drew (Below.refl _ _))) (k := kk) (by omega))
        have HLWN := hid ((HW8.out.on (below_drew (Below.refl _ _))).gb (gb_sets gl (il (lf'.drop (kk + 1))) kk w8.drew) (by omega) (by omega) HNE8.out)
        have HPM2 : Hid ((e ++ [lf'[kk]] ++ lf'.eraseIdx kk).Perm lf) := by
          refine List.Perm.trans ?_ hPM.out
          rw [List.append_assoc]
          exact List.Perm.append_left e (erase_perm lf' _ (by omega))
        have HO3 : Hid (o2 ++ [lf'[kk]] = od ++ (e ++ [lf'[kk]])) := by show _ = _; rw [hO2.out, List.append_assoc]
        have HLE : Hid ((lf'.eraseIdx kk).length = lf'.length - 1) := by show _ = _; rw [List.length_eraseIdx, if_pos (by omega)]
        clear hcell8 hfz8 HHC
        go_upto_region 44 with (fail)
        refine wp_region_noPanic ?_
        refine wp_region_held_drew (S := fun _ => True) (by kernel_rfl) (by trivial) (fun hHeld => ?_)
        refine wpAnyH_take (i := 0) (oi := { dst := some 191, op := Op.move (Operand.tmp 11), type := 43, pos := "law.go:164", after := #[], guard := none }) (v := ?_) rfl (by kernel_rfl) (by kernel_rfl) (by kernel_rfl) (fun _ _ _ h => h) (Or.inl ⟨by rfl, ?_⟩) (by assumption) ?_
        rotate_left
        (intro w0 hSw; (try dsimp only at hSw); go_simp; try (with_reducible rfl))
        (try simp only [Act.put, List.setIfInBounds_toArray, List.set_cons_zero, List.set_cons_succ])
        refine wpAnyH_take (i := 1) (oi := { dst := some 192, op := Op.move (Operand.tmp 18), type := 3, pos := "law.go:164", after := #[], guard := none }) (v := ?_) rfl (by kernel_rfl) (by kernel_rfl) (by kernel_rfl) (fun _ _ _ h => h) (Or.inl ⟨by rfl, ?_⟩) (by assumption) ?_
        rotate_left
        (intro w0 hSw; (try dsimp only at hSw); go_simp; try (with_reducible rfl))
        (try simp only [Act.put, List.setIfInBounds_toArray, List.set_cons_zero, List.set_cons_succ])
        refine wpAnyH_take (i := 2) (oi := { dst := some 193, op := Op.slice 43 (Operand.tmp 191) none (some (Operand.tmp 192)) none, type := 43, pos := "law.go:164", after := #[{ on := 0, ground := Ground.data }, { on := 1, ground := Ground.data }], guard := none }) (v := ?_) rfl (by kernel_rfl) (by kernel_rfl) (by kernel_rfl) (fun _ _ _ h => h) (Or.inl ⟨by rfl, ?_⟩) (by assumption) ?_
        rotate_left
        (intro w0 hSw; (try dsimp only at hSw); go_simp; try (with_reducible rfl))
        (try simp only [Act.put, List.setIfInBounds_toArray, List.set_cons_zero, List.set_cons_succ])
        refine wpAnyH_take (i := 3) (oi := { dst := some 194, op := Op.move (Operand.tmp 11), type := 43, pos := "law.go:164", after := #[], guard := none }) (v := ?_) rfl (by kernel_rfl) (by kernel_rfl) (by kernel_rfl) (fun _ _ _ h => h) (Or.inl ⟨by rfl, ?_⟩) (by assumption) ?_
        rotate_left
        (intro w0 hSw; (try dsimp only at hSw); go_simp; try (with_reducible rfl))
        (try simp only [Act.put, List.setIfInBounds_toArray, List.set_cons_zero, List.set_cons_succ])
        refine wpAnyH_take (i := 4) (oi := { dst := some 195, op := Op.move (Operand.tmp 18), type := 3, pos := "law.go:164", after := #[], guard := none }) (v := ?_) rfl (by kernel_rfl) (by kernel_rfl) (by kernel_rfl) (fun _ _ _ h => h) (Or.inl ⟨by rfl, ?_⟩) (by assumption) ?_
        rotate_left
        (intro w0 hSw; (try dsimp only at hSw); go_simp; try (with_reducible rfl))
        (try simp only [Act.put, List.setIfInBounds_toArray, List.set_cons_zero, List.set_cons_succ])
        refine wpAnyH_take (i := 5) (oi := { dst := some 196, op := Op.binOp BinOp.add 3 (Operand.tmp 195) (Operand.const (Value.int IntKind.i64 1)) 3, type := 3, pos := "law.go:164", after := #[{ on := 4, ground := Ground.data }], guard := none }) (v := ?_) rfl (by kernel_rfl) (by kernel_rfl) (by kernel_rfl) (fun _ _ _ h => h) (Or.inl ⟨by rfl, ?_⟩) (by assumption) ?_
        rotate_left
        (intro w0 hSw; (try dsimp only at hSw); go_simp; try (with_reducible rfl))
        (try simp only [Act.put, List.setIfInBounds_toArray, List.set_cons_zero, List.set_cons_succ])
        refine wpAnyH_take (i := 6) (oi := { dst := some 197, op := Op.slice 43 (Operand.tmp 194) (some (Operand.tmp 196)) none none, type := 43, pos := "law.go:164", after := #[{ on := 3, ground := Ground.data }, { on := 5, ground := Ground.data }], guard := none }) (v := ?_) rfl (by kernel_rfl) (by kernel_rfl) (by kernel_rfl) (fun _ _ _ h => h) (Or.inl ⟨by rfl, ?_⟩) (by assumption) ?_
        rotate_left
        (intro w0 hSw; (try dsimp only at hSw); go_simp; try (with_reducible rfl))
        (try simp only [Act.put, List.setIfInBounds_toArray, List.set_cons_zero, List.set_cons_succ])
        refine wpAnyH_ready (rs := [7]) (by kernel_rfl) (by simp) (AllReadyH.cons (o := { dst := some 198, op := Op.call { callee := Callee.builtin Builtin.append, args := #[Operand.tmp 193, Operand.tmp 197], argTypes := #[43, 43] }, type := 43, pos := "law.go:164", after := #[{ on := 2, ground := Ground.data }, { on := 6, ground := Ground.data }], guard := none }) rfl (fun K hK => ?_) AllReadyH.nil)
        (refine step_append_room rfl _ _ 43 rfl 3 i3 1 Try.underlying43 HI3.out.1 HI3.out.2.2.1 gl 0 kk (kk + 1) rfl _ _ _ (il (lf'.drop (kk + 1))) rfl (by first | (simp [il]; done) | (simp [il]; omega)) (HCN.out _ (by first | exact .inl rfl | exact .inr (by omega))) (il_one _) (by omega) HSP.out ?_)
        refine hK.out _ _ (by trivial) (fun hHeld => ?_)
        clear hK K
        (try simp only [Act.put, List.setIfInBounds_toArray, List.set_cons_zero, List.set_cons_succ])
        refine wpAnyH_take (i := 8) (oi := { dst := some 11, op := Op.assign (Operand.tmp 198), type := 43, pos := "law.go:164", after := #[{ on := 7, ground := Ground.data }, { on := 7, ground := Ground.chain }, { on := 0, ground := Ground.phase }, { on := 1, ground := Ground.phase }, { on := 2, ground := Ground.phase }, { on := 3, ground := Ground.phase }, { on := 4, ground := Ground.phase }, { on := 5, ground := Ground.phase }, { on := 6, ground := Ground.phase }, { on := 7, ground := Ground.phase }], guard := none }) (v := ?_) rfl (by kernel_rfl) (by kernel_rfl) (by kernel_rfl) (fun _ _ _ h => h) (Or.inl ⟨by rfl, ?_⟩) (by assumption) ?_
        rotate_left
        (intro w0 hSw; (try dsimp only at hSw); go_simp; try (with_reducible rfl))
        (try simp only [Act.put, List.setIfInBounds_toArray, List.set_cons_zero, List.set_cons_succ])
        refine wpAnyH_done (by kernel_rfl) ?_ _
        refine NoPanic.normal ?_

        have HOUT2 := HOUT.out
        rw [← HLE.out] at HOUT2
        have HF := hid HOUT2
        clear HOUT2 HOUT HCN HSP
        (try rw [show kk + (lf'.length - (kk + 1)) = kk by omega])
        have hE : w8.drew.setCells gl (0 + kk * 1) (il (lf'.drop (kk + 1))) = w8.drew.setCells gl kk (il (lf'.drop (kk + 1))) := by simp
        rw [hE]
        go_wp2
        go_roundw
        case rel => exact ⟨e ++ [lf'[kk]], lf'.eraseIdx kk, o2 ++ [lf'[kk]], t' + 1, by simp, by simp; omega, by simpa using HLWN.out, HO3.out, by have h := HF.out; rw [show (lf'.eraseIdx kk).length = kk from by rw [HLE.out]; omega] at h ⊢; exact h, HPM2.out, fun g hg => by cases hg; exact HNE8.out⟩
        case measure => simp [slN]; omega
      · skip
        have hx8 : lf'.length - (kk + 1) + kk = lf'.length - 1 := by omega
        obtain ⟨gz, cz, ez, _, hfz8, hcell8, _, hgl8⟩ := own_at HL8.out (by omega)
        cases ez
        have HCN : Hid (∀ (ad : Addr), (ad = ⟨gl, kk + 1, none⟩ ∨ lf'.length = kk + 1) → ∀ j u, (il (lf'.drop (kk + 1)))[j]? = some u → w8.drew.cell? (ad.add j) = some u) := fun ad had j u hu => by
          obtain ⟨hj, eu⟩ := List.getElem?_eq_some_iff.1 hu
          have hj2 : j < lf'.length - (kk + 1) := by simpa [il] using hj
          rcases had with rfl | had
          · rw [WideShapes.add_plain]
            show w8.cell? _ = _
            rw [hcell8 (kk + 1 + j) (by simp [il]; omega), ← eu]
            simp only [il, List.getElem_map, List.getElem_drop]
          · omega
        have HSP : Hid (∀ j, j < (il (lf'.drop (kk + 1))).length → (w8.drew.cell? ⟨gl, 0 + kk * 1 + j, none⟩).isSome = true ∧ w8.drew.frozen? ⟨gl, 0 + kk * 1 + j, none⟩ = false) := fun j hj => by
          have hj2 : j < lf'.length - (kk + 1) := by simpa [il] using hj
          refine ⟨?_, hfz8 _⟩
          show (w8.cell? _).isSome = true
          rw [hcell8 (0 + kk * 1 + j) (by simp [il]; omega)]
          rfl
        have HOUT := hid (own_out (own_below HL8.out (below_drew (Below.refl _ _))) (k := kk) (by omega))
        have HLWN := hid ((HW8.out.on (below_drew (Below.refl _ _))).gb (gb_sets gl (il (lf'.drop (kk + 1))) kk w8.drew) (by omega) (by omega) HNE8.out)
        have HPM2 : Hid ((e ++ [lf'[kk]] ++ lf'.eraseIdx kk).Perm lf) := by
          refine List.Perm.trans ?_ hPM.out
          rw [List.append_assoc]
          exact List.Perm.append_left e (erase_perm lf' _ (by omega))
        have HO3 : Hid (o2 ++ [lf'[kk]] = od ++ (e ++ [lf'[kk]])) := by show _ = _; rw [hO2.out, List.append_assoc]
        have HLE : Hid ((lf'.eraseIdx kk).length = lf'.length - 1) := by show _ = _; rw [List.length_eraseIdx, if_pos (by omega)]
        clear hcell8 hfz8 HHC
        go_upto_region 44 with (fail)
        refine wp_region_noPanic ?_
        refine wp_region_held_drew (S := fun _ => True) (by kernel_rfl) (by trivial) (fun hHeld => ?_)
        refine wpAnyH_take (i := 0) (oi := { dst := some 191, op := Op.move (Operand.tmp 11), type := 43, pos := "law.go:164", after := #[], guard := none }) (v := ?_) rfl (by kernel_rfl) (by kernel_rfl) (by kernel_rfl) (fun _ _ _ h => h) (Or.inl ⟨by rfl, ?_⟩) (by assumption) ?_
        rotate_left
        (intro w0 hSw; (try dsimp only at hSw); go_simp; try (with_reducible rfl))
        (try simp only [Act.put, List.setIfInBounds_toArray, List.set_cons_zero, List.set_cons_succ])
        refine wpAnyH_take (i := 1) (oi := { dst := some 192, op := Op.move (Operand.tmp 18), type := 3, pos := "law.go:164", after := #[], guard := none }) (v := ?_) rfl (by kernel_rfl) (by kernel_rfl) (by kernel_rfl) (fun _ _ _ h => h) (Or.inl ⟨by rfl, ?_⟩) (by assumption) ?_
        rotate_left
        (intro w0 hSw; (try dsimp only at hSw); go_simp; try (with_reducible rfl))
        (try simp only [Act.put, List.setIfInBounds_toArray, List.set_cons_zero, List.set_cons_succ])
        refine wpAnyH_take (i := 2) (oi := { dst := some 193, op := Op.slice 43 (Operand.tmp 191) none (some (Operand.tmp 192)) none, type := 43, pos := "law.go:164", after := #[{ on := 0, ground := Ground.data }, { on := 1, ground := Ground.data }], guard := none }) (v := ?_) rfl (by kernel_rfl) (by kernel_rfl) (by kernel_rfl) (fun _ _ _ h => h) (Or.inl ⟨by rfl, ?_⟩) (by assumption) ?_
        rotate_left
        (intro w0 hSw; (try dsimp only at hSw); go_simp; try (with_reducible rfl))
        (try simp only [Act.put, List.setIfInBounds_toArray, List.set_cons_zero, List.set_cons_succ])
        refine wpAnyH_take (i := 3) (oi := { dst := some 194, op := Op.move (Operand.tmp 11), type := 43, pos := "law.go:164", after := #[], guard := none }) (v := ?_) rfl (by kernel_rfl) (by kernel_rfl) (by kernel_rfl) (fun _ _ _ h => h) (Or.inl ⟨by rfl, ?_⟩) (by assumption) ?_
        rotate_left
        (intro w0 hSw; (try dsimp only at hSw); go_simp; try (with_reducible rfl))
        (try simp only [Act.put, List.setIfInBounds_toArray, List.set_cons_zero, List.set_cons_succ])
        refine wpAnyH_take (i := 4) (oi := { dst := some 195, op := Op.move (Operand.tmp 18), type := 3, pos := "law.go:164", after := #[], guard := none }) (v := ?_) rfl (by kernel_rfl) (by kernel_rfl) (by kernel_rfl) (fun _ _ _ h => h) (Or.inl ⟨by rfl, ?_⟩) (by assumption) ?_
        rotate_left
        (intro w0 hSw; (try dsimp only at hSw); go_simp; try (with_reducible rfl))
        (try simp only [Act.put, List.setIfInBounds_toArray, List.set_cons_zero, List.set_cons_succ])
        refine wpAnyH_take (i := 5) (oi := { dst := some 196, op := Op.binOp BinOp.add 3 (Operand.tmp 195) (Operand.const (Value.int IntKind.i64 1)) 3, type := 3, pos := "law.go:164", after := #[{ on := 4, ground := Ground.data }], guard := none }) (v := ?_) rfl (by kernel_rfl) (by kernel_rfl) (by kernel_rfl) (fun _ _ _ h => h) (Or.inl ⟨by rfl, ?_⟩) (by assumption) ?_
        rotate_left
        (intro w0 hSw; (try dsimp only at hSw); go_simp; try (with_reducible rfl))
        (try simp only [Act.put, List.setIfInBounds_toArray, List.set_cons_zero, List.set_cons_succ])
        refine wpAnyH_take (i := 6) (oi := { dst := some 197, op := Op.slice 43 (Operand.tmp 194) (some (Operand.tmp 196)) none none, type := 43, pos := "law.go:164", after := #[{ on := 3, ground := Ground.data }, { on := 5, ground := Ground.data }], guard := none }) (v := ?_) rfl (by kernel_rfl) (by kernel_rfl) (by kernel_rfl) (fun _ _ _ h => h) (Or.inl ⟨by rfl, ?_⟩) (by assumption) ?_
        rotate_left
        (intro w0 hSw; (try dsimp only at hSw); go_simp; try (with_reducible rfl))
        (try simp only [Act.put, List.setIfInBounds_toArray, List.set_cons_zero, List.set_cons_succ])
        refine wpAnyH_ready (rs := [7]) (by kernel_rfl) (by simp) (AllReadyH.cons (o := { dst := some 198, op := Op.call { callee := Callee.builtin Builtin.append, args := #[Operand.tmp 193, Operand.tmp 197], argTypes := #[43, 43] }, type := 43, pos := "law.go:164", after := #[{ on := 2, ground := Ground.data }, { on := 6, ground := Ground.data }], guard := none }) rfl (fun K hK => ?_) AllReadyH.nil)
        (refine step_append_room rfl _ _ 43 rfl 3 i3 1 Try.underlying43 HI3.out.1 HI3.out.2.2.1 gl 0 kk c9 rfl _ _ _ (il (lf'.drop (kk + 1))) rfl (by first | (simp [il]; done) | (simp [il]; omega)) (HCN.out _ (by first | exact .inl rfl | exact .inr (by omega))) (il_one _) (by omega) HSP.out ?_)
        refine hK.out _ _ (by trivial) (fun hHeld => ?_)
        clear hK K
        (try simp only [Act.put, List.setIfInBounds_toArray, List.set_cons_zero, List.set_cons_succ])
        refine wpAnyH_take (i := 8) (oi := { dst := some 11, op := Op.assign (Operand.tmp 198), type := 43, pos := "law.go:164", after := #[{ on := 7, ground := Ground.data }, { on := 7, ground := Ground.chain }, { on := 0, ground := Ground.phase }, { on := 1, ground := Ground.phase }, { on := 2, ground := Ground.phase }, { on := 3, ground := Ground.phase }, { on := 4, ground := Ground.phase }, { on := 5, ground := Ground.phase }, { on := 6, ground := Ground.phase }, { on := 7, ground := Ground.phase }], guard := none }) (v := ?_) rfl (by kernel_rfl) (by kernel_rfl) (by kernel_rfl) (fun _ _ _ h => h) (Or.inl ⟨by rfl, ?_⟩) (by assumption) ?_
        rotate_left
        (intro w0 hSw; (try dsimp only at hSw); go_simp; try (with_reducible rfl))
        (try simp only [Act.put, List.setIfInBounds_toArray, List.set_cons_zero, List.set_cons_succ])
        refine wpAnyH_done (by kernel_rfl) ?_ _
        refine NoPanic.normal ?_

        have HOUT2 := HOUT.out
        rw [← HLE.out] at HOUT2
        have HF := hid HOUT2
        clear HOUT2 HOUT HCN HSP
        rw [show kk + (lf'.length - (kk + 1)) = lf'.length - 1 by omega]
        have hE : w8.drew.setCells gl (0 + kk * 1) (il (lf'.drop (kk + 1))) = w8.drew.setCells gl kk (il (lf'.drop (kk + 1))) := by simp
        rw [hE]
        go_wp2
        go_roundw
        case rel => exact ⟨e ++ [lf'[kk]], lf'.eraseIdx kk, o2 ++ [lf'[kk]], t' + 1, by simp, by simp; omega, by simpa using HLWN.out, HO3.out, by rw [HLE.out] at *; exact (by have := HF.out; rwa [HLE.out] at this), HPM2.out, fun g hg => by cases hg; exact HNE8.out⟩
        case measure => simp [slN]; omega
    · obtain ⟨kk, hkk, hkl⟩ : ∃ kk : Nat, Int.tmod pk (lf'.length : Int) = (kk : Int) ∧ kk < lf'.length := by
        obtain ⟨m, hm⟩ : ∃ m : Nat, pk = (m : Int) := ⟨pk.toNat, by omega⟩
        exact ⟨m % lf'.length, by rw [hm]; rfl, Nat.mod_lt _ (by omega)⟩
      have ck := HHC.out kk hkl
      go_wp2_with (at_builtin; refine Hid.out ?_)
      refine hid ?_
      refine wpList_append_own_at _ rfl _ _ 43 rfl (V.heap.size + 1) 3 i3 (.int .i64 0) 1 8 Try.underlying43 HI3.out.1 HI3.out.2.1 HI3.out.2.2.1 HI3.out.2.2.2 rfl (by decide) _ o2.length (il o2) rfl (own_below HW.out.row (bal (Below.refl _ _) _)) ⟨_, 0, none⟩ 1 1 [.int .i64 ((lf'[kk] : Nat) : Int)] rfl rfl (new_one _ _ (by simp) _ 3) (one_one _ rfl) (by unfold maxLen; omega) (by omega) (by have := HW.out.seen.lt; simp; omega) ?_
      intro v8 w8 hown8 hgrow8 _ hloc8
      have hW1 := HW.out.on (bal (Below.refl _ wr) (.cells #[.int .i64 ((lf'[kk] : Nat) : Int)] 3))
      have hW8 : LW2 V w8 V.heap.size os.length F v8 (o2 ++ [lf'[kk]]) := by
        obtain ⟨cs, hcs, _⟩ := hW1.seen
        refine ⟨hW1.below.grown hgrow8 hW1.below.size (fun g e => by have := (hW1.row.lt g e).1; omega), hW1.seen.of_block (hgrow8.block _ hW1.seen.lt (fun e => by have := (hW1.row.lt _ e.symm).1; omega)), ?_⟩
        rw [il_snoc, List.length_append]
        exact hown8
      have hL8 : w8.ownsRow (V.heap.size + 1) 3 1 (.slice (some ⟨gl, 0, none⟩) lf'.length c9) lf'.length (il lf') := own_kept (own_below HLR.out (bal (Below.refl _ _) _)) hgrow8 (fun g hg e2 => hNE.out g hg e2.symm)
      have hne8 : v8.ownBlock ≠ some gl := by
        rcases hloc8 with h | h
        · rw [h]; exact hNE.out gl rfl
        · rw [h]; intro e2; have e3 := Option.some.inj e2; simp at e3; omega
      obtain ⟨a10, c10, rfl⟩ := own_shape hown8
      have HW8 := hid hW8
      have HL8 := hid hL8
      have HNE8 := hid hne8
      clear hW1 hW8 hL8 hne8 hown8 hgrow8 hloc8
      have hkc : (kk : Int) ≤ (c9 : Int) := by omega
      have hkn : (kk : Int) + 1 ≤ (lf'.length : Int) := by omega
      have hkb : kk ≤ 300 := by omega
      have hk01 : (0 : Int) ≤ (kk : Int) + 1 := by omega
      have hwk : IntKind.i64.wrap ((kk : Int) + 1) = (kk : Int) + 1 := by rw [IntKind.wrap_i64]; omega
      by_cases hcap : c9 = kk + 1
      · subst hcap
        have hkc2 : (kk : Int) ≤ (kk : Int) + 1 := by omega
        have hx8 : lf'.length - (kk + 1) + kk = lf'.length - 1 := by omega
        obtain ⟨gz, cz, ez, _, hfz8, hcell8, _, hgl8⟩ := own_at HL8.out (by omega)
        cases ez
        have HCN : Hid (∀ (ad : Addr), (ad = ⟨gl, kk + 1, none⟩ ∨ lf'.length = kk + 1) → ∀ j u, (il (lf'.drop (kk + 1)))[j]? = some u → w8.drew.cell? (ad.add j) = some u) := fun ad had j u hu => by
          obtain ⟨hj, eu⟩ := List.getElem?_eq_some_iff.1 hu
          have hj2 : j < lf'.length - (kk + 1) := by simpa [il] using hj
          rcases had with rfl | had
          · rw [WideShapes.add_plain]
            show w8.cell? _ = _
            rw [hcell8 (kk + 1 + j) (by simp [il]; omega), ← eu]
            simp only [il, List.getElem_map, List.getElem_drop]
          · omega
        have HSP : Hid (∀ j, j < (il (lf'.drop (kk + 1))).length → (w8.drew.cell? ⟨gl, 0 + kk * 1 + j, none⟩).isSome = true ∧ w8.drew.frozen? ⟨gl, 0 + kk * 1 + j, none⟩ = false) := fun j hj => by
          have hj2 : j < lf'.length - (kk + 1) := by simpa [il] using hj
          refine ⟨?_, hfz8 _⟩
          show (w8.cell? _).isSome = true
          rw [hcell8 (0 + kk * 1 + j) (by simp [il]; omega)]
          rfl
        have HOUT := hid (own_out (own_below HL8.out (below_drew (Below.refl _ _))) (k := kk) (by omega))
        have HLWN := hid ((HW8.out.on (below_drew (Below.refl _ _))).gb (gb_sets gl (il (lf'.drop (kk + 1))) kk w8.drew) (by omega) (by omega) HNE8.out)
        have HPM2 : Hid ((e ++ [lf'[kk]] ++ lf'.eraseIdx kk).Perm lf) := by
          refine List.Perm.trans ?_ hPM.out
          rw [List.append_assoc]
          exact List.Perm.append_left e (erase_perm lf' _ (by omega))
        have HO3 : Hid (o2 ++ [lf'[kk]] = od ++ (e ++ [lf'[kk]])) := by show _ = _; rw [hO2.out, List.append_assoc]
        have HLE : Hid ((lf'.eraseIdx kk).length = lf'.length - 1) := by show _ = _; rw [List.length_eraseIdx, if_pos (by omega)]
        clear hcell8 hfz8 HHC
        go_upto_region 44 with (fail)
        refine wp_region_noPanic ?_
        refine wp_region_held_drew (S := fun _ => True) (by kernel_rfl) (by trivial) (fun hHeld => ?_)
        refine wpAnyH_take (i := 0) (oi := { dst := some 191, op := Op.move (Operand.tmp 11), type := 43, pos := "law.go:164", after := #[], guard := none }) (v := ?_) rfl (by kernel_rfl) (by kernel_rfl) (by kernel_rfl) (fun _ _ _ h => h) (Or.inl ⟨by rfl, ?_⟩) (by assumption) ?_
        rotate_left
        (intro w0 hSw; (try dsimp only at hSw); go_simp; try (with_reducible rfl))
        (try simp only [Act.put, List.setIfInBounds_toArray, List.set_cons_zero, List.set_cons_succ])
        refine wpAnyH_take (i := 1) (oi := { dst := some 192, op := Op.move (Operand.tmp 18), type := 3, pos := "law.go:164", after := #[], guard := none }) (v := ?_) rfl (by kernel_rfl) (by kernel_rfl) (by kernel_rfl) (fun _ _ _ h => h) (Or.inl ⟨by rfl, ?_⟩) (by assumption) ?_
        rotate_left
        (intro w0 hSw; (try dsimp only at hSw); go_simp; try (with_reducible rfl))
        (try simp only [Act.put, List.setIfInBounds_toArray, List.set_cons_zero, List.set_cons_succ])
        refine wpAnyH_take (i := 2) (oi := { dst := some 193, op := Op.slice 43 (Operand.tmp 191) none (some (Operand.tmp 192)) none, type := 43, pos := "law.go:164", after := #[{ on := 0, ground := Ground.data }, { on := 1, ground := Ground.data }], guard := none }) (v := ?_) rfl (by kernel_rfl) (by kernel_rfl) (by kernel_rfl) (fun _ _ _ h => h) (Or.inl ⟨by rfl, ?_⟩) (by assumption) ?_
        rotate_left
        (intro w0 hSw; (try dsimp only at hSw); go_simp; try (with_reducible rfl))
        (try simp only [Act.put, List.setIfInBounds_toArray, List.set_cons_zero, List.set_cons_succ])
        refine wpAnyH_take (i := 3) (oi := { dst := some 194, op := Op.move (Operand.tmp 11), type := 43, pos := "law.go:164", after := #[], guard := none }) (v := ?_) rfl (by kernel_rfl) (by kernel_rfl) (by kernel_rfl) (fun _ _ _ h => h) (Or.inl ⟨by rfl, ?_⟩) (by assumption) ?_
        rotate_left
        (intro w0 hSw; (try dsimp only at hSw); go_simp; try (with_reducible rfl))
        (try simp only [Act.put, List.setIfInBounds_toArray, List.set_cons_zero, List.set_cons_succ])
        refine wpAnyH_take (i := 4) (oi := { dst := some 195, op := Op.move (Operand.tmp 18), type := 3, pos := "law.go:164", after := #[], guard := none }) (v := ?_) rfl (by kernel_rfl) (by kernel_rfl) (by kernel_rfl) (fun _ _ _ h => h) (Or.inl ⟨by rfl, ?_⟩) (by assumption) ?_
        rotate_left
        (intro w0 hSw; (try dsimp only at hSw); go_simp; try (with_reducible rfl))
        (try simp only [Act.put, List.setIfInBounds_toArray, List.set_cons_zero, List.set_cons_succ])
        refine wpAnyH_take (i := 5) (oi := { dst := some 196, op := Op.binOp BinOp.add 3 (Operand.tmp 195) (Operand.const (Value.int IntKind.i64 1)) 3, type := 3, pos := "law.go:164", after := #[{ on := 4, ground := Ground.data }], guard := none }) (v := ?_) rfl (by kernel_rfl) (by kernel_rfl) (by kernel_rfl) (fun _ _ _ h => h) (Or.inl ⟨by rfl, ?_⟩) (by assumption) ?_
        rotate_left
        (intro w0 hSw; (try dsimp only at hSw); go_simp; try (with_reducible rfl))
        (try simp only [Act.put, List.setIfInBounds_toArray, List.set_cons_zero, List.set_cons_succ])
        refine wpAnyH_take (i := 6) (oi := { dst := some 197, op := Op.slice 43 (Operand.tmp 194) (some (Operand.tmp 196)) none none, type := 43, pos := "law.go:164", after := #[{ on := 3, ground := Ground.data }, { on := 5, ground := Ground.data }], guard := none }) (v := ?_) rfl (by kernel_rfl) (by kernel_rfl) (by kernel_rfl) (fun _ _ _ h => h) (Or.inl ⟨by rfl, ?_⟩) (by assumption) ?_
        rotate_left
        (intro w0 hSw; (try dsimp only at hSw); go_simp; try (with_reducible rfl))
        (try simp only [Act.put, List.setIfInBounds_toArray, List.set_cons_zero, List.set_cons_succ])
        refine wpAnyH_ready (rs := [7]) (by kernel_rfl) (by simp) (AllReadyH.cons (o := { dst := some 198, op := Op.call { callee := Callee.builtin Builtin.append, args := #[Operand.tmp 193, Operand.tmp 197], argTypes := #[43, 43] }, type := 43, pos := "law.go:164", after := #[{ on := 2, ground := Ground.data }, { on := 6, ground := Ground.data }], guard := none }) rfl (fun K hK => ?_) AllReadyH.nil)
        (refine step_append_room rfl _ _ 43 rfl 3 i3 1 Try.underlying43 HI3.out.1 HI3.out.2.2.1 gl 0 kk (kk + 1) rfl _ _ _ (il (lf'.drop (kk + 1))) rfl (by first | (simp [il]; done) | (simp [il]; omega)) (HCN.out _ (by first | exact .inl rfl | exact .inr (by omega))) (il_one _) (by omega) HSP.out ?_)
        refine hK.out _ _ (by trivial) (fun hHeld => ?_)
        clear hK K
        (try simp only [Act.put, List.setIfInBounds_toArray, List.set_cons_zero, List.set_cons_succ])
        refine wpAnyH_take (i := 8) (oi := { dst := some 11, op := Op.assign (Operand.tmp 198), type := 43, pos := "law.go:164", after := #[{ on := 7, ground := Ground.data }, { on := 7, ground := Ground.chain }, { on := 0, ground := Ground.phase }, { on := 1, ground := Ground.phase }, { on := 2, ground := Ground.phase }, { on := 3, ground := Ground.phase }, { on := 4, ground := Ground.phase }, { on := 5, ground := Ground.phase }, { on := 6, ground := Ground.phase }, { on := 7, ground := Ground.phase }], guard := none }) (v := ?_) rfl (by kernel_rfl) (by kernel_rfl) (by kernel_rfl) (fun _ _ _ h => h) (Or.inl ⟨by rfl, ?_⟩) (by assumption) ?_
        rotate_left
        (intro w0 hSw; (try dsimp only at hSw); go_simp; try (with_reducible rfl))
        (try simp only [Act.put, List.setIfInBounds_toArray, List.set_cons_zero, List.set_cons_succ])
        refine wpAnyH_done (by kernel_rfl) ?_ _
        refine NoPanic.normal ?_

        have HOUT2 := HOUT.out
        rw [← HLE.out] at HOUT2
        have HF := hid HOUT2
        clear HOUT2 HOUT HCN HSP
        (try rw [show kk + (lf'.length - (kk + 1)) = kk by omega])
        have hE : w8.drew.setCells gl (0 + kk * 1) (il (lf'.drop (kk + 1))) = w8.drew.setCells gl kk (il (lf'.drop (kk + 1))) := by simp
        rw [hE]
        go_wp2
        go_roundw
        case rel => exact ⟨e ++ [lf'[kk]], lf'.eraseIdx kk, o2 ++ [lf'[kk]], t' + 1, by simp, by simp; omega, by simpa using HLWN.out, HO3.out, by have h := HF.out; rw [show (lf'.eraseIdx kk).length = kk from by rw [HLE.out]; omega] at h ⊢; exact h, HPM2.out, fun g hg => by cases hg; exact HNE8.out⟩
        case measure => simp [slN]; omega
      · skip
        have hx8 : lf'.length - (kk + 1) + kk = lf'.length - 1 := by omega
        obtain ⟨gz, cz, ez, _, hfz8, hcell8, _, hgl8⟩ := own_at HL8.out (by omega)
        cases ez
        have HCN : Hid (∀ (ad : Addr), (ad = ⟨gl, kk + 1, none⟩ ∨ lf'.length = kk + 1) → ∀ j u, (il (lf'.drop (kk + 1)))[j]? = some u → w8.drew.cell? (ad.add j) = some u) := fun ad had j u hu => by
          obtain ⟨hj, eu⟩ := List.getElem?_eq_some_iff.1 hu
          have hj2 : j < lf'.length - (kk + 1) := by simpa [il] using hj
          rcases had with rfl | had
          · rw [WideShapes.add_plain]
            show w8.cell? _ = _
            rw [hcell8 (kk + 1 + j) (by simp [il]; omega), ← eu]
            simp only [il, List.getElem_map, List.getElem_drop]
          · omega
        have HSP : Hid (∀ j, j < (il (lf'.drop (kk + 1))).length → (w8.drew.cell? ⟨gl, 0 + kk * 1 + j, none⟩).isSome = true ∧ w8.drew.frozen? ⟨gl, 0 + kk * 1 + j, none⟩ = false) := fun j hj => by
          have hj2 : j < lf'.length - (kk + 1) := by simpa [il] using hj
          refine ⟨?_, hfz8 _⟩
          show (w8.cell? _).isSome = true
          rw [hcell8 (0 + kk * 1 + j) (by simp [il]; omega)]
          rfl
        have HOUT := hid (own_out (own_below HL8.out (below_drew (Below.refl _ _))) (k := kk) (by omega))
        have HLWN := hid ((HW8.out.on (below_drew (Below.refl _ _))).gb (gb_sets gl (il (lf'.drop (kk + 1))) kk w8.drew) (by omega) (by omega) HNE8.out)
        have HPM2 : Hid ((e ++ [lf'[kk]] ++ lf'.eraseIdx kk).Perm lf) := by
          refine List.Perm.trans ?_ hPM.out
          rw [List.append_assoc]
          exact List.Perm.append_left e (erase_perm lf' _ (by omega))
        have HO3 : Hid (o2 ++ [lf'[kk]] = od ++ (e ++ [lf'[kk]])) := by show _ = _; rw [hO2.out, List.append_assoc]
        have HLE : Hid ((lf'.eraseIdx kk).length = lf'.length - 1) := by show _ = _; rw [List.length_eraseIdx, if_pos (by omega)]
        clear hcell8 hfz8 HHC
        go_upto_region 44 with (fail)
        refine wp_region_noPanic ?_
        refine wp_region_held_drew (S := fun _ => True) (by kernel_rfl) (by trivial) (fun hHeld => ?_)
        refine wpAnyH_take (i := 0) (oi := { dst := some 191, op := Op.move (Operand.tmp 11), type := 43, pos := "law.go:164", after := #[], guard := none }) (v := ?_) rfl (by kernel_rfl) (by kernel_rfl) (by kernel_rfl) (fun _ _ _ h => h) (Or.inl ⟨by rfl, ?_⟩) (by assumption) ?_
        rotate_left
        (intro w0 hSw; (try dsimp only at hSw); go_simp; try (with_reducible rfl))
        (try simp only [Act.put, List.setIfInBounds_toArray, List.set_cons_zero, List.set_cons_succ])
        refine wpAnyH_take (i := 1) (oi := { dst := some 192, op := Op.move (Operand.tmp 18), type := 3, pos := "law.go:164", after := #[], guard := none }) (v := ?_) rfl (by kernel_rfl) (by kernel_rfl) (by kernel_rfl) (fun _ _ _ h => h) (Or.inl ⟨by rfl, ?_⟩) (by assumption) ?_
        rotate_left
        (intro w0 hSw; (try dsimp only at hSw); go_simp; try (with_reducible rfl))
        (try simp only [Act.put, List.setIfInBounds_toArray, List.set_cons_zero, List.set_cons_succ])
        refine wpAnyH_take (i := 2) (oi := { dst := some 193, op := Op.slice 43 (Operand.tmp 191) none (some (Operand.tmp 192)) none, type := 43, pos := "law.go:164", after := #[{ on := 0, ground := Ground.data }, { on := 1, ground := Ground.data }], guard := none }) (v := ?_) rfl (by kernel_rfl) (by kernel_rfl) (by kernel_rfl) (fun _ _ _ h => h) (Or.inl ⟨by rfl, ?_⟩) (by assumption) ?_
        rotate_left
        (intro w0 hSw; (try dsimp only at hSw); go_simp; try (with_reducible rfl))
        (try simp only [Act.put, List.setIfInBounds_toArray, List.set_cons_zero, List.set_cons_succ])
        refine wpAnyH_take (i := 3) (oi := { dst := some 194, op := Op.move (Operand.tmp 11), type := 43, pos := "law.go:164", after := #[], guard := none }) (v := ?_) rfl (by kernel_rfl) (by kernel_rfl) (by kernel_rfl) (fun _ _ _ h => h) (Or.inl ⟨by rfl, ?_⟩) (by assumption) ?_
        rotate_left
        (intro w0 hSw; (try dsimp only at hSw); go_simp; try (with_reducible rfl))
        (try simp only [Act.put, List.setIfInBounds_toArray, List.set_cons_zero, List.set_cons_succ])
        refine wpAnyH_take (i := 4) (oi := { dst := some 195, op := Op.move (Operand.tmp 18), type := 3, pos := "law.go:164", after := #[], guard := none }) (v := ?_) rfl (by kernel_rfl) (by kernel_rfl) (by kernel_rfl) (fun _ _ _ h => h) (Or.inl ⟨by rfl, ?_⟩) (by assumption) ?_
        rotate_left
        (intro w0 hSw; (try dsimp only at hSw); go_simp; try (with_reducible rfl))
        (try simp only [Act.put, List.setIfInBounds_toArray, List.set_cons_zero, List.set_cons_succ])
        refine wpAnyH_take (i := 5) (oi := { dst := some 196, op := Op.binOp BinOp.add 3 (Operand.tmp 195) (Operand.const (Value.int IntKind.i64 1)) 3, type := 3, pos := "law.go:164", after := #[{ on := 4, ground := Ground.data }], guard := none }) (v := ?_) rfl (by kernel_rfl) (by kernel_rfl) (by kernel_rfl) (fun _ _ _ h => h) (Or.inl ⟨by rfl, ?_⟩) (by assumption) ?_
        rotate_left
        (intro w0 hSw; (try dsimp only at hSw); go_simp; try (with_reducible rfl))
        (try simp only [Act.put, List.setIfInBounds_toArray, List.set_cons_zero, List.set_cons_succ])
        refine wpAnyH_take (i := 6) (oi := { dst := some 197, op := Op.slice 43 (Operand.tmp 194) (some (Operand.tmp 196)) none none, type := 43, pos := "law.go:164", after := #[{ on := 3, ground := Ground.data }, { on := 5, ground := Ground.data }], guard := none }) (v := ?_) rfl (by kernel_rfl) (by kernel_rfl) (by kernel_rfl) (fun _ _ _ h => h) (Or.inl ⟨by rfl, ?_⟩) (by assumption) ?_
        rotate_left
        (intro w0 hSw; (try dsimp only at hSw); go_simp; try (with_reducible rfl))
        (try simp only [Act.put, List.setIfInBounds_toArray, List.set_cons_zero, List.set_cons_succ])
        refine wpAnyH_ready (rs := [7]) (by kernel_rfl) (by simp) (AllReadyH.cons (o := { dst := some 198, op := Op.call { callee := Callee.builtin Builtin.append, args := #[Operand.tmp 193, Operand.tmp 197], argTypes := #[43, 43] }, type := 43, pos := "law.go:164", after := #[{ on := 2, ground := Ground.data }, { on := 6, ground := Ground.data }], guard := none }) rfl (fun K hK => ?_) AllReadyH.nil)
        (refine step_append_room rfl _ _ 43 rfl 3 i3 1 Try.underlying43 HI3.out.1 HI3.out.2.2.1 gl 0 kk c9 rfl _ _ _ (il (lf'.drop (kk + 1))) rfl (by first | (simp [il]; done) | (simp [il]; omega)) (HCN.out _ (by first | exact .inl rfl | exact .inr (by omega))) (il_one _) (by omega) HSP.out ?_)
        refine hK.out _ _ (by trivial) (fun hHeld => ?_)
        clear hK K
        (try simp only [Act.put, List.setIfInBounds_toArray, List.set_cons_zero, List.set_cons_succ])
        refine wpAnyH_take (i := 8) (oi := { dst := some 11, op := Op.assign (Operand.tmp 198), type := 43, pos := "law.go:164", after := #[{ on := 7, ground := Ground.data }, { on := 7, ground := Ground.chain }, { on := 0, ground := Ground.phase }, { on := 1, ground := Ground.phase }, { on := 2, ground := Ground.phase }, { on := 3, ground := Ground.phase }, { on := 4, ground := Ground.phase }, { on := 5, ground := Ground.phase }, { on := 6, ground := Ground.phase }, { on := 7, ground := Ground.phase }], guard := none }) (v := ?_) rfl (by kernel_rfl) (by kernel_rfl) (by kernel_rfl) (fun _ _ _ h => h) (Or.inl ⟨by rfl, ?_⟩) (by assumption) ?_
        rotate_left
        (intro w0 hSw; (try dsimp only at hSw); go_simp; try (with_reducible rfl))
        (try simp only [Act.put, List.setIfInBounds_toArray, List.set_cons_zero, List.set_cons_succ])
        refine wpAnyH_done (by kernel_rfl) ?_ _
        refine NoPanic.normal ?_

        have HOUT2 := HOUT.out
        rw [← HLE.out] at HOUT2
        have HF := hid HOUT2
        clear HOUT2 HOUT HCN HSP
        rw [show kk + (lf'.length - (kk + 1)) = lf'.length - 1 by omega]
        have hE : w8.drew.setCells gl (0 + kk * 1) (il (lf'.drop (kk + 1))) = w8.drew.setCells gl kk (il (lf'.drop (kk + 1))) := by simp
        rw [hE]
        go_wp2
        go_roundw
        case rel => exact ⟨e ++ [lf'[kk]], lf'.eraseIdx kk, o2 ++ [lf'[kk]], t' + 1, by simp, by simp; omega, by simpa using HLWN.out, HO3.out, by rw [HLE.out] at *; exact (by have := HF.out; rwa [HLE.out] at this), HPM2.out, fun g hg => by cases hg; exact HNE8.out⟩
        case measure => simp [slN]; omega
end
end Go.Proofs.Ytfaoegiignalkaa
