/-
  CircuitLayers: one operation of a layer looked at.
-/
import Derived.Test.YtfaoegiignalkaaL3
import Derived.Test.YtfaoegiignalkaaL4
namespace Go.Proofs.Ytfaoegiignalkaa
open Go.RowKit Go.Shelf
attribute [local go_sem] Oper.semAt_some

/-- What is seen: the layers below i, and the first k of layer i. -/
def Fk (os : List Oq) (i : Nat) (lf : List Nat) (k : Nat) (x : Nat) : Bool := decide (stt os x < i) || decide (x ∈ lf.take k)
section
variable {w V : World} {q b : Int} {os : List Oq} {a : Option Addr} {cp : Nat} {A : Nat → Option Addr} {C : Nat → Nat} {ls : List (List Nat)} {vs2 : List Value} {B : Nat} {a2 : Option Addr} {c2 : Nat}
set_option maxHeartbeats 8000000 in
set_option maxRecDepth 100000 in
theorem elemB {t0 t1 t3 t4 t6 t8 t9 t13 t14 t15 t16 t17 t18 t19 t20 t21 t22 t23 t24 t25 t26 t27 t28 t29 t30 t31 t32 t33 t34 t35 t36 t37 t38 t39 t40 t41 t42 t43 t44 t45 t46 t47 t48 t49 t50 t51 t52 t53 t54 t55 t56 t57 t58 t59 t60 t61 t62 t63 t64 t65 t66 t67 t68 t69 t70 t71 t72 t73 t74 t75 t76 t77 t78 t79 t80 t81 t82 t83 t84 t85 t86 t87 t88 t89 t90 t91 t92 t93 t94 t95 t96 t97 t98 t99 t100 t101 t102 t103 t104 t105 t106 t107 t108 t109 t110 t111 t112 t113 t114 t115 t116 t117 t118 t119 t120 t121 t122 t123 t124 t125 t126 t127 t128 t129 t130 t131 t132 t133 t134 t135 t136 t137 t138 t139 t140 t141 t142 t143 t144 t145 t146 t147 t148 t149 t150 t151 t152 t153 t154 t155 t156 t157 t158 t159 t160 t161 t162 t163 t164 t165 t166 t167 t168 t169 t170 t171 t172 t173 t174 t175 t176 t177 t178 t179 t180 t181 t182 t183 t184 t185 t186 t187 t188 t189 t190 t191 t192 t193 t194 t195 t196 t197 t198 t199 t200 t201 t202 t203 t204 t205 t206 t207 t208 t209 t210 t211 t212 t213 t214 t215 t216 t217 t218 t219 t220 t221 t222 t223 t224 t225 t226 t227 t228 t229 t230 t231 t232 t233 t234 t235 t236 t237 t238 t239 t240 t241 t242 t243 t244 t245 : Value} {Q : Exit → Act → World → Prop} {W : World} (hc : CX w V q b os a cp A C ls vs2 B a2 c2) {i k gl cL : Nat} {v : Value} {od lf : List Nat} (hi : i < ls.length) (hlf : lf = ls[i]) (hk : k < lf.length) (hW : LW2 V W V.heap.size os.length (Fk os i lf k) v od) (hLr : W.ownsRow (V.heap.size + 1) 3 1 (.slice (some ⟨gl, 0, none⟩) lf.length cL) lf.length (il lf))
    (hQ : ∀ (s4 s13 s14 s15 s16 s17 s62 s63 s64 s65 s66 s67 s68 s69 s70 s71 s72 s73 s74 s75 s76 s77 s78 s79 s80 s81 s82 s83 s84 s85 s86 s87 s88 s89 s90 s91 s92 s93 s94 s95 s96 s97 s98 s99 s100 s101 s102 s103 s104 s105 s106 s107 s108 s109 s110 s111 s112 s113 s114 s115 s116 s117 s118 s119 s120 s121 s122 s123 s124 s125 s126 s127 s128 s129 s130 s131 s132 s133 s134 s135 s136 s137 s138 s139 s140 s141 s142 s143 s144 s145 s146 s147 s148 s149 s150 s151 s152 s153 s154 s155 s156 s157 s158 s159 : Value) (W : World), LW2 V W V.heap.size os.length (Fk os i lf (k + 1)) v od → W.ownsRow (V.heap.size + 1) 3 1 (.slice (some ⟨gl, 0, none⟩) lf.length cL) lf.length (il lf) → Q .normal ⟨#[t0, t1, .pointer (some ⟨w.heap.size, 0, none⟩), t3, s4, .slice a2 ls.length c2, t6, .slice (some ⟨V.heap.size, 0, none⟩) os.length os.length, t8, t9, .int .i64 (i : Nat), .slice (some ⟨gl, 0, none⟩) lf.length cL, .int .i64 (k : Nat), s13, s14, s15, s16, s17, t18, t19, t20, t21, t22, t23, t24, t25, t26, t27, t28, t29, t30, t31, t32, t33, t34, t35, t36, t37, t38, t39, t40, t41, t42, t43, t44, t45, t46, t47, t48, t49, t50, t51, t52, t53, t54, t55, t56, t57, t58, t59, t60, t61, s62, s63, s64, s65, s66, s67, s68, s69, s70, s71, s72, s73, s74, s75, s76, s77, s78, s79, s80, s81, s82, s83, s84, s85, s86, s87, s88, s89, s90, s91, s92, s93, s94, s95, s96, s97, s98, s99, s100, s101, s102, s103, s104, s105, s106, s107, s108, s109, s110, s111, s112, s113, s114, s115, s116, s117, s118, s119, s120, s121, s122, s123, s124, s125, s126, s127, s128, s129, s130, s131, s132, s133, s134, s135, s136, s137, s138, s139, s140, s141, s142, s143, s144, s145, s146, s147, s148, s149, s150, s151, s152, s153, s154, s155, s156, s157, s158, s159, t160, t161, t162, t163, t164, t165, t166, t167, t168, t169, t170, t171, t172, t173, t174, t175, t176, t177, t178, t179, t180, t181, t182, t183, t184, t185, t186, t187, t188, t189, t190, t191, t192, t193, t194, t195, t196, t197, t198, t199, t200, t201, t202, t203, t204, t205, t206, t207, t208, t209, t210, t211, t212, t213, t214, t215, t216, t217, t218, t219, t220, t221, t222, t223, t224, t225, t226, t227, t228, t229, t230, t231, t232, t233, t234, t235, t236, t237, t238, t239, t240, t241, t242, t243, t244, t245], []⟩ W) :
    (bk (sl (sr (lp (bk (sr (sl (sr (bk (sl (sr (lp (bk (sr (sl (sr (sr (sr (sr (sr (sr (sr (sr (Try.f7.body.getD .skip)))))))))))))))))))))))).wp Try.prog Q ⟨#[t0, t1, .pointer (some ⟨w.heap.size, 0, none⟩), t3, t4, .slice a2 ls.length c2, t6, .slice (some ⟨V.heap.size, 0, none⟩) os.length os.length, t8, t9, .int .i64 (i : Nat), .slice (some ⟨gl, 0, none⟩) lf.length cL, .int .i64 (k : Nat), t13, t14, t15, t16, t17, t18, t19, t20, t21, t22, t23, t24, t25, t26, t27, t28, t29, t30, t31, t32, t33, t34, t35, t36, t37, t38, t39, t40, t41, t42, t43, t44, t45, t46, t47, t48, t49, t50, t51, t52, t53, t54, t55, t56, t57, t58, t59, t60, t61, t62, t63, t64, t65, t66, t67, t68, t69, t70, t71, t72, t73, t74, t75, t76, t77, t78, t79, t80, t81, t82, t83, t84, t85, t86, t87, t88, t89, t90, t91, t92, t93, t94, t95, t96, t97, t98, t99, t100, t101, t102, t103, t104, t105, t106, t107, t108, t109, t110, t111, t112, t113, t114, t115, t116, t117, t118, t119, t120, t121, t122, t123, t124, t125, t126, t127, t128, t129, t130, t131, t132, t133, t134, t135, t136, t137, t138, t139, t140, t141, t142, t143, t144, t145, t146, t147, t148, t149, t150, t151, t152, t153, t154, t155, t156, t157, t158, t159, t160, t161, t162, t163, t164, t165, t166, t167, t168, t169, t170, t171, t172, t173, t174, t175, t176, t177, t178, t179, t180, t181, t182, t183, t184, t185, t186, t187, t188, t189, t190, t191, t192, t193, t194, t195, t196, t197, t198, t199, t200, t201, t202, t203, t204, t205, t206, t207, t208, t209, t210, t211, t212, t213, t214, t215, t216, t217, t218, t219, t220, t221, t222, t223, t224, t225, t226, t227, t228, t229, t230, t231, t232, t233, t234, t235, t236, t237, t238, t239, t240, t241, t242, t243, t244, t245], []⟩ W := by
  have HC := hid hc
  have HQ0 := hid hQ
  have hl3 : lf.length ≤ 300 := by rw [hlf]; exact hc.le hi
  have hmem : ∀ x, x ∈ lf ↔ x < os.length ∧ stt os x = i := fun x => by rw [hlf]; exact hc.mem hi x
  have hsort : lf.Pairwise (· < ·) := by rw [hlf, hc.get hi]; exact List.pairwise_lt_range.filter _
  obtain ⟨n0, hn0⟩ : ∃ n0, n0 = lf[k] := ⟨_, rfl⟩
  obtain ⟨hnl, hns⟩ := (hmem n0).1 (hn0 ▸ List.getElem_mem hk)
  have htk : ∀ j (hj : j < k), lf[j]'(by omega) < n0 := fun j hj => by rw [hn0]; exact List.pairwise_iff_getElem.1 hsort j k (by omega) hk hj
  have hnot : n0 ∉ lf.take k := fun hm => by
    obtain ⟨j, hj, e⟩ := List.getElem_of_mem hm
    rw [List.length_take] at hj
    rw [List.getElem_take] at e
    have := htk j (by omega)
    omega
  have HLD : Hid (∀ j, j < k → ∃ hj2 : j < lf.length, lf[j] < os.length ∧ bdB (os.getD lf[j] noOq) (os.getD n0 noOq) = false) := fun j hj => by
    obtain ⟨g1, g2⟩ := (hmem (lf[j]'(by omega))).1 (List.getElem_mem _)
    refine ⟨by omega, g1, ?_⟩
    cases e : bdB (os.getD (lf[j]'(by omega)) noOq) (os.getD n0 noOq) with
    | false => rfl
    | true =>
      have := stt_up (htk j hj) hnl e
      omega
  have cs : W.cell? ⟨V.heap.size, n0, none⟩ = some (.bool false) := by
    rw [hW.seen.cell hnl]
    show some (Value.bool (decide (stt os n0 < i) || decide (n0 ∈ lf.take k))) = _
    rw [hns, decide_eq_false (Nat.lt_irrefl i), decide_eq_false hnot]
    rfl
  have fs := hW.seen.frozen n0
  have ls1 := hW.seen.lt
  obtain ⟨gl', cap, e, hcc, _, hcell, hgB, hgl⟩ := own_at hLr (by omega)
  cases e
  have hHC : ∀ j (hj : j < lf.length), W.cell? ⟨gl, j, none⟩ = some (.int .i64 (lf[j] : Nat)) := fun j hj => by
    rw [hcell j (by simp [il]; exact hj)]
    simp [il]
  have ck : W.cell? ⟨gl, k, none⟩ = some (.int .i64 (n0 : Nat)) := by rw [hHC k hk, hn0]
  have HN2 : Hid (LW2 V (W.setCell ⟨V.heap.size, n0, none⟩ (.bool true)) V.heap.size os.length (Fk os i lf (k + 1)) v od) := by
    refine ⟨bset hW.below _ _ _ (Nat.le_refl _), (hW.seen.set n0 (.bool true)).congr fun x _ => ?_, own_kept hW.row (gb_set (gb_refl W V.heap.size) _ _ _ (.inl rfl)) (fun g hg e => by have := (hW.row.lt g hg).1; cases e; omega)⟩
    show (if x = n0 then Value.bool true else .bool (decide (stt os x < i) || decide (x ∈ lf.take k))) = .bool (decide (stt os x < i) || decide (x ∈ lf.take (k + 1)))
    rw [List.take_succ_eq_append_getElem hk, ← hn0]
    by_cases e : x = n0
    · rw [if_pos e, e]; simp
    · rw [if_neg e]; simp [e]
  have HL2' : Hid ((W.setCell ⟨V.heap.size, n0, none⟩ (.bool true)).ownsRow (V.heap.size + 1) 3 1 (.slice (some ⟨gl, 0, none⟩) lf.length cL) lf.length (il lf)) :=
    own_kept hLr (gb_set (gb_refl W V.heap.size) _ _ _ (.inl rfl)) (fun g hg e => by have := (hLr.lt g hg).1; cases e; omega)
  have hp : k = 0 ∨ ∃ k1 m0 : Nat, (k : Int) - 1 = (k1 : Int) ∧ k1 < lf.length ∧ (0 : Int) < (k : Int) ∧ W.cell? ⟨gl, k1, none⟩ = some (.int .i64 (m0 : Nat)) ∧ m0 < n0 := by
    by_cases h0 : k = 0
    · exact .inl h0
    · exact .inr ⟨k - 1, _, by omega, by omega, by omega, hHC (k - 1) (by omega), htk (k - 1) (by omega)⟩
  clear hcell hW hLr htk hnot hHC hn0 hmem hsort hQ hgB hlf
  show Code.wp Try.prog (Code.seq _ (Code.seq _ (Code.seq _ (Code.seq _ (Code.seq (sl (sr (sr (sr (sr (bk (sl (sr (lp (bk (sr (sl (sr (bk (sl (sr (lp (bk (sr (sl (sr (sr (sr (sr (sr (sr (sr (sr (Try.f7.body.getD .skip))))))))))))))))))))))))))))) (Code.seq (sl (sr (sr (sr (sr (sr (bk (sl (sr (lp (bk (sr (sl (sr (bk (sl (sr (lp (bk (sr (sl (sr (sr (sr (sr (sr (sr (sr (sr (Try.f7.body.getD .skip)))))))))))))))))))))))))))))) _)))))) Q _ _
  rcases hp with h0 | ⟨k1, m0, hk1, hk2, hk3, cm, hm⟩
  · have h0' : ¬ ((0 : Int) < (k : Int)) := by omega
    have HK0 := hid h0
    clear h0
    go_wp2
    refine loopC HC.out hi hnl hns (by omega) HN2.out HL2'.out ?_
    intro _ _ _ _ _ _ _ _ _ _ _ _ _ _ _ _ _ _ _ _ _ _ _ _ _ _ _ _ _ _ _ _ _ _ _ _ _ _ _ _ _ _ _ W3 hW3 hL3
    have HW3 := hid hW3
    have HL3 := hid hL3
    clear hW3 hL3
    go_wp2
    refine loopD HC.out hk hl3 hnl HLD.out HW3.out HL3.out ?_
    intro _ _ _ _ _ _ _ _ _ _ _ _ _ _ _ _ _ _ _ _ _ W4 hW4 hL4
    have HW4 := hid hW4
    have HL4 := hid hL4
    clear hW4 hL4
    go_wp2
    exact HQ0.out _ _ _ _ _ _ _ _ _ _ _ _ _ _ _ _ _ _ _ _ _ _ _ _ _ _ _ _ _ _ _ _ _ _ _ _ _ _ _ _ _ _ _ _ _ _ _ _ _ _ _ _ _ _ _ _ _ _ _ _ _ _ _ _ _ _ _ _ _ _ _ _ _ _ _ _ _ _ _ _ _ _ _ _ _ _ _ _ _ _ _ _ _ _ _ _ _ _ _ _ _ _ _ _ _ HW4.out HL4.out
  · have hm' : ¬ ((n0 : Int) ≤ (m0 : Int)) := by omega
    go_wp2
    refine loopC HC.out hi hnl hns (by omega) HN2.out HL2'.out ?_
    intro _ _ _ _ _ _ _ _ _ _ _ _ _ _ _ _ _ _ _ _ _ _ _ _ _ _ _ _ _ _ _ _ _ _ _ _ _ _ _ _ _ _ _ W3 hW3 hL3
    have HW3 := hid hW3
    have HL3 := hid hL3
    clear hW3 hL3
    go_wp2
    refine loopD HC.out hk hl3 hnl HLD.out HW3.out HL3.out ?_
    intro _ _ _ _ _ _ _ _ _ _ _ _ _ _ _ _ _ _ _ _ _ W4 hW4 hL4
    have HW4 := hid hW4
    have HL4 := hid hL4
    clear hW4 hL4
    go_wp2
    exact HQ0.out _ _ _ _ _ _ _ _ _ _ _ _ _ _ _ _ _ _ _ _ _ _ _ _ _ _ _ _ _ _ _ _ _ _ _ _ _ _ _ _ _ _ _ _ _ _ _ _ _ _ _ _ _ _ _ _ _ _ _ _ _ _ _ _ _ _ _ _ _ _ _ _ _ _ _ _ _ _ _ _ _ _ _ _ _ _ _ _ _ _ _ _ _ _ _ _ _ _ _ _ _ _ _ _ _ HW4.out HL4.out
end
end Go.Proofs.Ytfaoegiignalkaa
