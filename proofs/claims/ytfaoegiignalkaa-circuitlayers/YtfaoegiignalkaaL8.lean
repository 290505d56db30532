/-
  CircuitLayers: all layers gone over.
-/
import Derived.Test.YtfaoegiignalkaaL5
import Derived.Test.YtfaoegiignalkaaL7
namespace Go.Proofs.Ytfaoegiignalkaa
open Go.RowKit Go.Shelf
attribute [local go_sem] Oper.semAt_some

/-- The operations below a layer and those of it are no more than all. -/
theorem count_two (n : Nat) (f : Nat → Nat) (i : Nat) : (List.range n).countP (fun x => decide (f x < i)) + (List.range n).countP (fun x => f x == i) ≤ n := by
  induction n with
  | zero => simp
  | succ n ih =>
    rw [List.range_succ, List.countP_append, List.countP_append]
    by_cases h1 : f n < i
    · have h2 : (f n == i) = false := beq_eq_false_iff_ne.2 (by omega)
      simp [h1, h2]; omega
    · by_cases h2 : f n = i
      · simp [h2]; omega
      · simp [h1, h2]; omega
/-- One layer more. -/
theorem odi_next {os : List Oq} {i : Nat} {od e o2 : List Nat} (h : ODi os i od) (hm : ∀ x, x ∈ e ↔ x < os.length ∧ stt os x = i) (hd : e.Nodup) (ho : o2 = od ++ e) : ODi os (i + 1) o2 := by
  subst ho
  have hod : ∀ x, x ∈ od ↔ x < os.length ∧ stt os x < i := fun x => by rw [h.1.mem_iff, List.mem_filter, List.mem_range]; simp
  refine ⟨?_, List.pairwise_append.2 ⟨h.2, ?_, fun x hx y hy => ?_⟩⟩
  · refine (List.perm_ext_iff_of_nodup ?_ (List.nodup_range.filter _)).2 fun x => ?_
    · refine List.nodup_append.2 ⟨h.1.nodup_iff.2 (List.nodup_range.filter _), hd, fun x hx y hy e2 => ?_⟩
      have h1 := (hod x).1 hx
      have h2 := (hm y).1 hy
      subst e2
      omega
    · rw [List.mem_append, hod, hm, List.mem_filter, List.mem_range]
      simp
      omega
  · refine List.Pairwise.imp_of_mem ?_ (List.pairwise_of_forall (fun _ _ => trivial) : e.Pairwise fun _ _ => True)
    intro x y hx hy _
    have h1 := (hm x).1 hx
    have h2 := (hm y).1 hy
    omega
  · have h1 := (hod x).1 hx
    have h2 := (hm y).1 hy
    omega
section
variable {w V : World} {q b : Int} {os : List Oq} {a : Option Addr} {cp : Nat} {A : Nat → Option Addr} {C : Nat → Nat} {ls : List (List Nat)} {vs2 : List Value} {B : Nat} {a2 : Option Addr} {c2 : Nat}
set_option maxHeartbeats 8000000 in
set_option maxRecDepth 100000 in
theorem loopA {t0 t3 t4 t6 t10 t11 t12 t13 t14 t15 t16 t17 t18 t19 t20 t21 t22 t23 t24 t25 t26 t27 t28 t29 t30 t31 t32 t33 t34 t35 t36 t37 t38 t39 t40 t41 t42 t43 t44 t45 t46 t47 t48 t49 t50 t51 t52 t53 t54 t55 t56 t57 t58 t59 t60 t61 t62 t63 t64 t65 t66 t67 t68 t69 t70 t71 t72 t73 t74 t75 t76 t77 t78 t79 t80 t81 t82 t83 t84 t85 t86 t87 t88 t89 t90 t91 t92 t93 t94 t95 t96 t97 t98 t99 t100 t101 t102 t103 t104 t105 t106 t107 t108 t109 t110 t111 t112 t113 t114 t115 t116 t117 t118 t119 t120 t121 t122 t123 t124 t125 t126 t127 t128 t129 t130 t131 t132 t133 t134 t135 t136 t137 t138 t139 t140 t141 t142 t143 t144 t145 t146 t147 t148 t149 t150 t151 t152 t153 t154 t155 t156 t157 t158 t159 t160 t161 t162 t163 t164 t165 t166 t167 t168 t169 t170 t171 t172 t173 t174 t175 t176 t177 t178 t179 t180 t181 t182 t183 t184 t185 t186 t187 t188 t189 t190 t191 t192 t193 t194 t195 t196 t197 t198 t199 t200 t201 t202 t203 t204 t205 t206 t207 t208 t209 t210 t211 t212 t213 t214 t215 t216 t217 t218 t219 t220 t221 t222 t223 t224 t225 t226 t227 t228 t229 t230 t231 t232 t233 t234 t235 t236 t237 t238 t239 t240 t241 t242 t243 t244 t245 : Value} {Q : Exit → Act → World → Prop} {W : World} (hc : CX w V q b os a cp A C ls vs2 B a2 c2) {l : List Int} {al : Option Addr} {cl : Nat} (hq : QS V al cl l) (hlm : l.length ≤ 9223372036854775807) (hpr : ∀ x ∈ l, -9223372036854775808 ≤ x ∧ x ≤ 9223372036854775807) (hW : LW2 V W V.heap.size os.length (Fk os 0 [] 0) (.slice none 0 0) [])
    (hQ : ∀ (s4 s9 s10 s11 s12 s13 s14 s15 s16 s17 s18 s43 s44 s45 s46 s47 s48 s49 s50 s51 s52 s53 s54 s55 s56 s57 s58 s59 s60 s61 s62 s63 s64 s65 s66 s67 s68 s69 s70 s71 s72 s73 s74 s75 s76 s77 s78 s79 s80 s81 s82 s83 s84 s85 s86 s87 s88 s89 s90 s91 s92 s93 s94 s95 s96 s97 s98 s99 s100 s101 s102 s103 s104 s105 s106 s107 s108 s109 s110 s111 s112 s113 s114 s115 s116 s117 s118 s119 s120 s121 s122 s123 s124 s125 s126 s127 s128 s129 s130 s131 s132 s133 s134 s135 s136 s137 s138 s139 s140 s141 s142 s143 s144 s145 s146 s147 s148 s149 s150 s151 s152 s153 s154 s155 s156 s157 s158 s159 s160 s161 s162 s163 s164 s165 s166 s167 s168 s169 s170 s171 s172 s173 s174 s175 s176 s177 s178 s179 s180 s181 s182 s183 s184 s185 s186 s187 s188 s189 s190 s191 s192 s193 s194 s195 s196 s197 s198 : Value) (v' : Value) (od : List Nat) (W : World), ODi os ls.length od → LW2 V W V.heap.size os.length (Fk os ls.length [] 0) v' od → Q .normal ⟨#[t0, .slice al l.length cl, .pointer (some ⟨w.heap.size, 0, none⟩), t3, s4, .slice a2 ls.length c2, t6, .slice (some ⟨V.heap.size, 0, none⟩) os.length os.length, v', s9, s10, s11, s12, s13, s14, s15, s16, s17, s18, t19, t20, t21, t22, t23, t24, t25, t26, t27, t28, t29, t30, t31, t32, t33, t34, t35, t36, t37, t38, t39, t40, t41, t42, s43, s44, s45, s46, s47, s48, s49, s50, s51, s52, s53, s54, s55, s56, s57, s58, s59, s60, s61, s62, s63, s64, s65, s66, s67, s68, s69, s70, s71, s72, s73, s74, s75, s76, s77, s78, s79, s80, s81, s82, s83, s84, s85, s86, s87, s88, s89, s90, s91, s92, s93, s94, s95, s96, s97, s98, s99, s100, s101, s102, s103, s104, s105, s106, s107, s108, s109, s110, s111, s112, s113, s114, s115, s116, s117, s118, s119, s120, s121, s122, s123, s124, s125, s126, s127, s128, s129, s130, s131, s132, s133, s134, s135, s136, s137, s138, s139, s140, s141, s142, s143, s144, s145, s146, s147, s148, s149, s150, s151, s152, s153, s154, s155, s156, s157, s158, s159, s160, s161, s162, s163, s164, s165, s166, s167, s168, s169, s170, s171, s172, s173, s174, s175, s176, s177, s178, s179, s180, s181, s182, s183, s184, s185, s186, s187, s188, s189, s190, s191, s192, s193, s194, s195, s196, s197, s198, t199, t200, t201, t202, t203, t204, t205, t206, t207, t208, t209, t210, t211, t212, t213, t214, t215, t216, t217, t218, t219, t220, t221, t222, t223, t224, t225, t226, t227, t228, t229, t230, t231, t232, t233, t234, t235, t236, t237, t238, t239, t240, t241, t242, t243, t244, t245], []⟩ W) :
    (sl (sr (sr (sr (sr (sr (sr (sr (sr (Try.f7.body.getD .skip)))))))))).wp Try.prog Q ⟨#[t0, .slice al l.length cl, .pointer (some ⟨w.heap.size, 0, none⟩), t3, t4, .slice a2 ls.length c2, t6, .slice (some ⟨V.heap.size, 0, none⟩) os.length os.length, .slice none 0 0, .int .i64 0, t10, t11, t12, t13, t14, t15, t16, t17, t18, t19, t20, t21, t22, t23, t24, t25, t26, t27, t28, t29, t30, t31, t32, t33, t34, t35, t36, t37, t38, t39, t40, t41, t42, t43, t44, t45, t46, t47, t48, t49, t50, t51, t52, t53, t54, t55, t56, t57, t58, t59, t60, t61, t62, t63, t64, t65, t66, t67, t68, t69, t70, t71, t72, t73, t74, t75, t76, t77, t78, t79, t80, t81, t82, t83, t84, t85, t86, t87, t88, t89, t90, t91, t92, t93, t94, t95, t96, t97, t98, t99, t100, t101, t102, t103, t104, t105, t106, t107, t108, t109, t110, t111, t112, t113, t114, t115, t116, t117, t118, t119, t120, t121, t122, t123, t124, t125, t126, t127, t128, t129, t130, t131, t132, t133, t134, t135, t136, t137, t138, t139, t140, t141, t142, t143, t144, t145, t146, t147, t148, t149, t150, t151, t152, t153, t154, t155, t156, t157, t158, t159, t160, t161, t162, t163, t164, t165, t166, t167, t168, t169, t170, t171, t172, t173, t174, t175, t176, t177, t178, t179, t180, t181, t182, t183, t184, t185, t186, t187, t188, t189, t190, t191, t192, t193, t194, t195, t196, t197, t198, t199, t200, t201, t202, t203, t204, t205, t206, t207, t208, t209, t210, t211, t212, t213, t214, t215, t216, t217, t218, t219, t220, t221, t222, t223, t224, t225, t226, t227, t228, t229, t230, t231, t232, t233, t234, t235, t236, t237, t238, t239, t240, t241, t242, t243, t244, t245], []⟩ W := by
  obtain ⟨i3, hi3, hz3, hs3, hb3⟩ := info_parts Try.info3
  have HI3 : Hid (Try.prog.info? 3 = some i3 ∧ i3.zero = some (.int .i64 0) ∧ i3.size = 1 ∧ i3.bytes = 8) := ⟨hi3, hz3, hs3, hb3⟩
  clear hi3 hz3 hs3 hb3
  have HC := hid hc
  have HQ0 := hid hQ
  have HQL := hid hq
  have HPR := hid hpr
  have hlsl : ls.length ≤ 9223372036854775807 := ol_size hc.l2
  have hlen := hc.len
  obtain ⟨a2', c2', e2', hc2⟩ := own_cap hc.l2.out
  cases e2'
  have HW0 := hid hW
  clear hQ hq hpr hW
  conv => arg 2; whnf
  go_wp2
  go_loopw [8, 9, 10] (fun v8 v9 v10 wr => ∃ (i t : Nat) (od : List Nat), i ≤ ls.length ∧ t ≤ od.length ∧ v10 = .int .i64 (i : Nat) ∧ v9 = .int .i64 (t : Nat) ∧ LW2 V wr V.heap.size os.length (Fk os i [] 0) v8 od ∧ Hid (ODi os i od)) (fun _ _ v10 _ => ls.length - (intOf v10).toNat)
  case atStart => exact ⟨0, 0, [], Nat.zero_le _, Nat.le_refl _, rfl, rfl, HW0.out, by show ODi os 0 []; exact ⟨by simp, List.Pairwise.nil⟩⟩
  case round =>
    clear HW0
    obtain ⟨i, t, od, hi, ht, rfl, rfl, hW, hOD⟩ := hrel
    obtain ⟨va, vc, rfl, hvc⟩ := own_cap hW.row
    have HW := hid hW
    by_cases hlt : i < ls.length
    case neg =>
      obtain rfl : i = ls.length := by omega
      clear hW
      go_wp2
      exact HQ0.out _ _ _ _ _ _ _ _ _ _ _ _ _ _ _ _ _ _ _ _ _ _ _ _ _ _ _ _ _ _ _ _ _ _ _ _ _ _ _ _ _ _ _ _ _ _ _ _ _ _ _ _ _ _ _ _ _ _ _ _ _ _ _ _ _ _ _ _ _ _ _ _ _ _ _ _ _ _ _ _ _ _ _ _ _ _ _ _ _ _ _ _ _ _ _ _ _ _ _ _ _ _ _ _ _ _ _ _ _ _ _ _ _ _ _ _ _ _ _ _ _ _ _ _ _ _ _ _ _ _ _ _ _ _ _ _ _ _ _ _ _ _ _ _ _ _ _ _ _ _ _ _ _ _ _ _ _ _ _ _ _ _ _ _ _ _ _ _ _ _ hOD.out HW.out
    have hne0 : 0 < ls[i].length := by
      obtain ⟨x, hx, hsx⟩ := lay_some HC.out.ok (HC.out.hls ▸ hlt)
      exact List.length_pos_of_mem ((HC.out.mem hlt x).2 ⟨hx, hsx⟩)
    obtain ⟨g1, d1, ra1, rc1, e1, m1, l1, q1, u1, r1⟩ := ol_at (HC.out.l2.below hW.below) hlt
    cases e1
    have hll : ls[i].length ≤ 300 := HC.out.le hlt
    obtain ⟨gr, rfl, hgr, _⟩ := r1 0 hne0
    have hnews : ∀ (o1 : Obj) j u, (il ls[i])[j]? = some u → ((wr.alloc o1)).cell? ((⟨gr, 0, none⟩ : Addr).add j) = some u := fun o1 j u hu => by
      obtain ⟨hj, e⟩ := List.getElem?_eq_some_iff.1 hu
      have hj2 : j < ls[i].length := by simpa [il] using hj
      obtain ⟨gr', e', _, hc⟩ := r1 j hj2
      cases e'
      rw [WideShapes.add_plain, Nat.zero_add]
      refine ((bal (Below.refl _ wr) o1).cell (p := ⟨gr, j, none⟩) hgr).trans ?_
      rw [hc, ← e]
      simp [il]
    have hgs := hW.seen.lt
    have hodl : od.length + ls[i].length ≤ 300 := by
      have h1 := hOD.out.1.length_eq
      rw [h1, HC.out.get hlt, ← List.countP_eq_length_filter, ← List.countP_eq_length_filter]
      exact Nat.le_trans (count_two os.length (fun x => stt os x) i) hlen
    have HNEWS := hid hnews
    have HLF : Hid (∀ lf, lf = ls[i] → lf = ls[i]) := fun _ h => h
    obtain ⟨lf, hlf⟩ : ∃ lf, lf = ls[i] := ⟨_, rfl⟩
    rw [← hlf] at HNEWS hll hne0 hodl m1 q1
    have HLF2 := hid hlf
    clear hnews r1 hlf HLF
    show Code.wp Try.prog (Code.seq _ (Code.seq (Code.block 1 (Code.seq _ (Code.seq _ (sr (sr (bk (sl (sr (lp (bk (sr (sl (sr (sr (sr (sr (sr (sr (sr (sr (Try.f7.body.getD .skip))))))))))))))))))))) _)) _ _ _
    go_wp2_with (at_builtin; refine Hid.out ?_)
    refine hid ?_
    refine wpList_append_own_at _ rfl _ _ 43 rfl wr.heap.size 3 i3 (.int .i64 0) 1 8 Try.underlying43 HI3.out.1 HI3.out.2.1 HI3.out.2.2.1 HI3.out.2.2.2 rfl (by decide) _ 0 [] rfl (own_new (by simp) (by omega)) ⟨gr, 0, none⟩ lf.length rc1 (il lf) rfl (by simp [il]) (HNEWS.out _) (il_one lf) (by unfold maxLen; omega) (by omega) (by simp) ?_
    intro v11 w6 hown6 hgrow6 _ _
    rw [Nat.zero_add, List.nil_append] at hown6
    have hB6 : Below wr.heap.size wr w6 := (bal (Below.refl _ _) _).grown hgrow6 (by simp) (fun k e => by have e2 : wr.heap.size = k := Option.some.inj e; omega)
    obtain ⟨gl, cL, eL, hcL, _, _, hgB, _⟩ := own_at hown6 (by omega)
    subst eL
    have HNE : Hid (∀ g, (Value.slice (some ⟨gl, 0, none⟩) lf.length cL).ownBlock = some g → (Value.slice va od.length vc).ownBlock ≠ some g) := fun g h1 h2 => by
      cases h1
      have := (HW.out.row.lt gl h2).2
      omega
    have HW6 := hid (HW.out.on hB6)
    have HLR := hid (own_mono hown6 (show V.heap.size + 1 ≤ wr.heap.size by omega))
    clear hown6 hgrow6 hB6 HNEWS hW HW m1 l1 hgr hgB
    go_wp2
    go_loopw [12] (fun s wr => ∃ k : Nat, k ≤ lf.length ∧ s = .int .i64 (k : Nat) ∧ LW2 V wr V.heap.size os.length (Fk os i lf k) (.slice va od.length vc) od ∧ wr.ownsRow (V.heap.size + 1) 3 1 (.slice (some ⟨gl, 0, none⟩) lf.length cL) lf.length (il lf)) (fun s _ => lf.length - (intOf s).toNat)
    case atStart => exact ⟨0, Nat.zero_le _, rfl, ⟨HW6.out.below, HW6.out.seen.congr fun x _ => by simp [Fk], HW6.out.row⟩, HLR.out⟩
    case round =>
      clear HW6 HLR
      obtain ⟨k, hk, rfl, hW, hLr⟩ := hrel
      have HW := hid hW
      have HLR := hid hLr
      clear hW hLr
      by_cases hltk : k < lf.length
      case pos =>
        show Code.wp Try.prog (Code.seq _ (Code.seq (Code.block 3 (bk (sl (sr (lp (bk (sr (sl (sr (bk (sl (sr (lp (bk (sr (sl (sr (sr (sr (sr (sr (sr (sr (sr (Try.f7.body.getD .skip))))))))))))))))))))))))) _)) _ _ _
        go_wp2
        refine elemB HC.out hlt HLF2.out hltk HW.out HLR.out ?_
        intro _ _ _ _ _ _ _ _ _ _ _ _ _ _ _ _ _ _ _ _ _ _ _ _ _ _ _ _ _ _ _ _ _ _ _ _ _ _ _ _ _ _ _ _ _ _ _ _ _ _ _ _ _ _ _ _ _ _ _ _ _ _ _ _ _ _ _ _ _ _ _ _ _ _ _ _ _ _ _ _ _ _ _ _ _ _ _ _ _ _ _ _ _ _ _ _ _ _ _ _ _ _ _ _ W4 hW4 hL4
        have HW4 := hid hW4
        have HL4 := hid hL4
        clear hW4 hL4
        go_wp2
        go_roundw
        case rel => exact ⟨k + 1, by omega, by go_num, HW4.out, HL4.out⟩
        case measure => simp [intOf]; omega
      obtain rfl : k = lf.length := by omega
      go_wp2
      refine loopE (HQL.out) hlm HPR.out ht hodl HW.out HLR.out HNE.out ?_
      intro _ _ _ _ _ _ _ _ _ _ _ _ _ _ _ _ _ _ _ _ _ _ _ _ _ _ _ _ _ _ _ _ _ _ _ _ _ _ _ _ _ v8 t2 e2 o2 W5 ho2 hpe ht2 hW5
      obtain ⟨a5, c5, rfl, _⟩ := own_cap hW5.row
      have HOD2 : Hid (ODi os (i + 1) o2) := odi_next hOD.out (fun x => by rw [← HC.out.mem hlt x, ← HLF2.out]; exact hpe.mem_iff) (by rw [hpe.nodup_iff, HLF2.out, HC.out.get hlt]; exact List.nodup_range.filter _) ho2
      have HW5 : Hid (LW2 V W5 V.heap.size os.length (Fk os (i + 1) [] 0) (.slice a5 o2.length c5) o2) := ⟨hW5.below, hW5.seen.congr fun x hx => by
        show Value.bool (Fk os i lf lf.length x) = Value.bool (Fk os (i + 1) [] 0 x)
        unfold Fk
        rw [List.take_length]
        have hm := HC.out.mem hlt x
        rw [← HLF2.out] at hm
        congr 1
        rw [Bool.eq_iff_iff]
        simp only [Bool.or_eq_true, decide_eq_true_eq, hm, List.take_nil, List.not_mem_nil, or_false]
        omega, hW5.row⟩
      clear hW5
      go_wp2
      go_roundw
      case rel => exact ⟨i + 1, t2, o2, by omega, ht2, by go_num, rfl, HW5.out, HOD2.out⟩
      case measure => simp [intOf]; omega
end
end Go.Proofs.Ytfaoegiignalkaa
