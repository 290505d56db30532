/-
  The law CircuitKeeps.
-/
import Derived.Test.YtfaoegiignalkaaX1
import Derived.Test.YtfaoegiignalkaaJ11
import Derived.Test.YtfaoegiignalkaaK5
import Derived.Test.YtfaoegiignalkaaJoins
namespace Go.Proofs.Ytfaoegiignalkaa
open Go.RowKit Go.Shelf

/-- Nothing has turned in [lo, hi). -/
def Ke (V W : World) (lo hi : Nat) : Prop := ∀ k, lo ≤ k → k < hi → W.heap[k]? = V.heap[k]?
theorem Ke.trans {V W X : World} {lo hi : Nat} (h : Ke V W lo hi) (g : Ke W X lo hi) : Ke V X lo hi := fun k h1 h2 => (g k h1 h2).trans (h k h1 h2)
theorem Ke.refl (V : World) (lo hi : Nat) : Ke V V lo hi := fun _ _ _ => rfl
theorem Below.ke {V W : World} {lo hi : Nat} (h : Below V.heap.size V W) (hh : hi ≤ V.heap.size) : Ke V W lo hi := fun k _ h2 => h.block k (by omega)
theorem Fr.ke {V W : World} {lo hi a b : Nat} (h : Fr V W lo hi) (hb : b ≤ V.heap.size) (hd : b ≤ lo ∨ hi ≤ a) : Ke V W a b := fun k h1 h2 => h.block k (by omega) (by omega)
theorem Fr.trans {U V W : World} {lo hi lo' hi' : Nat} (h : Fr U V lo hi) (g : Fr V W lo' hi') : W.os = U.os ∧ W.tape = U.tape ∧ W.output = U.output ∧ U.heap.size ≤ W.heap.size := ⟨g.os.trans h.os, g.tape.trans h.tape, g.output.trans h.output, Nat.le_trans h.size g.size⟩
theorem below_fr {w V W : World} {lo hi : Nat} (h : Below w.heap.size w V) (g : Fr V W lo hi) (hl : w.heap.size ≤ lo) : Below w.heap.size w W :=
  ⟨g.os.trans h.os, g.tape.trans h.tape, g.output.trans h.output, Nat.le_trans h.size g.size, fun k hk => (g.block k (Nat.lt_of_lt_of_le hk h.size) (.inl (by omega))).trans (h.block k hk)⟩
/-- Operations whose memory lies in [lo, hi). -/
def OOw (V : World) (lo hi : Nat) (v : Value) (os : List Oq) (vs : List (Option Addr × Nat)) : Prop := hi ≤ V.heap.size ∧ ∃ V0, OO V0 lo v os vs ∧ V0.heap.size = hi ∧ Ke V0 V lo hi
theorem OOw.oo {V : World} {lo hi : Nat} {v : Value} {os : List Oq} {vs : List (Option Addr × Nat)} (h : OOw V lo hi v os vs) : OO V lo v os vs := by
  obtain ⟨_, V0, h1, rfl, h3⟩ := h
  exact h1.on h3
theorem OOw.ke {V W : World} {lo hi : Nat} {v : Value} {os : List Oq} {vs : List (Option Addr × Nat)} (h : OOw V lo hi v os vs) (hs : V.heap.size ≤ W.heap.size) (g : Ke V W lo hi) : OOw W lo hi v os vs := by
  obtain ⟨h0, V0, h1, h2, h3⟩ := h
  exact ⟨Nat.le_trans h0 hs, V0, h1, h2, h3.trans g⟩
theorem OOw.blw {V W : World} {lo hi : Nat} {v : Value} {os : List Oq} {vs : List (Option Addr × Nat)} (h : OOw V lo hi v os vs) (hb : Below V.heap.size V W) : OOw W lo hi v os vs := h.ke hb.size (Below.ke hb h.1)
theorem oow_new {V : World} {lo : Nat} {v : Value} {os : List Oq} {vs : List (Option Addr × Nat)} (h : OO V lo v os vs) : OOw V lo V.heap.size v os vs := ⟨Nat.le_refl _, V, h, rfl, Ke.refl _ _ _⟩
theorem OOw.os {V : World} {lo hi n k : Nat} {a : Option Addr} {os : List Oq} {vs : List (Option Addr × Nat)} (h : OOw V lo hi (.slice a n k) os vs) : OS V a k os (vA vs) (vC vs) := by
  obtain ⟨a', c', e, hS⟩ := h.oo.read
  cases e
  exact hS
def OLw (V : World) (lo hi : Nat) (v : Value) (ls : List (List Nat)) (vs : List Value) : Prop := hi ≤ V.heap.size ∧ ∃ V0, OL V0 lo v ls vs ∧ V0.heap.size = hi ∧ Ke V0 V lo hi
theorem OLw.ol {V : World} {lo hi : Nat} {v : Value} {ls : List (List Nat)} {vs : List Value} (h : OLw V lo hi v ls vs) : OL V lo v ls vs := by
  obtain ⟨_, V0, h1, rfl, h3⟩ := h
  exact ⟨h1.len, own_on h1.out h3, fun k hk hk' => own_on (h1.row k hk hk') h3, h1.ne⟩
theorem OLw.ke {V W : World} {lo hi : Nat} {v : Value} {ls : List (List Nat)} {vs : List Value} (h : OLw V lo hi v ls vs) (hs : V.heap.size ≤ W.heap.size) (g : Ke V W lo hi) : OLw W lo hi v ls vs := by
  obtain ⟨h0, V0, h1, h2, h3⟩ := h
  exact ⟨Nat.le_trans h0 hs, V0, h1, h2, h3.trans g⟩
theorem OLw.blw {V W : World} {lo hi : Nat} {v : Value} {ls : List (List Nat)} {vs : List Value} (h : OLw V lo hi v ls vs) (hb : Below V.heap.size V W) : OLw W lo hi v ls vs := h.ke hb.size (Below.ke hb h.1)
theorem olw_new {V : World} {lo : Nat} {v : Value} {ls : List (List Nat)} {vs : List Value} (h : OL V lo v ls vs) : OLw V lo V.heap.size v ls vs := ⟨Nat.le_refl _, V, h, rfl, Ke.refl _ _ _⟩
/-- Such operations may be written over. -/
theorem OOw.sp {V : World} {lo hi n c : Nat} {a : Option Addr} {os : List Oq} {vs : List (Option Addr × Nat)} (h : OOw V lo hi (.slice a n c) os vs) : n = os.length ∧ n ≤ c ∧ SPw V V lo hi 57 7 2 a n (fun i => (vA vs i, (os.getD i noOq).qs.length, vC vs i)) := by
  have hOO := h.oo
  obtain ⟨h0, V0, h1, h2, h3⟩ := h
  obtain ⟨a', c', e, hc⟩ := own_cap h1.own
  injection e with e1 e2 e3
  subst e1 e2 e3
  have hl := h1.len
  refine ⟨rfl, hc, Fr.refl _ _ _, fun hn => ?_, fun g i e hi => ?_⟩
  · obtain ⟨g, cap, e, _, _, _, hB, hgl⟩ := own_at h1.own hn
    cases e
    obtain ⟨cs, hcs⟩ := own_ty h1.own (g := g) rfl
    refine ⟨g, rfl, hB, by omega, cs, (h3 g hB (by omega)).trans hcs, ?_⟩
    rcases h1.own.2 with ⟨e, _⟩ | ⟨g2, cap2, cur2, e, _, hg2, hn2, _, hs2, _⟩
    · cases e
    · cases e
      rw [hcs] at hg2
      cases hg2
      rw [hs2]
      exact Nat.mul_le_mul_right _ hn2
  · subst e
    obtain ⟨g2, cap, e, _, _, hcell, _, _⟩ := own_at hOO.own (by omega)
    cases e
    have hwl := opw_length os vs hl
    have e2 := (opw_at os vs hl i hi (by omega)).2.2.1
    obtain ⟨hlt, e3⟩ := List.getElem?_eq_some_iff.1 e2
    have hq := hOO.qs i hi (by omega)
    have hq0 := h1.qs i hi (by omega)
    have eo : os.getD i noOq = os[i] := by rw [List.getD_eq_getElem?_getD, List.getElem?_eq_getElem hi]; rfl
    rw [vs_at vs i (by omega)] at e3 hq hq0
    simp only [eo]
    refine ⟨by rw [hcell _ hlt, e3], ⟨_, hq⟩, fun b e => .inl ?_⟩
    have := (hq0.lt b e).2
    omega
theorem OLw.sp {V : World} {lo hi n c : Nat} {a : Option Addr} {ls : List (List Nat)} {vs : List Value} (h : OLw V lo hi (.slice a n c) ls vs) : n = ls.length ∧ n ≤ c ∧ ∃ H, (∀ i, i < n → (H i).2.1 = (ls.getD i []).length) ∧ SPw V V lo hi 43 1 0 a n H := by
  have hOL := h.ol
  obtain ⟨h0, V0, h1, h2, h3⟩ := h
  obtain ⟨a', c', e, hc⟩ := own_cap h1.out
  injection e with e1 e2 e3
  subst e1 e2 e3
  have hl := h1.len
  have hex : ∀ i, ∃ x : Option Addr × Nat × Nat, i < ls.length → vs[i]? = some (.slice x.1 x.2.1 x.2.2) ∧ x.2.1 = (ls.getD i []).length := fun i => by
    by_cases hi : i < ls.length
    · obtain ⟨ra, rc, e⟩ := own_shape (h1.row i hi (by omega))
      refine ⟨(ra, ls[i].length, rc), fun _ => ⟨by rw [List.getElem?_eq_getElem (by omega), e], ?_⟩⟩
      rw [List.getD_eq_getElem?_getD, List.getElem?_eq_getElem hi]
      rfl
    · exact ⟨(none, 0, 0), fun h => absurd h hi⟩
  obtain ⟨H, hH⟩ : ∃ H : Nat → Option Addr × Nat × Nat, ∀ i, i < ls.length → vs[i]? = some (.slice (H i).1 (H i).2.1 (H i).2.2) ∧ (H i).2.1 = (ls.getD i []).length := ⟨fun i => (hex i).choose, fun i => (hex i).choose_spec⟩
  clear hex
  refine ⟨rfl, hc, H, fun i hi => (hH i hi).2, Fr.refl _ _ _, fun hn => ?_, fun g i e hi => ?_⟩
  · obtain ⟨g, cap, e, _, _, _, hB, hgl⟩ := own_at h1.out hn
    cases e
    obtain ⟨cs, hcs⟩ := own_ty h1.out (g := g) rfl
    refine ⟨g, rfl, hB, by omega, cs, (h3 g hB (by omega)).trans hcs, ?_⟩
    rcases h1.out.2 with ⟨e, _⟩ | ⟨g2, cap2, cur2, e, _, hg2, hn2, _, hs2, _⟩
    · cases e
    · cases e
      rw [hcs] at hg2
      cases hg2
      rw [hs2]
      exact Nat.mul_le_mul_right _ hn2
  · subst e
    obtain ⟨g2, cap, e, _, _, hcell, _, _⟩ := own_at hOL.out (by omega)
    cases e
    obtain ⟨s1, s2⟩ := hH i hi
    obtain ⟨hlt, e3⟩ := List.getElem?_eq_some_iff.1 s1
    have hq := hOL.row i hi hlt
    have hq0 := h1.row i hi hlt
    have hgd : (ls.getD i []).length = ls[i].length := by rw [List.getD_eq_getElem?_getD, List.getElem?_eq_getElem hi]; rfl
    rw [e3] at hq hq0
    rw [← hgd, ← s2] at hq hq0
    refine ⟨by rw [Nat.mul_one, Nat.add_zero, hcell i hlt, e3], ⟨_, hq⟩, fun b e => .inl ?_⟩
    have := (hq0.lt b e).2
    omega
/-- The layers are no more and no longer than the circuit. -/
theorem layers_le {c : Ci} (hf : ∀ k (h : k < c.ops.length), Fit c.ops[k]) : (layers c).length ≤ c.ops.length ∧ ∀ l ∈ layers c, l.length ≤ c.ops.length := by
  unfold layers
  by_cases hE : (lk c).2.2 = 0
  · rw [if_pos hE]
    have hok : ∀ k (h : k < c.ops.length), Okay c.ops[k] := fun k hk => (lk_okay hE hf k hk).1
    obtain ⟨h1, h2⟩ := layers_rly hok
    rw [h1]
    exact rly_sizes h2 _ (Nat.le_refl _)
  · rw [if_neg hE]
    exact ⟨Nat.zero_le _, fun _ h => by cases h⟩
theorem thR_le {c : Ci} {M : Nat} (hM : ∀ k (h : k < c.ops.length), c.ops[k].qs.length ≤ M) : (thR c c).ops.length ≤ 2 * c.ops.length ∧ ∀ i, i < (thR c c).ops.length → ((thR c c).ops.getD i noOq).qs.length ≤ M := by
  have key : ∀ o ∈ c.ops, o.qs.length ≤ M := fun o ho => by
    obtain ⟨k, hk, e⟩ := List.getElem_of_mem ho
    rw [← e]
    exact hM k hk
  unfold thR
  by_cases hE : thE c c = 0
  · rw [if_pos hE]
    refine ⟨by simp; omega, fun i hi => ?_⟩
    rw [List.getD_eq_getElem?_getD, List.getElem?_eq_getElem hi]
    rcases List.mem_append.1 (List.getElem_mem hi) with h | h
    · exact key _ h
    · exact key _ h
  · rw [if_neg hE]
    exact ⟨Nat.zero_le _, fun i hi => absurd hi (Nat.not_lt_zero _)⟩
end Go.Proofs.Ytfaoegiignalkaa
namespace Go.Proofs.Ytfaoegiignalkaa
open Go.RowKit Go.Shelf
attribute [local go_sem] Oper.semAt_some

/-- A circuit in a box, its operations in a stretch of memory of their own. -/
structure BW (V : World) (X lo hi : Nat) (c : Ci) (a : Option Addr) (k : Nat) (vs : List (Option Addr × Nat)) : Prop where
  bk : BK V X #[.int .i64 c.q, .int .i64 c.b, .slice a c.ops.length k] 24
  oo : OOw V lo hi (.slice a c.ops.length k) c.ops vs
theorem BW.blw {V W : World} {X lo hi : Nat} {c : Ci} {a : Option Addr} {k : Nat} {vs : List (Option Addr × Nat)} (h : BW V X lo hi c a k vs) (hb : Below V.heap.size V W) : BW W X lo hi c a k vs := ⟨(hb.block _ h.bk.lt).trans h.bk, h.oo.blw hb⟩
/-- What the law's end needs of the frame. -/
def KEnd (Q : Exit → Act → World → Prop) (w : World) : Prop := ∀ (a' : Act) (W' : World), a'.tmps[4]? = some (.bool true) → a'.defers = [] → Below w.heap.size w W' → Q .ret a' W'
set_option maxHeartbeats 8000000 in
set_option maxRecDepth 100000 in
theorem tailK {t0 t3 t4 t5 t7 t17 t19 t20 t21 t22 t23 t24 t25 t26 t27 t28 t29 t30 t31 t32 t33 t34 t35 t36 t37 t38 t39 t40 t41 t42 t43 t44 t45 t46 t47 t48 t49 t50 t51 t52 t53 t54 t55 t56 t57 t58 t59 t60 t61 t62 t63 t64 t65 t66 t67 t68 t69 t70 t71 t72 t73 t74 t75 t76 t77 t78 t79 t80 t81 t82 t83 t84 t85 t86 t87 t88 t89 t90 t91 t92 t93 t94 t95 t96 t97 t98 t99 t100 t101 t102 t103 t104 t105 t106 t107 t108 t109 t110 t111 t112 t113 t114 t115 t116 t117 t118 t119 t120 t121 t122 t123 t124 t125 t126 t127 t128 t129 t130 t131 t132 t133 t134 t135 t136 t137 t138 t139 t140 t141 t142 t143 t144 t145 t146 t147 t148 t149 t150 t151 t152 t153 t154 t155 t156 t157 t158 t159 t160 t161 t162 t163 t164 t165 t166 t167 t168 t169 t170 t171 t172 t173 t174 t175 t176 t177 t178 t179 t180 t181 t182 t183 t184 t185 t186 t187 t188 t189 t190 t191 t192 t193 t194 t195 t196 t197 t198 t199 t200 t201 t202 t203 t204 t205 t206 t207 t208 t209 t210 t211 t212 t213 t214 t215 t216 t217 t218 t219 t220 t221 t222 t223 t224 t225 t226 t227 t228 t229 t230 t231 t232 t233 t234 t235 t236 t237 t238 t239 t240 t241 t242 t243 t244 t245 t246 t247 t248 t249 t250 t251 t252 t253 t254 t255 t256 t257 t258 t259 t260 t261 t262 t263 t264 t265 t266 t267 t268 t269 t270 t271 t272 t273 t274 t275 t276 t277 t278 t279 t280 t281 t282 t283 t284 t285 t286 t287 t288 t289 t290 t291 t292 t293 t294 t295 t296 t297 t298 t299 t300 t301 t302 t303 t304 t305 t306 t307 t308 t309 : Value} {Q : Exit → Act → World → Prop} {w V : World} {c R : Ci} {E : Nat} {a al aI aX aY aZ aL aM aU : Option Addr} {cp cl cI cX cY cZ cL cM cU bI bX bY bZ bU i0 i1 x0 x1 y0 y1 z0 z1 l0 l1 m0 m1 u0 u1 : Nat} {A : Nat → Option Addr} {C : Nat → Nat} {l : List Int} {vsI vsX vsY vsZ vsU : List (Option Addr × Nat)} {vsL vsM : List Value} (H : OS w a cp c.ops A C) (hq : QS w al cl l) (hl : l.length ≤ 9223372036854775807) (hn : c.ops.length ≤ 1000) (hqs : ∀ k (h : k < c.ops.length), c.ops[k].qs.length ≤ 100) (hOr : OrS c l R E) (hB : Below w.heap.size w V)
    (kA : BK V w.heap.size #[.int .i64 c.q, .int .i64 c.b, .slice a c.ops.length cp] 24) (kI : BK V bI #[.int .i64 c.q, .int .i64 c.b, .slice aI c.ops.length cI] 24) (hI : OOw V i0 i1 (.slice aI c.ops.length cI) c.ops vsI)
    (kX : BK V bX #[.int .i64 (invR c).q, .int .i64 (invR c).b, .slice aX (invR c).ops.length cX] 24) (hX : OOw V x0 x1 (.slice aX (invR c).ops.length cX) (invR c).ops vsX)
    (kY : BK V bY #[.int .i64 (thR c c).q, .int .i64 (thR c c).b, .slice aY (thR c c).ops.length cY] 24) (hY : OOw V y0 y1 (.slice aY (thR c c).ops.length cY) (thR c c).ops vsY)
    (kZ : BK V bZ #[.int .i64 R.q, .int .i64 R.b, .slice aZ R.ops.length cZ] 24) (hZ : OOw V z0 z1 (.slice aZ R.ops.length cZ) R.ops vsZ)
    (hL : OLw V l0 l1 (.slice aL (layers c).length cL) (layers c) vsL) (hM : OLw V m0 m1 (.slice aM (layers c).length cM) (layers c) vsM)
    (kU : BK V bU #[.int .i64 (thR c c).q, .int .i64 (thR c c).b, .slice aU (thR c c).ops.length cU] 24) (hU : OOw V u0 u1 (.slice aU (thR c c).ops.length cU) (thR c c).ops vsU)
    (o1 : w.heap.size < i0) (o2 : i1 ≤ bI) (o3 : bI < y0) (o4 : i1 ≤ x0) (o5 : x1 ≤ y0) (o6 : i1 ≤ bX) (o7 : bX < y0) (o8 : y1 ≤ bY) (o9 : bY < l0) (o10 : y1 ≤ z0) (o11 : z1 ≤ l0) (o12 : y1 ≤ bZ) (o13 : bZ < l0) (o14 : l1 ≤ m0) (o15 : l1 ≤ u0) (o16 : l1 ≤ bU) (o17 : i1 ≤ y0) (o18 : y1 ≤ l0) (o19 : y0 ≤ y1) (o20 : l0 ≤ l1) (o21 : i0 ≤ i1)
    (hQ : KEnd Q w) :
    (sr (sr (sr (sr (sr (sr (sr (sr (sr (sr (sr (sr (sr (sr (Try.f8.body.getD .skip))))))))))))))).wp Try.prog Q ⟨#[t0, .slice al l.length cl, .pointer (some ⟨w.heap.size, 0, none⟩), t3, t4, t5, .pointer (some ⟨bI, 0, none⟩), t7, .pointer (some ⟨bX, 0, none⟩), .int .i64 (invE c : Nat), .pointer (some ⟨bY, 0, none⟩), .int .i64 (thE c c : Nat), .pointer (some ⟨bZ, 0, none⟩), .int .i64 (E : Nat), .slice aL (layers c).length cL, .int .i64 ((lk c).2.2 : Nat), .slice aM (layers c).length cM, t17, .pointer (some ⟨bU, 0, none⟩), t19, t20, t21, t22, t23, t24, t25, t26, t27, t28, t29, t30, t31, t32, t33, t34, t35, t36, t37, t38, t39, t40, t41, t42, t43, t44, t45, t46, t47, t48, t49, t50, t51, t52, t53, t54, t55, t56, t57, t58, t59, t60, t61, t62, t63, t64, t65, t66, t67, t68, t69, t70, t71, t72, t73, t74, t75, t76, t77, t78, t79, t80, t81, t82, t83, t84, t85, t86, t87, t88, t89, t90, t91, t92, t93, t94, t95, t96, t97, t98, t99, t100, t101, t102, t103, t104, t105, t106, t107, t108, t109, t110, t111, t112, t113, t114, t115, t116, t117, t118, t119, t120, t121, t122, t123, t124, t125, t126, t127, t128, t129, t130, t131, t132, t133, t134, t135, t136, t137, t138, t139, t140, t141, t142, t143, t144, t145, t146, t147, t148, t149, t150, t151, t152, t153, t154, t155, t156, t157, t158, t159, t160, t161, t162, t163, t164, t165, t166, t167, t168, t169, t170, t171, t172, t173, t174, t175, t176, t177, t178, t179, t180, t181, t182, t183, t184, t185, t186, t187, t188, t189, t190, t191, t192, t193, t194, t195, t196, t197, t198, t199, t200, t201, t202, t203, t204, t205, t206, t207, t208, t209, t210, t211, t212, t213, t214, t215, t216, t217, t218, t219, t220, t221, t222, t223, t224, t225, t226, t227, t228, t229, t230, t231, t232, t233, t234, t235, t236, t237, t238, t239, t240, t241, t242, t243, t244, t245, t246, t247, t248, t249, t250, t251, t252, t253, t254, t255, t256, t257, t258, t259, t260, t261, t262, t263, t264, t265, t266, t267, t268, t269, t270, t271, t272, t273, t274, t275, t276, t277, t278, t279, t280, t281, t282, t283, t284, t285, t286, t287, t288, t289, t290, t291, t292, t293, t294, t295, t296, t297, t298, t299, t300, t301, t302, t303, t304, t305, t306, t307, t308, t309], []⟩ V := by
  have HKE := hid hQ
  have HO := hid H
  have HQL := hid hq
  have HOR := hid hOr
  have HF := hid H.fit
  obtain ⟨tl1, tl2⟩ := thR_le (c := c) (M := 100) hqs
  obtain ⟨ll1, ll2⟩ := layers_le (c := c) H.fit
  obtain ⟨_, hcI, SPI⟩ := hI.sp
  have hcap := H.cap
  have X1 := hX.1
  have Y1 := hY.1
  have Z1 := hZ.1
  have L1 := hL.1
  have M1 := hM.1
  have U1 := hU.1
  have e14 : (sr (sr (sr (sr (sr (sr (sr (sr (sr (sr (sr (sr (sr (sr (Try.f8.body.getD .skip))))))))))))))) = Code.seq (sl (sr (sr (sr (sr (sr (sr (sr (sr (sr (sr (sr (sr (sr (sr (Try.f8.body.getD .skip)))))))))))))))) (sr (sr (sr (sr (sr (sr (sr (sr (sr (sr (sr (sr (sr (sr (sr (Try.f8.body.getD .skip)))))))))))))))) := rfl
  rw [e14]
  refine wp_seq ?_
  refine loopI kI (.inr o2) hcI (by omega) (fun i hi => by have := hqs i hi; simp only [List.getD_eq_getElem?_getD, List.getElem?_eq_getElem hi]; show c.ops[i].qs.length ≤ 8192; omega) SPI ?_
  intro _ _ _ _ _ _ _ _ _ _ _ _ _ _ _ _ _ _ _ _ _ _ _ _ _ _ _ _ _ _ _ _ _ W3 hS3
  have F3 := hS3.fr
  have s3 := F3.size
  have hB3 := below_fr hB F3 (by omega)
  replace kA : BK W3 _ _ 24 := F3.bk kA (.inl o1)
  replace kX : BK W3 _ _ 24 := F3.bk kX (.inr o6)
  replace kY : BK W3 _ _ 24 := F3.bk kY (.inr (by omega))
  replace kZ : BK W3 _ _ 24 := F3.bk kZ (.inr (by omega))
  replace kU : BK W3 _ _ 24 := F3.bk kU (.inr (by omega))
  replace hX := hX.ke s3 (F3.ke X1 (.inr (by omega)))
  replace hY := hY.ke s3 (F3.ke Y1 (.inr (by omega)))
  replace hZ := hZ.ke s3 (F3.ke Z1 (.inr (by omega)))
  replace hL := hL.ke s3 (F3.ke L1 (.inr (by omega)))
  replace hM := hM.ke s3 (F3.ke M1 (.inr (by omega)))
  replace hU := hU.ke s3 (F3.ke U1 (.inr (by omega)))
  clear hS3 SPI hI kI F3 hB
  obtain ⟨_, hcY, SPY⟩ := hY.sp
  have e15 : (sr (sr (sr (sr (sr (sr (sr (sr (sr (sr (sr (sr (sr (sr (sr (Try.f8.body.getD .skip)))))))))))))))) = Code.seq (sl (sr (sr (sr (sr (sr (sr (sr (sr (sr (sr (sr (sr (sr (sr (sr (Try.f8.body.getD .skip))))))))))))))))) (sr (sr (sr (sr (sr (sr (sr (sr (sr (sr (sr (sr (sr (sr (sr (sr (Try.f8.body.getD .skip))))))))))))))))) := rfl
  show Code.wp Try.prog (sr (sr (sr (sr (sr (sr (sr (sr (sr (sr (sr (sr (sr (sr (sr (Try.f8.body.getD .skip)))))))))))))))) _ _ _
  rw [e15]
  refine wp_seq ?_
  refine loopY kY (.inr o8) hcY (by omega) (by have := hY.1; have := hL.1; omega) (fun i hi => by have := tl2 i hi; show ((thR c c).ops.getD i noOq).qs.length ≤ 4096; omega) SPY ?_
  intro _ _ _ _ _ _ _ _ _ _ _ _ _ _ _ _ _ _ _ _ _ _ _ _ _ _ _ _ _ _ _ _ _ _ _ _ _ _ _ _ _ _ _ _ _ _ W5 F5
  have s5 := F5.size
  have hB5 := below_fr hB3 F5 (by omega)
  replace kA : BK W5 _ _ 24 := F5.bk kA (.inl (by omega))
  replace kX : BK W5 _ _ 24 := F5.bk kX (.inl (by omega))
  replace kZ : BK W5 _ _ 24 := F5.bk kZ (.inr (by omega))
  replace kU : BK W5 _ _ 24 := F5.bk kU (.inr (by omega))
  replace hX := hX.ke s5 (F5.ke hX.1 (.inl (by omega)))
  replace hZ := hZ.ke s5 (F5.ke hZ.1 (.inr (by omega)))
  replace hL := hL.ke s5 (F5.ke hL.1 (.inr (by omega)))
  replace hM := hM.ke s5 (F5.ke hM.1 (.inr (by omega)))
  replace hU := hU.ke s5 (F5.ke hU.1 (.inr (by omega)))
  clear SPY hY kY F5 hB3
  obtain ⟨_, hcL, HL, hHL, SPL⟩ := hL.sp
  have e16 : (sr (sr (sr (sr (sr (sr (sr (sr (sr (sr (sr (sr (sr (sr (sr (sr (Try.f8.body.getD .skip))))))))))))))))) = Code.seq (sl (sr (sr (sr (sr (sr (sr (sr (sr (sr (sr (sr (sr (sr (sr (sr (sr (Try.f8.body.getD .skip)))))))))))))))))) (sr (sr (sr (sr (sr (sr (sr (sr (sr (sr (sr (sr (sr (sr (sr (sr (sr (Try.f8.body.getD .skip)))))))))))))))))) := rfl
  show Code.wp Try.prog (sr (sr (sr (sr (sr (sr (sr (sr (sr (sr (sr (sr (sr (sr (sr (sr (Try.f8.body.getD .skip))))))))))))))))) _ _ _
  rw [e16]
  refine wp_seq ?_
  refine loopL hcL (by omega) (by have := hM.1; have := hL.1; omega) (fun i hi => by
    rw [hHL i hi]
    have := ll2 ((layers c)[i]) (List.getElem_mem hi)
    rw [List.getD_eq_getElem?_getD, List.getElem?_eq_getElem hi]
    show (layers c)[i].length ≤ 4096
    omega) SPL ?_
  intro _ _ _ _ _ _ _ _ _ _ _ _ _ _ _ _ _ _ _ _ _ _ _ _ _ _ _ _ _ _ _ _ _ _ _ _ _ W8 F8
  have s8 := F8.size
  have hB8 := below_fr hB5 F8 (by omega)
  replace kA : BK W8 _ _ 24 := F8.bk kA (.inl (by omega))
  replace kX : BK W8 _ _ 24 := F8.bk kX (.inl (by omega))
  replace kZ : BK W8 _ _ 24 := F8.bk kZ (.inl (by omega))
  replace kU : BK W8 _ _ 24 := F8.bk kU (.inr (by omega))
  replace hX := hX.ke s8 (F8.ke hX.1 (.inl (by omega)))
  replace hZ := hZ.ke s8 (F8.ke hZ.1 (.inl (by omega)))
  replace hM := hM.ke s8 (F8.ke hM.1 (.inr (by omega)))
  replace hU := hU.ke s8 (F8.ke hU.1 (.inr (by omega)))
  clear SPL hL F8 hB5 hHL ll1 ll2 tl1 tl2 X1 Y1 Z1 L1 M1 U1 s3 s5 s8 H hq hOr hQ hn hqs hcap hcI hcY hcL e14 e15 e16
  clear o1 o2 o3 o4 o5 o6 o7 o8 o9 o10 o11 o12 o13 o14 o15 o16 o17 o18 o19 o20 o21
  have F18 := fun w1 h => rinverseC_any c a cp A C w1 h
  have F19 := fun w1 h1 h2 => rthen_any c c a a cp cp A A C C w1 h1 h2
  have F24 := fun w1 h g => rorder_any c a cp A C l al cl w1 h g hl
  have F23 := fun w1 h => rlayers_any c a cp A C w1 h
  have HONE : Hid (∀ R' E', OrS c l R' E' → R' = R ∧ E' = E) := fun R' E' h => h.one HOR.out
  have SL := fun v v' B B' vs vs' w h1 h2 g1 g2 => sameLists_any (layers c) v v' B B' vs vs' w h1 h2 g1 g2
  unfold OrR at F24
  unfold ThR at F19
  generalize OrS c l = TO at *
  generalize layers c = ls at *
  generalize (lk c).2.2 = LE at *
  generalize invR c = IR at *
  generalize invE c = IE at *
  generalize thR c c = TR at *
  generalize thE c c = TE at *
  have SI := fun a b k l A B C D w h1 h2 => same_any IR a b k l A B C D w h1 h2
  have ST := fun a b k l A B C D w h1 h2 => same_any TR a b k l A B C D w h1 h2
  have SR := fun a b k l A B C D w h1 h2 => same_any R a b k l A B C D w h1 h2
  have HX := hid (BW.mk kX hX)
  have HZ := hid (BW.mk kZ hZ)
  have HU := hid (BW.mk kU hU)
  have HM := hid hM
  have x1 := kA.cell
  have z1 := kA.lt
  have HB := hid hB8
  clear hX hZ hU hM kX kZ kU hB8 hl
  show Code.wp Try.prog (sr (sr (sr (sr (sr (sr (sr (sr (sr (sr (sr (sr (sr (sr (sr (sr (sr (Try.f8.body.getD .skip)))))))))))))))))) _ _ _
  conv => arg 2; whnf
  go_wp2_with (go_at_call 18; (with_reducible refine (F18 _ (HO.out.below HB.out)).mono ?_); rintro e w1 ⟨ap, cp1, vp, rfl, hO1, hB1⟩; refine Hid.out ?_)
  refine hid ?_
  have hb1 := bal hB1 (.cells #[.int .i64 IR.q, .int .i64 IR.b, .slice ap IR.ops.length cp1] 24)
  have BXp := hid (bx_new hO1)
  have kA1 : BK w1 _ _ 24 := (hB1.block _ kA.lt).trans kA
  clear x1 z1
  have x1 := kA1.cell
  have z1 := kA1.lt
  replace kA := kA1.alloc (.cells #[.int .i64 IR.q, .int .i64 IR.b, .slice ap IR.ops.length cp1] 24)
  replace HX := hid (HX.out.blw hb1)
  replace HZ := hid (HZ.out.blw hb1)
  replace HU := hid (HU.out.blw hb1)
  replace HM := hid (HM.out.blw hb1)
  replace HB := hid (btr HB.out hb1)
  clear hb1 hB1 hO1 kA1 F18
  go_wp2_with (go_at_call 19; (with_reducible refine (F19 _ (HO.out.below HB.out) (HO.out.below HB.out)).mono ?_); rintro e w2 ⟨aq, cq, vq, rfl, hO2, hB2⟩; refine Hid.out ?_)
  refine hid ?_
  have hb2 := bal hB2 (.cells #[.int .i64 TR.q, .int .i64 TR.b, .slice aq TR.ops.length cq] 24)
  have BXq := hid (bx_new hO2)
  have kA2 : BK w2 _ _ 24 := (hB2.block _ kA.lt).trans kA
  clear x1 z1
  have x1 := kA2.cell
  have z1 := kA2.lt
  replace kA := kA2.alloc (.cells #[.int .i64 TR.q, .int .i64 TR.b, .slice aq TR.ops.length cq] 24)
  replace HX := hid (HX.out.blw hb2)
  replace HZ := hid (HZ.out.blw hb2)
  replace HU := hid (HU.out.blw hb2)
  replace HM := hid (HM.out.blw hb2)
  replace BXp := hid (BXp.out.blw hb2)
  replace HB := hid (btr HB.out hb2)
  clear hb2 hB2 hO2 kA2 F19
  go_wp2_with (go_at_call 24; (with_reducible refine (F24 _ (HO.out.below HB.out) (HQL.out.below HB.out)).mono ?_); rintro e w3 ⟨R3, E3, a3, c3, v3, hT3, rfl, hO3, hB3⟩; refine Hid.out ?_)
  refine hid ?_
  obtain ⟨rfl, rfl⟩ := HONE.out _ _ hT3
  have hb3 := bal hB3 (.cells #[.int .i64 R3.q, .int .i64 R3.b, .slice a3 R3.ops.length c3] 24)
  have BXr := hid (bx_new hO3)
  have kA3 : BK w3 _ _ 24 := (hB3.block _ kA.lt).trans kA
  clear x1 z1
  have x1 := kA3.cell
  have z1 := kA3.lt
  replace kA := kA3.alloc (.cells #[.int .i64 R3.q, .int .i64 R3.b, .slice a3 R3.ops.length c3] 24)
  replace HX := hid (HX.out.blw hb3)
  replace HZ := hid (HZ.out.blw hb3)
  replace HU := hid (HU.out.blw hb3)
  replace HM := hid (HM.out.blw hb3)
  replace BXp := hid (BXp.out.blw hb3)
  replace BXq := hid (BXq.out.blw hb3)
  replace HB := hid (btr HB.out hb3)
  clear hb3 hB3 hO3 kA3 F24 hT3
  go_wp2_with (go_at_call 23; (with_reducible refine (F23 _ (HO.out.below HB.out)).mono ?_); rintro e w4 ⟨v4, vs4, rfl, hL4, hB4⟩; refine Hid.out ?_)
  refine hid ?_
  replace HX := hid (HX.out.blw hB4)
  replace HZ := hid (HZ.out.blw hB4)
  replace HU := hid (HU.out.blw hB4)
  replace HM := hid (HM.out.blw hB4)
  replace BXp := hid (BXp.out.blw hB4)
  replace BXq := hid (BXq.out.blw hB4)
  replace BXr := hid (BXr.out.blw hB4)
  replace HB := hid (btr HB.out hB4)
  have HL4 := hid hL4
  have hsz := ol_len hL4
  clear hB4 hL4 F23 x1 z1 kA HONE HOR
  have ax1 := HX.out.bk.cell
  have ax2 := HX.out.bk.lt
  have ap1 := BXp.out.bk.cell
  have ap2 := BXp.out.bk.lt
  go_wp2_with (go_at_call 22; (with_reducible refine (SI _ _ _ _ _ _ _ _ _ HX.out.oo.os BXp.out.os).mono ?_); rintro e w5 ⟨rfl, hB5⟩; refine Hid.out ?_)
  refine hid ?_
  replace HX := hid (HX.out.blw hB5)
  replace HZ := hid (HZ.out.blw hB5)
  replace HU := hid (HU.out.blw hB5)
  replace HM := hid (HM.out.blw hB5)
  replace BXp := hid (BXp.out.blw hB5)
  replace BXq := hid (BXq.out.blw hB5)
  replace BXr := hid (BXr.out.blw hB5)
  replace HB := hid (btr HB.out hB5)
  replace HL4 := hid (HL4.out.below hB5)
  clear hB5 SI ax1 ax2 ap1 ap2
  have ax1 := HU.out.bk.cell
  have ax2 := HU.out.bk.lt
  have ap1 := BXq.out.bk.cell
  have ap2 := BXq.out.bk.lt
  go_wp2_with (go_at_call 22; (with_reducible refine (ST _ _ _ _ _ _ _ _ _ HU.out.oo.os BXq.out.os).mono ?_); rintro e w6 ⟨rfl, hB6⟩; refine Hid.out ?_)
  refine hid ?_
  replace HX := hid (HX.out.blw hB6)
  replace HZ := hid (HZ.out.blw hB6)
  replace HU := hid (HU.out.blw hB6)
  replace HM := hid (HM.out.blw hB6)
  replace BXp := hid (BXp.out.blw hB6)
  replace BXq := hid (BXq.out.blw hB6)
  replace BXr := hid (BXr.out.blw hB6)
  replace HB := hid (btr HB.out hB6)
  replace HL4 := hid (HL4.out.below hB6)
  clear hB6 ST ax1 ax2 ap1 ap2
  have ax1 := HZ.out.bk.cell
  have ax2 := HZ.out.bk.lt
  have ap1 := BXr.out.bk.cell
  have ap2 := BXr.out.bk.lt
  go_wp2_with (first
    | (go_at_call 22; (with_reducible refine (SR _ _ _ _ _ _ _ _ _ HZ.out.oo.os BXr.out.os).mono ?_); rintro e w7 ⟨rfl, hB7⟩; replace HB := hid (btr HB.out hB7); replace HL4 := hid (HL4.out.below hB7); replace HM := hid (HM.out.blw hB7); clear hB7)
    | (go_at_call 27; (with_reducible refine (SL _ _ _ _ _ _ _ HM.out.ol HL4.out hsz.1 hsz.2).mono ?_); rintro e w8 ⟨rfl, hB8⟩; replace HB := hid (btr HB.out hB8); clear hB8))
  exact HKE.out _ _ rfl rfl HB.out
end Go.Proofs.Ytfaoegiignalkaa
namespace Go.Proofs.Ytfaoegiignalkaa
open Go.RowKit Go.Shelf
attribute [local go_sem] Oper.semAt_some

theorem row_cell {W : World} {B g n cap : Nat} {xs : List Value} (h : W.ownsRow B 3 1 (.slice (some ⟨g, 0, none⟩) n cap) n xs) (k : Nat) (v : Value) (hv : xs[k]? = some v) : W.cell? ⟨g, k, none⟩ = some v ∧ g < W.heap.size ∧ n ≤ cap := by
  obtain ⟨hk, e⟩ := List.getElem?_eq_some_iff.1 hv
  have hl := h.1
  obtain ⟨g', cap', e', hc, _, hcell, _, hgl⟩ := own_at h (by omega)
  cases e'
  exact ⟨by rw [hcell k hk, e], hgl, hc⟩
set_option maxHeartbeats 8000000 in
set_option maxRecDepth 100000 in
theorem midK2 {t0 t3 t4 t5 t14 t15 t16 t17 t18 t19 t20 t21 t22 t23 t24 t25 t26 t27 t28 t29 t30 t31 t32 t33 t34 t35 t36 t37 t38 t39 t40 t41 t42 t43 t44 t45 t46 t47 t48 t49 t50 t51 t52 t53 t54 t55 t56 t57 t58 t59 t60 t61 t62 t63 t64 t65 t66 t67 t68 t69 t70 t71 t72 t73 t74 t75 t76 t77 t78 t79 t80 t81 t82 t83 t84 t85 t86 t87 t88 t89 t90 t91 t92 t93 t94 t95 t96 t97 t98 t99 t100 t101 t102 t103 t104 t105 t106 t107 t108 t109 t110 t111 t112 t113 t114 t115 t116 t117 t118 t119 t120 t121 t122 t123 t124 t125 t126 t127 t128 t129 t130 t131 t132 t133 t134 t135 t136 t137 t138 t139 t140 t141 t142 t143 t144 t145 t146 t147 t148 t149 t150 t151 t152 t153 t154 t155 t156 t157 t158 t159 t160 t161 t162 t163 t164 t165 t166 t167 t168 t169 t170 t171 t172 t173 t174 t175 t176 t177 t178 t179 t180 t181 t182 t183 t184 t185 t186 t187 t188 t189 t190 t191 t192 t193 t194 t195 t196 t197 t198 t199 t200 t201 t202 t203 t204 t205 t206 t207 t208 t209 t210 t211 t212 t213 t214 t215 t216 t217 t218 t219 t220 t221 t222 t223 t224 t225 t226 t227 t228 t229 t230 t231 t232 t233 t234 t235 t236 t237 t238 t239 t240 t241 t242 t243 t244 t245 t246 t247 t248 t249 t250 t251 t252 t253 t254 t255 t256 t257 t258 t259 t260 t261 t262 t263 t264 t265 t266 t267 t268 t269 t270 t271 t272 t273 t274 t275 t276 t277 t278 t279 t280 t281 t282 t283 t284 t285 t286 t287 t288 t289 t290 t291 t292 t293 t294 t295 t296 t297 t298 t299 t300 t301 t302 t303 t304 t305 t306 t307 t308 t309 : Value} {Q : Exit → Act → World → Prop} {w V : World} {c R : Ci} {E : Nat} {a al aI aX aY aZ : Option Addr} {cp cl cI cX cY cZ bI bX bY bZ i0 i1 x0 x1 y0 y1 z0 z1 gR cR rb : Nat} {A : Nat → Option Addr} {C : Nat → Nat} {l : List Int} {vsI vsX vsY vsZ : List (Option Addr × Nat)} (H : OS w a cp c.ops A C) (hq : QS w al cl l) (hl : l.length ≤ 2000) (hn : c.ops.length ≤ 1000) (hqs : ∀ k (h : k < c.ops.length), c.ops[k].qs.length ≤ 100) (hOr : OrS c l R E) (hB : Below w.heap.size w V)
    (kA : BK V w.heap.size #[.int .i64 c.q, .int .i64 c.b, .slice a c.ops.length cp] 24) (hI : BW V bI i0 i1 c aI cI vsI) (hX : BW V bX x0 x1 (invR c) aX cX vsX) (hY : BW V bY y0 y1 (thR c c) aY cY vsY) (hZ : BW V bZ z0 z1 R aZ cZ vsZ)
    (hR : V.ownsRow rb 3 1 (.slice (some ⟨gR, 0, none⟩) (l.length + 2) cR) (l.length + 2) (zl l ++ [.int .i64 77, .int .i64 78]))
    (o1 : w.heap.size < i0) (o2 : i1 ≤ bI) (o3 : bI < y0) (o4 : i1 ≤ x0) (o5 : x1 ≤ y0) (o6 : i1 ≤ bX) (o7 : bX < y0) (o8 : y1 ≤ bY) (o10 : y1 ≤ z0) (o12 : y1 ≤ bZ) (o17 : i1 ≤ y0) (o19 : y0 ≤ y1) (o21 : i0 ≤ i1)
    (hQ : KEnd Q w) :
    (sr (sr (sr (sr (sr (sr (sr (sr (sr (Try.f8.body.getD .skip)))))))))).wp Try.prog Q ⟨#[t0, .slice al l.length cl, .pointer (some ⟨w.heap.size, 0, none⟩), t3, t4, t5, .pointer (some ⟨bI, 0, none⟩), .slice (some ⟨gR, 0, none⟩) (l.length + 2) cR, .pointer (some ⟨bX, 0, none⟩), .int .i64 (invE c : Nat), .pointer (some ⟨bY, 0, none⟩), .int .i64 (thE c c : Nat), .pointer (some ⟨bZ, 0, none⟩), .int .i64 (E : Nat), t14, t15, t16, t17, t18, t19, t20, t21, t22, t23, t24, t25, t26, t27, t28, t29, t30, t31, t32, t33, t34, t35, t36, t37, t38, t39, t40, t41, t42, t43, t44, t45, t46, t47, t48, t49, t50, t51, t52, t53, t54, t55, t56, t57, t58, t59, t60, t61, t62, t63, t64, t65, t66, t67, t68, t69, t70, t71, t72, t73, t74, t75, t76, t77, t78, t79, t80, t81, t82, t83, t84, t85, t86, t87, t88, t89, t90, t91, t92, t93, t94, t95, t96, t97, t98, t99, t100, t101, t102, t103, t104, t105, t106, t107, t108, t109, t110, t111, t112, t113, t114, t115, t116, t117, t118, t119, t120, t121, t122, t123, t124, t125, t126, t127, t128, t129, t130, t131, t132, t133, t134, t135, t136, t137, t138, t139, t140, t141, t142, t143, t144, t145, t146, t147, t148, t149, t150, t151, t152, t153, t154, t155, t156, t157, t158, t159, t160, t161, t162, t163, t164, t165, t166, t167, t168, t169, t170, t171, t172, t173, t174, t175, t176, t177, t178, t179, t180, t181, t182, t183, t184, t185, t186, t187, t188, t189, t190, t191, t192, t193, t194, t195, t196, t197, t198, t199, t200, t201, t202, t203, t204, t205, t206, t207, t208, t209, t210, t211, t212, t213, t214, t215, t216, t217, t218, t219, t220, t221, t222, t223, t224, t225, t226, t227, t228, t229, t230, t231, t232, t233, t234, t235, t236, t237, t238, t239, t240, t241, t242, t243, t244, t245, t246, t247, t248, t249, t250, t251, t252, t253, t254, t255, t256, t257, t258, t259, t260, t261, t262, t263, t264, t265, t266, t267, t268, t269, t270, t271, t272, t273, t274, t275, t276, t277, t278, t279, t280, t281, t282, t283, t284, t285, t286, t287, t288, t289, t290, t291, t292, t293, t294, t295, t296, t297, t298, t299, t300, t301, t302, t303, t304, t305, t306, t307, t308, t309], []⟩ V := by
  have HKE := hid hQ
  have HO := hid H
  have HQL := hid hq
  have HOR := hid hOr
  have HQS := hid hqs
  have HV := hid hB
  have HI := hid hI
  have HX := hid hX
  have HY := hid hY
  have HZ := hid hZ
  have HR := hid hR
  have v1 := hI.oo.1
  have v2 := hX.oo.1
  have v3 := hY.oo.1
  have v4 := hZ.oo.1
  have v5 := hI.bk.lt
  have v6 := hX.bk.lt
  have v7 := hY.bk.lt
  have v8 := hZ.bk.lt
  have HOO : Hid (w.heap.size < i0 ∧ i1 ≤ bI ∧ bI < y0 ∧ i1 ≤ x0 ∧ x1 ≤ y0 ∧ i1 ≤ bX ∧ bX < y0 ∧ y1 ≤ bY ∧ y1 ≤ z0 ∧ y1 ≤ bZ ∧ i1 ≤ y0 ∧ y0 ≤ y1 ∧ i0 ≤ i1 ∧ i1 ≤ V.heap.size ∧ x1 ≤ V.heap.size ∧ y1 ≤ V.heap.size ∧ z1 ≤ V.heap.size ∧ bI < V.heap.size ∧ bX < V.heap.size ∧ bY < V.heap.size ∧ bZ < V.heap.size) := ⟨o1, o2, o3, o4, o5, o6, o7, o8, o10, o12, o17, o19, o21, v1, v2, v3, v4, v5, v6, v7, v8⟩
  have F25 := fun w1 h => layers_any c aI cI (vA vsI) (vC vsI) w1 h
  have F21 := fun w1 h1 h2 => then_any c c aI aI cI cI (vA vsI) (vA vsI) (vC vsI) (vC vsI) w1 h1 h2
  unfold ThR at F21
  have SI := fun a b k l A B C D w h1 h2 => same_any c a b k l A B C D w h1 h2
  have HB := hid hB
  have HA := hid kA
  have x1 := hI.bk.cell
  have z1 := hI.bk.lt
  clear H hq hOr hB hI hX hY hZ hR hqs kA hQ o1 o2 o3 o4 o5 o6 o7 o8 o10 o12 o17 o19 o21 v1 v2 v3 v4 v5 v6 v7 v8
  show Code.wp Try.prog (Code.seq _ (Code.seq _ (Code.seq _ (Code.seq _ (Code.seq _ (sr (sr (sr (sr (sr (sr (sr (sr (sr (sr (sr (sr (sr (sr (Try.f8.body.getD .skip)))))))))))))))))))) _ _ _
  go_wp2_with (go_at_call 25; (with_reducible refine (F25 _ HI.out.oo.os).mono ?_); rintro e w1 ⟨vL, vsL, rfl, hL1, hB1⟩; refine Hid.out ?_)
  refine hid ?_
  obtain ⟨aL, cL, rfl⟩ := hL1.shape
  have HL := hid (olw_new hL1)
  have HI1 := hid (HI.out.blw hB1)
  have hs1 := hB1.size
  clear x1 z1
  have x1 := HI1.out.bk.cell
  have z1 := HI1.out.bk.lt
  have HB1 := hid hB1
  clear hL1 hB1
  go_wp2_with (go_at_call 25; (with_reducible refine (F25 _ HI1.out.oo.os).mono ?_); rintro e w2 ⟨vM, vsM, rfl, hL2, hB2⟩; refine Hid.out ?_)
  refine hid ?_
  obtain ⟨aM, cM, rfl⟩ := hL2.shape
  have HM := hid (olw_new hL2)
  have HI2 := hid (HI1.out.blw hB2)
  have hs2 := hB2.size
  clear x1 z1 F25 HI1
  have x1 := HI2.out.bk.cell
  have z1 := HI2.out.bk.lt
  have HB2 := hid (btr HB1.out hB2)
  replace HL := hid (HL.out.blw hB2)
  clear hL2 hB2 HB1
  go_wp2_with (go_at_call 21; (with_reducible refine (F21 _ HI2.out.oo.os HI2.out.oo.os).mono ?_); rintro e w3 ⟨aU, cU, vsU, rfl, hO3, hB3⟩; refine Hid.out ?_)
  refine hid ?_
  have hb3 := bal hB3 (.cells #[.int .i64 (thR c c).q, .int .i64 (thR c c).b, .slice aU (thR c c).ops.length cU] 24)
  have HU := hid (BW.mk (bk_new w3 #[.int .i64 (thR c c).q, .int .i64 (thR c c).b, .slice aU (thR c c).ops.length cU] 24) ((oow_new hO3).blw (bal (Below.refl _ _) _)))
  have HI3 := hid (HI2.out.blw hb3)
  have hs3 := hB3.size
  have kI3 := HI2.out.blw hB3
  have kA3 : BK w3 _ _ 24 := ((btr HB2.out hB3).block _ HA.out.lt).trans HA.out
  clear x1 z1 F21 HI2
  have x1 := kI3.bk.cell
  have z1 := kI3.bk.lt
  have x2 := kA3.cell
  have z2 := kA3.lt
  have HB3 := hid (btr HB2.out hb3)
  replace HL := hid (HL.out.blw hb3)
  replace HM := hid (HM.out.blw hb3)
  clear hO3 hB3 hb3 HB2 kI3 kA3
  go_wp2_with (go_at_call 22; (with_reducible refine (SI _ _ _ _ _ _ _ _ _ HI3.out.oo.os (HO.out.below (btr HV.out HB3.out))).mono ?_); rintro e w4 ⟨rfl, hB4⟩; have HB4 := hid (btr HB3.out hB4); have HB5 := hid hB4; have hRo := own_below HR.out HB4.out; obtain ⟨r1, r2, r3⟩ := row_cell hRo l.length (.int .i64 77) (by simp [zl]); obtain ⟨r4, _, _⟩ := row_cell hRo (l.length + 1) (.int .i64 78) (by simp [zl]); clear hB4 SI x1 z1 x2 z2 hRo)
  have HR4 := hid (own_below HR.out HB4.out)
  have HRW : Hid (∀ k, k < l.length → (zl l ++ [.int .i64 77, .int .i64 78])[k]? = some (.int .i64 (l.getD k 0))) := fun k hk => by
    rw [List.getElem?_append_left (by simp [zl]; exact hk)]
    simp [zl, hk]
  have hqc := HQL.out.cap
  clear r1 r4 HR
  go_loopw [20] (fun s wr => (∃ n, wr = w4.drewN n) ∧ ∃ i : Nat, i ≤ l.length ∧ s = .int .i64 (i : Nat)) (fun s _ => l.length - (intOf s).toNat)
  case atStart => exact ⟨⟨0, rfl⟩, 0, Nat.zero_le _, rfl⟩
  case round =>
    obtain ⟨⟨n, rfl⟩, i, hi, rfl⟩ := hrel
    by_cases hlt : i < l.length
    case pos =>
      obtain ⟨r1, _, _⟩ := row_cell HR4.out i _ (HRW.out i hlt)
      obtain ⟨b', o', e1, rq⟩ := (HQL.out.below (btr HV.out HB4.out)).at_ i hlt
      have c1 := rq.c i hlt
      have c2 := rq.lt
      have eg : l.getD i 0 = l[i] := by rw [List.getD_eq_getElem?_getD, List.getElem?_eq_getElem hlt]; rfl
      rw [eg] at r1
      cases e1
      clear rq eg
      generalize l[i] = li at *
      go_wp2
      go_quiet (fail)
      go_wp2
      go_roundw
      case rel => exact ⟨⟨n + nq, by first | rfl | exact drewN_two _ _ _⟩, i + 1, by omega, by go_num⟩
      case measure => simp [intOf]; omega
    obtain rfl : i = l.length := by omega
    have hBn : Below w4.heap.size w4 (w4.drewN n) := below_drewN (Below.refl _ _) n
    have hBV : Below V.heap.size V (w4.drewN n) := btr HB4.out hBn
    have hB5 := btr HB5.out hBn
    obtain ⟨p1, p2, p3, p4, p5, p6, p7, p8, p9, p10, p11, p12, p13, p14, p15, p16, p17, p18, p19, p20, p21⟩ := HOO.out
    have hw2s := HL.out.1
    go_wp2
    exact tailK HO.out HQL.out (by omega) hn HQS.out HOR.out (btr HV.out hBV) ((hBV.block _ HA.out.lt).trans HA.out) (HI.out.blw hBV).bk (HI.out.blw hBV).oo (HX.out.blw hBV).bk (HX.out.blw hBV).oo (HY.out.blw hBV).bk (HY.out.blw hBV).oo (HZ.out.blw hBV).bk (HZ.out.blw hBV).oo (HL.out.blw hB5) (HM.out.blw hB5) (HU.out.blw hB5).bk (HU.out.blw hB5).oo
      p1 p2 p3 p4 p5 p6 p7 p8 (by omega) p9 (by omega) p10 (by omega) (by omega) (by omega) (by omega) p11 (by omega) p12 (by omega) p13 HKE.out
end Go.Proofs.Ytfaoegiignalkaa
namespace Go.Proofs.Ytfaoegiignalkaa
open Go.RowKit Go.Shelf
attribute [local go_sem] Oper.semAt_some

theorem cut_ints (g k n c : Nat) (h : k ≤ n) (h2 : n ≤ c) : ∀ w : World, (Instr.slice 43 (.slice (some ⟨g, 0, none⟩) n c) none (some (.int .i64 (k : Int))) none).run Try.prog w = .ok (.slice (some ⟨g, 0, none⟩) k c) w := fun w => by
  rw [run_slice_h w 43 _ n c (by kernel_rfl) .i64 (k : Int) (by omega) (by omega)]
  rw [show Try.prog.elem 43 = 3 by kernel_rfl, Try.sizeOf3]
  simp only [Result.andThen, sliced, Nat.zero_mul, Nat.sub_zero, Int.toNat_natCast]
  congr 2
  simp [Addr.add]
theorem qs_of_row {W : World} {B g n cap : Nat} {l : List Int} {ys : List Value} (h : W.ownsRow B 3 1 (.slice (some ⟨g, 0, none⟩) n cap) n (zl l ++ ys)) : QS W (some ⟨g, 0, none⟩) cap l := by
  have hl := h.1
  simp [zl] at hl
  obtain ⟨a', k', e, hk⟩ := own_cap h
  cases e
  refine ⟨by omega, fun k hk => ⟨g, 0, rfl, fun j hj => ?_, ?_⟩⟩
  · rw [Nat.zero_add]
    exact (row_cell h j _ (by rw [List.getElem?_append_left (by simp [zl]; exact hj)]; simp [zl, hj])).1
  · exact (row_cell h k (.int .i64 l[k]) (by rw [List.getElem?_append_left (by simp [zl]; exact hk)]; simp [zl, hk])).2.1
theorem ke_sets {W : World} {X lo hi : Nat} (h : X < lo) (u0 u1 u2 : Value) : Ke W (((W.setCell ⟨X, 0, none⟩ u0).setCell ⟨X, 1, none⟩ u1).setCell ⟨X, 2, none⟩ u2) lo hi := fun k h1 _ => by
  have hk : k ≠ X := by omega
  rw [Below.heap_setCell _ ⟨X, 2, none⟩ u2 k hk, Below.heap_setCell _ ⟨X, 1, none⟩ u1 k hk, Below.heap_setCell _ ⟨X, 0, none⟩ u0 k hk]
theorem two_new (w : World) (b : Nat) (hb : b = w.heap.size) (x y : Value) (T : TypeId) : ∀ j u, ([x, y] : List Value)[j]? = some u → (w.alloc (.cells #[x, y] T)).cell? ((⟨b, 0, none⟩ : Addr).add j) = some u := by
  intro j u hj
  subst hb
  rw [WideShapes.add_plain, Nat.zero_add]
  match j, hj with
  | 0, hj => simp at hj; subst hj; simp [go_sem]
  | 1, hj => simp at hj; subst hj; simp [go_sem]
theorem one_two (x y : Value) (h : x.oneCell' = true) (h' : y.oneCell' = true) : ∀ u ∈ [x, y], u.oneCell' = true := fun u hu => by
  rcases List.mem_cons.1 hu with rfl | hu
  · exact h
  · rw [List.mem_singleton] at hu
    subst hu
    exact h'
set_option maxHeartbeats 8000000 in
set_option maxRecDepth 100000 in
theorem midK1 {t0 t3 t4 t5 t6 t7 t8 t9 t10 t11 t12 t13 t14 t15 t16 t17 t18 t19 t20 t21 t22 t23 t24 t25 t26 t27 t28 t29 t30 t31 t32 t33 t34 t35 t36 t37 t38 t39 t40 t41 t42 t43 t44 t45 t46 t47 t48 t49 t50 t51 t52 t53 t54 t55 t56 t57 t58 t59 t60 t61 t62 t63 t64 t65 t66 t67 t68 t69 t70 t71 t72 t73 t74 t75 t76 t77 t78 t79 t80 t81 t82 t83 t84 t85 t86 t87 t88 t89 t90 t91 t92 t93 t94 t95 t96 t97 t98 t99 t100 t101 t102 t103 t104 t105 t106 t107 t108 t109 t110 t111 t112 t113 t114 t115 t116 t117 t118 t119 t120 t121 t122 t123 t124 t125 t126 t127 t128 t129 t130 t131 t132 t133 t134 t135 t136 t137 t138 t139 t140 t141 t142 t143 t144 t145 t146 t147 t148 t149 t150 t151 t152 t153 t154 t155 t156 t157 t158 t159 t160 t161 t162 t163 t164 t165 t166 t167 t168 t169 t170 t171 t172 t173 t174 t175 t176 t177 t178 t179 t180 t181 t182 t183 t184 t185 t186 t187 t188 t189 t190 t191 t192 t193 t194 t195 t196 t197 t198 t199 t200 t201 t202 t203 t204 t205 t206 t207 t208 t209 t210 t211 t212 t213 t214 t215 t216 t217 t218 t219 t220 t221 t222 t223 t224 t225 t226 t227 t228 t229 t230 t231 t232 t233 t234 t235 t236 t237 t238 t239 t240 t241 t242 t243 t244 t245 t246 t247 t248 t249 t250 t251 t252 t253 t254 t255 t256 t257 t258 t259 t260 t261 t262 t263 t264 t265 t266 t267 t268 t269 t270 t271 t272 t273 t274 t275 t276 t277 t278 t279 t280 t281 t282 t283 t284 t285 t286 t287 t288 t289 t290 t291 t292 t293 t294 t295 t296 t297 t298 t299 t300 t301 t302 t303 t304 t305 t306 t307 t308 t309 : Value} {Q : Exit → Act → World → Prop} {w V : World} {c : Ci} {a al : Option Addr} {cp cl : Nat} {A : Nat → Option Addr} {C : Nat → Nat} {l : List Int} (H : OS w a cp c.ops A C) (hq : QS w al cl l) (hl : l.length ≤ 2000) (hn : c.ops.length ≤ 1000) (hqs : ∀ k (h : k < c.ops.length), c.ops[k].qs.length ≤ 100) (hB : Below w.heap.size w V)
    (kA : BK V w.heap.size #[.int .i64 c.q, .int .i64 c.b, .slice a c.ops.length cp] 24)
    (hQ : KEnd Q w) :
    (sr (sr (sr (sr (Try.f8.body.getD .skip))))).wp Try.prog Q ⟨#[t0, .slice al l.length cl, .pointer (some ⟨w.heap.size, 0, none⟩), t3, t4, t5, t6, t7, t8, t9, t10, t11, t12, t13, t14, t15, t16, t17, t18, t19, t20, t21, t22, t23, t24, t25, t26, t27, t28, t29, t30, t31, t32, t33, t34, t35, t36, t37, t38, t39, t40, t41, t42, t43, t44, t45, t46, t47, t48, t49, t50, t51, t52, t53, t54, t55, t56, t57, t58, t59, t60, t61, t62, t63, t64, t65, t66, t67, t68, t69, t70, t71, t72, t73, t74, t75, t76, t77, t78, t79, t80, t81, t82, t83, t84, t85, t86, t87, t88, t89, t90, t91, t92, t93, t94, t95, t96, t97, t98, t99, t100, t101, t102, t103, t104, t105, t106, t107, t108, t109, t110, t111, t112, t113, t114, t115, t116, t117, t118, t119, t120, t121, t122, t123, t124, t125, t126, t127, t128, t129, t130, t131, t132, t133, t134, t135, t136, t137, t138, t139, t140, t141, t142, t143, t144, t145, t146, t147, t148, t149, t150, t151, t152, t153, t154, t155, t156, t157, t158, t159, t160, t161, t162, t163, t164, t165, t166, t167, t168, t169, t170, t171, t172, t173, t174, t175, t176, t177, t178, t179, t180, t181, t182, t183, t184, t185, t186, t187, t188, t189, t190, t191, t192, t193, t194, t195, t196, t197, t198, t199, t200, t201, t202, t203, t204, t205, t206, t207, t208, t209, t210, t211, t212, t213, t214, t215, t216, t217, t218, t219, t220, t221, t222, t223, t224, t225, t226, t227, t228, t229, t230, t231, t232, t233, t234, t235, t236, t237, t238, t239, t240, t241, t242, t243, t244, t245, t246, t247, t248, t249, t250, t251, t252, t253, t254, t255, t256, t257, t258, t259, t260, t261, t262, t263, t264, t265, t266, t267, t268, t269, t270, t271, t272, t273, t274, t275, t276, t277, t278, t279, t280, t281, t282, t283, t284, t285, t286, t287, t288, t289, t290, t291, t292, t293, t294, t295, t296, t297, t298, t299, t300, t301, t302, t303, t304, t305, t306, t307, t308, t309], []⟩ V := by
  obtain ⟨i3, hi3, hz3, hs3, hb3⟩ := info_parts Try.info3
  have HI3 : Hid (Try.prog.info? 3 = some i3 ∧ i3.zero = some (.int .i64 0) ∧ i3.size = 1 ∧ i3.bytes = 8) := ⟨hi3, hz3, hs3, hb3⟩
  clear hi3 hz3 hs3 hb3
  have HKE := hid hQ
  have HO := hid H
  have HQL := hid hq
  have HQS := hid hqs
  have HV := hid hB
  have HA := hid kA
  have F29 := fun w1 h => copy2_any c a cp A C w1 h (by omega) hqs
  have x1 := kA.cell
  have z1 := kA.lt
  clear H hq hB hqs kA hQ
  show Code.wp Try.prog (Code.seq _ (Code.seq _ (Code.seq _ (Code.seq _ (sr (sr (sr (sr (sr (sr (sr (sr (Try.f8.body.getD .skip))))))))))))) _ _ _
  go_wp2_with (go_at_call 29; (with_reducible refine (F29 _ (HO.out.below HV.out)).mono ?_); rintro e w2 ⟨aI, cI, vsI, rfl, hO2, hB2⟩; refine Hid.out ?_)
  refine hid ?_
  have hb2 := bal hB2 (.cells #[.int .i64 c.q, .int .i64 c.b, .slice aI c.ops.length cI] 24)
  have HI2 := hid (BW.mk (bk_new w2 #[.int .i64 c.q, .int .i64 c.b, .slice aI c.ops.length cI] 24) ((oow_new hO2).blw (bal (Below.refl _ _) _)))
  have hs2 := hB2.size
  have HB2 := hid hb2
  have HQ2 : Hid (∀ y, QS ((w2.alloc (.cells #[.int .i64 c.q, .int .i64 c.b, .slice aI c.ops.length cI] 24)).alloc y) al cl l) := fun y => (HQL.out.below (btr HV.out HB2.out)).below (bal (Below.refl _ _) y)
  clear x1 z1 F29 hO2 hB2 hb2
  go_wp2_with (at_builtin; refine Hid.out ?_)
  refine hid ?_
  refine wpList_ints rfl _ _ rfl HI3.out (w2.heap.size + 1) _ 0 [] rfl (own_new (by simp) (by omega)) al cl l rfl (HQ2.out _) (by omega) (by simp) ?_
  intro v3 w3 hown3 hgrow3 _
  rw [Nat.zero_add, List.nil_append] at hown3
  have hB3 : Below (w2.heap.size + 1) (w2.alloc (.cells #[.int .i64 c.q, .int .i64 c.b, .slice aI c.ops.length cI] 24)) w3 := by
    have := (bal (Below.refl _ (w2.alloc (.cells #[.int .i64 c.q, .int .i64 c.b, .slice aI c.ops.length cI] 24))) (.cells #[] 3)).grown hgrow3 (by simp) (fun k e => by have e2 : w2.heap.size + 1 = k := Option.some.inj e; simp; omega)
    simpa using this
  have HB3 := hid hB3
  have HO3 := hid hown3
  have hs3 := hB3.size
  simp at hs3
  clear hown3 hgrow3 hB3 HQ2
  go_wp2_with (at_builtin; refine Hid.out ?_)
  refine hid ?_
  refine wpList_append_own_at _ rfl _ _ 43 rfl (w2.heap.size + 1) 3 i3 (.int .i64 0) 1 8 Try.underlying43 HI3.out.1 HI3.out.2.1 HI3.out.2.2.1 HI3.out.2.2.2 rfl (by decide) _ l.length (zl l) rfl (own_below HO3.out (bal (Below.refl _ _) _)) ⟨w3.heap.size, 0, none⟩ 2 2 [.int .i64 77, .int .i64 78] rfl rfl (two_new _ _ rfl _ _ _) (one_two _ _ rfl rfl) (by unfold maxLen; omega) (by omega) (by simp; omega) ?_
  intro v4 w4 hown4 hgrow4 _ _
  obtain ⟨gR, cR, rfl, hcR, _, _, hgB, hgl⟩ := own_at hown4 (by omega)
  have hB4 : Below (w2.heap.size + 1) (w2.alloc (.cells #[.int .i64 c.q, .int .i64 c.b, .slice aI c.ops.length cI] 24)) w4 := by
    have h2 := HO3.out.lt
    have h1 : Below (w2.alloc (.cells #[.int .i64 c.q, .int .i64 c.b, .slice aI c.ops.length cI] 24)).heap.size (w2.alloc (.cells #[.int .i64 c.q, .int .i64 c.b, .slice aI c.ops.length cI] 24)) w3 := by simpa using HB3.out
    have := (bal h1 (.cells #[.int .i64 77, .int .i64 78] 3)).grown hgrow4 (by simp; omega) (fun k e => by have := (h2 k e).1; simpa using this)
    simpa using this
  have hB4' : Below (w2.alloc (.cells #[.int .i64 c.q, .int .i64 c.b, .slice aI c.ops.length cI] 24)).heap.size (w2.alloc (.cells #[.int .i64 c.q, .int .i64 c.b, .slice aI c.ops.length cI] 24)) w4 := by simpa using hB4
  have HBW := hid (btr HB2.out hB4')
  have HR := hid hown4
  have HI4 := hid (HI2.out.blw hB4')
  have hs4 := hB4.size
  simp at hs4
  have F20 := fun w1 h => inverseC_any c aI cI (vA vsI) (vC vsI) w1 h
  have F21 := fun w1 h1 h2 => then_any c c aI aI cI cI (vA vsI) (vA vsI) (vC vsI) (vC vsI) w1 h1 h2
  unfold ThR at F21
  have x1 := HI4.out.bk.cell
  have z1 := HI4.out.bk.lt
  clear hown4 hgrow4 hB4 hB4' HB3 HO3 HB2 HI2 hgB hgl
  go_wp2_with (go_at_call 20; (with_reducible refine (F20 _ HI4.out.oo.os).mono ?_); rintro e w5 ⟨aX, cX, vsX, rfl, hO5, hB5⟩; refine Hid.out ?_)
  refine hid ?_
  have hb5 := bal hB5 (.cells #[.int .i64 (invR c).q, .int .i64 (invR c).b, .slice aX (invR c).ops.length cX] 24)
  have HX := hid (BW.mk (bk_new w5 #[.int .i64 (invR c).q, .int .i64 (invR c).b, .slice aX (invR c).ops.length cX] 24) ((oow_new hO5).blw (bal (Below.refl _ _) _)))
  have hs5 := hB5.size
  have kI5 := HI4.out.blw hB5
  clear x1 z1
  have x1 := kI5.bk.cell
  have z1 := kI5.bk.lt
  replace HI4 := hid (HI4.out.blw hb5)
  replace HBW := hid (btr HBW.out hb5)
  replace HR := hid (own_below HR.out hb5)
  clear hO5 hB5 hb5 F20 kI5
  go_wp2_with (go_at_call 21; (with_reducible refine (F21 _ HI4.out.oo.os HI4.out.oo.os).mono ?_); rintro e w6 ⟨aY, cY, vsY, rfl, hO6, hB6⟩; refine Hid.out ?_)
  refine hid ?_
  have hb6 := bal hB6 (.cells #[.int .i64 (thR c c).q, .int .i64 (thR c c).b, .slice aY (thR c c).ops.length cY] 24)
  have HY := hid (BW.mk (bk_new w6 #[.int .i64 (thR c c).q, .int .i64 (thR c c).b, .slice aY (thR c c).ops.length cY] 24) ((oow_new hO6).blw (bal (Below.refl _ _) _)))
  have hs6 := hB6.size
  simp at hs6
  replace HI4 := hid (HI4.out.blw hb6)
  replace HX := hid (HX.out.blw hb6)
  replace HBW := hid (btr HBW.out hb6)
  replace HR := hid (own_below HR.out hb6)
  clear hO6 hB6 hb6 F21 x1 z1
  obtain ⟨W4, hW4⟩ : ∃ W4, w6.alloc (.cells #[.int .i64 (thR c c).q, .int .i64 (thR c c).b, .slice aY (thR c c).ops.length cY] 24) = W4 := ⟨_, rfl⟩
  have hW4s : w6.heap.size + 1 = W4.heap.size := by rw [← hW4]; simp
  rw [hW4] at HI4 HX HY HBW HR
  have HA4 : Hid (BK W4 w.heap.size #[.int .i64 c.q, .int .i64 c.b, .slice a c.ops.length cp] 24) := (HBW.out.block _ HA.out.lt).trans HA.out
  have ha5 : (w5.alloc (.cells #[.int .i64 (invR c).q, .int .i64 (invR c).b, .slice aX (invR c).ops.length cX] 24)).heap.size = w5.heap.size + 1 := by simp
  have F26 := fun w1 h g => order_any c aI cI (vA vsI) (vC vsI) l (some ⟨gR, 0, none⟩) cR w1 h g (by omega)
  unfold OrR at F26
  have HQR : Hid (∀ w', Below W4.heap.size W4 w' → QS w' (some ⟨gR, 0, none⟩) cR l) := fun w' h => qs_of_row (own_below HR.out h)
  have SLC := cut_ints gR l.length (l.length + 2) cR (by omega) hcR
  have SK : Hid (∀ w', Below W4.heap.size W4 w' → Below W4.heap.size W4 w' ∧ (∀ j, w'.cell? ⟨w2.heap.size, j, none⟩ = (#[.int .i64 c.q, .int .i64 c.b, .slice aI c.ops.length cI] : Array Value)[j]?) ∧ w2.heap.size < w'.heap.size) := fun w' h => ⟨h, (HI4.out.blw h).bk.cell, (HI4.out.blw h).bk.lt⟩
  have HCONT : Hid (∀ {s63 s64 s65 s66 s67 s68 s69 s70 s71 s72 s73 s74 s75 s76 s77 s78 s79 s80 s81 s82 s83 s84 s85 s86 s87 s88 s89 : Value} {W' : World} {R5 : Ci} {E5 bZ z0 z1 : Nat} {a5 : Option Addr} {c5 : Nat} {v5 : List (Option Addr × Nat)}, OrS c l R5 E5 → Below W4.heap.size W4 W' → BW W' bZ z0 z1 R5 a5 c5 v5 → W4.heap.size ≤ z0 → W4.heap.size ≤ bZ → (sr (sr (sr (sr (sr (sr (sr (sr (sr (Try.f8.body.getD .skip)))))))))).wp Try.prog Q ⟨#[t0, .slice al l.length cl, .pointer (some ⟨w.heap.size, 0, none⟩), t3, t4, t5, .pointer (some ⟨w2.heap.size, 0, none⟩), .slice (some ⟨gR, 0, none⟩) (l.length + 2) cR, .pointer (some ⟨w5.heap.size, 0, none⟩), .int .i64 (invE c : Nat), .pointer (some ⟨w6.heap.size, 0, none⟩), .int .i64 (thE c c : Nat), .pointer (some ⟨bZ, 0, none⟩), .int .i64 (E5 : Nat), t14, t15, t16, t17, t18, t19, t20, t21, t22, t23, t24, t25, t26, t27, t28, t29, t30, t31, t32, t33, t34, t35, t36, t37, t38, t39, t40, t41, t42, t43, t44, t45, t46, t47, t48, t49, t50, t51, t52, t53, t54, t55, t56, t57, t58, t59, t60, t61, t62, s63, s64, s65, s66, s67, s68, s69, s70, s71, s72, s73, s74, s75, s76, s77, s78, s79, s80, s81, s82, s83, s84, s85, s86, s87, s88, s89, t90, t91, t92, t93, t94, t95, t96, t97, t98, t99, t100, t101, t102, t103, t104, t105, t106, t107, t108, t109, t110, t111, t112, t113, t114, t115, t116, t117, t118, t119, t120, t121, t122, t123, t124, t125, t126, t127, t128, t129, t130, t131, t132, t133, t134, t135, t136, t137, t138, t139, t140, t141, t142, t143, t144, t145, t146, t147, t148, t149, t150, t151, t152, t153, t154, t155, t156, t157, t158, t159, t160, t161, t162, t163, t164, t165, t166, t167, t168, t169, t170, t171, t172, t173, t174, t175, t176, t177, t178, t179, t180, t181, t182, t183, t184, t185, t186, t187, t188, t189, t190, t191, t192, t193, t194, t195, t196, t197, t198, t199, t200, t201, t202, t203, t204, t205, t206, t207, t208, t209, t210, t211, t212, t213, t214, t215, t216, t217, t218, t219, t220, t221, t222, t223, t224, t225, t226, t227, t228, t229, t230, t231, t232, t233, t234, t235, t236, t237, t238, t239, t240, t241, t242, t243, t244, t245, t246, t247, t248, t249, t250, t251, t252, t253, t254, t255, t256, t257, t258, t259, t260, t261, t262, t263, t264, t265, t266, t267, t268, t269, t270, t271, t272, t273, t274, t275, t276, t277, t278, t279, t280, t281, t282, t283, t284, t285, t286, t287, t288, t289, t290, t291, t292, t293, t294, t295, t296, t297, t298, t299, t300, t301, t302, t303, t304, t305, t306, t307, t308, t309], []⟩ W') :=
    fun hOr hN hZ hz0 hbZ => midK2 HO.out HQL.out hl hn HQS.out hOr (btr HV.out (btr HBW.out hN)) ((hN.block _ HA4.out.lt).trans HA4.out) (HI4.out.blw hN) (HX.out.blw hN) (HY.out.blw hN) hZ (own_below HR.out hN) (by have := HA.out.lt; omega) (by omega) (by omega) (by omega) (by omega) (by omega) (by omega) (by omega) (by omega) (by omega) (by omega) (by omega) (by omega) HKE.out
  clear HA HV HO HKE HQL HQS HR HX HY HBW HA4
  have HW4 := hid hW4
  have HW4s := hid hW4s
  clear hW4 hW4s ha5
  go_wp2
  have e8 : (sr (sr (sr (sr (sr (sr (sr (sr (Try.f8.body.getD .skip))))))))) = Code.seq (sl (sr (sr (sr (sr (sr (sr (sr (sr (Try.f8.body.getD .skip)))))))))) (sr (sr (sr (sr (sr (sr (sr (sr (sr (Try.f8.body.getD .skip)))))))))) := rfl
  rw [e8, HW4.out]
  clear e8
  refine wp_seq ?_
  conv => arg 2; whnf
  refine wp_region_noPanic ?_
  refine wp_region_held_drew (S := fun w' => Below W4.heap.size W4 w' ∧ (∀ j, w'.cell? ⟨w2.heap.size, j, none⟩ = (#[.int .i64 c.q, .int .i64 c.b, .slice aI c.ops.length cI] : Array Value)[j]?) ∧ w2.heap.size < w'.heap.size) (by kernel_rfl) (by exact SK.out _ (below_drew (Below.refl _ _))) (fun hHeld => ?_)
  refine wpAnyH_take (i := 0) (oi := { dst := some 82, op := Op.load 24 (Operand.tmp 6), type := 24, pos := "law.go:200", after := #[], guard := none }) (v := ?_) rfl (by kernel_rfl) (by kernel_rfl) (by kernel_rfl) (fun _ _ _ h => h) (Or.inl ⟨by rfl, ?_⟩) (by assumption) ?_
  rotate_left
  (intro w0 hSw; (try dsimp only at hSw); go_simp; try (with_reducible rfl))
  (try simp only [Act.put, List.setIfInBounds_toArray, List.set_cons_zero, List.set_cons_succ])
  refine wpAnyH_take (i := 1) (oi := { dst := some 83, op := Op.move (Operand.tmp 7), type := 43, pos := "law.go:200", after := #[], guard := none }) (v := ?_) rfl (by kernel_rfl) (by kernel_rfl) (by kernel_rfl) (fun _ _ _ h => h) (Or.inl ⟨by rfl, ?_⟩) (by assumption) ?_
  rotate_left
  (intro w0 hSw; (try dsimp only at hSw); go_simp; try (with_reducible rfl))
  (try simp only [Act.put, List.setIfInBounds_toArray, List.set_cons_zero, List.set_cons_succ])
  refine wpAnyH_take (i := 2) (oi := { dst := some 84, op := Op.move (Operand.tmp 1), type := 43, pos := "law.go:200", after := #[], guard := none }) (v := ?_) rfl (by kernel_rfl) (by kernel_rfl) (by kernel_rfl) (fun _ _ _ h => h) (Or.inl ⟨by rfl, ?_⟩) (by assumption) ?_
  rotate_left
  (intro w0 hSw; (try dsimp only at hSw); go_simp; try (with_reducible rfl))
  (try simp only [Act.put, List.setIfInBounds_toArray, List.set_cons_zero, List.set_cons_succ])
  refine wpAnyH_take (i := 3) (oi := { dst := some 85, op := Op.call { callee := Callee.builtin Builtin.len, args := #[Operand.tmp 84], argTypes := #[43] }, type := 3, pos := "law.go:200", after := #[{ on := 2, ground := Ground.data }], guard := none }) (v := ?_) rfl (by kernel_rfl) (by kernel_rfl) (by kernel_rfl) (fun _ _ _ h => h) (Or.inl ⟨by rfl, ?_⟩) (by assumption) ?_
  rotate_left
  (intro w0 hSw; (try dsimp only at hSw); go_simp; try (with_reducible rfl))
  (try simp only [Act.put, List.setIfInBounds_toArray, List.set_cons_zero, List.set_cons_succ])
  refine wpAnyH_take (i := 4) (oi := { dst := some 86, op := Op.slice 43 (Operand.tmp 83) none (some (Operand.tmp 85)) none, type := 43, pos := "law.go:200", after := #[{ on := 1, ground := Ground.data }, { on := 3, ground := Ground.data }], guard := none }) (v := ?_) rfl (by kernel_rfl) (by kernel_rfl) (by kernel_rfl) (fun _ _ _ h => h) (Or.inl ⟨by rfl, ?_⟩) (by assumption) ?_
  rotate_left
  (intro w0 hSw; (try dsimp only at hSw); go_simp; try (with_reducible rfl))
  (try simp only [Act.put, List.setIfInBounds_toArray, List.set_cons_zero, List.set_cons_succ])
  refine wpAnyH_ready (rs := [5, 9]) (by kernel_rfl) (by simp) (AllReadyH.cons (o := { dst := some 87, op := Op.call { callee := Callee.value (Operand.func 26), args := #[Operand.tmp 82, Operand.tmp 86], argTypes := #[24, 43] }, type := 39, pos := "law.go:200", after := #[{ on := 0, ground := Ground.data }, { on := 4, ground := Ground.data }], guard := none }) rfl (fun K hK => ?_) (AllReadyH.cons (o := { dst := some 12, op := Op.alloc 24, type := 0, pos := "law.go:200", after := #[], guard := none }) rfl (fun K hK => ?_) AllReadyH.nil))
  · go_simp
    (with_reducible refine (F26 _ (HI4.out.blw hHeld.1).oo.os (HQR.out _ hHeld.1)).mono ?_); rintro e w5 ⟨R5, E5, a5, c5, v5, hT5, rfl, hO5, hB5⟩; have hN : Below W4.heap.size W4 w5 := btr hHeld.1 hB5; clear hHeld
    refine hK.out _ _ (by exact SK.out _ hN) (fun hHeld => ?_)
    clear hK K
    (try simp only [Act.put, List.setIfInBounds_toArray, List.set_cons_zero, List.set_cons_succ])
    refine wpAnyH_take (i := 6) (oi := { dst := some 81, op := Op.move (Operand.tmp 87), type := 39, pos := "law.go:200", after := #[{ on := 5, ground := Ground.data }], guard := none }) (v := ?_) rfl (by kernel_rfl) (by kernel_rfl) (by kernel_rfl) (fun _ _ _ h => h) (Or.inl ⟨by rfl, ?_⟩) (by assumption) ?_
    rotate_left
    (intro w0 hSw; (try dsimp only at hSw); go_simp; try (with_reducible rfl))
    (try simp only [Act.put, List.setIfInBounds_toArray, List.set_cons_zero, List.set_cons_succ])
    refine wpAnyH_take (i := 7) (oi := { dst := some 88, op := Op.extract (Operand.tmp 81) 0, type := 24, pos := "law.go:200", after := #[{ on := 6, ground := Ground.data }], guard := none }) (v := ?_) rfl (by kernel_rfl) (by kernel_rfl) (by kernel_rfl) (fun _ _ _ h => h) (Or.inl ⟨by rfl, ?_⟩) (by assumption) ?_
    rotate_left
    (intro w0 hSw; (try dsimp only at hSw); go_simp; try (with_reducible rfl))
    (try simp only [Act.put, List.setIfInBounds_toArray, List.set_cons_zero, List.set_cons_succ])
    refine wpAnyH_take (i := 8) (oi := { dst := some 89, op := Op.extract (Operand.tmp 81) 1, type := 30, pos := "law.go:200", after := #[{ on := 6, ground := Ground.data }, { on := 10, ground := Ground.gcOnly Departure.lateStores }], guard := none }) (v := ?_) rfl (by kernel_rfl) (by kernel_rfl) (by kernel_rfl) (fun _ _ _ h => h) (Or.inl ⟨by rfl, ?_⟩) (by assumption) ?_
    rotate_left
    (intro w0 hSw; (try dsimp only at hSw); go_simp; try (with_reducible rfl))
    (try simp only [Act.put, List.setIfInBounds_toArray, List.set_cons_zero, List.set_cons_succ])
    refine wpAnyH_ready (rs := [9]) (by kernel_rfl) (by simp) (AllReadyH.cons (o := { dst := some 12, op := Op.alloc 24, type := 0, pos := "law.go:200", after := #[], guard := none }) rfl (fun K hK => ?_) AllReadyH.nil)
    go_simp
    refine hK.out _ _ (by exact SK.out _ (bal hN _)) (fun hHeld => ?_)
    clear hK K
    (try simp only [Act.put, List.setIfInBounds_toArray, List.set_cons_zero, List.set_cons_succ])
    refine wpAnyH_ready (rs := [10]) (by kernel_rfl) (by simp) (AllReadyH.cons (o := { dst := none, op := Op.store 24 (Operand.tmp 12) (Operand.tmp 88), type := 0, pos := "law.go:200", after := #[{ on := 9, ground := Ground.data }, { on := 7, ground := Ground.data }, { on := 5, ground := Ground.chain }, { on := 0, ground := Ground.phase }, { on := 1, ground := Ground.phase }, { on := 2, ground := Ground.phase }, { on := 3, ground := Ground.phase }, { on := 4, ground := Ground.phase }, { on := 5, ground := Ground.phase }, { on := 6, ground := Ground.phase }, { on := 7, ground := Ground.phase }, { on := 8, ground := Ground.textOnly Departure.lateStores }, { on := 9, ground := Ground.phase }], guard := none }) rfl (fun K hK => ?_) AllReadyH.nil)
    go_simp
    refine hK.out _ _ (by exact SK.out _ (bal hN _)) (fun hHeld => ?_)
    clear hK K
    (try simp only [Act.put, List.setIfInBounds_toArray, List.set_cons_zero, List.set_cons_succ])
    refine wpAnyH_take (i := 11) (oi := { dst := some 13, op := Op.assign (Operand.tmp 89), type := 30, pos := "law.go:200", after := #[{ on := 8, ground := Ground.data }, { on := 10, ground := Ground.chain }, { on := 0, ground := Ground.phase }, { on := 1, ground := Ground.phase }, { on := 2, ground := Ground.phase }, { on := 3, ground := Ground.phase }, { on := 4, ground := Ground.phase }, { on := 5, ground := Ground.phase }, { on := 6, ground := Ground.phase }, { on := 7, ground := Ground.phase }, { on := 8, ground := Ground.phase }, { on := 9, ground := Ground.phase }, { on := 10, ground := Ground.phase }], guard := none }) (v := ?_) rfl (by kernel_rfl) (by kernel_rfl) (by kernel_rfl) (fun _ _ _ h => h) (Or.inl ⟨by rfl, ?_⟩) (by assumption) ?_
    rotate_left
    (intro w0 hSw; (try dsimp only at hSw); go_simp; try (with_reducible rfl))
    (try simp only [Act.put, List.setIfInBounds_toArray, List.set_cons_zero, List.set_cons_succ])
    refine wpAnyH_done (by kernel_rfl) ?_ _
    refine NoPanic.normal ?_
    exact HCONT.out hT5 (bal hN _) ⟨bk_new _ _ _, (oow_new hO5).blw (bal (Below.refl _ _) _)⟩ (Nat.le_refl _) hN.size
  · go_simp
    refine hK.out _ _ (by exact SK.out _ (bal (below_drew (Below.refl _ _)) _)) (fun hHeld => ?_)
    clear hK K
    (try simp only [Act.put, List.setIfInBounds_toArray, List.set_cons_zero, List.set_cons_succ])
    refine wpAnyH_ready (rs := [5]) (by kernel_rfl) (by simp) (AllReadyH.cons (o := { dst := some 87, op := Op.call { callee := Callee.value (Operand.func 26), args := #[Operand.tmp 82, Operand.tmp 86], argTypes := #[24, 43] }, type := 39, pos := "law.go:200", after := #[{ on := 0, ground := Ground.data }, { on := 4, ground := Ground.data }], guard := none }) rfl (fun K hK => ?_) AllReadyH.nil)
    go_simp
    (with_reducible refine (F26 _ (HI4.out.blw hHeld.1).oo.os (HQR.out _ hHeld.1)).mono ?_); rintro e w5 ⟨R5, E5, a5, c5, v5, hT5, rfl, hO5, hB5⟩; have hN : Below W4.heap.size W4 w5 := btr hHeld.1 hB5; clear hHeld
    have kb : BK w5 W4.heap.size #[.int .i64 0, .int .i64 0, .slice none 0 0] 24 := (hB5.block _ (by simp)).trans (bk_new W4.drew _ _)
    have kc : ∀ j, w5.cell? ⟨W4.heap.size, j, none⟩ = _ := kb.cell
    have kf : ∀ j, w5.frozen? ⟨W4.heap.size, j, none⟩ = _ := kb.free
    have kl := kb.lt
    have HKB := hid kb
    clear kb
    refine hK.out _ _ (by exact SK.out _ hN) (fun hHeld => ?_)
    clear hK K
    (try simp only [Act.put, List.setIfInBounds_toArray, List.set_cons_zero, List.set_cons_succ])
    refine wpAnyH_take (i := 6) (oi := { dst := some 81, op := Op.move (Operand.tmp 87), type := 39, pos := "law.go:200", after := #[{ on := 5, ground := Ground.data }], guard := none }) (v := ?_) rfl (by kernel_rfl) (by kernel_rfl) (by kernel_rfl) (fun _ _ _ h => h) (Or.inl ⟨by rfl, ?_⟩) (by assumption) ?_
    rotate_left
    (intro w0 hSw; (try dsimp only at hSw); go_simp; try (with_reducible rfl))
    (try simp only [Act.put, List.setIfInBounds_toArray, List.set_cons_zero, List.set_cons_succ])
    refine wpAnyH_take (i := 7) (oi := { dst := some 88, op := Op.extract (Operand.tmp 81) 0, type := 24, pos := "law.go:200", after := #[{ on := 6, ground := Ground.data }], guard := none }) (v := ?_) rfl (by kernel_rfl) (by kernel_rfl) (by kernel_rfl) (fun _ _ _ h => h) (Or.inl ⟨by rfl, ?_⟩) (by assumption) ?_
    rotate_left
    (intro w0 hSw; (try dsimp only at hSw); go_simp; try (with_reducible rfl))
    (try simp only [Act.put, List.setIfInBounds_toArray, List.set_cons_zero, List.set_cons_succ])
    refine wpAnyH_take (i := 8) (oi := { dst := some 89, op := Op.extract (Operand.tmp 81) 1, type := 30, pos := "law.go:200", after := #[{ on := 6, ground := Ground.data }, { on := 10, ground := Ground.gcOnly Departure.lateStores }], guard := none }) (v := ?_) rfl (by kernel_rfl) (by kernel_rfl) (by kernel_rfl) (fun _ _ _ h => h) (Or.inl ⟨by rfl, ?_⟩) (by assumption) ?_
    rotate_left
    (intro w0 hSw; (try dsimp only at hSw); go_simp; try (with_reducible rfl))
    (try simp only [Act.put, List.setIfInBounds_toArray, List.set_cons_zero, List.set_cons_succ])
    refine wpAnyH_ready (rs := [10]) (by kernel_rfl) (by simp) (AllReadyH.cons (o := { dst := none, op := Op.store 24 (Operand.tmp 12) (Operand.tmp 88), type := 0, pos := "law.go:200", after := #[{ on := 9, ground := Ground.data }, { on := 7, ground := Ground.data }, { on := 5, ground := Ground.chain }, { on := 0, ground := Ground.phase }, { on := 1, ground := Ground.phase }, { on := 2, ground := Ground.phase }, { on := 3, ground := Ground.phase }, { on := 4, ground := Ground.phase }, { on := 5, ground := Ground.phase }, { on := 6, ground := Ground.phase }, { on := 7, ground := Ground.phase }, { on := 8, ground := Ground.textOnly Departure.lateStores }, { on := 9, ground := Ground.phase }], guard := none }) rfl (fun K hK => ?_) AllReadyH.nil)
    go_simp
    refine hK.out _ _ (by exact SK.out _ (bset (bset (bset hN _ _ _ (by first | exact Nat.le_refl _ | simp)) _ _ _ (by first | exact Nat.le_refl _ | simp)) _ _ _ (by first | exact Nat.le_refl _ | simp))) (fun hHeld => ?_)
    clear hK K
    (try simp only [Act.put, List.setIfInBounds_toArray, List.set_cons_zero, List.set_cons_succ])
    refine wpAnyH_take (i := 11) (oi := { dst := some 13, op := Op.assign (Operand.tmp 89), type := 30, pos := "law.go:200", after := #[{ on := 8, ground := Ground.data }, { on := 10, ground := Ground.chain }, { on := 0, ground := Ground.phase }, { on := 1, ground := Ground.phase }, { on := 2, ground := Ground.phase }, { on := 3, ground := Ground.phase }, { on := 4, ground := Ground.phase }, { on := 5, ground := Ground.phase }, { on := 6, ground := Ground.phase }, { on := 7, ground := Ground.phase }, { on := 8, ground := Ground.phase }, { on := 9, ground := Ground.phase }, { on := 10, ground := Ground.phase }], guard := none }) (v := ?_) rfl (by kernel_rfl) (by kernel_rfl) (by kernel_rfl) (fun _ _ _ h => h) (Or.inl ⟨by rfl, ?_⟩) (by assumption) ?_
    rotate_left
    (intro w0 hSw; (try dsimp only at hSw); go_simp; try (with_reducible rfl))
    (try simp only [Act.put, List.setIfInBounds_toArray, List.set_cons_zero, List.set_cons_succ])
    refine wpAnyH_done (by kernel_rfl) ?_ _
    refine NoPanic.normal ?_
    exact HCONT.out hT5 (bset (bset (bset hN _ _ _ (Nat.le_refl _)) _ _ _ (Nat.le_refl _)) _ _ _ (Nat.le_refl _)) ⟨((HKB.out.set 0 _).set 1 _).set 2 _, (oow_new hO5).ke (by simp [World.setCell]) (ke_sets (by simp) _ _ _)⟩ (by simp) (Nat.le_refl _)
end Go.Proofs.Ytfaoegiignalkaa
namespace Go.Proofs.Ytfaoegiignalkaa
open Go.RowKit Go.Shelf
attribute [local go_sem] Oper.semAt_some

section
variable (c : Ci) (a : Option Addr) (cp : Nat) (A : Nat → Option Addr) (C : Nat → Nat) (l : List Int) (al : Option Addr) (cl : Nat) (w : World)
set_option maxHeartbeats 8000000 in
set_option maxRecDepth 100000 in
theorem keeps_any (H : OS w a cp c.ops A C) (hq : QS w al cl l) :
    Calls Try.prog 8 #[civ c a cp, .slice al l.length cl] w fun e w' => e = .returned (.bool true) ∧ Below w.heap.size w w' := by
  have AW := fun w => awake_any w
  have HO := hid H
  have HQL := hid hq
  have hcl := H.l
  have hcap := H.cap
  clear H hq
  by_cases hlen : 1000 < c.ops.length
  · have hlen' : (1000 : Int) < (c.ops.length : Int) := by omega
    go_enter Try.func8, Try.ntmps8
    go_wp2_with (go_at_call 9; (with_reducible refine (AW _).mono ?_); rintro e w1 ⟨rfl, hB1⟩; have k1 := one_box hB1; have x1 := k1.cell; have l1 := k1.lt)
    go_ret
    exact ⟨rfl, btr (bal (Below.refl _ _) _) hB1⟩
  have hlen' : ¬ ((1000 : Int) < (c.ops.length : Int)) := by omega
  by_cases hll : 2000 < l.length
  · have hll' : (2000 : Int) < (l.length : Int) := by omega
    go_enter Try.func8, Try.ntmps8
    go_wp2_with (go_at_call 9; (with_reducible refine (AW _).mono ?_); rintro e w1 ⟨rfl, hB1⟩; have k1 := one_box hB1; have x1 := k1.cell; have l1 := k1.lt)
    go_ret
    exact ⟨rfl, btr (bal (Below.refl _ _) _) hB1⟩
  have hll' : ¬ ((2000 : Int) < (l.length : Int)) := by omega
  obtain ⟨q, b, os⟩ := c
  simp only at *
  go_enter Try.func8, Try.ntmps8
  show Code.wp Try.prog (Code.seq _ (Code.seq _ (Code.seq _ (Code.seq _ (sr (sr (sr (sr (Try.f8.body.getD .skip))))))))) _ _ _
  go_wp2_with (go_at_call 9; (with_reducible refine (AW _).mono ?_); rintro e w1 ⟨rfl, hB1⟩; have k1 := one_box hB1; have x1 := k1.cell; have l1 := k1.lt)
  have HB := hid (btr (bal (Below.refl _ _) _) hB1)
  have HK := hid k1
  clear hB1 k1 AW
  go_loopw [5] (fun s wr => wr = w1 ∧ ∃ i : Nat, i ≤ os.length ∧ s = .int .i64 (i : Nat) ∧ Hid (∀ k (h : k < os.length), k < i → os[k].qs.length ≤ 100)) (fun s _ => os.length - (intOf s).toNat)
  case atStart => exact ⟨rfl, 0, Nat.zero_le _, rfl, fun k _ h => absurd h (Nat.not_lt_zero _)⟩
  case round =>
    obtain ⟨rfl, i, hi, rfl, HQS⟩ := hrel
    by_cases hlt : i < os.length
    case neg =>
      obtain rfl : i = os.length := by omega
      go_wp2
      refine midK1 (c := ⟨q, b, os⟩) HO.out HQL.out (by omega) (by show os.length ≤ 1000; omega) (fun k hk => HQS.out k hk hk) HB.out HK.out ?_
      intro a' W' h4 hd hBW
      refine bodyPost_ret (v := .bool true) ?_ hd ⟨rfl, hBW⟩
      simp [results, Try.results8, h4]
    obtain ⟨b', o', rfl, r⟩ := (HO.out.below HB.out).at_ i hlt
    have m2 := r.c2 i hlt
    have hbl := r.lt
    have HN : Hid (os[i].qs.length ≤ 100 → ∀ k (h : k < os.length), k < i + 1 → os[k].qs.length ≤ 100) := fun h0 k hk hki => by
      by_cases e : k = i
      · subst e; exact h0
      · exact HQS.out k hk (by omega)
    clear r
    by_cases hbig : 100 < os[i].qs.length
    · have hbig' : (100 : Int) < (os[i].qs.length : Int) := by omega
      clear HN
      generalize os[i].qs.length = m at *
      go_wp2
      go_ret
      exact ⟨rfl, HB.out⟩
    · have hbig' : ¬ ((100 : Int) < (os[i].qs.length : Int)) := by omega
      have HN2 := hid (HN.out (by omega))
      clear HN
      generalize hm : os[i].qs.length = m at *
      clear hm
      go_wp2
      go_roundw
      case rel => exact ⟨trivial, i + 1, by omega, by go_num, HN2.out⟩
      case measure => simp [intOf]; omega
end
end Go.Proofs.Ytfaoegiignalkaa
