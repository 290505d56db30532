/-
  The range over the iterator of Subsets inside the law BitsSets: one round of its loop of two.
-/
import Derived.Test.YtpheplcmooljhaaDoorSets
import Derived.RangeFuncFrom
namespace Go.Proofs.YtpheplcmooljhaaDoor
open Go.RowKit Go.Shelf
attribute [local go_sem] Oper.semAt_some

def firstRange : Code → Option Code
  | .rangeFunc g ps a b => some (.rangeFunc g ps a b)
  | .seq a b => match firstRange a with
    | some c => some c
    | none => firstRange b
  | .block _ c => firstRange c
  | .cond _ a b => match firstRange a with
    | some c => some c
    | none => firstRange b
  | .loop c => firstRange c
  | _ => none
noncomputable def rfC : Code := (Tryd.f6.body.bind firstRange).getD .skip

theorem sb_snoc_ne {mask k x : Nat} (h : x ≠ sbN mask k) : ¬ ∃ q, q ≤ 2 ^ ones mask ∧ sbL mask k ++ [x] = sbL mask q := fun ⟨q, _, e⟩ => by
  have hl := congrArg List.length e
  rw [List.length_append, sbL_len, sbL_len] at hl
  obtain rfl : q = k + 1 := by simpa using hl.symm
  rw [sbL_succ] at e
  have := List.append_cancel_left e
  simp at this
  exact h this

set_option maxRecDepth 100000 in
set_option maxHeartbeats 4000000 in
theorem rf_any {t0 t1 t2 t3 t4 t6 t7 t10 t11 t13 t14 t15 t16 t17 t18 t19 t20 t21 t22 t23 t24 t25 t26 t27 t28 t29 t30 t31 t32 t33 t34 t35 t36 t37 t38 t40 t41 t42 t43 t44 t45 t46 t47 t48 t49 t50 t51 t52 t53 t54 t55 t56 t57 t58 t59 t60 t61 t62 t63 t64 t65 t66 t67 t68 t69 t70 t71 t72 t73 t74 t75 t76 t77 t78 t79 t80 t81 t82 t83 t84 t85 t86 t87 t88 t89 t90 t91 t92 t93 t94 t95 t96 t97 t98 t99 t100 t101 t102 t103 t104 t105 t106 t107 t108 t109 t110 t111 t112 t113 t114 t115 t116 t117 t118 t119 t120 t121 t122 t123 t124 t125 t126 t127 t128 t129 t130 t131 : Value} {ds : List Deferred} {S R Wn Ib M stop L mask cv : Nat} {ao : Option Addr} {Q : Exit → Act → World → Prop} {w : World} {K : Act → World → Prop}
    (hKn : ∀ a W, K a W → Q .normal a W) (hKe : ∀ a W, K a W → Q (.exit 2) a W) (hm : mask < 18446744073709551616) (hs1 : 1 ≤ stop) (hs2 : stop ≤ 300) (hL : L = min (stop + 1) (2 ^ ones mask))
    (hS : w.cell? ⟨S, 0, none⟩ = some (.int .i64 stop)) (hSI : S < Ib)
    (hR : w.cell? ⟨R, 0, none⟩ = some (.bool false)) (hRf : w.frozen? ⟨R, 0, none⟩ = false) (hRI : R < Ib)
    (hWn : w.cell? ⟨Wn, 0, none⟩ = some (.slice ao L cv)) (hWI : Wn < Ib)
    (hM : w.cell? ⟨M, 0, none⟩ = some (.int .u64 mask)) (hMI : M < Ib)
    (hI : w.cell? ⟨Ib, 0, none⟩ = some (.int .i64 0)) (hIf : w.frozen? ⟨Ib, 0, none⟩ = false) (hIw : Ib < w.heap.size)
    (hN : ∀ i, i < L → ∃ g, ao = some ⟨g, 0, none⟩ ∧ g < Ib ∧ w.cell? ⟨g, i, none⟩ = some (.int .u64 (sbN mask i)))
    (hQ : ∀ D W, w.heap.size ≤ D → W.cell? ⟨Ib, 0, none⟩ = some (.int .i64 (min stop L : Nat)) → Below Ib w W → W.heap[D]? = some (.deferred (some [])) →
      K ⟨#[t0, t1, t2, t3, t4, .pointer (some ⟨S, 0, none⟩), t6, t7, .pointer (some ⟨R, 0, none⟩), .pointer (some ⟨Wn, 0, none⟩), t10, t11, .pointer (some ⟨Ib, 0, none⟩), t13, t14, t15, t16, t17, t18, t19, t20, t21, t22, t23, t24, t25, t26, t27, t28, t29, t30, t31, t32, t33, t34, t35, t36, t37, t38, .func (.func 47) #[] #[.pointer (some ⟨M, 0, none⟩)], t40, t41, t42, t43, t44, t45, t46, t47, t48, t49, t50, t51, t52, t53, t54, t55, t56, t57, t58, t59, t60, t61, t62, t63, t64, t65, t66, t67, t68, t69, t70, t71, t72, t73, t74, t75, t76, t77, t78, t79, t80, t81, t82, t83, t84, t85, t86, t87, t88, t89, t90, t91, t92, t93, t94, t95, t96, t97, t98, t99, t100, t101, t102, t103, t104, t105, t106, t107, t108, t109, t110, t111, t112, t113, t114, t115, t116, t117, t118, t119, t120, t121, t122, t123, t124, t125, t126, t127, t128, t129, t130, t131], { target := .collected D, args := #[] } :: ds⟩ W) :
    rfC.wp Tryd.prog Q ⟨#[t0, t1, t2, t3, t4, .pointer (some ⟨S, 0, none⟩), t6, t7, .pointer (some ⟨R, 0, none⟩), .pointer (some ⟨Wn, 0, none⟩), t10, t11, .pointer (some ⟨Ib, 0, none⟩), t13, t14, t15, t16, t17, t18, t19, t20, t21, t22, t23, t24, t25, t26, t27, t28, t29, t30, t31, t32, t33, t34, t35, t36, t37, t38, .func (.func 47) #[] #[.pointer (some ⟨M, 0, none⟩)], t40, t41, t42, t43, t44, t45, t46, t47, t48, t49, t50, t51, t52, t53, t54, t55, t56, t57, t58, t59, t60, t61, t62, t63, t64, t65, t66, t67, t68, t69, t70, t71, t72, t73, t74, t75, t76, t77, t78, t79, t80, t81, t82, t83, t84, t85, t86, t87, t88, t89, t90, t91, t92, t93, t94, t95, t96, t97, t98, t99, t100, t101, t102, t103, t104, t105, t106, t107, t108, t109, t110, t111, t112, t113, t114, t115, t116, t117, t118, t119, t120, t121, t122, t123, t124, t125, t126, t127, t128, t129, t130, t131], ds⟩ w := by
  refine (wpIn_wide (n := 5)).1 ?_
  conv => arg 4; whnf
  have hst := sub_stops Fence.wide (5 - 1) trivial rfl (by decide) M Ib mask w hm hMI (by omega) hM
  refine wpIn_rangeFunc_ownF (F := Fence.wide) (n := 5) rfl (by decide) (gf := 47) (lb := #[.pointer (some ⟨M, 0, none⟩)]) rfl trivial (enters_of Tryd.func47 (by kernel_rfl) rfl)
    hst belowK_t (belowK_b (by omega)) (Below.refl _ _) (fun _ => rfl)
    (fun pre W => ((pre = sbL mask pre.length ∧ pre.length < stop) ∧ W.cell? ⟨Ib, 0, none⟩ = some (.int .i64 (pre.length : Nat)) ∧ W.frozen? ⟨Ib, 0, none⟩ = false) ∧ Below Ib w W)
    (fun c pre W => (c = .ret ∧ ¬ ∃ q, q ≤ 2 ^ ones mask ∧ pre = sbL mask q) ∨ (c = .exit 2 ∧ pre = sbL mask stop ∧ W.cell? ⟨Ib, 0, none⟩ = some (.int .i64 stop) ∧ Below Ib w W))
    (OwnFrom.and (Own.from (fun s A B row hs hg hr => ⟨hs.1, cell_kept hs.2.1 hg hr, (frozen_kept hs.2.1 hg hr).trans hs.2.2⟩) _) (ownFrom_below (by omega) (by omega)))
    (fun c s A B row hs hg hr => hs.elim .inl fun ⟨h1, h2, h3, h4⟩ => .inr ⟨h1, h2, cell_kept h3 hg (fun r e => (hr r e).2), ownFrom_below (β := Unit) (B := w.heap.size) (by omega) (by omega) () A B row h4 hg hr⟩)
    ⟨⟨⟨rfl, by simp; omega⟩, hI, hIf⟩, Below.refl _ _⟩
    (fun x => { tmps := #[t0, t1, t2, t3, t4, .pointer (some ⟨S, 0, none⟩), t6, t7, .pointer (some ⟨R, 0, none⟩), .pointer (some ⟨Wn, 0, none⟩), t10, t11, .pointer (some ⟨Ib, 0, none⟩), .int .u64 (x : Int), t14, t15, t16, t17, t18, t19, t20, t21, t22, t23, t24, t25, t26, t27, t28, t29, t30, t31, t32, t33, t34, t35, t36, t37, t38, .func (.func 47) #[] #[.pointer (some ⟨M, 0, none⟩)], .int .u64 (x : Int), t41, t42, t43, t44, t45, t46, t47, t48, t49, t50, t51, t52, t53, t54, t55, t56, t57, t58, t59, t60, t61, t62, t63, t64, t65, t66, t67, t68, t69, t70, t71, t72, t73, t74, t75, t76, t77, t78, t79, t80, t81, t82, t83, t84, t85, t86, t87, t88, t89, t90, t91, t92, t93, t94, t95, t96, t97, t98, t99, t100, t101, t102, t103, t104, t105, t106, t107, t108, t109, t110, t111, t112, t113, t114, t115, t116, t117, t118, t119, t120, t121, t122, t123, t124, t125, t126, t127, t128, t129, t130, t131], defers := [] }) ?assign ?body ?done ?stop
  case assign =>
    intro l x W K hK
    gi_wp2
    exact hK
  case body =>
    rintro l pre x W ⟨⟨⟨hpre, hk⟩, hc, hf⟩, hB⟩ hlen
    obtain ⟨k, hkl⟩ : ∃ k, k = pre.length := ⟨_, rfl⟩
    rw [← hkl] at hpre hk hc hlen
    obtain ⟨g, rfl, hg, hcg0⟩ := hN k (by omega)
    have c1 : W.cell? ⟨S, 0, none⟩ = some (.int .i64 stop) := (hB.cell (p := ⟨S, 0, none⟩) hSI).trans hS
    have c2 : W.cell? ⟨R, 0, none⟩ = some (.bool false) := (hB.cell (p := ⟨R, 0, none⟩) hRI).trans hR
    have c3 : W.frozen? ⟨R, 0, none⟩ = false := (hB.frozen (p := ⟨R, 0, none⟩) hRI).trans hRf
    have c4 : W.cell? ⟨Wn, 0, none⟩ = some (.slice (some ⟨g, 0, none⟩) L cv) := (hB.cell (p := ⟨Wn, 0, none⟩) hWI).trans hWn
    have c5 : W.cell? ⟨g, k, none⟩ = some (.int .u64 (sbN mask k)) := (hB.cell (p := ⟨g, k, none⟩) hg).trans hcg0
    have hkL : k < L := by omega
    have d1 : decide ((L : Int) ≤ (k : Int)) = false := decide_eq_false (by omega)
    have n1 : Ib ≠ S := by omega
    have n2 : S ≠ Ib := by omega
    have HB : Hid (Below Ib w W) := hB
    have HP : Hid (pre = sbL mask k) := hpre
    have HKL : Hid (k = pre.length) := hkl
    have HL : Hid (L = min (stop + 1) (2 ^ ones mask)) := hL
    have HX := fun h => sb_snoc_ne (mask := mask) (k := k) (x := x) h
    have HSU := sbL_succ mask k
    clear hS hR hRf hWn hM hI hN hQ hKn hKe hst hcg0 hB hpre hkl hL
    generalize sbN mask k = y at *
    clear hlen
    by_cases hxy : x = y
    · subst hxy
      clear HX
      by_cases hst : k + 1 = stop
      · have hst' : (k : Int) + 1 = (stop : Int) := by omega
        gi_wp2
        refine ⟨KeepsOthers.setCell _ _ _, .inr ⟨rfl, ?_, ?_, HB.out.setCell (p := ⟨Ib, 0, none⟩) (Nat.le_refl _) _⟩⟩
        · rw [HP.out, ← HSU, hst]
        · first | exact World.cell?_setCell_same' _ _ _ (by rw [hc]; rfl) | (rw [← hst']; exact World.cell?_setCell_same' _ _ _ (by rw [hc]; rfl))
      · have hst' : ¬ (k : Int) + 1 = (stop : Int) := by omega
        have HLEN : (pre ++ [x]).length = k + 1 := by rw [List.length_append, ← HKL.out]; rfl
        gi_wp2
        refine ⟨KeepsOthers.setCell _ _ _, (Below.refl Ib W).setCell (p := ⟨Ib, 0, none⟩) (Nat.le_refl _) _, ⟨⟨?_, by rw [HLEN]; omega⟩, ?_, by rw [World.frozen?_setCell]; exact hf⟩, HB.out.setCell (p := ⟨Ib, 0, none⟩) (Nat.le_refl _) _⟩
        · rw [HLEN, HP.out, ← HSU]
        · rw [HLEN]; exact World.cell?_setCell_same' _ _ _ (by rw [hc]; rfl)
    · have d2 : ((x : Int) != (y : Int)) = true := by simp; omega
      clear HSU
      gi_wp2
      exact ⟨KeepsOthers.setCell _ _ _, .inl ⟨rfl, by rw [HP.out]; exact HX hxy⟩⟩
  case done =>
    rintro D ys W hD hys ⟨⟨⟨hpre, hk⟩, hc, hf⟩, hB⟩ hK
    have hl : ys.length = 2 ^ ones mask := by rw [hys, sbL_len]
    refine hKn _ _ (hQ D W hD ?_ hB hK)
    rw [hc, show min stop L = ys.length by omega]
  case stop =>
    rintro D c pre W hD ⟨q, hq, hSp⟩ h hK
    rcases h with ⟨_, h⟩ | ⟨rfl, hp, hc, hB⟩
    · exact (h ⟨q, hq, hSp⟩).elim
    · have hl : q = stop := by
        have := congrArg List.length (hSp.symm.trans hp)
        simpa [sbL_len] using this
      gi_wp2
      refine hQ D W hD ?_ hB hK
      rw [hc, show min stop L = stop by omega]
end Go.Proofs.YtpheplcmooljhaaDoor
