/-
  The law BitsSets from its call of the reference's Subsets on.
-/
import Derived.Test.YtpheplcmooljhaaDoorSetsR
import Derived.Test.YtpheplcmooljhaaDoorSetsT
namespace Go.Proofs.YtpheplcmooljhaaDoor
open Go.RowKit Go.Shelf

/-- What the law's two rounds over the iterator read: the boxes and want's numbers. -/
structure Rd (S R Wn M stop L mask cv : Nat) (ao : Option Addr) (W : World) : Prop where
  s : W.cell? ⟨S, 0, none⟩ = some (.int .i64 stop)
  r : W.cell? ⟨R, 0, none⟩ = some (.bool false)
  rf : W.frozen? ⟨R, 0, none⟩ = false
  wn : W.cell? ⟨Wn, 0, none⟩ = some (.slice ao L cv)
  m : W.cell? ⟨M, 0, none⟩ = some (.int .u64 mask)
  nums : ∀ i, i < L → ∃ g, ao = some ⟨g, 0, none⟩ ∧ W.cell? ⟨g, i, none⟩ = some (.int .u64 (sbN mask i))
theorem Rd.below {S R Wn M stop L mask cv : Nat} {ao : Option Addr} {W W' : World} (h : Rd S R Wn M stop L mask cv ao W) (hb : Below W.heap.size W W') : Rd S R Wn M stop L mask cv ao W' :=
  ⟨(hb.cell (p := ⟨S, 0, none⟩) (block_lt_of_cell h.s)).trans h.s, (hb.cell (p := ⟨R, 0, none⟩) (block_lt_of_cell h.r)).trans h.r, (hb.frozen (p := ⟨R, 0, none⟩) (block_lt_of_cell h.r)).trans h.rf,
   (hb.cell (p := ⟨Wn, 0, none⟩) (block_lt_of_cell h.wn)).trans h.wn, (hb.cell (p := ⟨M, 0, none⟩) (block_lt_of_cell h.m)).trans h.m, fun i hi => by
    obtain ⟨g, e, hc⟩ := h.nums i hi
    exact ⟨g, e, (hb.cell (p := ⟨g, i, none⟩) (block_lt_of_cell hc)).trans hc⟩⟩

theorem cell_new (w : World) (v : Value) (t : TypeId) : (w.alloc (.cells #[v] t)).cell? ⟨w.heap.size, 0, none⟩ = some v ∧ (w.alloc (.cells #[v] t)).frozen? ⟨w.heap.size, 0, none⟩ = false := by
  constructor
  · rw [World.cell?_alloc_at _ _ _ _ (by simp)]; rfl
  · rw [World.frozen?_alloc_at _ _ _ _ (by simp)]
theorem cell_past {w : World} {p : Addr} {v : Value} (h : w.cell? p = some v) (o : Obj) : (w.alloc o).cell? p = some v :=
  (((Below.refl w.heap.size w).alloc (Nat.le_refl _) o).cell (block_lt_of_cell h)).trans h

theorem rf_round {t0 t1 t2 t3 t4 t6 t7 t10 t11 t13 t14 t15 t16 t17 t18 t19 t20 t21 t22 t23 t24 t25 t26 t27 t28 t29 t30 t31 t32 t33 t34 t35 t36 t37 t38 t40 t41 t42 t43 t44 t45 t46 t47 t48 t49 t50 t51 t52 t53 t54 t55 t56 t57 t58 t59 t60 t61 t62 t63 t64 t65 t66 t67 t68 t69 t70 t71 t72 t73 t74 t75 t76 t77 t78 t79 t80 t81 t82 t83 t84 t85 t86 t87 t88 t89 t90 t91 t92 t93 t94 t95 t96 t97 t98 t99 t100 t101 t102 t103 t104 t105 t106 t107 t108 t109 t110 t111 t112 t113 t114 t115 t116 t117 t118 t119 t120 t121 t122 t123 t124 t125 t126 t127 t128 t129 t130 t131 : Value} {ds : List Deferred} {S R Wn Ib M stop L mask cv : Nat} {ao : Option Addr} {Q : Exit → Act → World → Prop} {w : World} {K : Act → World → Prop}
    (hKn : ∀ a W, K a W → Q .normal a W) (hKe : ∀ a W, K a W → Q (.exit 2) a W) (hm : mask < 18446744073709551616) (hs1 : 1 ≤ stop) (hs2 : stop ≤ 300) (hL : L = min (stop + 1) (2 ^ ones mask))
    (hRd : Rd S R Wn M stop L mask cv ao w) (hI : Ib = w.heap.size)
    (hQ : ∀ D W, w.heap.size < D → W.cell? ⟨Ib, 0, none⟩ = some (.int .i64 (min stop L : Nat)) → Below w.heap.size w W → W.heap[D]? = some (.deferred (some [])) →
      K ⟨#[t0, t1, t2, t3, t4, .pointer (some ⟨S, 0, none⟩), t6, t7, .pointer (some ⟨R, 0, none⟩), .pointer (some ⟨Wn, 0, none⟩), t10, t11, .pointer (some ⟨Ib, 0, none⟩), t13, t14, t15, t16, t17, t18, t19, t20, t21, t22, t23, t24, t25, t26, t27, t28, t29, t30, t31, t32, t33, t34, t35, t36, t37, t38, .func (.func 47) #[] #[.pointer (some ⟨M, 0, none⟩)], t40, t41, t42, t43, t44, t45, t46, t47, t48, t49, t50, t51, t52, t53, t54, t55, t56, t57, t58, t59, t60, t61, t62, t63, t64, t65, t66, t67, t68, t69, t70, t71, t72, t73, t74, t75, t76, t77, t78, t79, t80, t81, t82, t83, t84, t85, t86, t87, t88, t89, t90, t91, t92, t93, t94, t95, t96, t97, t98, t99, t100, t101, t102, t103, t104, t105, t106, t107, t108, t109, t110, t111, t112, t113, t114, t115, t116, t117, t118, t119, t120, t121, t122, t123, t124, t125, t126, t127, t128, t129, t130, t131], { target := .collected D, args := #[] } :: ds⟩ W) :
    rfC.wp Tryd.prog Q ⟨#[t0, t1, t2, t3, t4, .pointer (some ⟨S, 0, none⟩), t6, t7, .pointer (some ⟨R, 0, none⟩), .pointer (some ⟨Wn, 0, none⟩), t10, t11, .pointer (some ⟨Ib, 0, none⟩), t13, t14, t15, t16, t17, t18, t19, t20, t21, t22, t23, t24, t25, t26, t27, t28, t29, t30, t31, t32, t33, t34, t35, t36, t37, t38, .func (.func 47) #[] #[.pointer (some ⟨M, 0, none⟩)], t40, t41, t42, t43, t44, t45, t46, t47, t48, t49, t50, t51, t52, t53, t54, t55, t56, t57, t58, t59, t60, t61, t62, t63, t64, t65, t66, t67, t68, t69, t70, t71, t72, t73, t74, t75, t76, t77, t78, t79, t80, t81, t82, t83, t84, t85, t86, t87, t88, t89, t90, t91, t92, t93, t94, t95, t96, t97, t98, t99, t100, t101, t102, t103, t104, t105, t106, t107, t108, t109, t110, t111, t112, t113, t114, t115, t116, t117, t118, t119, t120, t121, t122, t123, t124, t125, t126, t127, t128, t129, t130, t131], ds⟩ (w.alloc (.cells #[.int .i64 0] 3)) := by
  subst hI
  have hb : Below w.heap.size w (w.alloc (.cells #[.int .i64 0] 3)) := (Below.refl _ w).alloc (Nat.le_refl _) _
  have hd := hRd.below hb
  exact rf_any hKn hKe hm hs1 hs2 hL hd.s (block_lt_of_cell hRd.s) hd.r hd.rf (block_lt_of_cell hRd.r) hd.wn (block_lt_of_cell hRd.wn) hd.m (block_lt_of_cell hRd.m) (cell_new _ _ _).1 (cell_new _ _ _).2 (by simp)
    (fun i hi => by
      obtain ⟨g, e, hc⟩ := hRd.nums i hi
      exact ⟨g, e, block_lt_of_cell hc, cell_past hc _⟩)
    (fun D W hD hc hB hK => hQ D W (by simp at hD; omega) hc (hb.trans hB) hK)

theorem run_func_nil (l : Array Value) (w : World) : Sem.run Tryd.prog (binOp .eql 52 (.func (.func 47) #[] l) .nilFunc) w = .ok (.bool false) w := by
  first | kernel_rfl | rfl | (simp [binOp, go_sem]; done)

set_option maxRecDepth 100000 in
set_option maxHeartbeats 4000000 in
theorem rest_any {t1 t4 t6 t7 t9 t10 t11 t12 t13 t14 t15 t16 t17 t18 t19 t20 t21 t22 t23 t24 t25 t26 t27 t28 t29 t30 t31 t32 t33 t34 t35 t36 t37 t38 t39 t40 t41 t42 t43 t44 t45 t46 t47 t48 t49 t50 t51 t52 t53 t54 t55 t56 t57 t58 t59 t60 t61 t62 t63 t64 t65 t66 t67 t68 t69 t70 t71 t72 t73 t74 t75 t76 t77 t78 t79 t80 t81 t82 t83 t84 t85 t86 t87 t88 t89 t90 t91 t92 t93 t94 t95 t96 t97 t98 t99 t100 t101 t102 t103 t104 t105 t106 t107 t108 t109 t110 t111 t112 t113 t114 t115 t116 t117 t118 t119 t120 t121 t122 t123 t124 t125 t126 t127 t128 t129 t130 t131 : Value} {n k : Int} {B S R stop mask : Nat} {Q : Exit → Act → World → Prop} {w : World}
    (hm : mask < 18446744073709551616) (hs1 : 1 ≤ stop) (hs2 : stop ≤ 300)
    (hS : w.cell? ⟨S, 0, none⟩ = some (.int .i64 stop)) (hr : w.cell? ⟨R, 0, none⟩ = some (.bool false)) (hrf : w.frozen? ⟨R, 0, none⟩ = false) (hBR : B ≤ R) (hBw : B ≤ w.heap.size)
    (hQ : ∀ D1 D2, D1 ≠ D2 → B ≤ D1 → B ≤ D2 → TailQ B R D1 D2 [{ target := .collected D2, args := #[] }, { target := .collected D1, args := #[] }] Q w) :
    restC.wp Tryd.prog Q ⟨#[.int .u64 mask, t1, .int .i64 n, .int .i64 k, t4, .pointer (some ⟨S, 0, none⟩), t6, t7, .pointer (some ⟨R, 0, none⟩), t9, t10, t11, t12, t13, t14, t15, t16, t17, t18, t19, t20, t21, t22, t23, t24, t25, t26, t27, t28, t29, t30, t31, t32, t33, t34, t35, t36, t37, t38, t39, t40, t41, t42, t43, t44, t45, t46, t47, t48, t49, t50, t51, t52, t53, t54, t55, t56, t57, t58, t59, t60, t61, t62, t63, t64, t65, t66, t67, t68, t69, t70, t71, t72, t73, t74, t75, t76, t77, t78, t79, t80, t81, t82, t83, t84, t85, t86, t87, t88, t89, t90, t91, t92, t93, t94, t95, t96, t97, t98, t99, t100, t101, t102, t103, t104, t105, t106, t107, t108, t109, t110, t111, t112, t113, t114, t115, t116, t117, t118, t119, t120, t121, t122, t123, t124, t125, t126, t127, t128, t129, t130, t131], []⟩ w := by
  obtain ⟨L, hL⟩ : ∃ L, L = min (stop + 1) (2 ^ ones mask) := ⟨_, rfl⟩
  have HR : ∀ w, Calls Tryd.prog 34 #[.int .u64 mask, .int .i64 ((stop : Int) + 1)] w fun e w' => ∃ ao cv, e = .returned (.slice ao L cv) ∧ Told (sbL mask L) (.slice ao (sbL mask L).length cv) w w' := fun w =>
    (rsubsets_any mask (stop + 1) w hm (by omega)).mono fun e w' ⟨v, he, ht⟩ => by
      rw [← hL] at ht
      obtain ⟨ao, cv, rfl⟩ := ht.shape
      exact ⟨ao, cv, by rw [he, sbL_len], ht⟩
  have HL : Hid (L = min (stop + 1) (2 ^ ones mask)) := hL
  have hL0 : L ≤ stop + 1 := by omega
  clear hL
  have HFN := run_func_nil
  have HQ : Hid (∀ D1 D2, D1 ≠ D2 → B ≤ D1 → B ≤ D2 → TailQ B R D1 D2 [{ target := .collected D2, args := #[] }, { target := .collected D1, args := #[] }] Q w) := hQ
  clear hQ
  conv => arg 2; whnf
  go_wp2_with (first
    | (go_at_call 34; (with_reducible refine (HR _).mono ?_); rintro e w1 ⟨ao, cv, rfl, ht⟩; clear HR)
    | (go_at_call 35; (refine (subsets_any _ _).mono ?_); rintro e w2 ⟨rfl, hw2⟩))
  rename_i K aK
  have HK : Hid (∀ a w, tailC.wp Tryd.prog Q a w → K a w) := aK
  clear aK
  have hsz1 := ht.below.size
  have hB2 : Below w.heap.size w w2 := by rw [hw2]; exact (ht.below.alloc hsz1 _).alloc (by simp; omega) _
  have hz2 : w2.heap.size = w1.heap.size + 2 := by rw [hw2]; simp
  have hRd : Rd S R w1.heap.size (w1.heap.size + 1) stop L mask cv ao w2 := by
    refine ⟨(hB2.cell (p := ⟨S, 0, none⟩) (block_lt_of_cell hS)).trans hS, (hB2.cell (p := ⟨R, 0, none⟩) (block_lt_of_cell hr)).trans hr, (hB2.frozen (p := ⟨R, 0, none⟩) (block_lt_of_cell hr)).trans hrf, ?_, ?_, fun i hi => ?_⟩
    · rw [hw2]; exact (cell_past (cell_new _ _ _).1 _)
    · rw [hw2]; have := (cell_new (w1.alloc (.cells #[.slice ao L cv] 49)) (.int .u64 mask) 22).1; rwa [World.size_alloc] at this
    · obtain ⟨g, e, _, _, hc⟩ := ht.block (i := i) (by rw [sbL_len]; exact hi)
      have := (hc i (by rw [sbL_len]; exact hi)).1
      rw [sbL_at] at this
      exact ⟨g, e, by rw [hw2]; exact cell_past (cell_past this _) _⟩
  rw [← hw2]
  clear hw2 ht hS hr hrf
  generalize w1.heap.size = Wn at *
  clear w1
  have HRd : Hid (Rd S R Wn (Wn + 1) stop L mask cv ao w2) := hRd
  clear hRd
  have HB2 : Hid (Below w.heap.size w w2) := hB2
  have HBW : Hid (B ≤ w.heap.size ∧ B ≤ R) := ⟨hBw, hBR⟩
  clear hB2 hBw hBR HFN
  rcases (show (L < stop ∧ min stop L = L) ∨ (¬ L < stop ∧ min stop L = stop) by omega) with ⟨hLs, hmn⟩ | ⟨hLs, hmn⟩
  all_goals
    refine wp_loop_rounds 3 ?_
    rw [rounds_succ]
    go_wp2
    refine rf_round (fun _ _ h => h) (fun _ _ h => h) hm hs1 hs2 HL.out HRd.out hz2.symm ?_
    intro D1 W3 hD1 hc3 hB3 hK3
    have HRd3 : Hid (Rd S R Wn (Wn + 1) stop L mask cv ao W3) := HRd.out.below hB3
    have HB3 : Hid (Below w.heap.size w W3 ∧ B ≤ D1 ∧ D1 < W3.heap.size) := by
      have h1 := HB2.out.size
      have h2 := HBW.out.1
      exact ⟨HB2.out.trans (hB3.mono h1), by omega, (Array.getElem?_eq_some_iff.1 hK3).1⟩
    have HK3 : Hid (W3.heap[D1]? = some (.deferred (some []))) := hK3
    clear hB3 hK3 hD1 HRd HB2 hz2
    have cs := HRd3.out.s
    have cw := HRd3.out.wn
    rw [hmn] at hc3
    go_wp2
    clear cs cw hc3
    rw [rounds_succ]
    go_wp2
    refine rf_round (fun _ _ h => h) (fun _ _ h => h) hm hs1 hs2 HL.out HRd3.out rfl ?_
    intro D2 W4 hD2 hc4 hB4 hK4
    have HRd4 : Hid (Rd S R Wn (Wn + 1) stop L mask cv ao W4) := HRd3.out.below hB4
    have HB4 : Hid (Below w.heap.size w W4 ∧ B ≤ D2 ∧ D1 ≠ D2) := by
      have h1 := HB3.out.1.size
      have h2 := HBW.out.1
      have h3 := HB3.out.2.2
      exact ⟨HB3.out.1.trans (hB4.mono h1), by omega, by omega⟩
    have HK4 : Hid (W4.heap[D1]? = some (.deferred (some [])) ∧ W4.heap[D2]? = some (.deferred (some []))) := ⟨(hB4.block D1 HB3.out.2.2).trans HK3.out, hK4⟩
    clear hB4 hK4 hD2
    have cs := HRd4.out.s
    have cw := HRd4.out.wn
    rw [hmn] at hc4
    go_wp2
    clear cs cw hc4
    rw [rounds_succ]
    go_wp2
    refine HK.out _ _ ?_
    have HQ4 : TailQ B R D1 D2 [{ target := .collected D2, args := #[] }, { target := .collected D1, args := #[] }] Q W4 := fun a' W' h8 hd hB hc e1 e2 =>
      HQ.out D1 D2 HB4.out.2.2 HB3.out.2.1 HB4.out.2.1 a' W' h8 hd ((HB4.out.1.mono HBW.out.1).trans hB) hc e1 e2
    have hB5 : B ≤ W4.heap.size := Nat.le_trans HBW.out.1 HB4.out.1.size
    by_cases hv : n < 0 ∨ 16 < n ∨ k < 0 ∨ n < k
    · exact tail_no hv HRd4.out.r HRd4.out.rf HK4.out.1 HK4.out.2 HBW.out.2 HQ4
    · obtain ⟨n', rfl⟩ : ∃ n' : Nat, n = n' := ⟨n.toNat, by omega⟩
      obtain ⟨k', rfl⟩ : ∃ k' : Nat, k = k' := ⟨k.toNat, by omega⟩
      exact tail_yes (by omega) (by omega) HRd4.out.r HRd4.out.rf HK4.out.1 HK4.out.2 HBW.out.2 hB5 HQ4
end Go.Proofs.YtpheplcmooljhaaDoor
