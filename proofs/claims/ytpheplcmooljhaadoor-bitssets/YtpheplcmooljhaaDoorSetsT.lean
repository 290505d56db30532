/-
  The law BitsSets from its calls of Of on.
-/
import Derived.Test.YtpheplcmooljhaaDoorSets
import Derived.Deep.QuietTactic
import Derived.BigQuiet
namespace Go.Proofs.YtpheplcmooljhaaDoor
open Go.RowKit

def after : Code → Code
  | .seq _ b => b
  | c => c
noncomputable def restC : Code := after (after (after (Tryd.f6.body.getD .skip)))
noncomputable def tailC : Code := after (after (after (after restC)))

/-- The three lists in memory, the second written up to i; the result's cell and the two blocks of deferred calls as they were. -/
structure Tl (B R D1 D2 : Nat) (al aa ab : Option Addr) (A : List Nat) (i : Nat) (w W : World) : Prop where
  below : Below B w W
  r : W.cell? ⟨R, 0, none⟩ = some (.bool false)
  rf : W.frozen? ⟨R, 0, none⟩ = false
  d1 : W.heap[D1]? = some (.deferred (some []))
  d2 : W.heap[D2]? = some (.deferred (some []))
  at_ : ∀ j (h : j < A.length), ∃ gl ga gb, al = some ⟨gl, 0, none⟩ ∧ aa = some ⟨ga, 0, none⟩ ∧ ab = some ⟨gb, 0, none⟩ ∧ (gl ≠ ga ∧ gb ≠ ga ∧ R ≠ ga ∧ B ≤ ga) ∧
    W.cell? ⟨gl, j, none⟩ = some (.int .u64 (A[j] : Int)) ∧ W.cell? ⟨gb, j, none⟩ = some (.int .u64 (A[j] : Int)) ∧ (i ≤ j → W.cell? ⟨ga, j, none⟩ = some (.int .u64 (A[j] : Int))) ∧ W.frozen? ⟨ga, j, none⟩ = false
theorem Tl.drewN {B R D1 D2 : Nat} {al aa ab : Option Addr} {A : List Nat} {i : Nat} {w W : World} (h : Tl B R D1 D2 al aa ab A i w W) (n : Nat) : Tl B R D1 D2 al aa ab A i w (W.drewN n) :=
  ⟨below_drewN h.below n, by simpa using h.r, by simpa using h.rf, h.d1, h.d2, fun j hj => by
    obtain ⟨gl, ga, gb, e1, e2, e3, hn, c1, c2, c3, c4⟩ := h.at_ j hj
    exact ⟨gl, ga, gb, e1, e2, e3, hn, by simpa using c1, by simpa using c2, fun hij => by simpa using c3 hij, by simpa using c4⟩⟩
theorem Tl.set {B R D1 D2 : Nat} {al ab : Option Addr} {A : List Nat} {i ga : Nat} {w W : World} {v : Value} (h : Tl B R D1 D2 al (some ⟨ga, 0, none⟩) ab A i w W) (hi : i < A.length) : Tl B R D1 D2 al (some ⟨ga, 0, none⟩) ab A (i + 1) w (W.setCell ⟨ga, i, none⟩ v) := by
  obtain ⟨_, ga', _, _, e, _, ⟨_, _, hR, hB⟩, _⟩ := h.at_ i hi
  cases e
  refine ⟨h.below.setCell (p := ⟨ga, i, none⟩) hB _, ?_, by rw [World.frozen?_setCell]; exact h.rf, (KeepsOthers.setCell W ⟨ga, i, none⟩ v).same D1 _ h.d1 rfl, (KeepsOthers.setCell W ⟨ga, i, none⟩ v).same D2 _ h.d2 rfl, fun j hj => ?_⟩
  · rw [World.cell?_setCell_other _ _ _ _ (fun e => by cases e; exact hR rfl)]; exact h.r
  · obtain ⟨gl, ga', gb, e1, e2, e3, hn, c1, c2, c3, c4⟩ := h.at_ j hj
    cases e2
    refine ⟨gl, ga, gb, e1, rfl, e3, hn, ?_, ?_, fun hij => ?_, by rw [World.frozen?_setCell]; exact c4⟩
    · rw [World.cell?_setCell_other _ _ _ _ (fun e => by cases e; exact hn.1 rfl)]; exact c1
    · rw [World.cell?_setCell_other _ _ _ _ (fun e => by cases e; exact hn.2.1 rfl)]; exact c2
    · rw [World.cell?_setCell_other _ _ _ _ (fun e => by cases e; omega)]; exact c3 (by omega)
theorem Told.block {A : List Nat} {a : Option Addr} {c i : Nat} {w w1 : World} (h : Told A (.slice a A.length c) w w1) (hi : i < A.length) :
    ∃ g, a = some ⟨g, 0, none⟩ ∧ w.heap.size ≤ g ∧ g < w1.heap.size ∧ (∀ j (hj : j < A.length), w1.cell? ⟨g, j, none⟩ = some (.int .u64 (A[j] : Int)) ∧ w1.frozen? ⟨g, j, none⟩ = false) := by
  rcases h.owns.2 with ⟨_, e⟩ | ⟨g, c', cur, e, hb, hh, _⟩
  · omega
  · have ho := h.owns
    simp only [Value.slice.injEq, true_and] at e
    obtain ⟨rfl, rfl⟩ := e
    have key : ∀ j (hj : j < A.length), w1.cell? ⟨g, j, none⟩ = some (.int .u64 (A[j] : Int)) := fun j hj => by
      have hc := ho.cellAt j (by omega)
      rwa [uvals_at A j hj] at hc
    exact ⟨g, rfl, hb, block_lt_of_cell (key i hi), fun j hj => ⟨key j hj, ho.frozenAt j⟩⟩
theorem Tl.start {B R D1 D2 : Nat} {al aa ab : Option Addr} {A : List Nat} {c1 c2 c3 : Nat} {w w1 w2 w3 : World}
    (hl : Told A (.slice al A.length c1) w w1) (ha : Told A (.slice aa A.length c2) w1 w2) (hb : Told A (.slice ab A.length c3) w2 w3)
    (hB : B ≤ w.heap.size) (hr : w.cell? ⟨R, 0, none⟩ = some (.bool false)) (hrf : w.frozen? ⟨R, 0, none⟩ = false) (hd1 : w.heap[D1]? = some (.deferred (some []))) (hd2 : w.heap[D2]? = some (.deferred (some []))) :
    Tl B R D1 D2 al aa ab A 0 w w3 := by
  have b1 := hl.below
  have b2 := ha.below
  have b3 := hb.below
  have B3 : Below w.heap.size w w3 := (b1.trans (b2.mono b1.size)).trans (b3.mono (Nat.le_trans b1.size b2.size))
  have hR : R < w.heap.size := block_lt_of_cell hr
  have e1 : D1 < w.heap.size := (Array.getElem?_eq_some_iff.1 hd1).1
  have e2 : D2 < w.heap.size := (Array.getElem?_eq_some_iff.1 hd2).1
  refine ⟨B3.mono hB, (B3.cell (p := ⟨R, 0, none⟩) hR).trans hr, (B3.frozen (p := ⟨R, 0, none⟩) hR).trans hrf, (B3.block D1 e1).trans hd1, (B3.block D2 e2).trans hd2, fun j hj => ?_⟩
  obtain ⟨gl, rfl, l1, l2, l3⟩ := hl.block hj
  obtain ⟨ga, rfl, a1, a2, a3⟩ := ha.block hj
  obtain ⟨gb, rfl, m1, m2, m3⟩ := hb.block hj
  have s2 := b2.size
  exact ⟨gl, ga, gb, rfl, rfl, rfl, ⟨by omega, by omega, by omega, by omega⟩, ((b2.trans (b3.mono b2.size)).cell (p := ⟨gl, j, none⟩) l2).trans (l3 j hj).1, (m3 j hj).1, fun _ => (b3.cell (p := ⟨ga, j, none⟩) a2).trans (a3 j hj).1, (b3.frozen (p := ⟨ga, j, none⟩) a2).trans (a3 j hj).2⟩

/-- What the law's end is asked, where it comes to: the result's cell holds true. -/
def TailQ (B R D1 D2 : Nat) (ds : List Deferred) (Q : Exit → Act → World → Prop) (w : World) : Prop :=
  ∀ (a' : Act) (W' : World), a'.tmps[8]? = some (.pointer (some ⟨R, 0, none⟩)) → a'.defers = ds → Below B w W' → W'.cell? ⟨R, 0, none⟩ = some (.bool true) → W'.heap[D1]? = some (.deferred (some [])) → W'.heap[D2]? = some (.deferred (some [])) → Q .ret a' W'
theorem Tl.fin {B R D1 D2 : Nat} {al aa ab : Option Addr} {A : List Nat} {i : Nat} {w W : World} {Q : Exit → Act → World → Prop} {ds : List Deferred} (h : Tl B R D1 D2 al aa ab A i w W) (hQ : TailQ B R D1 D2 ds Q w) (hBR : B ≤ R)
    {a' : Act} (h8 : a'.tmps[8]? = some (.pointer (some ⟨R, 0, none⟩))) (hd : a'.defers = ds) : Q .ret a' (W.setCell ⟨R, 0, none⟩ (.bool true)) :=
  hQ a' _ h8 hd (h.below.setCell (p := ⟨R, 0, none⟩) hBR _) (World.cell?_setCell_same' _ _ _ (by rw [h.r]; rfl)) ((KeepsOthers.setCell W ⟨R, 0, none⟩ (.bool true)).same D1 _ h.d1 rfl) ((KeepsOthers.setCell W ⟨R, 0, none⟩ (.bool true)).same D2 _ h.d2 rfl)

set_option maxRecDepth 100000 in
set_option maxHeartbeats 4000000 in
theorem tail_no {t0 t1 t4 t5 t6 t7 t9 t10 t11 t12 t13 t14 t15 t16 t17 t18 t19 t20 t21 t22 t23 t24 t25 t26 t27 t28 t29 t30 t31 t32 t33 t34 t35 t36 t37 t38 t39 t40 t41 t42 t43 t44 t45 t46 t47 t48 t49 t50 t51 t52 t53 t54 t55 t56 t57 t58 t59 t60 t61 t62 t63 t64 t65 t66 t67 t68 t69 t70 t71 t72 t73 t74 t75 t76 t77 t78 t79 t80 t81 t82 t83 t84 t85 t86 t87 t88 t89 t90 t91 t92 t93 t94 t95 t96 t97 t98 t99 t100 t101 t102 t103 t104 t105 t106 t107 t108 t109 t110 t111 t112 t113 t114 t115 t116 t117 t118 t119 t120 t121 t122 t123 t124 t125 t126 t127 t128 t129 t130 t131 : Value} {ds : List Deferred} {n k : Int} {B R D1 D2 : Nat} {Q : Exit → Act → World → Prop} {w : World} (h : n < 0 ∨ 16 < n ∨ k < 0 ∨ n < k)
    (hr : w.cell? ⟨R, 0, none⟩ = some (.bool false)) (hrf : w.frozen? ⟨R, 0, none⟩ = false) (hd1 : w.heap[D1]? = some (.deferred (some []))) (hd2 : w.heap[D2]? = some (.deferred (some []))) (hBR : B ≤ R) (hQ : TailQ B R D1 D2 ds Q w) :
    tailC.wp Tryd.prog Q ⟨#[t0, t1, .int .i64 n, .int .i64 k, t4, t5, t6, t7, .pointer (some ⟨R, 0, none⟩), t9, t10, t11, t12, t13, t14, t15, t16, t17, t18, t19, t20, t21, t22, t23, t24, t25, t26, t27, t28, t29, t30, t31, t32, t33, t34, t35, t36, t37, t38, t39, t40, t41, t42, t43, t44, t45, t46, t47, t48, t49, t50, t51, t52, t53, t54, t55, t56, t57, t58, t59, t60, t61, t62, t63, t64, t65, t66, t67, t68, t69, t70, t71, t72, t73, t74, t75, t76, t77, t78, t79, t80, t81, t82, t83, t84, t85, t86, t87, t88, t89, t90, t91, t92, t93, t94, t95, t96, t97, t98, t99, t100, t101, t102, t103, t104, t105, t106, t107, t108, t109, t110, t111, t112, t113, t114, t115, t116, t117, t118, t119, t120, t121, t122, t123, t124, t125, t126, t127, t128, t129, t130, t131], ds⟩ w := by
  have HT : Tl B R D1 D2 none none none [] 0 w w := ⟨Below.refl _ _, hr, hrf, hd1, hd2, fun j hj => by simp at hj⟩
  have HF : Hid (∀ a' : Act, a'.tmps[8]? = some (.pointer (some ⟨R, 0, none⟩)) → a'.defers = ds → Q .ret a' (w.setCell ⟨R, 0, none⟩ (.bool true))) := fun a' h8 hd => HT.fin hQ hBR h8 hd
  clear HT hQ hd1 hd2 hBR
  conv => arg 2; whnf
  have H1 := fun w => rof_no n k w h
  have H2 := fun w => of_no n k w h
  clear h
  go_wp2_with (first
    | (go_at_call 36; with_reducible refine (H1 _).mono ?_; rintro e w' ⟨rfl, rfl⟩)
    | (go_at_call 37; with_reducible refine (H2 _).mono ?_; rintro e w' ⟨rfl, rfl⟩))
  refine wp_loop_rounds 1 ?_
  rw [rounds_succ]
  go_wp2
  refine wp_loop_rounds 1 ?_
  rw [rounds_succ]
  go_wp2
  exact HF.out _ rfl rfl

set_option maxRecDepth 100000 in
set_option maxHeartbeats 4000000 in
theorem tail_yes {t0 t1 t4 t5 t6 t7 t9 t10 t11 t12 t13 t14 t15 t16 t17 t18 t19 t20 t21 t22 t23 t24 t25 t26 t27 t28 t29 t30 t31 t32 t33 t34 t35 t36 t37 t38 t39 t40 t41 t42 t43 t44 t45 t46 t47 t48 t49 t50 t51 t52 t53 t54 t55 t56 t57 t58 t59 t60 t61 t62 t63 t64 t65 t66 t67 t68 t69 t70 t71 t72 t73 t74 t75 t76 t77 t78 t79 t80 t81 t82 t83 t84 t85 t86 t87 t88 t89 t90 t91 t92 t93 t94 t95 t96 t97 t98 t99 t100 t101 t102 t103 t104 t105 t106 t107 t108 t109 t110 t111 t112 t113 t114 t115 t116 t117 t118 t119 t120 t121 t122 t123 t124 t125 t126 t127 t128 t129 t130 t131 : Value} {ds : List Deferred} {n k : Nat} {B R D1 D2 : Nat} {Q : Exit → Act → World → Prop} {w : World} (hn : n ≤ 16) (hk : k ≤ n)
    (hr : w.cell? ⟨R, 0, none⟩ = some (.bool false)) (hrf : w.frozen? ⟨R, 0, none⟩ = false) (hd1 : w.heap[D1]? = some (.deferred (some []))) (hd2 : w.heap[D2]? = some (.deferred (some []))) (hBR : B ≤ R) (hBw : B ≤ w.heap.size) (hQ : TailQ B R D1 D2 ds Q w) :
    tailC.wp Tryd.prog Q ⟨#[t0, t1, .int .i64 n, .int .i64 k, t4, t5, t6, t7, .pointer (some ⟨R, 0, none⟩), t9, t10, t11, t12, t13, t14, t15, t16, t17, t18, t19, t20, t21, t22, t23, t24, t25, t26, t27, t28, t29, t30, t31, t32, t33, t34, t35, t36, t37, t38, t39, t40, t41, t42, t43, t44, t45, t46, t47, t48, t49, t50, t51, t52, t53, t54, t55, t56, t57, t58, t59, t60, t61, t62, t63, t64, t65, t66, t67, t68, t69, t70, t71, t72, t73, t74, t75, t76, t77, t78, t79, t80, t81, t82, t83, t84, t85, t86, t87, t88, t89, t90, t91, t92, t93, t94, t95, t96, t97, t98, t99, t100, t101, t102, t103, t104, t105, t106, t107, t108, t109, t110, t111, t112, t113, t114, t115, t116, t117, t118, t119, t120, t121, t122, t123, t124, t125, t126, t127, t128, t129, t130, t131], ds⟩ w := by
  have HTS : Hid (∀ (al aa ab : Option Addr) (c1 c2 c3 : Nat) (w1 w2 w3 : World), Told (ofP k (2 ^ n)) (.slice al (ofP k (2 ^ n)).length c1) w w1 → Told (ofP k (2 ^ n)) (.slice aa (ofP k (2 ^ n)).length c2) w1 w2 → Told (ofP k (2 ^ n)) (.slice ab (ofP k (2 ^ n)).length c3) w2 w3 → Tl B R D1 D2 al aa ab (ofP k (2 ^ n)) 0 w w3) :=
    fun al aa ab c1 c2 c3 w1 w2 w3 h1 h2 h3 => Tl.start h1 h2 h3 hBw hr hrf hd1 hd2
  have HQ : Hid (TailQ B R D1 D2 ds Q w) := hQ
  have HBR : Hid (B ≤ R) := hBR
  have hlen : (ofP k (2 ^ n)).length ≤ 65536 := Nat.le_trans (ofP_len k (2 ^ n)) (pow_le16 hn)
  have H1 := fun w => rof_any n k w hn hk
  have H2 := fun w => of_any n k w hn hk
  clear hQ hBR hr hrf hd1 hd2 hBw
  generalize ofP k (2 ^ n) = A at *
  conv => arg 2; whnf
  go_wp2_with (first
    | (go_at_call 36; (with_reducible refine (H1 _).mono ?_); rintro e w1 ⟨v1, rfl, ht1⟩; obtain ⟨al, cl, rfl⟩ := ht1.shape; clear H1)
    | (go_at_call 37; (with_reducible refine (H2 w1).mono ?_); rintro e w2 ⟨v2, rfl, ht2⟩; obtain ⟨aa, ca, rfl⟩ := ht2.shape)
    | (go_at_call 37; (with_reducible refine (H2 w2).mono ?_); rintro e w3 ⟨v3, rfl, ht3⟩; obtain ⟨ab, cb, rfl⟩ := ht3.shape))
  have hT := HTS.out _ _ _ _ _ _ _ _ _ ht1 ht2 ht3
  clear HTS ht1 ht2 ht3 H2
  go_loopw [20] (fun j wr => ∃ i : Nat, i ≤ A.length ∧ j = .int .i64 i ∧ Hid (Tl B R D1 D2 al aa ab A i w wr)) (fun j _ => A.length - (intOf j).toNat)
  case atStart => exact ⟨0, by omega, rfl, hT⟩
  case round =>
    clear hT
    obtain ⟨i, hi, rfl, ht⟩ := hrel
    by_cases hlt : i < A.length
    · obtain ⟨gl, ga, gb, rfl, rfl, rfl, _, c1, _, c3, c4⟩ := ht.out.at_ i hlt
      have c5 := c3 (Nat.le_refl _)
      clear c3
      have HS : Hid (∀ nq, Tl B R D1 D2 (some ⟨gl, 0, none⟩) (some ⟨ga, 0, none⟩) (some ⟨gb, 0, none⟩) A (i + 1) w ((wr.drewN nq).setCell ⟨ga, i, none⟩ (.int .u64 9))) := fun nq => (ht.out.drewN nq).set hlt
      clear ht
      generalize A[i] = y at c1 c5
      go_wp2
      go_quiet (fail)
      go_wp2
      go_roundw
      case rel => exact ⟨i + 1, by omega, by go_num, HS.out _⟩
      case measure => simp [intOf]; omega
    · obtain rfl : i = A.length := by omega
      go_wp2
      go_loopw [21] (fun j wr => ∃ i : Nat, i ≤ A.length ∧ j = .int .i64 i ∧ Hid (Tl B R D1 D2 al aa ab A A.length w wr)) (fun j _ => A.length - (intOf j).toNat)
      case atStart => exact ⟨0, by omega, rfl, ht⟩
      case round =>
        clear ht
        obtain ⟨i, hi, rfl, ht⟩ := hrel
        by_cases hlt : i < A.length
        · obtain ⟨gl, ga, gb, rfl, rfl, rfl, _, c1, c2, _, _⟩ := ht.out.at_ i hlt
          generalize A[i] = y at c1 c2
          go_wp2
          go_quiet (fail)
          go_wp2
          go_roundw
          case rel => exact ⟨i + 1, by omega, by go_num, ht.out.drewN _⟩
          case measure => simp [intOf]; omega
        · have c1 := ht.out.r
          have c2 := ht.out.rf
          go_wp2
          exact ht.out.fin HQ.out HBR.out rfl rfl
end Go.Proofs.YtpheplcmooljhaaDoor
