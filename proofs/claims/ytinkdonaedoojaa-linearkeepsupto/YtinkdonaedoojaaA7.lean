/-
  The pair of a matrix; rows exchanged and added.
-/
import Derived.Test.YtinkdonaedoojaaA6
import Derived.BigRegion
namespace Go.Proofs.Ytinkdonaedoojaa
open Go.RowKit

theorem P2.mono {W : World} {B B' n : Nat} {v1 v2 : Value} {f h : Nat → Nat} (H : P2 W B v1 v2 n f h) (hb : B' ≤ B) : P2 W B' v1 v2 n f h := by
  obtain ⟨a1, c1, a2, c2, e1, e2, i1, i2, i3, i4, h5⟩ := H
  refine ⟨a1, c1, a2, c2, e1, e2, i1, i2, i3, i4, h5.imp id ?_⟩
  rintro ⟨g1, g2, j1, j2, j3, j4, j5, j6, j7⟩
  exact ⟨g1, g2, j1, j2, j3, Nat.le_trans hb j4, Nat.le_trans hb j5, j6, j7⟩
theorem P2.far2 {W : World} {B b n : Nat} {v1 v2 : Value} {f h : Nat → Nat} {cs : Array Value} (H : P2 W B v1 v2 n f h) (K : BK W b cs 70) (x y : Value) : P2 ((W.setCell ⟨b, 0, none⟩ x).setCell ⟨b, 1, none⟩ y) B v1 v2 n f h := by
  obtain ⟨a1, c1, a2, c2, e1, e2, i1, i2, i3, i4, h5⟩ := H
  refine ⟨a1, c1, a2, c2, e1, e2, i1, i2, i3, i4, h5.imp id ?_⟩
  rintro ⟨g1, g2, j1, j2, j3, j4, j5, j6, j7⟩
  have n1 := j6.bk K (by decide)
  have n2 := j7.bk K (by decide)
  exact ⟨g1, g2, j1, j2, j3, j4, j5, (j6.far n1 x).far n1 y, (j7.far n2 x).far n2 y⟩
theorem P2.on {W W' : World} {B n : Nat} {v1 v2 : Value} {f h : Nat → Nat} (H : P2 W B v1 v2 n f h) (hb : Below W.heap.size W W') : P2 W' B v1 v2 n f h := by
  obtain ⟨a1, c1, a2, c2, e1, e2, i1, i2, i3, i4, h5⟩ := H
  refine ⟨a1, c1, a2, c2, e1, e2, i1, i2, i3, i4, h5.imp id ?_⟩
  rintro ⟨g1, g2, j1, j2, j3, j4, j5, j6, j7⟩
  exact ⟨g1, g2, j1, j2, j3, j4, j5, j6.on hb, j7.on hb⟩
/-- But for two blocks nothing that was there has turned. -/
structure G2 (g1 g2 : Nat) (W W' : World) : Prop where
  os : W'.os = W.os
  tape : W'.tape = W.tape
  output : W'.output = W.output
  size : W.heap.size ≤ W'.heap.size
  block : ∀ k, k < W.heap.size → k ≠ g1 → k ≠ g2 → W'.heap[k]? = W.heap[k]?
section
variable {g1 g2 : Nat} {W W1 W2 : World}
theorem G2.refl (W : World) : G2 g1 g2 W W := ⟨rfl, rfl, rfl, Nat.le_refl _, fun _ _ _ _ => rfl⟩
theorem G2.trans (h : G2 g1 g2 W W1) (g : G2 g1 g2 W1 W2) : G2 g1 g2 W W2 :=
  ⟨g.os.trans h.os, g.tape.trans h.tape, g.output.trans h.output, Nat.le_trans h.size g.size, fun k hk a b => (g.block k (Nat.lt_of_lt_of_le hk h.size) a b).trans (h.block k hk a b)⟩
theorem G2.of (h : Below W.heap.size W W1) : G2 g1 g2 W W1 := ⟨h.os, h.tape, h.output, h.size, fun k hk _ _ => h.block k hk⟩
theorem G2.below (h : G2 g1 g2 W W1) (g : Below W1.heap.size W1 W2) : G2 g1 g2 W W2 := h.trans (G2.of g)
theorem G2.set (h : G2 g1 g2 W W1) (b o : Nat) (v : Value) (hb : b = g1 ∨ b = g2 ∨ W.heap.size ≤ b) : G2 g1 g2 W (W1.setCell ⟨b, o, none⟩ v) := by
  refine ⟨h.os, h.tape, h.output, by simpa [World.setCell] using h.size, fun k hk n1 n2 => ?_⟩
  rw [Below.heap_setCell W1 ⟨b, o, none⟩ v k (fun e => by
    have e : k = b := e
    omega)]
  exact h.block k hk n1 n2
theorem G2.bk {b : Nat} {cs : Array Value} {T : TypeId} (h : G2 g1 g2 W W1) (K : BK W b cs T) (n1 : g1 ≠ b) (n2 : g2 ≠ b) : BK W1 b cs T := (h.block b K.lt (Ne.symm n1) (Ne.symm n2)).trans K
theorem G2.blw {B : Nat} {w : World} (h : G2 g1 g2 W W1) (hb : Below B w W) (h1 : B ≤ g1) (h2 : B ≤ g2) (hB : B ≤ w.heap.size) : Below B w W1 :=
  ⟨h.os.trans hb.os, h.tape.trans hb.tape, h.output.trans hb.output, Nat.le_trans hb.size h.size, fun k hk => (h.block k (by have := hb.size; omega) (by omega) (by omega)).trans (hb.block k hk)⟩
end
abbrev pv2 (v1 v2 : Value) : Value := .agg #[v1, v2]
theorem bk_box1 {w : World} {cs : Array Value} {T : TypeId} (ds : Array Value) (U : TypeId) : BK ((w.alloc (.cells cs T)).alloc (.cells ds U)) (w.heap.size + 1) ds U := by
  have h := bk_new (w.alloc (.cells cs T)) ds U
  rw [alz] at h
  exact h
theorem two_set70 {W : World} {b : Nat} {p q : Value} (K : BK W b #[p, q] 70) (x y : Value) : ((W.setCell ⟨b, 0, none⟩ x).setCell ⟨b, 1, none⟩ y).cell? ⟨b, 0, none⟩ = some x ∧ ((W.setCell ⟨b, 0, none⟩ x).setCell ⟨b, 1, none⟩ y).cell? ⟨b, 1, none⟩ = some y :=
  ⟨((K.set 0 x).set 1 y).cell 0, ((K.set 0 x).set 1 y).cell 1⟩
theorem os_shape {W : World} {B : Nat} {v : Value} {n : Nat} {f : Nat → Nat} (h : OS W B v n f) : ∃ a c, v = .slice a n c := by
  obtain ⟨a, c, e, _⟩ := h
  exact ⟨a, c, e⟩
set_option maxHeartbeats 1000000 in
set_option maxRecDepth 100000 in
theorem pairOf_any (n : Nat) (f : Nat → Nat) (a : Option Addr) (c : Nat) (w : World) (H : RR w a n f) (hn : n ≤ 64) :
    Calls Try.prog 32 #[lv n a n c] w fun e w' => ∃ v1 v2, e = .returned (pv2 v1 v2) ∧ P2 w' w.heap.size v1 v2 n f (fun i => 2 ^ i) ∧ Below w.heap.size w w' := by
  have C1 := fun w' (h : Below w.heap.size w w') => clone_any n f a c w' (H.below h) (by omega)
  have C2 := fun w' => eyeR_any n w' hn
  clear H
  have HB := hid (bal (bal (Below.refl w.heap.size w) (.cells (lcs n a n c) 24)) (.cells #[.slice none 0 0, .slice none 0 0] 70))
  have HK0 := hid ((bk_new w (lcs n a n c) 24).alloc (.cells #[.slice none 0 0, .slice none 0 0] 70))
  have HK1 := hid (bk_box1 (w := w) (cs := lcs n a n c) (T := 24) #[.slice none 0 0, .slice none 0 0] 70)
  generalize hV : (w.alloc (.cells (lcs n a n c) 24)).alloc (.cells #[.slice none 0 0, .slice none 0 0] 70) = V at *
  have HV := hid hV
  clear hV
  have d0 := HK0.out.cell
  have l0 := HK0.out.lt
  go_enter Try.func32, Try.ntmps32
  go_upto_region 1 with (fail)
  rw [show (w.alloc (.cells (lcs n a n c) 24)).alloc (.cells #[.slice none 0 0, .slice none 0 0] 70) = V from HV.out]
  clear HV
  have HD : Hid (Below V.heap.size V V.drew) := below_drew (Below.refl _ _)
  go_region_with (first
    | (go_at_call 38; (with_reducible refine (C1 _ (btr HB.out HD.out)).mono ?_); rintro e w1 ⟨v1, rfl, hO1, hN1⟩; obtain ⟨a1, c1, rfl⟩ := os_shape hO1; (have k0 := bk_on HK0.out (btr HD.out hN1)); (have g0 := k0.cell); (have g1 := k0.lt); (have k1 := bk_on HK1.out (btr HD.out hN1)); (have g3 := k1.cell); (have g4 := k1.lt); (have g5 := k1.free))
    | (go_at_call 38; (with_reducible refine (C1 _ (btr HB.out (btr HD.out (by assumption)))).mono ?_); rintro e w1 ⟨v1, rfl, hO1, hN1⟩; obtain ⟨a1, c1, rfl⟩ := os_shape hO1; (have k0 := bk_on HK0.out (btr (btr HD.out (by assumption)) hN1)); (have g0 := k0.cell); (have g1 := k0.lt); (have k1 := bk_on HK1.out (btr (btr HD.out (by assumption)) hN1)); (have g3 := k1.cell); (have g4 := k1.lt); (have g5 := k1.free))
    | (go_at_call 28; (with_reducible refine (C2 _).mono ?_); rintro e w2 ⟨rfl, hO2, hN2⟩; (have m0 := bk_on HK0.out (by first | exact btr HD.out hN2 | exact btr (btr HD.out hN1) hN2)); (have s0 := m0.cell); (have s1 := m0.lt); (have m1 := bk_on HK1.out (by first | exact btr HD.out hN2 | exact btr (btr HD.out hN1) hN2)); (have s3 := m1.cell); (have s4 := m1.lt); (have s5 := m1.free)))
  all_goals
    first
    | (have hP := (P2.mk1 (h := fun i => 2 ^ i) hO1 hN1 hO2 hN2 hn).mono (show w.heap.size ≤ V.drew.heap.size from HB.out.size)
       have hB2 := bset (bset (btr (btr (btr HB.out HD.out) hN1) hN2) (w.heap.size + 1) 0 (.slice a1 n c1) (by omega)) (w.heap.size + 1) 1 (.slice (some ⟨w1.heap.size, 0, none⟩) n n) (by omega)
       obtain ⟨q0, q1⟩ := two_set70 m1 (.slice a1 n c1) (.slice (some ⟨w1.heap.size, 0, none⟩) n n)
       have hE := hP.far2 m1 (.slice a1 n c1) (.slice (some ⟨w1.heap.size, 0, none⟩) n n)
       clear hP hO1 hO2 m0 m1 k0 k1 g0 g1 g3 g4 g5 s0 s1 s3 s4 s5 hN1 hN2 d0 l0
       go_wp2
       exact bodyPost_ret (v := .agg #[.slice a1 n c1, .slice (some ⟨w1.heap.size, 0, none⟩) n n]) (by simp [results, Try.results32, go_sem, q0, q1]) rfl ⟨_, _, rfl, hE, hB2⟩)
    | (have hP := (P2.mk2 (h := fun i => 2 ^ i) hO2 hO1 hN1 hn).mono (show w.heap.size ≤ V.drew.heap.size from HB.out.size)
       have hB2 := bset (bset (btr (btr (btr HB.out HD.out) hN2) hN1) (w.heap.size + 1) 0 (.slice a1 n c1) (by omega)) (w.heap.size + 1) 1 (.slice (some ⟨V.heap.size, 0, none⟩) n n) (by omega)
       obtain ⟨q0, q1⟩ := two_set70 k1 (.slice a1 n c1) (.slice (some ⟨V.heap.size, 0, none⟩) n n)
       have hE := hP.far2 k1 (.slice a1 n c1) (.slice (some ⟨V.heap.size, 0, none⟩) n n)
       clear hP hO1 hO2 m0 m1 k0 k1 g0 g1 g3 g4 g5 s0 s1 s3 s4 s5 hN1 hN2 d0 l0
       go_wp2
       exact bodyPost_ret (v := .agg #[.slice a1 n c1, .slice (some ⟨V.heap.size, 0, none⟩) n n]) (by simp [results, Try.results32, go_sem, q0, q1]) rfl ⟨_, _, rfl, hE, hB2⟩)
end Go.Proofs.Ytinkdonaedoojaa
