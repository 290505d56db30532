/-
  tableau: copied.
-/
import Derived.Test.YtoddbaljnlhhaaaA8
namespace Go.Proofs.Ytoddbaljnlhhaaa
open Go.RowKit Go.Sort
open PL (pv PS bt)

theorem own_set {W : World} {B T c n b : Nat} {v : Value} {xs : List Value} (h : W.ownsRow B T c v n xs) (hne : ∀ g, v.ownBlock = some g → some g ≠ some b) (o : Nat) (x : Value) : (W.setCell ⟨b, o, none⟩ x).ownsRow B T c v n xs :=
  own_kept h (gb_set (gb_refl W b) b o x (.inl rfl)) hne
theorem OT.put {W : World} {B b U : Nat} {v : Value} {rs : List Pr} {cs : Array Value} (h : OT W B v rs) (hb : BK W b cs U) (hU : 27 ≠ U) (o : Nat) (x : Value) : OT (W.setCell ⟨b, o, none⟩ x) B v rs := ⟨own_set h.own (own_ne h.own hb hU) o x, h.w64, h.l⟩
theorem OT.mono {W : World} {B B' : Nat} {v : Value} {rs : List Pr} (h : OT W B v rs) (hb : B' ≤ B) : OT W B' v rs := ⟨own_mono h.own hb, h.w64, h.l⟩
set_option maxHeartbeats 1000000 in
set_option maxRecDepth 100000 in
theorem copied_any (t : Tb) (a : Option Addr) (c : Nat) (w : World) (H : TS w a c t.rows) (hl : t.rows.length ≤ 1000) :
    Calls Try.prog 55 #[t.v a c] w fun e w' => ∃ v, e = .returned (.agg #[.int .i64 t.n, v]) ∧ OT w' w.heap.size v t.rows ∧ Below w.heap.size w w' := by
  obtain ⟨n, rs⟩ := t
  simp only at *
  have CL := fun w' (h : Below w.heap.size w w') => clone_any rs a c w' (H.below h) hl
  clear H
  obtain ⟨hB0, hK0, hL0⟩ := tt_boxes w n 0 (.slice a rs.length c) (.slice none 0 0)
  generalize hV : (w.alloc (.cells #[.int .i64 n, .slice a rs.length c] 24)).alloc (.cells #[.int .i64 0, .slice none 0 0] 24) = V at *
  have HV := hid hV
  clear hV
  have HB0 := hid hB0
  have d0 := hK0.cell
  have l0 := hK0.lt
  have d1 := hL0.cell
  have f1 := hL0.free
  have l1 := hL0.lt
  have HK0 := hid hK0
  have HL0 := hid hL0
  go_enter Try.func55, Try.ntmps55
  go_upto_region 1 with (fail)
  rw [show (w.alloc (.cells #[.int .i64 n, .slice a rs.length c] 24)).alloc (.cells #[.int .i64 0, .slice none 0 0] 24) = V from HV.out]
  clear hB0 hK0 hL0 HV
  have HDR : Hid (Below V.heap.size V V.drew) := below_drew (Below.refl _ _)
  go_region_with (go_at_call 76; (with_reducible refine (CL _ (btr HB0.out HDR.out)).mono ?_); rintro e w1 ⟨v1, rfl, hO1, hN⟩; obtain ⟨a1, c1, rfl⟩ := own_shape hO1.own; (have hVb := btr HDR.out hN); (have k0 := bk_on HK0.out hVb); (have k1 := bk_on HL0.out hVb); (have g0 := k0.cell); (have g1 := k0.lt); (have g2 := k1.cell); (have g3 := k1.free); have g4 := k1.lt)
  all_goals
    have r0 := k1.set 0 (.int .i64 n)
    have r1 := r0.set 1 (.slice a1 rs.length c1)
    have hO2 := (hO1.put k1 (by decide) 0 (.int .i64 n)).put r0 (by decide) 1 (.slice a1 rs.length c1)
    have hO3 := hO2.mono (show w.heap.size ≤ V.drew.heap.size from HB0.out.size)
    have hB3 := bset (bset (btr HB0.out hVb) (w.heap.size + 1) 0 (.int .i64 n) (by omega)) (w.heap.size + 1) 1 (.slice a1 rs.length c1) (by omega)
    have q0 : ((w1.setCell ⟨w.heap.size + 1, 0, none⟩ (.int .i64 n)).setCell ⟨w.heap.size + 1, 1, none⟩ (.slice a1 rs.length c1)).cell? ⟨w.heap.size + 1, 0, none⟩ = some (.int .i64 n) := r1.cell 0
    have q1 : ((w1.setCell ⟨w.heap.size + 1, 0, none⟩ (.int .i64 n)).setCell ⟨w.heap.size + 1, 1, none⟩ (.slice a1 rs.length c1)).cell? ⟨w.heap.size + 1, 1, none⟩ = some (.slice a1 rs.length c1) := r1.cell 1
    generalize ((w1.setCell ⟨w.heap.size + 1, 0, none⟩ (.int .i64 n)).setCell ⟨w.heap.size + 1, 1, none⟩ (.slice a1 rs.length c1)) = Z at *
    clear r0 r1 hO2 g0 g1 g2 g3 g4 k0 k1 hO1 hN d0 d1 f1 l0 l1
    go_wp2
    exact bodyPost_ret (v := .agg #[.int .i64 n, .slice a1 rs.length c1]) (by simp [results, Try.results55, go_sem, q0, q1]) rfl ⟨_, rfl, hO3, hB3⟩
end Go.Proofs.Ytoddbaljnlhhaaa
