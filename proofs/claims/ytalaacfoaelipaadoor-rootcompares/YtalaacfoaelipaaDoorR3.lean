/-
  New memory that is written digit by digit; the reference's half.
-/
import Derived.Test.YtalaacfoaelipaaDoorR1
namespace Go.Proofs.YtalaacfoaelipaaDoor
open Go.RowKit Go.Sort

/-- Block g, behind W0, holds these digits and may be written. -/
structure Arr (W0 W : World) (g : Nat) (l : List Nat) : Prop where
  below : Below W0.heap.size W0 W
  ge : W0.heap.size ≤ g
  cell : ∀ i, i < l.length → W.cell? ⟨g, i, none⟩ = some (.int .i64 (gd l i : Nat))
  fz : ∀ i, W.frozen? ⟨g, i, none⟩ = false
  ty : bty W g = some 3
theorem Arr.set {W0 W : World} {g : Nat} {l : List Nat} (h : Arr W0 W g l) (i v : Nat) (hi : i < l.length) : Arr W0 (W.setCell ⟨g, i, none⟩ (.int .i64 (v : Int))) g (l.set i v) where
  below := h.below.setCell h.ge _
  ge := h.ge
  cell := fun j hj => by
    rw [List.length_set] at hj
    rw [set_getD l i j v hi]
    by_cases e : i = j
    · subst e
      rw [if_pos rfl, World.cell?_setCell_same' _ _ _ (by rw [h.cell i hi]; rfl)]
    · rw [if_neg e, World.cell?_setCell_other _ _ _ _ (fun e' => e (by injection e')), h.cell j hj]
  fz := fun j => by simp; exact h.fz j
  ty := (bty_set _ _ _ _).trans h.ty
theorem Arr.row {W0 W : World} {g : Nat} {l : List Nat} (h : Arr W0 W g l) : Row (some ⟨g, 0, none⟩) l W := ⟨fun i hi => ⟨g, rfl, h.cell i hi, h.ty⟩⟩
theorem Arr.drewN {W0 W : World} {g : Nat} {l : List Nat} (h : Arr W0 W g l) (n : Nat) : Arr W0 (W.drewN n) g l := ⟨below_drewN h.below n, h.ge, h.cell, h.fz, h.ty⟩
theorem rep_gd (n i : Nat) : gd (List.replicate n 0) i = 0 := by
  by_cases h : i < n <;> simp [gd, List.getD, h]
theorem nv_rep (n : Nat) : nv (List.replicate n 0) = 0 := by
  induction n with
  | zero => rfl
  | succ n ih => rw [List.replicate_succ]; show 0 + 65536 * nv (List.replicate n 0) = 0; rw [ih]
theorem Dg.rep (n : Nat) : Dg (List.replicate n 0) := fun d hd => by
  have := List.eq_of_mem_replicate hd; omega
/-- make([]int, n). -/
theorem make_arr {ops : Array Oper} {rest : List Oper} {o : Oper} {act : Act} {Q : Exit → Act → World → Prop} (W0 w : World) (hB : Below W0.heap.size W0 w) (hg : o.guard = none) (x y : Operand) (hop : o.op = Op.makeSlice 58 x y)
    (L C : Int) (n : Nat) (hx : act.eval x = .int .i64 L) (hy : act.eval y = .int .i64 C) (hL : L = (n : Int)) (hC : C = (n : Int)) (hn : n ≤ 1000)
    (h : ∀ w', Arr W0 w' w.heap.size (List.replicate n 0) → wpList Tryd.prog ops Q rest (act.put o.dst (.slice (some ⟨w.heap.size, 0, none⟩) n n)) w') :
    wpList Tryd.prog ops Q (o :: rest) act w := by
  obtain ⟨i, hi, hz0, hz1, hz2⟩ := info_parts Tryd.info3
  refine wpList_make_full w hg x y 58 hop W0.heap.size 3 i (.int .i64 0) 1 Tryd.underlying58 hi hz0 hz1 .i64 .i64 L C n hx hy hL hC (by rw [hz2]; omega) (by unfold maxLen; omega) hB.size ?_
  intro w' ho hgr
  have hcells : (madeCells (Value.cells (.int .i64 0)) (n * 1)).toList = List.replicate n (.int .i64 0) := by
    rw [Nat.mul_one]; exact toList_madeCells_one _ _
  have hblk : ∃ cur, w'.heap[w.heap.size]? = some (.cells cur 3 (0, 0)) := by
    rcases ho.2 with ⟨e, _⟩ | ⟨g, cap, cur, e, _, hh, _⟩
    · cases e
    · simp only [Value.slice.injEq, Option.some.injEq, Addr.mk.injEq] at e
      obtain ⟨⟨rfl, _⟩, _⟩ := e
      exact ⟨cur, hh⟩
  obtain ⟨cur, hh⟩ := hblk
  refine h w' ⟨hB.grown hgr (by have := hB.size; omega) (fun k e => by cases e), hB.size, fun j hj => ?_, fun j => ?_, ?_⟩
  · rw [List.length_replicate] at hj
    rw [ho.cellAt j (by omega), rep_gd]
    show (madeCells (Value.cells (.int .i64 0)) (n * 1)).toList[j]? = _
    rw [hcells, List.getElem?_replicate, if_pos hj]; rfl
  · unfold World.frozen?
    rw [hh]
    simp
  · unfold bty World.shape?
    rw [hh]; rfl

theorem half_math (H d : Nat) : (d + 65536 * H) / 2 = (H % 2 * 65536 + d) / 2 + 65536 * (H / 2) ∧ (d + 65536 * H) % 2 = (H % 2 * 65536 + d) % 2 := by omega
theorem half_step (l d : List Nat) (m : Nat) (h : m < l.length) (hd : d.length = l.length) (hv : nv (d.drop (m + 1)) = nv (l.drop (m + 1)) / 2) :
    nv ((d.set m ((nv (l.drop (m + 1)) % 2 * 65536 + gd l m) / 2)).drop m) = nv (l.drop m) / 2 ∧ nv (l.drop m) % 2 = (nv (l.drop (m + 1)) % 2 * 65536 + gd l m) % 2 := by
  have h1 := half_math (nv (l.drop (m + 1))) (gd l m)
  rw [nv_drop l m h, nv_drop _ m (by simp; omega), set_getD _ _ _ _ (by omega), if_pos rfl, set_drop, hv]
  omega
theorem half_z {z : Int} {l : List Nat} (hz : nv l = z.natAbs) (he : z % 2 = 0) : nv l / 2 = (z / 2).natAbs := by omega
theorem sgn_congr {x y : Int} (h1 : x < 0 ↔ y < 0) (h2 : x = 0 ↔ y = 0) : sgn x = sgn y := by unfold sgn; simp only [h1, h2]
theorem sgn_half {z : Int} (he : z % 2 = 0) : sgn z = sgn (z / 2) := sgn_congr (by omega) (by omega)
set_option maxHeartbeats 1000000 in
theorem half_any (z : Int) (a : Option Addr) (n c : Nat) (w : World) (h : II w a n c z) (hn : n ≤ 100) (he : z % 2 = 0) :
    Calls Tryd.prog 57 #[.agg #[.int .i64 (sgn z), .slice a n c]] w fun e w' => IRet (z / 2) e w' ∧ Below w.heap.size w w' := by
  obtain ⟨l, rfl, hr, hd, hm, hz, hc1, hc2⟩ := h.ex
  rw [sgn_half he]
  have HR : Hid (Row a l w) := hr
  have HZ : Hid (nv l / 2 = (z / 2).natAbs) := half_z hz he
  have HD : Hid (Dg l) := hd
  clear hr hd hm hz he h
  obtain ⟨S, HS⟩ : ∃ S, Hid (S = sgn (z / 2)) := ⟨_, rfl⟩
  rw [← HS.out]
  obtain ⟨n, HL⟩ : ∃ n, Hid (l.length = n) := ⟨_, rfl⟩
  rw [HL.out] at hc1 hn ⊢
  go_enter Tryd.func57, Tryd.ntmps57
  go_wp2_with (at_make; refine make_arr _ _ (Below.refl _ _) rfl _ _ rfl _ _ n rfl rfl (by omega) (by omega) (by omega) ?_; intro w1 harr; have hB := harr.below; obtain ⟨hc, hf⟩ := bcell hB)
  have HA : Hid (Arr _ w1 _ _) := harr
  clear harr hB hc hf
  go_loopw [4, 5] (fun r i wr => ∃ (k : Nat) (d : List Nat), k ≤ n ∧ i = .int .i64 ((k : Int) - 1) ∧ r = .int .i64 (nv (l.drop k) % 2 : Nat) ∧ Hid (d.length = n) ∧ Hid (Dg d) ∧ Hid (nv (d.drop k) = nv (l.drop k) / 2) ∧ Hid (Arr ((w.alloc (.cells #[.int .i64 S, .slice a n c] 60)).alloc (.cells #[.int .i64 0, .slice none 0 0] 60)) wr (w.heap.size + 1 + 1) d)) (fun _ i _ => (intOf i + 1).toNat)
  case atStart =>
    have e : nv (l.drop n) = 0 := nv_drop_ge (by have := HL.out; omega)
    exact ⟨n, List.replicate n 0, by omega, rfl, by rw [e]; rfl, by show _ = _; simp, Dg.rep n, by show _ = _; rw [e, nv_drop_ge (by simp)], by simpa using HA⟩
  case round =>
    obtain ⟨k, d, hk, rfl, rfl, hdl, hdg, hv, harr⟩ := hrel
    have hB := harr.out.below
    obtain ⟨hc, hf⟩ := bcell hB
    by_cases hk0 : k = 0
    · subst hk0
      have TR := trim_any S (z / 2) _ d n wr (by have := hdl.out; omega) (by omega) harr.out.row hdg.out (by have := hv.out; simp only [List.drop_zero] at this; rw [this]; exact HZ.out) (fun _ => HS.out)
      rw [hdl.out] at TR
      clear hdl hdg hv harr HZ HD HR HL HA
      go_wp2_with (go_at_call 59; (with_reducible refine TR.mono ?_); rintro e w2 ⟨⟨a', n', c', rfl, hI⟩, hN⟩; replace hB := btr hB hN; obtain ⟨hc, hf⟩ := bcell hB)
      exact bodyPost_ret (v := .agg #[.int .i64 (sgn (z / 2)), .slice a' n' c']) (by simp [results, Tryd.results57, go_sem, hc]) rfl ⟨⟨_, _, _, rfl, hI.put2 ((bty_below hB (by simp)).trans (by have := bty_new (w.alloc (.cells #[.int .i64 S, .slice a n c] 60)) #[.int .i64 0, .slice none 0 0] 60; simpa using this)) _ _⟩, ((btr (bal (bal (Below.refl _ _) _) _) hB).setCell (by simp) _).setCell (by simp) _⟩
    · obtain ⟨m, rfl⟩ : ∃ m, k = m + 1 := ⟨k - 1, by omega⟩
      clear hk0
      have hml : m < l.length := by have := HL.out; omega
      obtain ⟨B, rfl, hcell, _⟩ := (((HR.out.alloc _).alloc _).below hB).at_ m hml
      have hown := harr.out.cell m (by have := hdl.out; omega)
      have hfz := harr.out.fz m
      have hst := half_step l d m hml (by have := hdl.out; have := HL.out; omega) hv.out
      have HV : Hid _ := hst.1
      have HV2 : Hid _ := hst.2
      have hdm := HD.out.at_ m
      have harr' : Hid _ := harr.out.set m ((nv (l.drop (m + 1)) % 2 * 65536 + gd l m) / 2) (by have := hdl.out; omega)
      have hdg' : Hid _ := hdg.out.set m ((nv (l.drop (m + 1)) % 2 * 65536 + gd l m) / 2) (by omega)
      have hdl' : Hid ((d.set m ((nv (l.drop (m + 1)) % 2 * 65536 + gd l m) / 2)).length = n) := by show _ = _; rw [List.length_set]; exact hdl.out
      have hr2 : nv (l.drop (m + 1)) % 2 < 2 := by omega
      clear hst hml
      generalize nv (l.drop (m + 1)) % 2 = R at *
      generalize gd l m = D at *
      go_wp2
      go_roundw
      case rel => exact ⟨m, _, by omega, by go_num, by rw [HV2.out]; go_num, hdl', hdg', HV, harr'⟩
      case measure => simp [intOf]
end Go.Proofs.YtalaacfoaelipaaDoor
