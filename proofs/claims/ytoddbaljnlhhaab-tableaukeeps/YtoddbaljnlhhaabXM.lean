/-
  Put together of: A8 A9 E0.
-/
import Derived.Test.YtoddbaljnlhhaabXJ
namespace Go.Proofs.Ytoddbaljnlhhaab
open Go.RowKit Go.Sort
open PL (pv PS bt)

/-- The cells of rows. -/
def prz (rs : List Pr) : List Value := rs.flatMap Pr.cs
theorem prz_cons (r : Pr) (rs : List Pr) : prz (r :: rs) = r.cs ++ prz rs := rfl
theorem prz_app (a b : List Pr) : prz (a ++ b) = prz a ++ prz b := List.flatMap_append
theorem prz_len : ∀ rs : List Pr, (prz rs).length = rs.length * 4
  | [] => rfl
  | r :: rs => by
    rw [prz_cons, List.length_append, prz_len rs]
    show 4 + rs.length * 4 = (rs.length + 1) * 4
    omega
theorem prz_one (rs : List Pr) : ∀ u ∈ prz rs, u.oneCell' = true := fun u hu => by
  obtain ⟨r, _, hu⟩ := List.mem_flatMap.1 hu
  simp [Pr.cs] at hu
  rcases hu with rfl | rfl | rfl | rfl <;> rfl
theorem prz_at (rs : List Pr) (j : Nat) (h : j < rs.length) : (prz rs)[j * 4]? = some (.int .i64 rs[j].n) ∧ (prz rs)[j * 4 + 1]? = some (.int .u64 (rs[j].x : Int)) ∧ (prz rs)[j * 4 + 2]? = some (.int .u64 (rs[j].z : Int)) ∧ (prz rs)[j * 4 + 3]? = some (.int .i64 rs[j].f) := by
  induction rs generalizing j with
  | nil => exact absurd h (Nat.not_lt_zero _)
  | cons r rs ih =>
    rw [prz_cons]
    cases j with
    | zero => exact ⟨rfl, rfl, rfl, rfl⟩
    | succ j =>
      have h4 : r.cs.length = 4 := rfl
      have := ih j (by rw [List.length_cons] at h; omega)
      refine ⟨?_, ?_, ?_, ?_⟩
      · rw [List.getElem?_append_right (by rw [h4]; omega), h4, show (j + 1) * 4 - 4 = j * 4 by omega]; exact this.1
      · rw [List.getElem?_append_right (by rw [h4]; omega), h4, show (j + 1) * 4 + 1 - 4 = j * 4 + 1 by omega]; exact this.2.1
      · rw [List.getElem?_append_right (by rw [h4]; omega), h4, show (j + 1) * 4 + 2 - 4 = j * 4 + 2 by omega]; exact this.2.2.1
      · rw [List.getElem?_append_right (by rw [h4]; omega), h4, show (j + 1) * 4 + 3 - 4 = j * 4 + 3 by omega]; exact this.2.2.2
theorem rp_cells {W : World} {b o : Nat} {rs : List Pr} (h : RP W b o rs) : ∀ j u, (prz rs)[j]? = some u → W.cell? ((⟨b, o, none⟩ : Addr).add j) = some u := fun j u hj => by
  have hl : j < rs.length * 4 := by
    have := (List.getElem?_eq_some_iff.1 hj).1
    rwa [prz_len] at this
  have hk : j / 4 < rs.length := by omega
  obtain ⟨e0, e1, e2, e3⟩ := prz_at rs (j / 4) hk
  rw [WideShapes.add_plain]
  have hm : j % 4 = 0 ∨ j % 4 = 1 ∨ j % 4 = 2 ∨ j % 4 = 3 := by omega
  rcases hm with hm | hm | hm | hm
  · have e : j = j / 4 * 4 := by omega
    rw [e, e0] at hj
    rw [← Option.some.inj hj, show o + j = o + j / 4 * 4 by omega]
    exact h.c0 (j / 4) hk
  · have e : j = j / 4 * 4 + 1 := by omega
    rw [e, e1] at hj
    rw [← Option.some.inj hj, show o + j = o + j / 4 * 4 + 1 by omega]
    exact h.c1 (j / 4) hk
  · have e : j = j / 4 * 4 + 2 := by omega
    rw [e, e2] at hj
    rw [← Option.some.inj hj, show o + j = o + j / 4 * 4 + 2 by omega]
    exact h.c2 (j / 4) hk
  · have e : j = j / 4 * 4 + 3 := by omega
    rw [e, e3] at hj
    rw [← Option.some.inj hj, show o + j = o + j / 4 * 4 + 3 by omega]
    exact h.c3 (j / 4) hk
/-- Rows of one's own. -/
structure OT (W : World) (B : Nat) (v : Value) (rs : List Pr) : Prop where
  own : W.ownsRow B 29 4 v rs.length (prz rs)
  w64 : ∀ k (h : k < rs.length), rs[k].w64
  l : rs.length ≤ 1000
theorem OT.ts {W : World} {B : Nat} {v : Value} {rs : List Pr} (h : OT W B v rs) : ∃ a c, v = .slice a rs.length c ∧ TS W a c rs := by
  rcases h.own.2 with ⟨rfl, hn⟩ | ⟨g, cap, cur, rfl, hb, hheap, hnc, hcm, hx, hy⟩
  · obtain rfl : rs = [] := List.eq_nil_of_length_eq_zero hn
    exact ⟨none, 0, rfl, TS.nil _ _ _ (by omega)⟩
  · refine ⟨some ⟨g, 0, none⟩, cap, rfl, hnc, fun k hk => ⟨g, 0, rfl, ?_⟩, h.w64, by unfold maxLen at hcm; omega⟩
    obtain ⟨g', cap', e, _, _, hcell, _, hlt⟩ := own_at h.own (show 0 < rs.length by omega)
    cases e
    have get : ∀ j x, (prz rs)[j]? = some x → W.cell? ⟨g, j, none⟩ = some x := fun j x e => by
      have hj : j < (prz rs).length := (List.getElem?_eq_some_iff.1 e).1
      rw [List.getElem?_eq_getElem hj] at e
      rw [hcell j hj, Option.some.inj e]
    refine ⟨fun j hj => ?_, fun j hj => ?_, fun j hj => ?_, fun j hj => ?_, hlt⟩
    all_goals
      obtain ⟨e0, e1, e2, e3⟩ := prz_at rs j hj
      rw [Nat.zero_add]
      first | exact get _ _ e0 | exact get _ _ e1 | exact get _ _ e2 | exact get _ _ e3
theorem OT.below {W W' : World} {B : Nat} {v : Value} {rs : List Pr} (h : OT W B v rs) (hb : Below W.heap.size W W') : OT W' B v rs := ⟨own_below h.own hb, h.w64, h.l⟩
abbrev zPr : Value := .agg #[.int .i64 0, .int .u64 0, .int .u64 0, .int .i64 0]
theorem Try.info29 : (Try.prog.info? 29).map (fun i => (i.zero, i.size, i.bytes)) = some (some zPr, 4, 32) := by kernel_rfl
theorem own_emptyP (w : World) : (w.alloc (.cells #[] 29)).ownsRow w.heap.size 29 4 (.slice (some ⟨w.heap.size, 0, none⟩) 0 0) 0 [] :=
  ⟨rfl, .inr ⟨w.heap.size, 0, #[], rfl, Nat.le_refl _, heap_alloc_new w _, Nat.le_refl _, by unfold maxLen; omega, rfl, rfl⟩⟩
theorem Try.underlying22 : Try.prog.underlying 22 = some (.slice 29) := by kernel_rfl
theorem below_own {w W W' : World} {T c n : Nat} {v : Value} {xs : List Value} (h : Below w.heap.size w W) (ho : W.ownsRow w.heap.size T c v n xs) (g : W.grownBy W' v.ownBlock) : Below w.heap.size w W' :=
  ⟨g.os.trans h.os, g.tape.trans h.tape, g.output.trans h.output, Nat.le_trans h.size g.size, fun k hk => (g.block k (Nat.lt_of_lt_of_le hk h.size) (fun e => by
    rcases ho.2 with ⟨rfl, _⟩ | ⟨g', cap, cur, rfl, hb, _⟩
    · cases e
    · have e : some k = some g' := e
      have := Option.some.inj e
      omega)).trans (h.block k hk)⟩
set_option maxHeartbeats 1000000 in
set_option maxRecDepth 100000 in
theorem clone_any (rs : List Pr) (a : Option Addr) (c : Nat) (w : World) (H : TS w a c rs) (hl : rs.length ≤ 1000) :
    Calls Try.prog 57 #[.slice a rs.length c] w fun e w' => ∃ v, e = .returned v ∧ OT w' w.heap.size v rs ∧ Below w.heap.size w w' := by
  obtain ⟨i7, hi7, hz7, hs7, hb7⟩ := info_parts Try.info29
  have HI7 := hid hi7
  have HH := hid H
  have hcap := H.cap
  clear hi7 H
  cases a with
  | none =>
    have h0 : rs = [] := by
      rcases Nat.eq_zero_or_pos rs.length with h | h
      · exact List.eq_nil_of_length_eq_zero h
      · obtain ⟨_, _, e, _⟩ := HH.out.at_ 0 h
        cases e
    subst h0
    have EQ : ∀ w : World, (binOp .eql 22 (.slice none 0 c) (.slice none 0 0)).run Try.prog w = .ok (.bool true) w := fun w => by kernel_rfl
    go_enter Try.func57, Try.ntmps57
    go_wp2
    go_ret
    exact ⟨_, rfl, ⟨World.ownsRow_nil _ _ _ _, fun _ h => absurd h (Nat.not_lt_zero _), Nat.zero_le _⟩, Below.refl _ _⟩
  | some ad =>
    have EQ : ∀ w : World, (binOp .eql 22 (.slice (some ad) rs.length c) (.slice none 0 0)).run Try.prog w = .ok (.bool false) w := fun w => by kernel_rfl
    have hc2 : Hid (∀ j u, (prz rs)[j]? = some u → (w.alloc (.cells #[] 29)).cell? (ad.add j) = some u) := fun j u hu => by
      have hj : j < rs.length * 4 := by
        have := (List.getElem?_eq_some_iff.1 hu).1
        rwa [prz_len] at this
      obtain ⟨b1, o1, e1, h1⟩ := (HH.out.below (bal (Below.refl _ _) (.cells #[] 29))).at_ 0 (by omega)
      cases e1
      exact rp_cells h1 j u hu
    go_enter Try.func57, Try.ntmps57
    go_wp2_with (at_builtin; refine Hid.out ?_)
    refine hid ?_
    refine wpList_append_own_at _ rfl _ _ 22 rfl w.heap.size 29 i7 _ 4 32 Try.underlying22 HI7.out hz7 hs7 hb7 rfl (by decide) _ 0 [] rfl (own_emptyP w) ad rs.length c (prz rs) rfl (prz_len rs) hc2.out (prz_one rs) (by unfold maxLen; omega) (by omega) (bal (Below.refl _ _) _).size ?_
    intro v6 w6 hown6 hgrow6 _ _
    rw [Nat.zero_add, List.nil_append] at hown6
    have hB6 := below_own (bal (Below.refl w.heap.size w) _) (own_emptyP w) hgrow6
    clear hgrow6
    go_wp2
    go_ret
    exact ⟨v6, rfl, ⟨hown6, HH.out.w64, hl⟩, hB6⟩
end Go.Proofs.Ytoddbaljnlhhaab
namespace Go.Proofs.Ytoddbaljnlhhaab
open Go.RowKit Go.Sort
open PL (pv PS bt)

theorem own_set {W : World} {B T c n b : Nat} {v : Value} {xs : List Value} (h : W.ownsRow B T c v n xs) (hne : ∀ g, v.ownBlock = some g → some g ≠ some b) (o : Nat) (x : Value) : (W.setCell ⟨b, o, none⟩ x).ownsRow B T c v n xs :=
  own_kept h (gb_set (gb_refl W b) b o x (.inl rfl)) hne
theorem OT.put {W : World} {B b U : Nat} {v : Value} {rs : List Pr} {cs : Array Value} (h : OT W B v rs) (hb : BK W b cs U) (hU : 29 ≠ U) (o : Nat) (x : Value) : OT (W.setCell ⟨b, o, none⟩ x) B v rs := ⟨own_set h.own (own_ne h.own hb hU) o x, h.w64, h.l⟩
theorem OT.mono {W : World} {B B' : Nat} {v : Value} {rs : List Pr} (h : OT W B v rs) (hb : B' ≤ B) : OT W B' v rs := ⟨own_mono h.own hb, h.w64, h.l⟩
set_option maxHeartbeats 1000000 in
set_option maxRecDepth 100000 in
theorem copied_any (t : Tb) (a : Option Addr) (c : Nat) (w : World) (H : TS w a c t.rows) (hl : t.rows.length ≤ 1000) :
    Calls Try.prog 32 #[t.v a c] w fun e w' => ∃ v, e = .returned (.agg #[.int .i64 t.n, v]) ∧ OT w' w.heap.size v t.rows ∧ Below w.heap.size w w' := by
  obtain ⟨n, rs⟩ := t
  simp only at *
  have CL := fun w' (h : Below w.heap.size w w') => clone_any rs a c w' (H.below h) hl
  clear H
  obtain ⟨hB0, hK0, hL0⟩ := tt_boxes w n 0 (.slice a rs.length c) (.slice none 0 0)
  generalize hV : (w.alloc (.cells #[.int .i64 n, .slice a rs.length c] 24)).alloc (.cells #[.int .i64 0, .slice none 0 0] 24) = V at *
  have HV := hid hV
  clear hV
  have HB0 := hid hB0
  have d0 := hK0.cell
  have l0 := hK0.lt
  have d1 := hL0.cell
  have f1 := hL0.free
  have l1 := hL0.lt
  have HK0 := hid hK0
  have HL0 := hid hL0
  go_enter Try.func32, Try.ntmps32
  go_upto_region 1 with (fail)
  rw [show (w.alloc (.cells #[.int .i64 n, .slice a rs.length c] 24)).alloc (.cells #[.int .i64 0, .slice none 0 0] 24) = V from HV.out]
  clear hB0 hK0 hL0 HV
  have HDR : Hid (Below V.heap.size V V.drew) := below_drew (Below.refl _ _)
  go_region_with (go_at_call 57; (with_reducible refine (CL _ (btr HB0.out HDR.out)).mono ?_); rintro e w1 ⟨v1, rfl, hO1, hN⟩; obtain ⟨a1, c1, rfl⟩ := own_shape hO1.own; (have hVb := btr HDR.out hN); (have k0 := bk_on HK0.out hVb); (have k1 := bk_on HL0.out hVb); (have g0 := k0.cell); (have g1 := k0.lt); (have g2 := k1.cell); (have g3 := k1.free); have g4 := k1.lt)
  all_goals
    have r0 := k1.set 0 (.int .i64 n)
    have r1 := r0.set 1 (.slice a1 rs.length c1)
    have hO2 := (hO1.put k1 (by decide) 0 (.int .i64 n)).put r0 (by decide) 1 (.slice a1 rs.length c1)
    have hO3 := hO2.mono (show w.heap.size ≤ V.drew.heap.size from HB0.out.size)
    have hB3 := bset (bset (btr HB0.out hVb) (w.heap.size + 1) 0 (.int .i64 n) (by omega)) (w.heap.size + 1) 1 (.slice a1 rs.length c1) (by omega)
    have q0 : ((w1.setCell ⟨w.heap.size + 1, 0, none⟩ (.int .i64 n)).setCell ⟨w.heap.size + 1, 1, none⟩ (.slice a1 rs.length c1)).cell? ⟨w.heap.size + 1, 0, none⟩ = some (.int .i64 n) := r1.cell 0
    have q1 : ((w1.setCell ⟨w.heap.size + 1, 0, none⟩ (.int .i64 n)).setCell ⟨w.heap.size + 1, 1, none⟩ (.slice a1 rs.length c1)).cell? ⟨w.heap.size + 1, 1, none⟩ = some (.slice a1 rs.length c1) := r1.cell 1
    generalize ((w1.setCell ⟨w.heap.size + 1, 0, none⟩ (.int .i64 n)).setCell ⟨w.heap.size + 1, 1, none⟩ (.slice a1 rs.length c1)) = Z at *
    clear r0 r1 hO2 g0 g1 g2 g3 g4 k0 k1 hO1 hN d0 d1 f1 l0 l1
    go_wp2
    exact bodyPost_ret (v := .agg #[.int .i64 n, .slice a1 rs.length c1]) (by simp [results, Try.results32, go_sem, q0, q1]) rfl ⟨_, rfl, hO3, hB3⟩
end Go.Proofs.Ytoddbaljnlhhaab
namespace Go.Proofs.Ytoddbaljnlhhaab
open Go.RowKit Go.Sort
open PL (pv PS bt)

theorem bk_grown {W W' : World} {B b n : Nat} {v : Value} {xs : List Value} {cs : Array Value} {T : TypeId} (ho : W.ownsRow B 29 4 v n xs) (hg : W.grownBy W' v.ownBlock) (hb : BK W b cs T) (hT : 29 ≠ T) : BK W' b cs T :=
  (hg.block b hb.lt (fun e => own_ne ho hb hT b e.symm rfl)).trans hb
/-- Row q of the destabilizers (i = 0), of the stabilizers. -/
def zRow (N i q : Nat) : Pr := if i = 0 then ⟨N, 2 ^ q, 0, 0⟩ else ⟨N, 0, 2 ^ q, 0⟩
def zPart (N i q : Nat) : List Pr := (List.range q).map (zRow N i)
/-- The rows made when the loops stand at i and q. -/
def zUp (N : Nat) : Nat → List Pr
  | 0 => []
  | i + 1 => zUp N i ++ zPart N i N
theorem zPart_succ (N i q : Nat) : zPart N i (q + 1) = zPart N i q ++ [zRow N i q] := by unfold zPart; rw [List.range_succ, List.map_append]; rfl
theorem zPart_len (N i q : Nat) : (zPart N i q).length = q := by simp [zPart]
theorem zUp_len (N : Nat) : ∀ i, (zUp N i).length = i * N
  | 0 => by simp [zUp]
  | i + 1 => by rw [zUp, List.length_append, zUp_len N i, zPart_len, Nat.succ_mul]
def zkb (i : Nat) : Nat := if i = 0 then 88 else 90
theorem zRow_lt {N q : Nat} (i : Nat) (hN : N ≤ 64) (hq : q < N) : (zRow N i q).w64 := by
  have h : (2 : Nat) ^ q < 18446744073709551616 := PL.pow_lt (by omega)
  unfold zRow
  split
  · exact ⟨h, by show 0 < 18446744073709551616; omega⟩
  · exact ⟨by show 0 < 18446744073709551616; omega, h⟩
theorem OT.app {W W' : World} {B : Nat} {v v' : Value} {rs : List Pr} {r : Pr} (_h : OT W B v rs) (ho : W'.ownsRow B 29 4 v' (rs.length + 1) (prz rs ++ r.cs)) (hr : r.w64) (hw : ∀ k (h : k < rs.length), rs[k].w64) (hl : rs.length + 1 ≤ 1000) : OT W' B v' (rs ++ [r]) := by
  refine ⟨?_, ?_, by rw [List.length_append]; exact hl⟩
  · rw [List.length_append, prz_app]
    have e : prz [r] = r.cs := by unfold prz; simp
    rw [e]
    exact ho
  · intro k hk
    by_cases h : k < rs.length
    · rw [List.getElem_append_left h]; exact hw k h
    · rw [List.getElem_append_right (by omega)]
      have e : k - rs.length = 0 := by rw [List.length_append] at hk; simp at hk; omega
      simp only [e, List.getElem_cons_zero]
      exact hr
theorem OT.nil (W : World) (B : Nat) : OT W B (.slice none 0 0) [] := ⟨World.ownsRow_nil _ _ _ _, fun _ h => absurd h (Nat.not_lt_zero _), Nat.zero_le _⟩
theorem one_i (N i q : Nat) (w : World) (hN : N ≤ 64) (hq : q < N) : Calls Try.prog 24 #[.int .i64 (N : Nat), .int .i64 (q : Nat), .int .u8 (zkb i : Nat)] w fun e w' => e = .returned (.tuple #[pv (zRow N i q).n (zRow N i q).x (zRow N i q).z (zRow N i q).f, .int .i64 0]) ∧ Below w.heap.size w w' := by
  unfold zRow zkb
  by_cases h : i = 0
  · simp only [if_pos h]; exact PL.one_x N q w hN hq
  · simp only [if_neg h]; exact PL.one_z N q w hN hq
set_option maxHeartbeats 2000000 in
set_option maxRecDepth 100000 in
theorem zero_yes (N : Nat) (w : World) (hN : N ≤ 64) : Calls Try.prog 10 #[.int .i64 (N : Nat)] w fun e w' => ∃ v, e = .returned (.tuple #[.agg #[.int .i64 (N : Nat), v], .int .i64 0]) ∧ OT w' w.heap.size v (zUp N 2) ∧ Below w.heap.size w w' := by
  obtain ⟨i7, hi7, hz7, hs7, hb7⟩ := info_parts Try.info29
  have HI7 := hid hi7
  have SZ := fun w => sized_any (N : Nat) w
  rw [decide_eq_true (show (0 : Int) ≤ (N : Nat) ∧ ((N : Nat) : Int) ≤ 64 by omega)] at SZ
  have ON := fun i q w (h : q < N) => one_i N i q w hN h
  have hk0 : zkb 0 = 88 := rfl
  have hk1 : zkb 1 = 90 := rfl
  clear hi7
  have hd0 : ((0 : Nat) : Int) = 0 := rfl
  have B0 : Below w.heap.size w (((w.alloc (.cells #[.int .i64 0, .slice none 0 0] 24)).alloc (.cells #[.int .i64 (N : Nat), .slice none 0 0] 24)).alloc (.cells #[.int .u8 88, .int .u8 90] 5)) := bal (bal (bal (Below.refl _ _) _) _) _
  have K0 : BK (((w.alloc (.cells #[.int .i64 0, .slice none 0 0] 24)).alloc (.cells #[.int .i64 (N : Nat), .slice none 0 0] 24)).alloc (.cells #[.int .u8 88, .int .u8 90] 5)) w.heap.size #[.int .i64 0, .slice none 0 0] 24 := ((bk_new w _ _).alloc _).alloc _
  have K1 : BK (((w.alloc (.cells #[.int .i64 0, .slice none 0 0] 24)).alloc (.cells #[.int .i64 (N : Nat), .slice none 0 0] 24)).alloc (.cells #[.int .u8 88, .int .u8 90] 5)) (w.heap.size + 1) #[.int .i64 (N : Nat), .slice none 0 0] 24 := by
    have h := bk_new (w.alloc (.cells #[.int .i64 0, .slice none 0 0] 24)) #[.int .i64 (N : Nat), .slice none 0 0] 24
    rw [PL.alz] at h
    exact h.alloc _
  have K2 : BK (((w.alloc (.cells #[.int .i64 0, .slice none 0 0] 24)).alloc (.cells #[.int .i64 (N : Nat), .slice none 0 0] 24)).alloc (.cells #[.int .u8 88, .int .u8 90] 5)) (w.heap.size + 2) #[.int .u8 88, .int .u8 90] 5 := by
    have h := bk_new ((w.alloc (.cells #[.int .i64 0, .slice none 0 0] 24)).alloc (.cells #[.int .i64 (N : Nat), .slice none 0 0] 24)) #[.int .u8 88, .int .u8 90] 5
    rw [PL.alz, PL.alz] at h
    exact h
  go_enter Try.func10, Try.ntmps10
  go_wp2_with (go_at_call 23; (with_reducible refine (SZ _).mono ?_); rintro e w1 ⟨rfl, rfl⟩)
  go_loopw [18] (fun v18 wx => ∃ (i : Nat) (v : Value), i ≤ 2 ∧ v18 = .int .i64 (i : Nat) ∧ Hid (BK wx w.heap.size #[.int .i64 0, .slice none 0 0] 24) ∧ Hid (BK wx (w.heap.size + 1) #[.int .i64 (N : Nat), v] 24) ∧ Hid (BK wx (w.heap.size + 2) #[.int .u8 88, .int .u8 90] 5) ∧ Hid (OT wx w.heap.size v (zUp N i)) ∧ Hid (Below w.heap.size w wx)) (fun v18 _ => 2 - (intOf v18).toNat)
  case atStart => exact ⟨0, .slice none 0 0, Nat.zero_le _, rfl, K0, K1, K2, OT.nil _ _, B0⟩
  case round =>
    clear K0 K1 K2 B0 SZ
    obtain ⟨i, v, hi, rfl, K0, K1, K2, HO, HB⟩ := hrel
    have d2 := K2.out.cell
    have l2 := K2.out.lt
    have l1 := K1.out.lt
    by_cases hlt : i < 2
    case neg =>
      obtain rfl : i = 2 := by omega
      have d1 := K1.out.cell
      have f0 := K0.out.free
      have d0 := K0.out.cell
      have l0 := K0.out.lt
      obtain ⟨L, hL⟩ : ∃ L, Hid (L = zUp N 2) := ⟨_, rfl⟩
      rw [← hL.out] at HO
      obtain ⟨a1, c1, rfl⟩ := own_shape HO.out.own
      have r0 := K0.out.set 0 (.int .i64 (N : Nat))
      have r1 := r0.set 1 (.slice a1 L.length c1)
      have HO2 := hid ((HO.out.put K0.out (by decide) 0 (.int .i64 (N : Nat))).put r0 (by decide) 1 (.slice a1 L.length c1))
      have HB2 := hid (bset (bset HB.out w.heap.size 0 (.int .i64 (N : Nat)) (Nat.le_refl _)) w.heap.size 1 (.slice a1 L.length c1) (Nat.le_refl _))
      have q0 := r1.cell 0
      have q1 := r1.cell 1
      go_wp2
      have q0 : ((wr.setCell ⟨w.heap.size, 0, none⟩ (.int .i64 (N : Nat))).setCell ⟨w.heap.size, 1, none⟩ (.slice a1 L.length c1)).cell? ⟨w.heap.size, 0, none⟩ = some (.int .i64 (N : Nat)) := r1.cell 0
      have q1 : ((wr.setCell ⟨w.heap.size, 0, none⟩ (.int .i64 (N : Nat))).setCell ⟨w.heap.size, 1, none⟩ (.slice a1 L.length c1)).cell? ⟨w.heap.size, 1, none⟩ = some (.slice a1 L.length c1) := r1.cell 1
      exact bodyPost_ret (v := .tuple #[.agg #[.int .i64 (N : Nat), .slice a1 L.length c1], .int .i64 0]) (by simp [results, Try.results10, go_sem, q0, q1]) rfl ⟨_, rfl, by rw [← hL.out]; exact HO2.out, HB2.out⟩
    have hkb : (#[Value.int .u8 88, .int .u8 90] : Array Value)[i]? = some (.int .u8 (zkb i : Nat)) := by
      rcases (show i = 0 ∨ i = 1 by omega) with rfl | rfl <;> rfl
    have d2i := (K2.out.cell i).trans hkb
    obtain ⟨U, hU⟩ : ∃ U, Hid (U = zUp N i) := ⟨_, rfl⟩
    rw [← hU.out] at HO
    have HZ : Hid (∀ q, (zPart N i q).length = q) := zPart_len N i
    have hdi : decide ((i : Int) < 2) = true := decide_eq_true (by omega)
    clear hkb d2
    go_wp2
    go_loopw [23] (fun v23 wx => ∃ (q : Nat) (v : Value), q ≤ N ∧ v23 = .int .i64 (q : Nat) ∧ Hid (BK wx w.heap.size #[.int .i64 0, .slice none 0 0] 24) ∧ Hid (BK wx (w.heap.size + 1) #[.int .i64 (N : Nat), v] 24) ∧ Hid (BK wx (w.heap.size + 2) #[.int .u8 88, .int .u8 90] 5) ∧ Hid (OT wx w.heap.size v (U ++ zPart N i q)) ∧ Hid (Below w.heap.size w wx)) (fun v23 _ => N - (intOf v23).toNat)
    case atStart => exact ⟨0, v, Nat.zero_le _, rfl, K0, K1, K2, by show OT _ _ _ (U ++ []); rw [List.append_nil]; exact HO.out, HB⟩
    case round =>
      clear K0 K1 K2 HO HB d2i l1 l2
      obtain ⟨q, v, hq, rfl, K0, K1, K2, HO, HB⟩ := hrel
      by_cases hlq : q < N
      case neg =>
        obtain rfl : q = N := by omega
        have HO2 : Hid (OT wr w.heap.size v (zUp q (i + 1))) := by
          show OT _ _ _ (zUp q i ++ zPart q i q)
          rw [← hU.out]
          exact HO.out
        go_wp2
        exact ⟨⟨i + 1, v, by omega, rfl, K0, K1, K2, HO2, HB⟩, by simp only [intOf]; omega⟩
      have R := fun w => ON i q w hlq
      have hw := zRow_lt i hN hlq
      have HP : Hid (zPart N i (q + 1) = zPart N i q ++ [zRow N i q]) := zPart_succ N i q
      have HUL : Hid (U.length + q ≤ 128) := by
        show _ ≤ 128
        rw [hU.out, zUp_len]
        rcases (show i = 0 ∨ i = 1 by omega) with rfl | rfl <;> omega
      obtain ⟨L, hL⟩ : ∃ L, Hid (L = U ++ zPart N i q) := ⟨_, rfl⟩
      rw [← hL.out] at HO
      have HLL : Hid (L.length ≤ 128) := by
        show _ ≤ 128
        rw [hL.out, List.length_append, HZ.out]
        exact HUL.out
      clear ON
      generalize zRow N i q = r at *
      obtain ⟨rn, rx, rz, rf⟩ := r
      simp only at *
      obtain ⟨a1, c1, rfl⟩ := own_shape HO.out.own
      have d2i := (K2.out.cell i).trans (show (#[Value.int .u8 88, .int .u8 90] : Array Value)[i]? = some (.int .u8 (zkb i : Nat)) by rcases (show i = 0 ∨ i = 1 by omega) with rfl | rfl <;> rfl)
      have l1 := K1.out.lt
      go_wp2_with (first
        | (go_at_call 24; (with_reducible refine (R _).mono ?_); rintro e w1 ⟨rfl, hB1⟩; (have k1 := (bk_on K1.out hB1).alloc (PL.pc rn rx rz rf)); (have d1 := k1.cell); (have f1 := k1.free); (have g1 := k1.lt); (have hp := PL.PB.new w1 rn rx rz rf); obtain ⟨c0, c1', c2, c3, _, _, _, _⟩ := hp)
        | (at_builtin; refine Hid.out ?_))
      refine hid ?_
      have hB2 := bal (bal hB1 (PL.pc rn rx rz rf)) (PL.pc rn rx rz rf)
      have hO2 := HO.out.own
      have hO3 := own_below hO2 hB2
      have hK1 := bk_on K1.out hB2
      have hnew : ∀ j u, (Pr.cs ⟨rn, rx, rz, rf⟩)[j]? = some u → ((w1.alloc (PL.pc rn rx rz rf)).alloc (PL.pc rn rx rz rf)).cell? ((⟨w1.heap.size + 1, 0, none⟩ : Addr).add j) = some u := fun j u hj => by
        have h := bk_new (w1.alloc (PL.pc rn rx rz rf)) #[.int .i64 rn, .int .u64 (rx : Int), .int .u64 (rz : Int), .int .i64 rf] 29
        rw [PL.alz] at h
        rw [WideShapes.add_plain, Nat.zero_add]
        rw [h.cell j, ← hj]
        exact List.getElem?_toArray
      have hLL := HLL.out
      refine wpList_append_own_at _ rfl _ _ 22 rfl w.heap.size 29 i7 _ 4 32 Try.underlying22 HI7.out hz7 hs7 hb7 rfl (by decide) _ L.length (prz L) rfl hO3 _ 1 1 (Pr.cs ⟨rn, rx, rz, rf⟩) rfl rfl hnew (by intro u hu; simp [Pr.cs] at hu; rcases hu with rfl | rfl | rfl | rfl <;> rfl) (by unfold maxLen; omega) (by omega) (by have h1 := HB.out.size; have h2 := hB2.size; exact Nat.le_trans h1 h2) ?_
      intro v6 w6 hown6 hgrow6 _ _
      have hO6 := OT.app HO.out hown6 hw HO.out.w64 (by omega)
      obtain ⟨a6, c6, rfl⟩ := own_shape hown6
      have hB6 := below_own (btr HB.out hB2) hO3 hgrow6
      have k0 := bk_grown hO3 hgrow6 (bk_on K0.out hB2) (by decide)
      have k1' := bk_grown hO3 hgrow6 hK1 (by decide)
      have k2 := bk_grown hO3 hgrow6 (bk_on K2.out hB2) (by decide)
      have d6 := k1'.cell
      have f6 := k1'.free
      have l6 := k1'.lt
      have HF : Hid (L ++ [⟨rn, rx, rz, rf⟩] = U ++ zPart N i (q + 1)) := by show _ = _; rw [hL.out, HP.out, List.append_assoc]
      have hO7 := hO6.put k1' (by decide) 1 (.slice a6 (L.length + 1) c6)
      rw [HF.out] at hO7
      clear hgrow6 hown6 hO6 hO3 hO2
      go_wp2
      exact ⟨⟨q + 1, .slice a6 (L.length + 1) c6, by omega, rfl, k0.far (c := w.heap.size + 1) (by omega) _ _, k1'.set 1 _, k2.far (c := w.heap.size + 1) (by omega) _ _, hO7, bset hB6 (w.heap.size + 1) 1 _ (by omega)⟩, by simp only [intOf]; omega⟩
set_option maxHeartbeats 1000000 in
theorem zero_no (n : Int) (w : World) (h : ¬ (0 ≤ n ∧ n ≤ 64)) : Calls Try.prog 10 #[.int .i64 n] w fun e w' => e = .returned (.tuple #[.agg #[.int .i64 0, .slice none 0 0], .int .i64 2]) ∧ Below w.heap.size w w' := by
  have SZ := fun w => sized_any n w
  rw [decide_eq_false h] at SZ
  have k0 := bk_new w #[.int .i64 0, .slice none 0 0] 24
  have r1 := (k0.set 0 (.int .i64 0)).set 1 (.slice none 0 0)
  go_enter Try.func10, Try.ntmps10
  go_wp2_with (go_at_call 23; (with_reducible refine (SZ _).mono ?_); rintro e w1 ⟨rfl, rfl⟩)
  exact bodyPost_ret (v := .tuple #[.agg #[.int .i64 0, .slice none 0 0], .int .i64 2]) (by simp [results, Try.results10, go_sem]) rfl ⟨rfl, bal (Below.refl _ _) _⟩
end Go.Proofs.Ytoddbaljnlhhaab
