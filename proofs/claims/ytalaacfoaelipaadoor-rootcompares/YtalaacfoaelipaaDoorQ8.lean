/-
  The reference's Add.
-/
import Derived.Test.YtalaacfoaelipaaDoorQ7
import Derived.Test.YtalaacfoaelipaaDoorQ5
import Derived.Test.YtalaacfoaelipaaDoorR6
namespace Go.Proofs.YtalaacfoaelipaaDoor
open Go.RowKit Go.Sort
attribute [local go_sem ↓] Go.wp_at_zero Go.wp_at_succ

/-- What the reference's Add, Sub and Mul have in their variables. -/
structure AdS (w W : World) (a1 a2 a3 b1 b2 b3 : Int) : Prop where
  below : Below w.heap.size w W
  ra : RB W w.heap.size a1 a2 a3
  rb : RB W (w.heap.size + 1) b1 b2 b3
  rc : Rc W (w.heap.size + 1 + 1)
  ty : bty W (w.heap.size + 1 + 1) = some 23
theorem AdS.onward {w W V : World} {a1 a2 a3 b1 b2 b3 : Int} (h : AdS w W a1 a2 a3 b1 b2 b3) (hb : Below W.heap.size W V) : AdS w V a1 a2 a3 b1 b2 b3 :=
  ⟨btr h.below hb, h.ra.below hb, h.rb.below hb, h.rc.below hb, (bty_below hb h.rc.lt).trans h.ty⟩
theorem AdS.start (w : World) (a1 a2 a3 b1 b2 b3 : Int) : ∃ W0, W0 = ((w.alloc (.cells #[.int .i64 a1, .int .i64 a2, .int .i64 a3] 23)).alloc (.cells #[.int .i64 b1, .int .i64 b2, .int .i64 b3] 23)).alloc (.cells #[.int .i64 0, .int .i64 0, .int .i64 0] 23) ∧ AdS w W0 a1 a2 a3 b1 b2 b3 := by
  have h := boxes w a1 a2 a3 b1 b2 b3 0 0 0
  refine ⟨_, rfl, h.1, h.2.1, h.2.2.1, ?_, ?_⟩
  · have := Rc.new ((w.alloc (.cells #[.int .i64 a1, .int .i64 a2, .int .i64 a3] 23)).alloc (.cells #[.int .i64 b1, .int .i64 b2, .int .i64 b3] 23))
    simpa using this
  · have := bty_new ((w.alloc (.cells #[.int .i64 a1, .int .i64 a2, .int .i64 a3] 23)).alloc (.cells #[.int .i64 b1, .int .i64 b2, .int .i64 b3] 23)) #[.int .i64 0, .int .i64 0, .int .i64 0] 23
    simpa using this
theorem pair_new {w : World} {P Q : Int} {a : Option Addr} {n k : Nat} {a' : Option Addr} {n' k' : Nat} (i1 : II w a n k P) (i2 : II w a' n' k' Q) :
    let W := (w.alloc (.cells #[.int .i64 (sgn P), .slice a n k] 60)).alloc (.cells #[.int .i64 (sgn Q), .slice a' n' k'] 60)
    (Bx W w.heap.size (sgn P) a n k ∧ Bx W (w.heap.size + 1) (sgn Q) a' n' k' ∧ II W a n k P ∧ II W a' n' k' Q) ∧ Below w.heap.size w W := by
  intro W
  have hb : Below w.heap.size w W := bal (bal (Below.refl _ _) _) _
  refine ⟨⟨(Bx.new w _ _ _ _).alloc _, ?_, i1.below hb, i2.below hb⟩, hb⟩
  have := Bx.new (w.alloc (.cells #[.int .i64 (sgn P), .slice a n k] 60)) (sgn Q) a' n' k'
  simpa using this
theorem quad_on {W V : World} {B B' : Nat} {P Q : Int} {a : Option Addr} {n k : Nat} {a' : Option Addr} {n' k' : Nat} (h : Bx W B (sgn P) a n k ∧ Bx W B' (sgn Q) a' n' k' ∧ II W a n k P ∧ II W a' n' k' Q) (hb : Below W.heap.size W V) :
    Bx V B (sgn P) a n k ∧ Bx V B' (sgn Q) a' n' k' ∧ II V a n k P ∧ II V a' n' k' Q := ⟨h.1.below hb, h.2.1.below hb, h.2.2.1.below hb, h.2.2.2.below hb⟩
/-- The cells of four variables. -/
theorem keep8 {w W V : World} {A B C D : Nat} {a1 b1 c1 d1 : Int} {a b c d : Value}
    (h : Below w.heap.size w W ∧ W.cell? ⟨A, 0, none⟩ = some (.int .i64 a1) ∧ W.cell? ⟨A, 1, none⟩ = some a ∧ W.cell? ⟨B, 0, none⟩ = some (.int .i64 b1) ∧ W.cell? ⟨B, 1, none⟩ = some b ∧ W.cell? ⟨C, 0, none⟩ = some (.int .i64 c1) ∧ W.cell? ⟨C, 1, none⟩ = some c ∧ W.cell? ⟨D, 0, none⟩ = some (.int .i64 d1) ∧ W.cell? ⟨D, 1, none⟩ = some d) (hN : Below W.heap.size W V) :
    Below w.heap.size w V ∧ V.cell? ⟨A, 0, none⟩ = some (.int .i64 a1) ∧ V.cell? ⟨A, 1, none⟩ = some a ∧ V.cell? ⟨B, 0, none⟩ = some (.int .i64 b1) ∧ V.cell? ⟨B, 1, none⟩ = some b ∧ V.cell? ⟨C, 0, none⟩ = some (.int .i64 c1) ∧ V.cell? ⟨C, 1, none⟩ = some c ∧ V.cell? ⟨D, 0, none⟩ = some (.int .i64 d1) ∧ V.cell? ⟨D, 1, none⟩ = some d := by
  obtain ⟨h0, p1, p2, p3, p4, p5, p6, p7, p8⟩ := h
  obtain ⟨hc, _⟩ := bcell hN
  have la := block_lt_of_cell p1
  have lb := block_lt_of_cell p3
  have lc := block_lt_of_cell p5
  have ld := block_lt_of_cell p7
  exact ⟨btr h0 hN, (hc _ _ la).trans p1, (hc _ _ la).trans p2, (hc _ _ lb).trans p3, (hc _ _ lb).trans p4, (hc _ _ lc).trans p5, (hc _ _ lc).trans p6, (hc _ _ ld).trans p7, (hc _ _ ld).trans p8⟩
theorem keep8_put {w W : World} {A B C D : Nat} {a1 b1 c1 d1 : Int} {a b c d : Value}
    (h : Below w.heap.size w W ∧ W.cell? ⟨A, 0, none⟩ = some (.int .i64 a1) ∧ W.cell? ⟨A, 1, none⟩ = some a ∧ W.cell? ⟨B, 0, none⟩ = some (.int .i64 b1) ∧ W.cell? ⟨B, 1, none⟩ = some b ∧ W.cell? ⟨C, 0, none⟩ = some (.int .i64 c1) ∧ W.cell? ⟨C, 1, none⟩ = some c ∧ W.cell? ⟨D, 0, none⟩ = some (.int .i64 d1) ∧ W.cell? ⟨D, 1, none⟩ = some d)
    {R : Nat} (hR : w.heap.size ≤ R) (nA : R ≠ A) (nB : R ≠ B) (nC : R ≠ C) (nD : R ≠ D) (v v' v'' : Value) :
    Below w.heap.size w (((W.setCell ⟨R, 0, none⟩ v).setCell ⟨R, 1, none⟩ v').setCell ⟨R, 2, none⟩ v'') ∧ (((W.setCell ⟨R, 0, none⟩ v).setCell ⟨R, 1, none⟩ v').setCell ⟨R, 2, none⟩ v'').cell? ⟨A, 0, none⟩ = some (.int .i64 a1) ∧ (((W.setCell ⟨R, 0, none⟩ v).setCell ⟨R, 1, none⟩ v').setCell ⟨R, 2, none⟩ v'').cell? ⟨A, 1, none⟩ = some a ∧ (((W.setCell ⟨R, 0, none⟩ v).setCell ⟨R, 1, none⟩ v').setCell ⟨R, 2, none⟩ v'').cell? ⟨B, 0, none⟩ = some (.int .i64 b1) ∧ (((W.setCell ⟨R, 0, none⟩ v).setCell ⟨R, 1, none⟩ v').setCell ⟨R, 2, none⟩ v'').cell? ⟨B, 1, none⟩ = some b ∧ (((W.setCell ⟨R, 0, none⟩ v).setCell ⟨R, 1, none⟩ v').setCell ⟨R, 2, none⟩ v'').cell? ⟨C, 0, none⟩ = some (.int .i64 c1) ∧ (((W.setCell ⟨R, 0, none⟩ v).setCell ⟨R, 1, none⟩ v').setCell ⟨R, 2, none⟩ v'').cell? ⟨C, 1, none⟩ = some c ∧ (((W.setCell ⟨R, 0, none⟩ v).setCell ⟨R, 1, none⟩ v').setCell ⟨R, 2, none⟩ v'').cell? ⟨D, 0, none⟩ = some (.int .i64 d1) ∧ (((W.setCell ⟨R, 0, none⟩ v).setCell ⟨R, 1, none⟩ v').setCell ⟨R, 2, none⟩ v'').cell? ⟨D, 1, none⟩ = some d := by
  obtain ⟨h0, p1, p2, p3, p4, p5, p6, p7, p8⟩ := h
  have e : ∀ B i, R ≠ B → (((W.setCell ⟨R, 0, none⟩ v).setCell ⟨R, 1, none⟩ v').setCell ⟨R, 2, none⟩ v'').cell? ⟨B, i, none⟩ = W.cell? ⟨B, i, none⟩ := fun B i hne => by
    rw [World.cell?_setCell_far _ _ _ _ hne, World.cell?_setCell_far _ _ _ _ hne, World.cell?_setCell_far _ _ _ _ hne]
  exact ⟨((h0.setCell hR _).setCell hR _).setCell hR _, (e _ _ nA).trans p1, (e _ _ nA).trans p2, (e _ _ nB).trans p3, (e _ _ nB).trans p4, (e _ _ nC).trans p5, (e _ _ nC).trans p6, (e _ _ nD).trans p7, (e _ _ nD).trans p8⟩
theorem ty_ne {W : World} {R B : Nat} (h1 : bty W R = some 23) (h2 : bty W B = some 60) : R ≠ B := fun e => by rw [e, h2] at h1; simp at h1
theorem radd_no (a1 a2 a3 b1 b2 b3 : Int) (w : World) (h : ¬ (isRoot a1 a2 a3 ∧ isRoot b1 b2 b3)) :
    Calls Tryd.prog 14 #[.agg #[.int .i64 a1, .int .i64 a2, .int .i64 a3], .agg #[.int .i64 b1, .int .i64 b2, .int .i64 b3]] w fun e w' => e = .returned (rtV ⟨0, 0, 0, 2⟩) ∧ Below w.heap.size w w' := by
  have BD := fun w => bad_yes a1 a2 a3 b1 b2 b3 w h
  clear h
  go_enter Tryd.func14, Tryd.ntmps14
  go_wp2_with (go_at_call 37; (with_reducible refine (BD _).mono ?_); rintro e w1 ⟨rfl, hB⟩; obtain ⟨hc, hf⟩ := bcell hB)
  exact bodyPost_ret (v := rtV ⟨0, 0, 0, 2⟩) (by simp [results, Tryd.results14, go_sem, hc]) rfl ⟨rfl, (((btr (bal (bal (bal (Below.refl _ _) _) _) _) hB).setCell (by simp; omega) _).setCell (by simp; omega) _).setCell (by simp; omega) _⟩
set_option maxHeartbeats 4000000 in
theorem radd_core (a1 a2 : Int) (c : Nat) (b1 b2 : Int) (f : Nat) (M : Nat) (P Q X Y : Int) (r : Rt) (w : World)
    (BD : ∀ w, Calls Tryd.prog 37 #[.agg #[.int .i64 a1, .int .i64 a2, .int .i64 c], .agg #[.int .i64 b1, .int .i64 b2, .int .i64 f]] w fun e w' => e = .returned (.bool false) ∧ Below w.heap.size w w')
    (GR : ∀ w, Calls Tryd.prog 38 #[.int .i64 c, .int .i64 f] w fun e w' => e = .returned (.int .i64 M) ∧ w' = w)
    (O1 : ∀ w, Calls Tryd.prog 39 #[.agg #[.int .i64 a1, .int .i64 a2, .int .i64 c], .int .i64 M] w fun e w' => ORet P Q e w' ∧ Below w.heap.size w w')
    (O2 : ∀ w, Calls Tryd.prog 39 #[.agg #[.int .i64 b1, .int .i64 b2, .int .i64 f], .int .i64 M] w fun e w' => ORet X Y e w' ∧ Below w.heap.size w w')
    (bP : P.natAbs < 65536 ^ 40) (bQ : Q.natAbs < 65536 ^ 40) (bX : X.natAbs < 65536 ^ 40) (bY : Y.natAbs < 65536 ^ 40) (hk : M ≤ 1000) (hr : r = one (P + X) (Q + Y) M) :
    Calls Tryd.prog 14 #[.agg #[.int .i64 a1, .int .i64 a2, .int .i64 c], .agg #[.int .i64 b1, .int .i64 b2, .int .i64 f]] w fun e w' => e = .returned (rtV r) ∧ Below w.heap.size w w' := by
  have HB : Hid (P.natAbs < 65536 ^ 40 ∧ Q.natAbs < 65536 ^ 40 ∧ X.natAbs < 65536 ^ 40 ∧ Y.natAbs < 65536 ^ 40) := ⟨bP, bQ, bX, bY⟩
  have HR : Hid (r = one (P + X) (Q + Y) M) := hr
  clear bP bQ bX bY hr
  obtain ⟨W0, hW0, A0⟩ := AdS.start w a1 a2 c b1 b2 f
  go_enter Tryd.func14, Tryd.ntmps14
  go_upto_region 1 with (fail)
  rw [← hW0]
  clear hW0
  obtain ⟨x0, x1, x2⟩ := A0.ra
  obtain ⟨y0, y1, y2⟩ := A0.rb
  have l1 := A0.ra.lt
  have l2 := A0.rb.lt
  have HA : Hid (AdS w W0 a1 a2 c b1 b2 f) := A0
  clear A0
  go_upto_region 4 with (first
    | (go_at_call 37; (with_reducible refine (BD _).mono ?_); rintro e w1 ⟨rfl, hN⟩; obtain ⟨hc, hf⟩ := bcell hN)
    | (go_at_call 38; (with_reducible refine (GR _).mono ?_); rintro e w2 ⟨rfl, rfl⟩))
  have A1 : Hid _ := HA.out.onward hN
  clear HA hN hc hf x0 x1 x2 y0 y1 y2 l1 l2
  go_cut [7, 8] from 20 to 25 (fun v7 v8 W => ∃ (B7 B8 : Nat) (a : Option Addr) (n k : Nat) (a' : Option Addr) (n' k' : Nat), v7 = Value.pointer (some ⟨B7, 0, none⟩) ∧ v8 = Value.pointer (some ⟨B8, 0, none⟩) ∧ Hid (Bx W B7 (sgn P) a n k ∧ Bx W B8 (sgn Q) a' n' k' ∧ II W a n k P ∧ II W a' n' k' Q) ∧ Hid (AdS w W a1 a2 c b1 b2 f))
  case first =>
    obtain ⟨x0, x1, x2⟩ := A1.out.ra
    go_wp2_with (go_at_call 39; (with_reducible refine (O1 _).mono ?_); rintro e w3 ⟨⟨a, n, k, a', n', k', rfl, i1, i2⟩, hN⟩)
    go_meet
    case rel =>
      have hp := pair_new i1 i2
      exact ⟨_, _, a, n, k, a', n', k', rfl, rfl, hp.1, (A1.out.onward hN).onward hp.2⟩
  obtain ⟨B7, B8, a, n, k, a', n', k', rfl, rfl, H78, A2⟩ := hcut
  clear A1
  go_upto_region 5 with (fail)
  go_cut [9, 10] from 26 to 31 (fun v7 v8 W => ∃ (B9 B10 : Nat) (b : Option Addr) (m j : Nat) (b' : Option Addr) (m' j' : Nat), v7 = Value.pointer (some ⟨B9, 0, none⟩) ∧ v8 = Value.pointer (some ⟨B10, 0, none⟩) ∧ Hid (Bx W B9 (sgn X) b m j ∧ Bx W B10 (sgn Y) b' m' j' ∧ II W b m j X ∧ II W b' m' j' Y) ∧ Hid (Bx W B7 (sgn P) a n k ∧ Bx W B8 (sgn Q) a' n' k' ∧ II W a n k P ∧ II W a' n' k' Q) ∧ Hid (AdS w W a1 a2 c b1 b2 f))
  case first =>
    obtain ⟨y0, y1, y2⟩ := A2.out.rb
    go_wp2_with (go_at_call 39; (with_reducible refine (O2 _).mono ?_); rintro e w3 ⟨⟨b, m, j, b', m', j', rfl, i1, i2⟩, hN⟩)
    go_meet
    case rel =>
      have hp := pair_new i1 i2
      exact ⟨_, _, b, m, j, b', m', j', rfl, rfl, hp.1, quad_on (quad_on H78.out hN) hp.2, (A2.out.onward hN).onward hp.2⟩
  clear H78 A2
  obtain ⟨B9, B10, b, m, j, b', m', j', rfl, rfl, H9, H78, A3⟩ := hcut
  clear O1 O2 BD GR
  have P1 : ∀ V, Below wc.heap.size wc V → Calls Tryd.prog 40 #[.agg #[.int .i64 (sgn P), .slice a n k], .agg #[.int .i64 (sgn X), .slice b m j]] V fun e w' => IRet (P + X) e w' ∧ Below V.heap.size V w' :=
    fun V h => rplus_any P X a n k b m j V (H78.out.2.2.1.below h) (H9.out.2.2.1.below h) (by have := H78.out.2.2.1.len HB.out.1; omega) (by have := H9.out.2.2.1.len HB.out.2.2.1; omega)
  have P2 : ∀ V, Below wc.heap.size wc V → Calls Tryd.prog 40 #[.agg #[.int .i64 (sgn Q), .slice a' n' k'], .agg #[.int .i64 (sgn Y), .slice b' m' j']] V fun e w' => IRet (Q + Y) e w' ∧ Below V.heap.size V w' :=
    fun V h => rplus_any Q Y a' n' k' b' m' j' V (H78.out.2.2.2.below h) (H9.out.2.2.2.below h) (by have := H78.out.2.2.2.len HB.out.2.1; omega) (by have := H9.out.2.2.2.len HB.out.2.2.2; omega)
  have ON : ∀ (V : World) (d : Option Addr) (p o : Nat) (d' : Option Addr) (p' o' : Nat), II V d p o (P + X) → II V d' p' o' (Q + Y) → Calls Tryd.prog 31 #[.agg #[.int .i64 (sgn (P + X)), .slice d p o], .agg #[.int .i64 (sgn (Q + Y)), .slice d' p' o'], .int .i64 M] V fun e w' => e = .returned (rtV r) ∧ Below V.heap.size V w' :=
    fun V d p o d' p' o' h1 h2 => by rw [HR.out]; exact rone_any _ _ M d p o d' p' o' V h1 h2 hk (by have := HB.out; omega) (by have := HB.out; omega)
  obtain ⟨x0, x1, _, _, xt⟩ := H78.out.1
  obtain ⟨y0, y1, _, _, yt⟩ := H78.out.2.1
  obtain ⟨u0, u1, _, _, ut⟩ := H9.out.1
  obtain ⟨v0, v1, _, _, vt⟩ := H9.out.2.1
  have nA := ty_ne A3.out.ty xt
  have nB := ty_ne A3.out.ty yt
  have nC := ty_ne A3.out.ty ut
  have nD := ty_ne A3.out.ty vt
  obtain ⟨r0, r1, r2, rf0, rf1, rf2⟩ := A3.out.rc
  have lr := A3.out.rc.lt
  have hW := A3.out.below
  have hZ := Below.refl wc.heap.size wc
  have hR : w.heap.size ≤ w.heap.size + 1 + 1 := by omega
  clear H78 H9 A3 HB HR
  generalize sgn P = sP at *
  generalize sgn Q = sQ at *
  generalize sgn X = sX at *
  generalize sgn Y = sY at *
  go_upto_region 6 with (fail)
  go_region_held3 (fun w' => Below w.heap.size w w' ∧ w'.cell? ⟨B7, 0, none⟩ = some (.int .i64 sP) ∧ w'.cell? ⟨B7, 1, none⟩ = some (.slice a n k) ∧ w'.cell? ⟨B8, 0, none⟩ = some (.int .i64 sQ) ∧ w'.cell? ⟨B8, 1, none⟩ = some (.slice a' n' k') ∧ w'.cell? ⟨B9, 0, none⟩ = some (.int .i64 sX) ∧ w'.cell? ⟨B9, 1, none⟩ = some (.slice b m j) ∧ w'.cell? ⟨B10, 0, none⟩ = some (.int .i64 sY) ∧ w'.cell? ⟨B10, 1, none⟩ = some (.slice b' m' j'))
    ((first | exact ⟨below_drew hW, x0, x1, y0, y1, u0, u1, v0, v1⟩ | exact keep8_put (by assumption) hR nA nB nC nD _ _ _ | exact keep8 (by assumption) hN))
    (first
      | (go_at_call 40; (with_reducible refine (P1 _ (below_drew hZ)).mono ?_); rintro e w2 ⟨⟨d, p, o, rfl, i2⟩, hN⟩; have hK := btr (below_drew hZ) hN; obtain ⟨hc, hf⟩ := bcell hK)
      | (go_at_call 40; (with_reducible refine (P2 _ hK).mono ?_); rintro e w3 ⟨⟨d', p', o', rfl, i3⟩, hN⟩; have i2 := i2.below hN; have hK := btr hK hN; obtain ⟨hc, hf⟩ := bcell hK)
      | (go_at_call 31; (with_reducible refine (ON _ _ _ _ _ _ _ i2 i3).mono ?_); rintro e w4 ⟨rfl, hN⟩; unfold rtV; have hK := btr hK hN; obtain ⟨hc, hf⟩ := bcell hK))
  go_wp2
  exact bodyPost_ret (v := rtV r) (by simp [results, Tryd.results14, go_sem, hc, r0, r1, r2, lr]) rfl ⟨rfl, (((btr hW hK).setCell (by simp; omega) _).setCell (by simp; omega) _).setCell (by simp; omega) _⟩
theorem shift_b {x : Int} {n : Nat} (hx : -9007199254740991 ≤ x ∧ x ≤ 9007199254740991) (hn : n ≤ 60) : (x * 2 ^ n).natAbs < 65536 ^ 40 := by
  rw [Int.natAbs_mul, Int.natAbs_pow]
  have h1 : (2 : Int).natAbs ^ n ≤ 2 ^ 60 := Nat.pow_le_pow_right (by decide) hn
  have h2 : x.natAbs * (2 : Int).natAbs ^ n ≤ 9007199254740991 * 2 ^ 60 := Nat.mul_le_mul (by omega) h1
  omega
theorem radd_any (a1 a2 a3 b1 b2 b3 : Int) (w : World) :
    Calls Tryd.prog 14 #[rv a1 a2 a3, rv b1 b2 b3] w fun e w' => e = .returned (rtV (addR a1 a2 a3 b1 b2 b3)) ∧ Below w.heap.size w w' := by
  by_cases h : isRoot a1 a2 a3 ∧ isRoot b1 b2 b3
  · have ha := h.1
    have hb := h.2
    unfold addR
    rw [if_pos h]
    obtain ⟨c, rfl⟩ := Int.eq_ofNat_of_zero_le ha.2.2.1.1
    obtain ⟨f, rfl⟩ := Int.eq_ofNat_of_zero_le hb.2.2.1.1
    have hc : c ≤ 60 := by have := ha.2.2.1; omega
    have hf : f ≤ 60 := by have := hb.2.2.1; omega
    rw [Int.toNat_natCast, Int.toNat_natCast]
    unfold sumP
    refine radd_core a1 a2 c b1 b2 f (max c f) (a1 * 2 ^ (max c f - c)) (a2 * 2 ^ (max c f - c)) (b1 * 2 ^ (max c f - f)) (b2 * 2 ^ (max c f - f)) _ w (fun w => bad_no _ _ _ _ _ _ w ha hb) (fun w => ?_)
      (fun w => over_any a1 a2 c (max c f) w ha.1 ha.2.1 (by omega) (by omega)) (fun w => over_any b1 b2 f (max c f) w hb.1 hb.2.1 (by omega) (by omega))
      (shift_b ha.1 (by omega)) (shift_b ha.2.1 (by omega)) (shift_b hb.1 (by omega)) (shift_b hb.2.1 (by omega)) (by omega) rfl
    have := greater_any (c : Int) (f : Int) w
    rwa [show max (c : Int) (f : Int) = ((max c f : Nat) : Int) by omega] at this
  · unfold addR
    rw [if_neg h]
    exact radd_no a1 a2 a3 b1 b2 b3 w h
set_option maxHeartbeats 1000000 in
theorem rsub_any (a1 a2 a3 b1 b2 b3 : Int) (w : World) :
    Calls Tryd.prog 15 #[rv a1 a2 a3, rv b1 b2 b3] w fun e w' => e = .returned (rtV (subR a1 a2 a3 b1 b2 b3)) ∧ Below w.heap.size w w' := by
  by_cases h : isRoot a1 a2 a3 ∧ isRoot b1 b2 b3
  · have BD := fun w => bad_no a1 a2 a3 b1 b2 b3 w h.1 h.2
    have hb := h.2
    have hn : isRoot (-b1) (-b2) b3 := by unfold isRoot at hb ⊢; omega
    have AD := fun w => radd_any a1 a2 a3 (-b1) (-b2) b3 w
    have e : addR a1 a2 a3 (-b1) (-b2) b3 = subR a1 a2 a3 b1 b2 b3 := by
      unfold addR subR
      rw [if_pos ⟨h.1, hn⟩, if_pos h]
    rw [e] at AD
    have q1 : -9007199254740991 ≤ b1 := hb.1.1
    have q2 : b1 ≤ 9007199254740991 := hb.1.2
    have q3 : -9007199254740991 ≤ b2 := hb.2.1.1
    have q4 : b2 ≤ 9007199254740991 := hb.2.1.2
    clear e hn hb h
    generalize subR a1 a2 a3 b1 b2 b3 = r at *
    go_enter Tryd.func15, Tryd.ntmps15
    go_wp2_with (first
      | (go_at_call 37; (with_reducible refine (BD _).mono ?_); rintro e w1 ⟨rfl, hB⟩; obtain ⟨hc, hf⟩ := bcell hB)
      | (go_at_call 14; (with_reducible refine (AD _).mono ?_); rintro e w2 ⟨rfl, hN⟩; unfold rtV; replace hB := btr hB hN; obtain ⟨hc, hf⟩ := bcell hB))
    exact bodyPost_ret (v := rtV r) (by simp [results, Tryd.results15, go_sem, hc]) rfl ⟨rfl, (((btr (bal (bal (bal (Below.refl _ _) _) _) _) hB).setCell (by simp; omega) _).setCell (by simp; omega) _).setCell (by simp; omega) _⟩
  · unfold subR
    rw [if_neg h]
    have BD := fun w => bad_yes a1 a2 a3 b1 b2 b3 w h
    clear h
    go_enter Tryd.func15, Tryd.ntmps15
    go_wp2_with (go_at_call 37; (with_reducible refine (BD _).mono ?_); rintro e w1 ⟨rfl, hB⟩; obtain ⟨hc, hf⟩ := bcell hB)
    exact bodyPost_ret (v := rtV ⟨0, 0, 0, 2⟩) (by simp [results, Tryd.results15, go_sem, hc]) rfl ⟨rfl, (((btr (bal (bal (bal (Below.refl _ _) _) _) _) hB).setCell (by simp; omega) _).setCell (by simp; omega) _).setCell (by simp; omega) _⟩
end Go.Proofs.YtalaacfoaelipaaDoor
