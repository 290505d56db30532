/-
  Put together of: Q12.
-/
import Derived.Test.YtcfmhkhfmcmkbaaDoorXL
namespace Go.Proofs.YtcfmhkhfmcmkbaaDoor
open Go.RowKit Go.Sort
attribute [local go_sem ↓] Go.wp_at_zero Go.wp_at_succ

theorem keepT {w W V : World} {A : Nat} {a1 a2 : Int} (h : Below w.heap.size w W ∧ W.cell? ⟨A, 0, none⟩ = some (.int .i64 a1) ∧ W.cell? ⟨A, 1, none⟩ = some (.int .i64 a2)) (hN : Below W.heap.size W V) :
    Below w.heap.size w V ∧ V.cell? ⟨A, 0, none⟩ = some (.int .i64 a1) ∧ V.cell? ⟨A, 1, none⟩ = some (.int .i64 a2) := by
  obtain ⟨h0, p1, p2⟩ := h
  obtain ⟨hc, _⟩ := bcell hN
  have la := block_lt_of_cell p1
  exact ⟨btr h0 hN, (hc _ _ la).trans p1, (hc _ _ la).trans p2⟩
theorem rsgn_no (a1 a2 a3 : Int) (w : World) (h : ¬ isRoot a1 a2 a3) : Calls Tryd.prog 33 #[rv a1 a2 a3] w fun e w' => e = .returned (.tuple #[.int .i64 0, .int .i64 2]) ∧ Below w.heap.size w w' := by
  have C := fun w => rcheck_no a1 a2 a3 w h
  clear h
  go_enter Tryd.func33, Tryd.ntmps33
  go_wp2_with (go_at_call 32; (with_reducible refine (C _).mono ?_); rintro e w1 ⟨rfl, hB⟩; obtain ⟨hc, hf⟩ := bcell hB)
  go_ret2
  exact ⟨rfl, btr (bal (Below.refl _ _) _) hB⟩
set_option maxHeartbeats 1000000 in
theorem rsgn_yes (a1 a2 a3 : Int) (w : World) (h : isRoot a1 a2 a3) : Calls Tryd.prog 33 #[rv a1 a2 a3] w fun e w' => e = .returned (.tuple #[.int .i64 (signS a1 a2), .int .i64 0]) ∧ Below w.heap.size w w' := by
  have C := fun w => rcheck_yes a1 a2 a3 w h
  have h1 := h.1
  have h2 := h.2.1
  have O1 := fun w => of_any a1 w (by omega) (by omega)
  have O2 := fun w => of_any a2 w (by omega) (by omega)
  have SG := fun (V : World) (d : Option Addr) (p o : Nat) (d' : Option Addr) (p' o' : Nat) (i1 : II V d p o a1) (i2 : II V d' p' o' a2) => rsignOf_any a1 a2 d p o d' p' o' V i1 i2 (by omega) (by omega)
  generalize signS a1 a2 = R at *
  clear h h1 h2
  have rA := RB.new w a1 a2 a3
  have hW : Below w.heap.size w (w.alloc (.cells #[.int .i64 a1, .int .i64 a2, .int .i64 a3] 24)) := bal (Below.refl _ _) _
  go_enter Tryd.func33, Tryd.ntmps33
  go_upto_region 3 with (go_at_call 32; (with_reducible refine (C _).mono ?_); rintro e W1 ⟨rfl, hN⟩; replace hW := btr hW hN; replace rA := rA.below hN)
  obtain ⟨x0, x1, x2⟩ := rA
  have hZ := Below.refl W1.heap.size W1
  have hZ' : Below W1.heap.size W1 W1.drew := below_drew hZ
  go_region_held3 (fun w' => Below w.heap.size w w' ∧ w'.cell? ⟨w.heap.size, 0, none⟩ = some (.int .i64 a1) ∧ w'.cell? ⟨w.heap.size, 1, none⟩ = some (.int .i64 a2))
    ((refine keepT ⟨hW, x0, x1⟩ ?_; first | exact hK | exact hZ'))
    (first
      | (go_at_call 55; (with_reducible refine (O1 _).mono ?_); rintro e w2 ⟨⟨d1, p1, o1, rfl, i1⟩, hN⟩; have hK := btr (by first | exact hK | exact hZ' : Below W1.heap.size W1 _) hN; (first | (have i2 := i0.below hN) | skip); have i0 := i1)
      | (go_at_call 55; (with_reducible refine (O2 _).mono ?_); rintro e w3 ⟨⟨d2, p2, o2, rfl, i2⟩, hN⟩; have i1 := i1.below hN; have hK := btr hK hN)
      | (go_at_call 54; (first | (with_reducible refine (SG _ _ _ _ _ _ _ i1 i2).mono ?_) | (with_reducible refine (SG _ _ _ _ _ _ _ i2 i1).mono ?_)); rintro e w4 ⟨rfl, hN⟩; have hK := btr hK hN))
  all_goals go_wp2
  all_goals go_ret2
  all_goals exact ⟨rfl, btr hW hK⟩
/-- What the reference's Compare has in its variables. -/
structure CpS (w W : World) (a1 a2 a3 b1 b2 b3 : Int) : Prop where
  below : Below w.heap.size w W
  ra : RB W w.heap.size a1 a2 a3
  rb : RB W (w.heap.size + 1) b1 b2 b3
theorem CpS.onward {w W V : World} {a1 a2 a3 b1 b2 b3 : Int} (h : CpS w W a1 a2 a3 b1 b2 b3) (hb : Below W.heap.size W V) : CpS w V a1 a2 a3 b1 b2 b3 := ⟨btr h.below hb, h.ra.below hb, h.rb.below hb⟩
theorem rcmp_no (a1 a2 a3 b1 b2 b3 : Int) (w : World) (h : ¬ (isRoot a1 a2 a3 ∧ isRoot b1 b2 b3)) :
    Calls Tryd.prog 34 #[rv a1 a2 a3, rv b1 b2 b3] w fun e w' => e = .returned (.tuple #[.int .i64 0, .int .i64 2]) ∧ Below w.heap.size w w' := by
  have BD := fun w => bad_yes a1 a2 a3 b1 b2 b3 w h
  clear h
  go_enter Tryd.func34, Tryd.ntmps34
  go_wp2_with (go_at_call 56; (with_reducible refine (BD _).mono ?_); rintro e w1 ⟨rfl, hB⟩; obtain ⟨hc, hf⟩ := bcell hB)
  go_ret2
  exact ⟨rfl, btr (bal (bal (Below.refl _ _) _) _) hB⟩
theorem boxes2 (w : World) (a1 a2 a3 b1 b2 b3 : Int) :
    ∃ W0, W0 = (w.alloc (.cells #[.int .i64 a1, .int .i64 a2, .int .i64 a3] 24)).alloc (.cells #[.int .i64 b1, .int .i64 b2, .int .i64 b3] 24) ∧ CpS w W0 a1 a2 a3 b1 b2 b3 := by
  refine ⟨_, rfl, bal (bal (Below.refl _ _) _) _, (RB.new w a1 a2 a3).alloc _, ?_⟩
  have := RB.new (w.alloc (.cells #[.int .i64 a1, .int .i64 a2, .int .i64 a3] 24)) b1 b2 b3
  rwa [alz] at this
set_option maxHeartbeats 4000000 in
theorem rcmp_core (a1 a2 : Int) (c : Nat) (b1 b2 : Int) (f : Nat) (M : Nat) (P Q X Y : Int) (r : Int) (w : World)
    (BD : ∀ w, Calls Tryd.prog 56 #[.agg #[.int .i64 a1, .int .i64 a2, .int .i64 c], .agg #[.int .i64 b1, .int .i64 b2, .int .i64 f]] w fun e w' => e = .returned (.bool false) ∧ Below w.heap.size w w')
    (GR : ∀ w, Calls Tryd.prog 57 #[.int .i64 c, .int .i64 f] w fun e w' => e = .returned (.int .i64 M) ∧ w' = w)
    (O1 : ∀ w, Calls Tryd.prog 58 #[.agg #[.int .i64 a1, .int .i64 a2, .int .i64 c], .int .i64 M] w fun e w' => ORet P Q e w' ∧ Below w.heap.size w w')
    (O2 : ∀ w, Calls Tryd.prog 58 #[.agg #[.int .i64 b1, .int .i64 b2, .int .i64 f], .int .i64 M] w fun e w' => ORet X Y e w' ∧ Below w.heap.size w w')
    (bP : P.natAbs < 65536 ^ 19) (bQ : Q.natAbs < 65536 ^ 19) (bX : X.natAbs < 65536 ^ 19) (bY : Y.natAbs < 65536 ^ 19) (hr : r = signS (P - X) (Q - Y)) :
    Calls Tryd.prog 34 #[.agg #[.int .i64 a1, .int .i64 a2, .int .i64 c], .agg #[.int .i64 b1, .int .i64 b2, .int .i64 f]] w fun e w' => e = .returned (.tuple #[.int .i64 r, .int .i64 0]) ∧ Below w.heap.size w w' := by
  have HB : Hid (P.natAbs < 65536 ^ 19 ∧ Q.natAbs < 65536 ^ 19 ∧ X.natAbs < 65536 ^ 19 ∧ Y.natAbs < 65536 ^ 19) := ⟨bP, bQ, bX, bY⟩
  have HR : Hid (r = signS (P - X) (Q - Y)) := hr
  clear bP bQ bX bY hr
  obtain ⟨W0, hW0, A0⟩ := boxes2 w a1 a2 c b1 b2 f
  go_enter Tryd.func34, Tryd.ntmps34
  go_upto_region 1 with (fail)
  rw [← hW0]
  clear hW0
  obtain ⟨x0, x1, x2⟩ := A0.ra
  obtain ⟨y0, y1, y2⟩ := A0.rb
  have l1 := A0.ra.lt
  have l2 := A0.rb.lt
  have HA : Hid (CpS w W0 a1 a2 c b1 b2 f) := A0
  clear A0
  go_upto_region 4 with (first
    | (go_at_call 56; (with_reducible refine (BD _).mono ?_); rintro e w1 ⟨rfl, hN⟩; obtain ⟨hc, hf⟩ := bcell hN)
    | (go_at_call 57; (with_reducible refine (GR _).mono ?_); rintro e w2 ⟨rfl, rfl⟩))
  have A1 : Hid _ := HA.out.onward hN
  clear HA hN hc hf x0 x1 x2 y0 y1 y2 l1 l2
  go_cut [7, 8] from 19 to 24 (fun v7 v8 W => ∃ (B7 B8 : Nat) (a : Option Addr) (n k : Nat) (a' : Option Addr) (n' k' : Nat), v7 = Value.pointer (some ⟨B7, 0, none⟩) ∧ v8 = Value.pointer (some ⟨B8, 0, none⟩) ∧ Hid (Bx W B7 (sgn P) a n k ∧ Bx W B8 (sgn Q) a' n' k' ∧ II W a n k P ∧ II W a' n' k' Q) ∧ Hid (CpS w W a1 a2 c b1 b2 f))
  case first =>
    obtain ⟨x0, x1, x2⟩ := A1.out.ra
    go_wp2_with (go_at_call 58; (with_reducible refine (O1 _).mono ?_); rintro e w3 ⟨⟨a, n, k, a', n', k', rfl, i1, i2⟩, hN⟩)
    go_meet
    case rel =>
      have hp := pair_new i1 i2
      exact ⟨_, _, a, n, k, a', n', k', rfl, rfl, hp.1, (A1.out.onward hN).onward hp.2⟩
  obtain ⟨B7, B8, a, n, k, a', n', k', rfl, rfl, H78, A2⟩ := hcut
  clear A1
  go_upto_region 5 with (fail)
  go_cut [9, 10] from 25 to 30 (fun v7 v8 W => ∃ (B9 B10 : Nat) (b : Option Addr) (m j : Nat) (b' : Option Addr) (m' j' : Nat), v7 = Value.pointer (some ⟨B9, 0, none⟩) ∧ v8 = Value.pointer (some ⟨B10, 0, none⟩) ∧ Hid (Bx W B9 (sgn X) b m j ∧ Bx W B10 (sgn Y) b' m' j' ∧ II W b m j X ∧ II W b' m' j' Y) ∧ Hid (Bx W B7 (sgn P) a n k ∧ Bx W B8 (sgn Q) a' n' k' ∧ II W a n k P ∧ II W a' n' k' Q) ∧ Hid (CpS w W a1 a2 c b1 b2 f))
  case first =>
    obtain ⟨y0, y1, y2⟩ := A2.out.rb
    go_wp2_with (go_at_call 58; (with_reducible refine (O2 _).mono ?_); rintro e w3 ⟨⟨b, m, j, b', m', j', rfl, i1, i2⟩, hN⟩)
    go_meet
    case rel =>
      have hp := pair_new i1 i2
      exact ⟨_, _, b, m, j, b', m', j', rfl, rfl, hp.1, quad_on (quad_on H78.out hN) hp.2, (A2.out.onward hN).onward hp.2⟩
  clear H78 A2
  obtain ⟨B9, B10, b, m, j, b', m', j', rfl, rfl, H9, H78, A3⟩ := hcut
  clear O1 O2 BD GR
  have P1 : ∀ V, Below wc.heap.size wc V → Calls Tryd.prog 59 #[.agg #[.int .i64 (sgn P), .slice a n k], .agg #[.int .i64 (sgn X), .slice b m j]] V fun e w' => IRet (P - X) e w' ∧ Below V.heap.size V w' :=
    fun V h => minus_any P X a n k b m j V (H78.out.2.2.1.below h) (H9.out.2.2.1.below h) (by have := H78.out.2.2.1.len HB.out.1; omega) (by have := HB.out; omega)
  have P2 : ∀ V, Below wc.heap.size wc V → Calls Tryd.prog 59 #[.agg #[.int .i64 (sgn Q), .slice a' n' k'], .agg #[.int .i64 (sgn Y), .slice b' m' j']] V fun e w' => IRet (Q - Y) e w' ∧ Below V.heap.size V w' :=
    fun V h => minus_any Q Y a' n' k' b' m' j' V (H78.out.2.2.2.below h) (H9.out.2.2.2.below h) (by have := H78.out.2.2.2.len HB.out.2.1; omega) (by have := HB.out; omega)
  have ON : ∀ (V : World) (d : Option Addr) (p o : Nat) (d' : Option Addr) (p' o' : Nat), II V d p o (P - X) → II V d' p' o' (Q - Y) → Calls Tryd.prog 54 #[.agg #[.int .i64 (sgn (P - X)), .slice d p o], .agg #[.int .i64 (sgn (Q - Y)), .slice d' p' o']] V fun e w' => e = .returned (.int .i64 r) ∧ Below V.heap.size V w' :=
    fun V d p o d' p' o' h1 h2 => by rw [HR.out]; exact rsignOf_any _ _ d p o d' p' o' V h1 h2 (by have := HB.out; omega) (by have := HB.out; omega)
  obtain ⟨x0, x1, _, _, xt⟩ := H78.out.1
  obtain ⟨y0, y1, _, _, yt⟩ := H78.out.2.1
  obtain ⟨u0, u1, _, _, ut⟩ := H9.out.1
  obtain ⟨v0, v1, _, _, vt⟩ := H9.out.2.1
  have hW := A3.out.below
  have hZ := Below.refl wc.heap.size wc
  clear H78 H9 A3 HB HR
  generalize sgn P = sP at *
  generalize sgn Q = sQ at *
  generalize sgn X = sX at *
  generalize sgn Y = sY at *
  go_upto_region 6 with (fail)
  go_region_held3 (fun w' => Below w.heap.size w w' ∧ w'.cell? ⟨B7, 0, none⟩ = some (.int .i64 sP) ∧ w'.cell? ⟨B7, 1, none⟩ = some (.slice a n k) ∧ w'.cell? ⟨B8, 0, none⟩ = some (.int .i64 sQ) ∧ w'.cell? ⟨B8, 1, none⟩ = some (.slice a' n' k') ∧ w'.cell? ⟨B9, 0, none⟩ = some (.int .i64 sX) ∧ w'.cell? ⟨B9, 1, none⟩ = some (.slice b m j) ∧ w'.cell? ⟨B10, 0, none⟩ = some (.int .i64 sY) ∧ w'.cell? ⟨B10, 1, none⟩ = some (.slice b' m' j'))
    ((first | exact ⟨below_drew hW, x0, x1, y0, y1, u0, u1, v0, v1⟩ | exact keep8 (by assumption) hN))
    (first
      | (go_at_call 59; (with_reducible refine (P1 _ (below_drew hZ)).mono ?_); rintro e w2 ⟨⟨d, p, o, rfl, i2⟩, hN⟩; have hK := btr (below_drew hZ) hN; obtain ⟨hc, hf⟩ := bcell hK)
      | (go_at_call 59; (with_reducible refine (P2 _ hK).mono ?_); rintro e w3 ⟨⟨d', p', o', rfl, i3⟩, hN⟩; have i2 := i2.below hN; have hK := btr hK hN; obtain ⟨hc, hf⟩ := bcell hK)
      | (go_at_call 54; (with_reducible refine (ON _ _ _ _ _ _ _ i2 i3).mono ?_); rintro e w4 ⟨rfl, hN⟩; have hK := btr hK hN; obtain ⟨hc, hf⟩ := bcell hK))
  go_wp2
  go_ret2
  exact ⟨rfl, btr hW hK⟩
theorem shift_c {x : Int} {n : Nat} (hx : -9007199254740991 ≤ x ∧ x ≤ 9007199254740991) (hn : n ≤ 60) : (x * 2 ^ n).natAbs < 65536 ^ 19 := by
  rw [Int.natAbs_mul, Int.natAbs_pow]
  have h1 : (2 : Int).natAbs ^ n ≤ 2 ^ 60 := Nat.pow_le_pow_right (by decide) hn
  have h2 : x.natAbs * (2 : Int).natAbs ^ n ≤ 9007199254740991 * 2 ^ 60 := Nat.mul_le_mul (by omega) h1
  omega
theorem rcmp_yes (a1 a2 a3 b1 b2 b3 : Int) (w : World) (ha : isRoot a1 a2 a3) (hb : isRoot b1 b2 b3) :
    Calls Tryd.prog 34 #[rv a1 a2 a3, rv b1 b2 b3] w fun e w' => e = .returned (.tuple #[.int .i64 (cmpR a1 a2 a3 b1 b2 b3), .int .i64 0]) ∧ Below w.heap.size w w' := by
  obtain ⟨c, rfl⟩ := Int.eq_ofNat_of_zero_le ha.2.2.1.1
  obtain ⟨f, rfl⟩ := Int.eq_ofNat_of_zero_le hb.2.2.1.1
  have hc : c ≤ 60 := by have := ha.2.2.1; omega
  have hf : f ≤ 60 := by have := hb.2.2.1; omega
  refine rcmp_core a1 a2 c b1 b2 f (max c f) (a1 * 2 ^ (max c f - c)) (a2 * 2 ^ (max c f - c)) (b1 * 2 ^ (max c f - f)) (b2 * 2 ^ (max c f - f)) _ w (fun w => bad_no _ _ _ _ _ _ w ha hb) (fun w => ?_)
    (fun w => over_any a1 a2 c (max c f) w ha.1 ha.2.1 (by omega) (by omega)) (fun w => over_any b1 b2 f (max c f) w hb.1 hb.2.1 (by omega) (by omega))
    (shift_c ha.1 (by omega)) (shift_c ha.2.1 (by omega)) (shift_c hb.1 (by omega)) (shift_c hb.2.1 (by omega)) ?_
  · have := greater_any (c : Int) (f : Int) w
    rwa [show max (c : Int) (f : Int) = ((max c f : Nat) : Int) by omega] at this
  · unfold cmpR sumP
    rw [Int.toNat_natCast, Int.toNat_natCast, Int.neg_mul, Int.neg_mul, ← Int.sub_eq_add_neg, ← Int.sub_eq_add_neg]
end Go.Proofs.YtcfmhkhfmcmkbaaDoor
