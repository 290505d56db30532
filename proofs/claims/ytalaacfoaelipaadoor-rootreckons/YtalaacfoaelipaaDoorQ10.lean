/-
  The law RootReckons answers true, whatever the two arguments.
-/
import Derived.Test.YtalaacfoaelipaaDoorQ9
namespace Go.Proofs.YtalaacfoaelipaaDoor
open Go.RowKit Go.Sort

theorem boxes2 (w : World) (a1 a2 a3 b1 b2 b3 : Int) :
    let W0 := (w.alloc (.cells #[.int .i64 a1, .int .i64 a2, .int .i64 a3] 23)).alloc (.cells #[.int .i64 b1, .int .i64 b2, .int .i64 b3] 23)
    Below w.heap.size w W0 ∧ RB W0 w.heap.size a1 a2 a3 ∧ RB W0 (w.heap.size + 1) b1 b2 b3 := by
  intro W0
  refine ⟨bal (bal (Below.refl _ _) _) _, (RB.new w a1 a2 a3).alloc _, ?_⟩
  have := RB.new (w.alloc (.cells #[.int .i64 a1, .int .i64 a2, .int .i64 a3] 23)) b1 b2 b3
  rwa [alz] at this
set_option maxHeartbeats 4000000 in
set_option maxRecDepth 100000 in
theorem reckons_core (a1 a2 a3 b1 b2 b3 : Int) (r m s : Rt) (w : World) (hT : Tab w)
    (R1 : ∀ w, Calls Tryd.prog 14 #[rv a1 a2 a3, rv b1 b2 b3] w fun z w' => z = .returned (rtV r) ∧ Below w.heap.size w w') (R2 : ∀ w, Calls Tryd.prog 15 #[rv a1 a2 a3, rv b1 b2 b3] w fun z w' => z = .returned (rtV m) ∧ Below w.heap.size w w') (R3 : ∀ w, Calls Tryd.prog 16 #[rv a1 a2 a3, rv b1 b2 b3] w fun z w' => z = .returned (rtV s) ∧ Below w.heap.size w w')
    (C1 : Cal 17 #[rv a1 a2 a3, rv b1 b2 b3] r) (C2 : Cal 18 #[rv a1 a2 a3, rv b1 b2 b3] m) (C3 : Cal 19 #[rv a1 a2 a3, rv b1 b2 b3] s) :
    Calls Tryd.prog 4 #[rv a1 a2 a3, rv b1 b2 b3] w fun x w' => x = .returned (.bool true) ∧ Below w.heap.size w w' := by
  obtain ⟨hW, rA, rB⟩ := boxes2 w a1 a2 a3 b1 b2 b3
  have AW := awake_any _ (hT.below hW)
  go_enter Tryd.func4, Tryd.ntmps4
  go_upto_region 3 with (first
    | (go_at_call 9; (with_reducible refine AW.mono ?_); rintro e w1 ⟨rfl, hN⟩; have T := (hT.below hW).below hN; replace hW := btr hW hN; replace rA := rA.below hN; replace rB := rB.below hN))
  go_cut [5, 6] from 19 to 24 (fun vp ve W => (∃ B : Nat, vp = Value.pointer (some ⟨B, 0, none⟩) ∧ ve = Value.int .i64 r.e ∧ RB W B r.p r.q r.k) ∧ Below w.heap.size w W ∧ Tab W ∧ RB W w.heap.size a1 a2 a3 ∧ RB W (w.heap.size + 1) b1 b2 b3)
  case first =>
    have ⟨x0, x1, x2⟩ := rA
    have ⟨y0, y1, y2⟩ := rB
    go_wp2_with (go_at_call 14; (with_reducible refine (R1 _).mono ?_); rintro e w2 ⟨rfl, hN⟩; unfold rtV)
    go_meet
    case rel => exact ⟨⟨_, rfl, rfl, RB.new _ _ _ _⟩, bal (btr hW hN) _, (T.below hN).alloc _, (rA.below hN).alloc _, (rB.below hN).alloc _⟩
  clear hW T rA rB
  obtain ⟨⟨B5, rfl, rfl, r5⟩, hW, T, rA, rB⟩ := hcut
  go_upto_region 4 with (fail)
  go_cut [7, 8] from 25 to 30 (fun vp ve W => (∃ B : Nat, vp = Value.pointer (some ⟨B, 0, none⟩) ∧ ve = Value.int .i64 m.e ∧ RB W B m.p m.q m.k) ∧ Below w.heap.size w W ∧ Tab W ∧ RB W w.heap.size a1 a2 a3 ∧ RB W (w.heap.size + 1) b1 b2 b3 ∧ RB W B5 r.p r.q r.k)
  case first =>
    have ⟨x0, x1, x2⟩ := rA
    have ⟨y0, y1, y2⟩ := rB
    go_wp2_with (go_at_call 15; (with_reducible refine (R2 _).mono ?_); rintro e w2 ⟨rfl, hN⟩; unfold rtV)
    go_meet
    case rel => exact ⟨⟨_, rfl, rfl, RB.new _ _ _ _⟩, bal (btr hW hN) _, (T.below hN).alloc _, (rA.below hN).alloc _, (rB.below hN).alloc _, (r5.below hN).alloc _⟩
  clear hW T rA rB r5
  obtain ⟨⟨B7, rfl, rfl, r7⟩, hW, T, rA, rB, r5⟩ := hcut
  go_upto_region 5 with (fail)
  go_cut [9, 10] from 31 to 36 (fun vp ve W => (∃ B : Nat, vp = Value.pointer (some ⟨B, 0, none⟩) ∧ ve = Value.int .i64 s.e ∧ RB W B s.p s.q s.k) ∧ Below w.heap.size w W ∧ Tab W ∧ RB W w.heap.size a1 a2 a3 ∧ RB W (w.heap.size + 1) b1 b2 b3 ∧ RB W B5 r.p r.q r.k ∧ RB W B7 m.p m.q m.k)
  case first =>
    have ⟨x0, x1, x2⟩ := rA
    have ⟨y0, y1, y2⟩ := rB
    go_wp2_with (go_at_call 16; (with_reducible refine (R3 _).mono ?_); rintro e w2 ⟨rfl, hN⟩; unfold rtV)
    go_meet
    case rel => exact ⟨⟨_, rfl, rfl, RB.new _ _ _ _⟩, bal (btr hW hN) _, (T.below hN).alloc _, (rA.below hN).alloc _, (rB.below hN).alloc _, (r5.below hN).alloc _, (r7.below hN).alloc _⟩
  clear hW T rA rB r5 r7
  obtain ⟨⟨B9, rfl, rfl, r9⟩, hW, T, rA, rB, r5, r7⟩ := hcut
  go_upto_region 6 with (fail)
  go_cut [11, 12] from 37 to 42 (fun vp ve W => (∃ B : Nat, vp = Value.pointer (some ⟨B, 0, none⟩) ∧ ve = Value.int .i64 r.e ∧ RB W B r.p r.q r.k) ∧ Below w.heap.size w W ∧ Tab W ∧ RB W w.heap.size a1 a2 a3 ∧ RB W (w.heap.size + 1) b1 b2 b3 ∧ RB W B5 r.p r.q r.k ∧ RB W B7 m.p m.q m.k ∧ RB W B9 s.p s.q s.k)
  case first =>
    have ⟨x0, x1, x2⟩ := rA
    have ⟨y0, y1, y2⟩ := rB
    go_wp2_with (go_at_call 17; (with_reducible refine (C1 _ T).mono ?_); rintro e w2 ⟨rfl, hN⟩; unfold rtV)
    go_meet
    case rel => exact ⟨⟨_, rfl, rfl, RB.new _ _ _ _⟩, bal (btr hW hN) _, (T.below hN).alloc _, (rA.below hN).alloc _, (rB.below hN).alloc _, (r5.below hN).alloc _, (r7.below hN).alloc _, (r9.below hN).alloc _⟩
  clear hW T rA rB r5 r7 r9
  obtain ⟨⟨B11, rfl, rfl, r11⟩, hW, T, rA, rB, r5, r7, r9⟩ := hcut
  go_upto_region 7 with (fail)
  go_cut [13, 14] from 43 to 48 (fun vp ve W => (∃ B : Nat, vp = Value.pointer (some ⟨B, 0, none⟩) ∧ ve = Value.int .i64 m.e ∧ RB W B m.p m.q m.k) ∧ Below w.heap.size w W ∧ Tab W ∧ RB W w.heap.size a1 a2 a3 ∧ RB W (w.heap.size + 1) b1 b2 b3 ∧ RB W B5 r.p r.q r.k ∧ RB W B7 m.p m.q m.k ∧ RB W B9 s.p s.q s.k ∧ RB W B11 r.p r.q r.k)
  case first =>
    have ⟨x0, x1, x2⟩ := rA
    have ⟨y0, y1, y2⟩ := rB
    go_wp2_with (go_at_call 18; (with_reducible refine (C2 _ T).mono ?_); rintro e w2 ⟨rfl, hN⟩; unfold rtV)
    go_meet
    case rel => exact ⟨⟨_, rfl, rfl, RB.new _ _ _ _⟩, bal (btr hW hN) _, (T.below hN).alloc _, (rA.below hN).alloc _, (rB.below hN).alloc _, (r5.below hN).alloc _, (r7.below hN).alloc _, (r9.below hN).alloc _, (r11.below hN).alloc _⟩
  clear hW T rA rB r5 r7 r9 r11
  obtain ⟨⟨B13, rfl, rfl, r13⟩, hW, T, rA, rB, r5, r7, r9, r11⟩ := hcut
  go_upto_region 8 with (fail)
  go_cut [15, 16] from 49 to 54 (fun vp ve W => (∃ B : Nat, vp = Value.pointer (some ⟨B, 0, none⟩) ∧ ve = Value.int .i64 s.e ∧ RB W B s.p s.q s.k) ∧ Below w.heap.size w W ∧ Tab W ∧ RB W w.heap.size a1 a2 a3 ∧ RB W (w.heap.size + 1) b1 b2 b3 ∧ RB W B5 r.p r.q r.k ∧ RB W B7 m.p m.q m.k ∧ RB W B9 s.p s.q s.k ∧ RB W B11 r.p r.q r.k ∧ RB W B13 m.p m.q m.k)
  case first =>
    have ⟨x0, x1, x2⟩ := rA
    have ⟨y0, y1, y2⟩ := rB
    go_wp2_with (go_at_call 19; (with_reducible refine (C3 _ T).mono ?_); rintro e w2 ⟨rfl, hN⟩; unfold rtV)
    go_meet
    case rel => exact ⟨⟨_, rfl, rfl, RB.new _ _ _ _⟩, bal (btr hW hN) _, (T.below hN).alloc _, (rA.below hN).alloc _, (rB.below hN).alloc _, (r5.below hN).alloc _, (r7.below hN).alloc _, (r9.below hN).alloc _, (r11.below hN).alloc _, (r13.below hN).alloc _⟩
  clear hW T rA rB r5 r7 r9 r11 r13
  obtain ⟨⟨B15, rfl, rfl, r15⟩, hW, T, rA, rB, r5, r7, r9, r11, r13⟩ := hcut
  have ⟨r50, r51, r52⟩ := r5
  have ⟨r70, r71, r72⟩ := r7
  have ⟨r90, r91, r92⟩ := r9
  have ⟨r110, r111, r112⟩ := r11
  have ⟨r130, r131, r132⟩ := r13
  have ⟨r150, r151, r152⟩ := r15
  go_wp2
  go_ret
  exact ⟨rfl, hW⟩
theorem reckons_any (a1 a2 a3 b1 b2 b3 : Int) (w : World) (hT : Tab w) :
    Calls Tryd.prog 4 #[rv a1 a2 a3, rv b1 b2 b3] w fun x w' => x = .returned (.bool true) ∧ Below w.heap.size w w' :=
  reckons_core a1 a2 a3 b1 b2 b3 (addR a1 a2 a3 b1 b2 b3) (subR a1 a2 a3 b1 b2 b3) (mulR a1 a2 a3 b1 b2 b3) w hT (fun w => radd_any _ _ _ _ _ _ w) (fun w => rsub_any _ _ _ _ _ _ w) (fun w => rmul_any _ _ _ _ _ _ w)
    (fun w hT => add_any _ _ _ _ _ _ w hT) (fun w hT => sub_any _ _ _ _ _ _ w hT) (fun w hT => mul_any _ _ _ _ _ _ w hT)
end Go.Proofs.YtalaacfoaelipaaDoor
