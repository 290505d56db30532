/-
  The law RootField answers true, whatever the three arguments.
-/
import Derived.Test.YtalaacfoaelipaaDoorAwake
import Derived.Test.YtalaacfoaelipaaDoorS3
import Derived.Test.YtalaacfoaelipaaDoorG6
namespace Go.Proofs.YtalaacfoaelipaaDoor
open Go.RowKit Go.Sort

/-- Block B holds that root. -/
structure RB (W : World) (B : Nat) (p q k : Int) : Prop where
  c0 : W.cell? ⟨B, 0, none⟩ = some (.int .i64 p)
  c1 : W.cell? ⟨B, 1, none⟩ = some (.int .i64 q)
  c2 : W.cell? ⟨B, 2, none⟩ = some (.int .i64 k)
theorem RB.lt {W : World} {B : Nat} {p q k : Int} (h : RB W B p q k) : B < W.heap.size := block_lt_of_cell h.c0
theorem RB.below {W W' : World} {B : Nat} {p q k : Int} (h : RB W B p q k) (hb : Below W.heap.size W W') : RB W' B p q k := by
  obtain ⟨hc, hf⟩ := bcell hb
  have hl := h.lt
  exact ⟨(hc _ _ hl).trans h.c0, (hc _ _ hl).trans h.c1, (hc _ _ hl).trans h.c2⟩
theorem RB.alloc {W : World} {B : Nat} {p q k : Int} (h : RB W B p q k) (o : Obj) : RB (W.alloc o) B p q k := h.below (bal (Below.refl _ _) _)
theorem RB.new (W : World) (p q k : Int) : RB (W.alloc (.cells #[.int .i64 p, .int .i64 q, .int .i64 k] 23)) W.heap.size p q k where
  c0 := by rw [World.cell?_alloc_at _ _ _ _ rfl]; rfl
  c1 := by rw [World.cell?_alloc_at _ _ _ _ rfl]; rfl
  c2 := by rw [World.cell?_alloc_at _ _ _ _ rfl]; rfl
theorem boxes (w : World) (a1 a2 a3 b1 b2 b3 c1 c2 c3 : Int) : 
    let W0 := ((w.alloc (.cells #[.int .i64 a1, .int .i64 a2, .int .i64 a3] 23)).alloc (.cells #[.int .i64 b1, .int .i64 b2, .int .i64 b3] 23)).alloc (.cells #[.int .i64 c1, .int .i64 c2, .int .i64 c3] 23)
    Below w.heap.size w W0 ∧ RB W0 w.heap.size a1 a2 a3 ∧ RB W0 (w.heap.size + 1) b1 b2 b3 ∧ RB W0 (w.heap.size + 1 + 1) c1 c2 c3 := by
  intro W0
  refine ⟨bal (bal (bal (Below.refl _ _) _) _) _, ((RB.new w a1 a2 a3).alloc _).alloc _, ?_, ?_⟩
  · have := (RB.new (w.alloc (.cells #[.int .i64 a1, .int .i64 a2, .int .i64 a3] 23)) b1 b2 b3).alloc (.cells #[.int .i64 c1, .int .i64 c2, .int .i64 c3] 23)
    rwa [alz] at this
  · have := RB.new ((w.alloc (.cells #[.int .i64 a1, .int .i64 a2, .int .i64 a3] 23)).alloc (.cells #[.int .i64 b1, .int .i64 b2, .int .i64 b3] 23)) c1 c2 c3
    rwa [alz, alz] at this
abbrev Cal (f : Nat) (args : Array Value) (r : Rt) : Prop := ∀ w, Tab w → Calls Tryd.prog f args w fun z w' => z = .returned (rtV r) ∧ Below w.heap.size w w'

set_option maxHeartbeats 4000000 in
set_option maxRecDepth 100000 in
theorem field_core (a1 a2 a3 b1 b2 b3 c1 c2 c3 : Int) (r m s t u x y z : Rt) (v0 : Rt) (ce : Int) (w : World) (hT : Tab w)
    (A1 : Cal 17 #[rv a1 a2 a3, rv b1 b2 b3] r) (A2 : Cal 17 #[rv b1 b2 b3, rv a1 a2 a3] r) (M1 : Cal 19 #[rv a1 a2 a3, rv b1 b2 b3] m) (M2 : Cal 19 #[rv b1 b2 b3, rv a1 a2 a3] m)
    (S1 : r.e = 0 → Cal 18 #[rv r.p r.q r.k, rv b1 b2 b3] ⟨a1, a2, a3, 0⟩) (S2 : Cal 18 #[rv a1 a2 a3, rv a1 a2 a3] v0)
    (K1 : ∀ w, Calls Tryd.prog 12 #[rv a1 a2 a3] w fun z w' => z = .returned (.int .i64 ce) ∧ Below w.heap.size w w') (K2 : ce = 0 ∧ v0 = ⟨0, 0, 0, 0⟩ ∨ ¬ ce = 0)
    (A3 : Cal 17 #[rv b1 b2 b3, rv c1 c2 c3] s) (A4 : r.e = 0 → s.e = 0 → Cal 17 #[rv r.p r.q r.k, rv c1 c2 c3] x) (A5 : r.e = 0 → s.e = 0 → Cal 17 #[rv a1 a2 a3, rv s.p s.q s.k] x)
    (M3 : Cal 19 #[rv b1 b2 b3, rv c1 c2 c3] t) (M4 : m.e = 0 → t.e = 0 → Cal 19 #[rv m.p m.q m.k, rv c1 c2 c3] y) (M5 : m.e = 0 → t.e = 0 → Cal 19 #[rv a1 a2 a3, rv t.p t.q t.k] y)
    (M6 : Cal 19 #[rv a1 a2 a3, rv c1 c2 c3] u) (M7 : s.e = 0 → m.e = 0 → u.e = 0 → Cal 19 #[rv a1 a2 a3, rv s.p s.q s.k] z) (A6 : s.e = 0 → m.e = 0 → u.e = 0 → Cal 17 #[rv m.p m.q m.k, rv u.p u.q u.k] z) :
    Calls Tryd.prog 7 #[rv a1 a2 a3, rv b1 b2 b3, rv c1 c2 c3] w fun x w' => x = .returned (.bool true) ∧ Below w.heap.size w w' := by
  obtain ⟨hW, rA, rB, rC⟩ := boxes w a1 a2 a3 b1 b2 b3 c1 c2 c3
  have AW := awake_any _ (hT.below hW)
  go_enter Tryd.func7, Tryd.ntmps7
  go_upto_region 3 with (first
    | (go_at_call 9; (with_reducible refine AW.mono ?_); rintro e w1 ⟨rfl, hN⟩; have T := (hT.below hW).below hN; replace hW := btr hW hN; replace rA := rA.below hN; replace rB := rB.below hN; replace rC := rC.below hN))
  go_cut [7, 8] from 39 to 44 (fun vp ve W => (∃ B : Nat, vp = Value.pointer (some ⟨B, 0, none⟩) ∧ ve = Value.int .i64 r.e ∧ RB W B r.p r.q r.k) ∧ Below w.heap.size w W ∧ Tab W ∧ RB W w.heap.size a1 a2 a3 ∧ RB W (w.heap.size + 1) b1 b2 b3 ∧ RB W (w.heap.size + 1 + 1) c1 c2 c3)
  case first =>
    have ⟨rA0, rA1, rA2⟩ := rA
    have ⟨rB0, rB1, rB2⟩ := rB
    go_wp2_with (go_at_call 17; (with_reducible refine (A1 _ T).mono ?_); rintro e w2 ⟨rfl, hN⟩; unfold rtV)
    go_meet
    case rel => exact ⟨⟨_, rfl, rfl, RB.new _ _ _ _⟩, bal (btr hW hN) _, (T.below hN).alloc _, (rA.below hN).alloc _, (rB.below hN).alloc _, (rC.below hN).alloc _⟩
  clear hW T rA rB rC
  obtain ⟨⟨B7, rfl, rfl, r7⟩, hW, T, rA, rB, rC⟩ := hcut
  go_upto_region 4 with (fail)
  go_cut [9, 10] from 45 to 50 (fun vp ve W => (∃ B : Nat, vp = Value.pointer (some ⟨B, 0, none⟩) ∧ ve = Value.int .i64 r.e ∧ RB W B r.p r.q r.k) ∧ Below w.heap.size w W ∧ Tab W ∧ RB W w.heap.size a1 a2 a3 ∧ RB W (w.heap.size + 1) b1 b2 b3 ∧ RB W (w.heap.size + 1 + 1) c1 c2 c3 ∧ RB W B7 r.p r.q r.k)
  case first =>
    have ⟨rB0, rB1, rB2⟩ := rB
    have ⟨rA0, rA1, rA2⟩ := rA
    go_wp2_with (go_at_call 17; (with_reducible refine (A2 _ T).mono ?_); rintro e w2 ⟨rfl, hN⟩; unfold rtV)
    go_meet
    case rel => exact ⟨⟨_, rfl, rfl, RB.new _ _ _ _⟩, bal (btr hW hN) _, (T.below hN).alloc _, (rA.below hN).alloc _, (rB.below hN).alloc _, (rC.below hN).alloc _, (r7.below hN).alloc _⟩
  clear hW T rA rB rC r7
  obtain ⟨⟨B9, rfl, rfl, r9⟩, hW, T, rA, rB, rC, r7⟩ := hcut
  go_upto_region 5 with (fail)
  go_cut [11, 12] from 51 to 56 (fun vp ve W => (∃ B : Nat, vp = Value.pointer (some ⟨B, 0, none⟩) ∧ ve = Value.int .i64 m.e ∧ RB W B m.p m.q m.k) ∧ Below w.heap.size w W ∧ Tab W ∧ RB W w.heap.size a1 a2 a3 ∧ RB W (w.heap.size + 1) b1 b2 b3 ∧ RB W (w.heap.size + 1 + 1) c1 c2 c3 ∧ RB W B7 r.p r.q r.k ∧ RB W B9 r.p r.q r.k)
  case first =>
    have ⟨rA0, rA1, rA2⟩ := rA
    have ⟨rB0, rB1, rB2⟩ := rB
    go_wp2_with (go_at_call 19; (with_reducible refine (M1 _ T).mono ?_); rintro e w2 ⟨rfl, hN⟩; unfold rtV)
    go_meet
    case rel => exact ⟨⟨_, rfl, rfl, RB.new _ _ _ _⟩, bal (btr hW hN) _, (T.below hN).alloc _, (rA.below hN).alloc _, (rB.below hN).alloc _, (rC.below hN).alloc _, (r7.below hN).alloc _, (r9.below hN).alloc _⟩
  clear hW T rA rB rC r7 r9
  obtain ⟨⟨B11, rfl, rfl, r11⟩, hW, T, rA, rB, rC, r7, r9⟩ := hcut
  go_upto_region 6 with (fail)
  go_cut [13, 14] from 57 to 62 (fun vp ve W => (∃ B : Nat, vp = Value.pointer (some ⟨B, 0, none⟩) ∧ ve = Value.int .i64 m.e ∧ RB W B m.p m.q m.k) ∧ Below w.heap.size w W ∧ Tab W ∧ RB W w.heap.size a1 a2 a3 ∧ RB W (w.heap.size + 1) b1 b2 b3 ∧ RB W (w.heap.size + 1 + 1) c1 c2 c3 ∧ RB W B7 r.p r.q r.k ∧ RB W B9 r.p r.q r.k ∧ RB W B11 m.p m.q m.k)
  case first =>
    have ⟨rB0, rB1, rB2⟩ := rB
    have ⟨rA0, rA1, rA2⟩ := rA
    go_wp2_with (go_at_call 19; (with_reducible refine (M2 _ T).mono ?_); rintro e w2 ⟨rfl, hN⟩; unfold rtV)
    go_meet
    case rel => exact ⟨⟨_, rfl, rfl, RB.new _ _ _ _⟩, bal (btr hW hN) _, (T.below hN).alloc _, (rA.below hN).alloc _, (rB.below hN).alloc _, (rC.below hN).alloc _, (r7.below hN).alloc _, (r9.below hN).alloc _, (r11.below hN).alloc _⟩
  clear hW T rA rB rC r7 r9 r11
  obtain ⟨⟨B13, rfl, rfl, r13⟩, hW, T, rA, rB, rC, r7, r9, r11⟩ := hcut
  have ⟨r70, r71, r72⟩ := r7
  have ⟨r90, r91, r92⟩ := r9
  have ⟨r110, r111, r112⟩ := r11
  have ⟨r130, r131, r132⟩ := r13
  go_upto_if 82 with (fail)
  go_cut [16] from 81 to 95 (fun _ W => Below w.heap.size w W ∧ Tab W ∧ RB W w.heap.size a1 a2 a3 ∧ RB W (w.heap.size + 1) b1 b2 b3 ∧ RB W (w.heap.size + 1 + 1) c1 c2 c3 ∧ RB W B7 r.p r.q r.k ∧ RB W B9 r.p r.q r.k ∧ RB W B11 m.p m.q m.k ∧ RB W B13 m.p m.q m.k)
  case first =>
    cases hb : (r.e == 0)
    case true =>
      have S1 := S1 (by simpa using hb)
      clear hb
      go_upto_region 10 with (fail)
      go_cut [15, 16] from 83 to 88 (fun vp ve W => (∃ B : Nat, vp = Value.pointer (some ⟨B, 0, none⟩) ∧ ve = Value.int .i64 (⟨a1, a2, a3, 0⟩ : Rt).e ∧ RB W B (⟨a1, a2, a3, 0⟩ : Rt).p (⟨a1, a2, a3, 0⟩ : Rt).q (⟨a1, a2, a3, 0⟩ : Rt).k) ∧ Below w.heap.size w W ∧ Tab W ∧ RB W w.heap.size a1 a2 a3 ∧ RB W (w.heap.size + 1) b1 b2 b3 ∧ RB W (w.heap.size + 1 + 1) c1 c2 c3 ∧ RB W B7 r.p r.q r.k ∧ RB W B9 r.p r.q r.k ∧ RB W B11 m.p m.q m.k ∧ RB W B13 m.p m.q m.k)
      case first =>
        have ⟨r70, r71, r72⟩ := r7
        have ⟨rB0, rB1, rB2⟩ := rB
        go_wp2_with (go_at_call 18; (with_reducible refine (S1 _ T).mono ?_); rintro e w2 ⟨rfl, hN⟩; unfold rtV)
        go_meet
        case rel => exact ⟨⟨_, rfl, rfl, RB.new _ _ _ _⟩, bal (btr hW hN) _, (T.below hN).alloc _, (rA.below hN).alloc _, (rB.below hN).alloc _, (rC.below hN).alloc _, (r7.below hN).alloc _, (r9.below hN).alloc _, (r11.below hN).alloc _, (r13.below hN).alloc _⟩
      clear hW T rA rB rC r7 r9 r11 r13
      obtain ⟨⟨B15, rfl, rfl, r15⟩, hW, T, rA, rB, rC, r7, r9, r11, r13⟩ := hcut
      have ⟨r150, r151, r152⟩ := r15
      have ⟨rA0, rA1, rA2⟩ := rA
      go_wp2
      go_meet
      case rel => exact ⟨hW, T, rA, rB, rC, r7, r9, r11, r13⟩
    case false =>
      clear hb
      go_wp2
      go_meet
      case rel => exact ⟨hW, T, rA, rB, rC, r7, r9, r11, r13⟩
  clear r70 r71 r72 r90 r91 r92 r110 r111 r112 r130 r131 r132
  clear hW T rA rB rC r7 r9 r11 r13
  obtain ⟨hW, T, rA, rB, rC, r7, r9, r11, r13⟩ := hcut
  go_upto_region 13 with (fail)
  go_cut [17, 18] from 96 to 101 (fun vp ve W => (∃ B : Nat, vp = Value.pointer (some ⟨B, 0, none⟩) ∧ ve = Value.int .i64 v0.e ∧ RB W B v0.p v0.q v0.k) ∧ Below w.heap.size w W ∧ Tab W ∧ RB W w.heap.size a1 a2 a3 ∧ RB W (w.heap.size + 1) b1 b2 b3 ∧ RB W (w.heap.size + 1 + 1) c1 c2 c3 ∧ RB W B7 r.p r.q r.k ∧ RB W B9 r.p r.q r.k ∧ RB W B11 m.p m.q m.k ∧ RB W B13 m.p m.q m.k)
  case first =>
    have ⟨rA0, rA1, rA2⟩ := rA
    go_wp2_with (go_at_call 18; (with_reducible refine (S2 _ T).mono ?_); rintro e w2 ⟨rfl, hN⟩; unfold rtV)
    go_meet
    case rel => exact ⟨⟨_, rfl, rfl, RB.new _ _ _ _⟩, bal (btr hW hN) _, (T.below hN).alloc _, (rA.below hN).alloc _, (rB.below hN).alloc _, (rC.below hN).alloc _, (r7.below hN).alloc _, (r9.below hN).alloc _, (r11.below hN).alloc _, (r13.below hN).alloc _⟩
  clear hW T rA rB rC r7 r9 r11 r13
  obtain ⟨⟨B17, rfl, rfl, r17⟩, hW, T, rA, rB, rC, r7, r9, r11, r13⟩ := hcut
  go_upto_region 14 with (fail)
  go_cut [113] from 102 to 113 (fun v W => v = Value.bool false ∧ Below w.heap.size w W ∧ Tab W ∧ RB W w.heap.size a1 a2 a3 ∧ RB W (w.heap.size + 1) b1 b2 b3 ∧ RB W (w.heap.size + 1 + 1) c1 c2 c3 ∧ RB W B7 r.p r.q r.k ∧ RB W B9 r.p r.q r.k ∧ RB W B11 m.p m.q m.k ∧ RB W B13 m.p m.q m.k ∧ RB W B17 v0.p v0.q v0.k)
  case first =>
    rcases K2 with ⟨rfl, rfl⟩ | h
    all_goals
      have ⟨rA0, rA1, rA2⟩ := rA
      have ⟨r170, r171, r172⟩ := r17
      have l17 := r17.lt
      go_wp2_with (go_at_call 12; (with_reducible refine (K1 _).mono ?_); rintro e w2 ⟨rfl, hN⟩; obtain ⟨q0, q1, q2⟩ := r17.below hN)
      go_meet
      case rel => exact ⟨by first | rfl | simp_all, btr hW hN, T.below hN, rA.below hN, rB.below hN, rC.below hN, r7.below hN, r9.below hN, r11.below hN, r13.below hN, r17.below hN⟩
  clear hW T rA rB rC r7 r9 r11 r13 r17
  obtain ⟨rfl, hW, T, rA, rB, rC, r7, r9, r11, r13, r17⟩ := hcut
  go_upto_region 16 with (fail)
  go_cut [19, 20] from 114 to 119 (fun vp ve W => (∃ B : Nat, vp = Value.pointer (some ⟨B, 0, none⟩) ∧ ve = Value.int .i64 s.e ∧ RB W B s.p s.q s.k) ∧ Below w.heap.size w W ∧ Tab W ∧ RB W w.heap.size a1 a2 a3 ∧ RB W (w.heap.size + 1) b1 b2 b3 ∧ RB W (w.heap.size + 1 + 1) c1 c2 c3 ∧ RB W B7 r.p r.q r.k ∧ RB W B9 r.p r.q r.k ∧ RB W B11 m.p m.q m.k ∧ RB W B13 m.p m.q m.k ∧ RB W B17 v0.p v0.q v0.k)
  case first =>
    have ⟨rB0, rB1, rB2⟩ := rB
    have ⟨rC0, rC1, rC2⟩ := rC
    go_wp2_with (go_at_call 17; (with_reducible refine (A3 _ T).mono ?_); rintro e w2 ⟨rfl, hN⟩; unfold rtV)
    go_meet
    case rel => exact ⟨⟨_, rfl, rfl, RB.new _ _ _ _⟩, bal (btr hW hN) _, (T.below hN).alloc _, (rA.below hN).alloc _, (rB.below hN).alloc _, (rC.below hN).alloc _, (r7.below hN).alloc _, (r9.below hN).alloc _, (r11.below hN).alloc _, (r13.below hN).alloc _, (r17.below hN).alloc _⟩
  clear hW T rA rB rC r7 r9 r11 r13 r17
  obtain ⟨⟨B19, rfl, rfl, r19⟩, hW, T, rA, rB, rC, r7, r9, r11, r13, r17⟩ := hcut
  go_upto_region 17 with (fail)
  go_cut [125] from 120 to 125 (fun v W => v = Value.bool (r.e == 0 && s.e == 0) ∧ Below w.heap.size w W ∧ Tab W ∧ RB W w.heap.size a1 a2 a3 ∧ RB W (w.heap.size + 1) b1 b2 b3 ∧ RB W (w.heap.size + 1 + 1) c1 c2 c3 ∧ RB W B7 r.p r.q r.k ∧ RB W B9 r.p r.q r.k ∧ RB W B11 m.p m.q m.k ∧ RB W B13 m.p m.q m.k ∧ RB W B17 v0.p v0.q v0.k ∧ RB W B19 s.p s.q s.k)
  case first =>
    cases h0 : (r.e == 0) <;> cases h1 : (s.e == 0)
    all_goals
      go_wp2
      go_meet
      case rel => exact ⟨by rw [h0, h1]; rfl, hW, T, rA, rB, rC, r7, r9, r11, r13, r17, r19⟩
  clear hW T rA rB rC r7 r9 r11 r13 r17 r19
  obtain ⟨rfl, hW, T, rA, rB, rC, r7, r9, r11, r13, r17, r19⟩ := hcut
  go_upto_if 125 with (fail)
  go_cut [22] from 120 to 145 (fun _ W => Below w.heap.size w W ∧ Tab W ∧ RB W w.heap.size a1 a2 a3 ∧ RB W (w.heap.size + 1) b1 b2 b3 ∧ RB W (w.heap.size + 1 + 1) c1 c2 c3 ∧ RB W B7 r.p r.q r.k ∧ RB W B9 r.p r.q r.k ∧ RB W B11 m.p m.q m.k ∧ RB W B13 m.p m.q m.k ∧ RB W B17 v0.p v0.q v0.k ∧ RB W B19 s.p s.q s.k)
  case first =>
    cases hb : (r.e == 0 && s.e == 0)
    case true =>
      obtain ⟨h0, h1⟩ : r.e = 0 ∧ s.e = 0 := by simpa [and_assoc] using hb
      clear hb
      have A4 := A4 h0 h1
      have A5 := A5 h0 h1
      clear h0 h1
      go_upto_region 18 with (fail)
      go_cut [21, 22] from 126 to 131 (fun vp ve W => (∃ B : Nat, vp = Value.pointer (some ⟨B, 0, none⟩) ∧ ve = Value.int .i64 x.e ∧ RB W B x.p x.q x.k) ∧ Below w.heap.size w W ∧ Tab W ∧ RB W w.heap.size a1 a2 a3 ∧ RB W (w.heap.size + 1) b1 b2 b3 ∧ RB W (w.heap.size + 1 + 1) c1 c2 c3 ∧ RB W B7 r.p r.q r.k ∧ RB W B9 r.p r.q r.k ∧ RB W B11 m.p m.q m.k ∧ RB W B13 m.p m.q m.k ∧ RB W B17 v0.p v0.q v0.k ∧ RB W B19 s.p s.q s.k)
      case first =>
        have ⟨r70, r71, r72⟩ := r7
        have ⟨rC0, rC1, rC2⟩ := rC
        go_wp2_with (go_at_call 17; (with_reducible refine (A4 _ T).mono ?_); rintro e w2 ⟨rfl, hN⟩; unfold rtV)
        go_meet
        case rel => exact ⟨⟨_, rfl, rfl, RB.new _ _ _ _⟩, bal (btr hW hN) _, (T.below hN).alloc _, (rA.below hN).alloc _, (rB.below hN).alloc _, (rC.below hN).alloc _, (r7.below hN).alloc _, (r9.below hN).alloc _, (r11.below hN).alloc _, (r13.below hN).alloc _, (r17.below hN).alloc _, (r19.below hN).alloc _⟩
      clear hW T rA rB rC r7 r9 r11 r13 r17 r19
      obtain ⟨⟨B21, rfl, rfl, r21⟩, hW, T, rA, rB, rC, r7, r9, r11, r13, r17, r19⟩ := hcut
      go_upto_region 19 with (fail)
      go_cut [23, 24] from 132 to 137 (fun vp ve W => (∃ B : Nat, vp = Value.pointer (some ⟨B, 0, none⟩) ∧ ve = Value.int .i64 x.e ∧ RB W B x.p x.q x.k) ∧ Below w.heap.size w W ∧ Tab W ∧ RB W w.heap.size a1 a2 a3 ∧ RB W (w.heap.size + 1) b1 b2 b3 ∧ RB W (w.heap.size + 1 + 1) c1 c2 c3 ∧ RB W B7 r.p r.q r.k ∧ RB W B9 r.p r.q r.k ∧ RB W B11 m.p m.q m.k ∧ RB W B13 m.p m.q m.k ∧ RB W B17 v0.p v0.q v0.k ∧ RB W B19 s.p s.q s.k ∧ RB W B21 x.p x.q x.k)
      case first =>
        have ⟨rA0, rA1, rA2⟩ := rA
        have ⟨r190, r191, r192⟩ := r19
        go_wp2_with (go_at_call 17; (with_reducible refine (A5 _ T).mono ?_); rintro e w2 ⟨rfl, hN⟩; unfold rtV)
        go_meet
        case rel => exact ⟨⟨_, rfl, rfl, RB.new _ _ _ _⟩, bal (btr hW hN) _, (T.below hN).alloc _, (rA.below hN).alloc _, (rB.below hN).alloc _, (rC.below hN).alloc _, (r7.below hN).alloc _, (r9.below hN).alloc _, (r11.below hN).alloc _, (r13.below hN).alloc _, (r17.below hN).alloc _, (r19.below hN).alloc _, (r21.below hN).alloc _⟩
      clear hW T rA rB rC r7 r9 r11 r13 r17 r19 r21
      obtain ⟨⟨B23, rfl, rfl, r23⟩, hW, T, rA, rB, rC, r7, r9, r11, r13, r17, r19, r21⟩ := hcut
      have ⟨r210, r211, r212⟩ := r21
      have ⟨r230, r231, r232⟩ := r23
      go_wp2
      go_meet
      case rel => exact ⟨hW, T, rA, rB, rC, r7, r9, r11, r13, r17, r19⟩
    case false =>
      clear hb
      go_wp2
      go_meet
      case rel => exact ⟨hW, T, rA, rB, rC, r7, r9, r11, r13, r17, r19⟩
  clear hW T rA rB rC r7 r9 r11 r13 r17 r19
  obtain ⟨hW, T, rA, rB, rC, r7, r9, r11, r13, r17, r19⟩ := hcut
  go_upto_region 22 with (fail)
  go_cut [25, 26] from 146 to 151 (fun vp ve W => (∃ B : Nat, vp = Value.pointer (some ⟨B, 0, none⟩) ∧ ve = Value.int .i64 t.e ∧ RB W B t.p t.q t.k) ∧ Below w.heap.size w W ∧ Tab W ∧ RB W w.heap.size a1 a2 a3 ∧ RB W (w.heap.size + 1) b1 b2 b3 ∧ RB W (w.heap.size + 1 + 1) c1 c2 c3 ∧ RB W B7 r.p r.q r.k ∧ RB W B9 r.p r.q r.k ∧ RB W B11 m.p m.q m.k ∧ RB W B13 m.p m.q m.k ∧ RB W B17 v0.p v0.q v0.k ∧ RB W B19 s.p s.q s.k)
  case first =>
    have ⟨rB0, rB1, rB2⟩ := rB
    have ⟨rC0, rC1, rC2⟩ := rC
    go_wp2_with (go_at_call 19; (with_reducible refine (M3 _ T).mono ?_); rintro e w2 ⟨rfl, hN⟩; unfold rtV)
    go_meet
    case rel => exact ⟨⟨_, rfl, rfl, RB.new _ _ _ _⟩, bal (btr hW hN) _, (T.below hN).alloc _, (rA.below hN).alloc _, (rB.below hN).alloc _, (rC.below hN).alloc _, (r7.below hN).alloc _, (r9.below hN).alloc _, (r11.below hN).alloc _, (r13.below hN).alloc _, (r17.below hN).alloc _, (r19.below hN).alloc _⟩
  clear hW T rA rB rC r7 r9 r11 r13 r17 r19
  obtain ⟨⟨B25, rfl, rfl, r25⟩, hW, T, rA, rB, rC, r7, r9, r11, r13, r17, r19⟩ := hcut
  go_upto_region 23 with (fail)
  go_cut [157] from 152 to 157 (fun v W => v = Value.bool (m.e == 0 && t.e == 0) ∧ Below w.heap.size w W ∧ Tab W ∧ RB W w.heap.size a1 a2 a3 ∧ RB W (w.heap.size + 1) b1 b2 b3 ∧ RB W (w.heap.size + 1 + 1) c1 c2 c3 ∧ RB W B7 r.p r.q r.k ∧ RB W B9 r.p r.q r.k ∧ RB W B11 m.p m.q m.k ∧ RB W B13 m.p m.q m.k ∧ RB W B17 v0.p v0.q v0.k ∧ RB W B19 s.p s.q s.k ∧ RB W B25 t.p t.q t.k)
  case first =>
    cases h0 : (m.e == 0) <;> cases h1 : (t.e == 0)
    all_goals
      go_wp2
      go_meet
      case rel => exact ⟨by rw [h0, h1]; rfl, hW, T, rA, rB, rC, r7, r9, r11, r13, r17, r19, r25⟩
  clear hW T rA rB rC r7 r9 r11 r13 r17 r19 r25
  obtain ⟨rfl, hW, T, rA, rB, rC, r7, r9, r11, r13, r17, r19, r25⟩ := hcut
  go_upto_if 157 with (fail)
  go_cut [28] from 152 to 177 (fun _ W => Below w.heap.size w W ∧ Tab W ∧ RB W w.heap.size a1 a2 a3 ∧ RB W (w.heap.size + 1) b1 b2 b3 ∧ RB W (w.heap.size + 1 + 1) c1 c2 c3 ∧ RB W B7 r.p r.q r.k ∧ RB W B9 r.p r.q r.k ∧ RB W B11 m.p m.q m.k ∧ RB W B13 m.p m.q m.k ∧ RB W B17 v0.p v0.q v0.k ∧ RB W B19 s.p s.q s.k ∧ RB W B25 t.p t.q t.k)
  case first =>
    cases hb : (m.e == 0 && t.e == 0)
    case true =>
      obtain ⟨h0, h1⟩ : m.e = 0 ∧ t.e = 0 := by simpa [and_assoc] using hb
      clear hb
      have M4 := M4 h0 h1
      have M5 := M5 h0 h1
      clear h0 h1
      go_upto_region 24 with (fail)
      go_cut [27, 28] from 158 to 163 (fun vp ve W => (∃ B : Nat, vp = Value.pointer (some ⟨B, 0, none⟩) ∧ ve = Value.int .i64 y.e ∧ RB W B y.p y.q y.k) ∧ Below w.heap.size w W ∧ Tab W ∧ RB W w.heap.size a1 a2 a3 ∧ RB W (w.heap.size + 1) b1 b2 b3 ∧ RB W (w.heap.size + 1 + 1) c1 c2 c3 ∧ RB W B7 r.p r.q r.k ∧ RB W B9 r.p r.q r.k ∧ RB W B11 m.p m.q m.k ∧ RB W B13 m.p m.q m.k ∧ RB W B17 v0.p v0.q v0.k ∧ RB W B19 s.p s.q s.k ∧ RB W B25 t.p t.q t.k)
      case first =>
        have ⟨r110, r111, r112⟩ := r11
        have ⟨rC0, rC1, rC2⟩ := rC
        go_wp2_with (go_at_call 19; (with_reducible refine (M4 _ T).mono ?_); rintro e w2 ⟨rfl, hN⟩; unfold rtV)
        go_meet
        case rel => exact ⟨⟨_, rfl, rfl, RB.new _ _ _ _⟩, bal (btr hW hN) _, (T.below hN).alloc _, (rA.below hN).alloc _, (rB.below hN).alloc _, (rC.below hN).alloc _, (r7.below hN).alloc _, (r9.below hN).alloc _, (r11.below hN).alloc _, (r13.below hN).alloc _, (r17.below hN).alloc _, (r19.below hN).alloc _, (r25.below hN).alloc _⟩
      clear hW T rA rB rC r7 r9 r11 r13 r17 r19 r25
      obtain ⟨⟨B27, rfl, rfl, r27⟩, hW, T, rA, rB, rC, r7, r9, r11, r13, r17, r19, r25⟩ := hcut
      go_upto_region 25 with (fail)
      go_cut [29, 30] from 164 to 169 (fun vp ve W => (∃ B : Nat, vp = Value.pointer (some ⟨B, 0, none⟩) ∧ ve = Value.int .i64 y.e ∧ RB W B y.p y.q y.k) ∧ Below w.heap.size w W ∧ Tab W ∧ RB W w.heap.size a1 a2 a3 ∧ RB W (w.heap.size + 1) b1 b2 b3 ∧ RB W (w.heap.size + 1 + 1) c1 c2 c3 ∧ RB W B7 r.p r.q r.k ∧ RB W B9 r.p r.q r.k ∧ RB W B11 m.p m.q m.k ∧ RB W B13 m.p m.q m.k ∧ RB W B17 v0.p v0.q v0.k ∧ RB W B19 s.p s.q s.k ∧ RB W B25 t.p t.q t.k ∧ RB W B27 y.p y.q y.k)
      case first =>
        have ⟨rA0, rA1, rA2⟩ := rA
        have ⟨r250, r251, r252⟩ := r25
        go_wp2_with (go_at_call 19; (with_reducible refine (M5 _ T).mono ?_); rintro e w2 ⟨rfl, hN⟩; unfold rtV)
        go_meet
        case rel => exact ⟨⟨_, rfl, rfl, RB.new _ _ _ _⟩, bal (btr hW hN) _, (T.below hN).alloc _, (rA.below hN).alloc _, (rB.below hN).alloc _, (rC.below hN).alloc _, (r7.below hN).alloc _, (r9.below hN).alloc _, (r11.below hN).alloc _, (r13.below hN).alloc _, (r17.below hN).alloc _, (r19.below hN).alloc _, (r25.below hN).alloc _, (r27.below hN).alloc _⟩
      clear hW T rA rB rC r7 r9 r11 r13 r17 r19 r25 r27
      obtain ⟨⟨B29, rfl, rfl, r29⟩, hW, T, rA, rB, rC, r7, r9, r11, r13, r17, r19, r25, r27⟩ := hcut
      have ⟨r270, r271, r272⟩ := r27
      have ⟨r290, r291, r292⟩ := r29
      go_wp2
      go_meet
      case rel => exact ⟨hW, T, rA, rB, rC, r7, r9, r11, r13, r17, r19, r25⟩
    case false =>
      clear hb
      go_wp2
      go_meet
      case rel => exact ⟨hW, T, rA, rB, rC, r7, r9, r11, r13, r17, r19, r25⟩
  clear hW T rA rB rC r7 r9 r11 r13 r17 r19 r25
  obtain ⟨hW, T, rA, rB, rC, r7, r9, r11, r13, r17, r19, r25⟩ := hcut
  go_upto_region 28 with (fail)
  go_cut [31, 32] from 178 to 183 (fun vp ve W => (∃ B : Nat, vp = Value.pointer (some ⟨B, 0, none⟩) ∧ ve = Value.int .i64 u.e ∧ RB W B u.p u.q u.k) ∧ Below w.heap.size w W ∧ Tab W ∧ RB W w.heap.size a1 a2 a3 ∧ RB W (w.heap.size + 1) b1 b2 b3 ∧ RB W (w.heap.size + 1 + 1) c1 c2 c3 ∧ RB W B7 r.p r.q r.k ∧ RB W B9 r.p r.q r.k ∧ RB W B11 m.p m.q m.k ∧ RB W B13 m.p m.q m.k ∧ RB W B17 v0.p v0.q v0.k ∧ RB W B19 s.p s.q s.k ∧ RB W B25 t.p t.q t.k)
  case first =>
    have ⟨rA0, rA1, rA2⟩ := rA
    have ⟨rC0, rC1, rC2⟩ := rC
    go_wp2_with (go_at_call 19; (with_reducible refine (M6 _ T).mono ?_); rintro e w2 ⟨rfl, hN⟩; unfold rtV)
    go_meet
    case rel => exact ⟨⟨_, rfl, rfl, RB.new _ _ _ _⟩, bal (btr hW hN) _, (T.below hN).alloc _, (rA.below hN).alloc _, (rB.below hN).alloc _, (rC.below hN).alloc _, (r7.below hN).alloc _, (r9.below hN).alloc _, (r11.below hN).alloc _, (r13.below hN).alloc _, (r17.below hN).alloc _, (r19.below hN).alloc _, (r25.below hN).alloc _⟩
  clear hW T rA rB rC r7 r9 r11 r13 r17 r19 r25
  obtain ⟨⟨B31, rfl, rfl, r31⟩, hW, T, rA, rB, rC, r7, r9, r11, r13, r17, r19, r25⟩ := hcut
  go_upto_region 29 with (fail)
  go_cut [193] from 184 to 193 (fun v W => v = Value.bool (s.e == 0 && m.e == 0 && u.e == 0) ∧ Below w.heap.size w W ∧ Tab W ∧ RB W w.heap.size a1 a2 a3 ∧ RB W (w.heap.size + 1) b1 b2 b3 ∧ RB W (w.heap.size + 1 + 1) c1 c2 c3 ∧ RB W B7 r.p r.q r.k ∧ RB W B9 r.p r.q r.k ∧ RB W B11 m.p m.q m.k ∧ RB W B13 m.p m.q m.k ∧ RB W B17 v0.p v0.q v0.k ∧ RB W B19 s.p s.q s.k ∧ RB W B25 t.p t.q t.k ∧ RB W B31 u.p u.q u.k)
  case first =>
    cases h0 : (s.e == 0) <;> cases h1 : (m.e == 0) <;> cases h2 : (u.e == 0)
    all_goals
      go_wp2
      go_meet
      case rel => exact ⟨by rw [h0, h1, h2]; rfl, hW, T, rA, rB, rC, r7, r9, r11, r13, r17, r19, r25, r31⟩
  clear hW T rA rB rC r7 r9 r11 r13 r17 r19 r25 r31
  obtain ⟨rfl, hW, T, rA, rB, rC, r7, r9, r11, r13, r17, r19, r25, r31⟩ := hcut
  go_upto_if 193 with (fail)
  go_cut [34] from 184 to 213 (fun _ W => Below w.heap.size w W ∧ Tab W ∧ RB W w.heap.size a1 a2 a3 ∧ RB W (w.heap.size + 1) b1 b2 b3 ∧ RB W (w.heap.size + 1 + 1) c1 c2 c3 ∧ RB W B7 r.p r.q r.k ∧ RB W B9 r.p r.q r.k ∧ RB W B11 m.p m.q m.k ∧ RB W B13 m.p m.q m.k ∧ RB W B17 v0.p v0.q v0.k ∧ RB W B19 s.p s.q s.k ∧ RB W B25 t.p t.q t.k ∧ RB W B31 u.p u.q u.k)
  case first =>
    cases hb : (s.e == 0 && m.e == 0 && u.e == 0)
    case true =>
      obtain ⟨h0, h1, h2⟩ : s.e = 0 ∧ m.e = 0 ∧ u.e = 0 := by simpa [and_assoc] using hb
      clear hb
      have M7 := M7 h0 h1 h2
      have A6 := A6 h0 h1 h2
      clear h0 h1 h2
      go_upto_region 30 with (fail)
      go_cut [33, 34] from 194 to 199 (fun vp ve W => (∃ B : Nat, vp = Value.pointer (some ⟨B, 0, none⟩) ∧ ve = Value.int .i64 z.e ∧ RB W B z.p z.q z.k) ∧ Below w.heap.size w W ∧ Tab W ∧ RB W w.heap.size a1 a2 a3 ∧ RB W (w.heap.size + 1) b1 b2 b3 ∧ RB W (w.heap.size + 1 + 1) c1 c2 c3 ∧ RB W B7 r.p r.q r.k ∧ RB W B9 r.p r.q r.k ∧ RB W B11 m.p m.q m.k ∧ RB W B13 m.p m.q m.k ∧ RB W B17 v0.p v0.q v0.k ∧ RB W B19 s.p s.q s.k ∧ RB W B25 t.p t.q t.k ∧ RB W B31 u.p u.q u.k)
      case first =>
        have ⟨rA0, rA1, rA2⟩ := rA
        have ⟨r190, r191, r192⟩ := r19
        go_wp2_with (go_at_call 19; (with_reducible refine (M7 _ T).mono ?_); rintro e w2 ⟨rfl, hN⟩; unfold rtV)
        go_meet
        case rel => exact ⟨⟨_, rfl, rfl, RB.new _ _ _ _⟩, bal (btr hW hN) _, (T.below hN).alloc _, (rA.below hN).alloc _, (rB.below hN).alloc _, (rC.below hN).alloc _, (r7.below hN).alloc _, (r9.below hN).alloc _, (r11.below hN).alloc _, (r13.below hN).alloc _, (r17.below hN).alloc _, (r19.below hN).alloc _, (r25.below hN).alloc _, (r31.below hN).alloc _⟩
      clear hW T rA rB rC r7 r9 r11 r13 r17 r19 r25 r31
      obtain ⟨⟨B33, rfl, rfl, r33⟩, hW, T, rA, rB, rC, r7, r9, r11, r13, r17, r19, r25, r31⟩ := hcut
      go_upto_region 31 with (fail)
      go_cut [35, 36] from 200 to 205 (fun vp ve W => (∃ B : Nat, vp = Value.pointer (some ⟨B, 0, none⟩) ∧ ve = Value.int .i64 z.e ∧ RB W B z.p z.q z.k) ∧ Below w.heap.size w W ∧ Tab W ∧ RB W w.heap.size a1 a2 a3 ∧ RB W (w.heap.size + 1) b1 b2 b3 ∧ RB W (w.heap.size + 1 + 1) c1 c2 c3 ∧ RB W B7 r.p r.q r.k ∧ RB W B9 r.p r.q r.k ∧ RB W B11 m.p m.q m.k ∧ RB W B13 m.p m.q m.k ∧ RB W B17 v0.p v0.q v0.k ∧ RB W B19 s.p s.q s.k ∧ RB W B25 t.p t.q t.k ∧ RB W B31 u.p u.q u.k ∧ RB W B33 z.p z.q z.k)
      case first =>
        have ⟨r110, r111, r112⟩ := r11
        have ⟨r310, r311, r312⟩ := r31
        go_wp2_with (go_at_call 17; (with_reducible refine (A6 _ T).mono ?_); rintro e w2 ⟨rfl, hN⟩; unfold rtV)
        go_meet
        case rel => exact ⟨⟨_, rfl, rfl, RB.new _ _ _ _⟩, bal (btr hW hN) _, (T.below hN).alloc _, (rA.below hN).alloc _, (rB.below hN).alloc _, (rC.below hN).alloc _, (r7.below hN).alloc _, (r9.below hN).alloc _, (r11.below hN).alloc _, (r13.below hN).alloc _, (r17.below hN).alloc _, (r19.below hN).alloc _, (r25.below hN).alloc _, (r31.below hN).alloc _, (r33.below hN).alloc _⟩
      clear hW T rA rB rC r7 r9 r11 r13 r17 r19 r25 r31 r33
      obtain ⟨⟨B35, rfl, rfl, r35⟩, hW, T, rA, rB, rC, r7, r9, r11, r13, r17, r19, r25, r31, r33⟩ := hcut
      have ⟨r330, r331, r332⟩ := r33
      have ⟨r350, r351, r352⟩ := r35
      go_wp2
      go_meet
      case rel => exact ⟨hW, T, rA, rB, rC, r7, r9, r11, r13, r17, r19, r25, r31⟩
    case false =>
      clear hb
      go_wp2
      go_meet
      case rel => exact ⟨hW, T, rA, rB, rC, r7, r9, r11, r13, r17, r19, r25, r31⟩
  clear hW T rA rB rC r7 r9 r11 r13 r17 r19 r25 r31
  obtain ⟨hW, T, rA, rB, rC, r7, r9, r11, r13, r17, r19, r25, r31⟩ := hcut
  go_wp2
  go_ret
  exact ⟨rfl, hW⟩

theorem field_any (a1 a2 a3 b1 b2 b3 c1 c2 c3 : Int) (w : World) (hT : Tab w) :
    Calls Tryd.prog 7 #[rv a1 a2 a3, rv b1 b2 b3, rv c1 c2 c3] w fun x w' => x = .returned (.bool true) ∧ Below w.heap.size w w' := by
  have key : ∃ ce, (∀ w, Calls Tryd.prog 12 #[rv a1 a2 a3] w fun z w' => z = .returned (.int .i64 ce) ∧ Below w.heap.size w w') ∧ (ce = 0 ∧ subR a1 a2 a3 a1 a2 a3 = ⟨0, 0, 0, 0⟩ ∨ ¬ ce = 0) := by
    by_cases h : isRoot a1 a2 a3
    · exact ⟨0, fun w => check_yes _ _ _ w h, Or.inl ⟨rfl, sub_self h⟩⟩
    · exact ⟨2, fun w => check_no _ _ _ w h, Or.inr (by decide)⟩
  obtain ⟨ce, K1, K2⟩ := key
  refine field_core a1 a2 a3 b1 b2 b3 c1 c2 c3 (addR a1 a2 a3 b1 b2 b3) (mulR a1 a2 a3 b1 b2 b3) (addR b1 b2 b3 c1 c2 c3) (mulR b1 b2 b3 c1 c2 c3) (mulR a1 a2 a3 c1 c2 c3) _ _ _ _ ce w hT
    (fun w hT => add_any _ _ _ _ _ _ w hT) (fun w hT => by rw [add_comm']; exact add_any _ _ _ _ _ _ w hT) (fun w hT => mul_any _ _ _ _ _ _ w hT) (fun w hT => by rw [mul_comm']; exact mul_any _ _ _ _ _ _ w hT)
    (fun h w hT => by rw [← sub_back h]; exact sub_any _ _ _ _ _ _ w hT) (fun w hT => sub_any _ _ _ _ _ _ w hT) K1 K2
    (fun w hT => add_any _ _ _ _ _ _ w hT) (fun _ _ w hT => add_any _ _ _ _ _ _ w hT) (fun h g w hT => by rw [add_assoc' h g]; exact add_any _ _ _ _ _ _ w hT)
    (fun w hT => mul_any _ _ _ _ _ _ w hT) (fun _ _ w hT => mul_any _ _ _ _ _ _ w hT) (fun h g w hT => by rw [mul_assoc' h g]; exact mul_any _ _ _ _ _ _ w hT)
    (fun w hT => mul_any _ _ _ _ _ _ w hT) (fun _ _ _ w hT => mul_any _ _ _ _ _ _ w hT) (fun i g k w hT => by rw [mul_add' i g k]; exact add_any _ _ _ _ _ _ w hT)
end Go.Proofs.YtalaacfoaelipaaDoor
