/-
  The law PauliProducts answers true, whatever the arguments.
-/
import Derived.Test.YtbkdehnemhkbkaaT4
import Derived.Test.YtbkdehnemhkbkaaR3
namespace Go.Proofs.Ytbkdehnemhkbkaa
open Go.RowKit Go.Sort

theorem keep1 {V W W' : World} {A : Nat} {n : Int} {x z : Nat} {f : Int} (h : Below V.heap.size V W ∧ C4 W A n x z f) (hN : Below W.heap.size W W') : Below V.heap.size V W' ∧ C4 W' A n x z f := ⟨btr h.1 hN, C4.below h.2 hN⟩
abbrev CalV (f : Nat) (args : Array Value) (v : Value) (e : Int) : Prop := ∀ w, Calls Try.prog f args w fun r w' => r = .returned (.tuple #[v, .int .i64 e]) ∧ Below w.heap.size w w'
abbrev ChkV (f : Nat) (args : Array Value) (e : Int) : Prop := ∀ w, Calls Try.prog f args w fun r w' => r = .returned (.int .i64 e) ∧ Below w.heap.size w w'

set_option maxHeartbeats 8000000 in
set_option maxRecDepth 100000 in
theorem products_core (n : Int) (x z : Nat) (f : Int) (n' : Int) (x' z' : Nat) (f' : Int) (ce e1 e2 e3 e4 e5 wt : Int) (c : Bool) (S : ByteArray) (mn : Int) (mx mz : Nat) (mf : Int) (dn : Int) (dx dz : Nat) (df : Int) (w : World)
    (K1 : ChkV 13 #[pv n x z f] ce) (K2 : ChkV 14 #[pv n x z f] ce)
    (A15 : CalV 15 #[pv n x z f, pv n' x' z' f'] (pv mn mx mz mf) e1)
    (A16 : CalV 16 #[pv n x z f, pv n' x' z' f'] (.bool c) e2)
    (A17 : CalV 17 #[pv n x z f] (.int .i64 wt) e3)
    (A18 : CalV 18 #[pv n x z f] (pv dn dx dz df) e4)
    (A19 : CalV 19 #[pv n x z f] (.string S) e5)
    (A20 : CalV 20 #[pv n x z f, pv n' x' z' f'] (pv mn mx mz mf) e1)
    (A21 : CalV 21 #[pv n x z f, pv n' x' z' f'] (.bool c) e2)
    (A22 : CalV 22 #[pv n x z f] (.int .i64 wt) e3)
    (A23 : CalV 23 #[pv n x z f] (pv dn dx dz df) e4)
    (A24 : CalV 24 #[pv n x z f] (.string S) e5)
    : Calls Try.prog 4 #[pv n x z f, pv n' x' z' f'] w fun r w' => r = .returned (.bool true) ∧ Below w.heap.size w w' := by
  obtain ⟨hW, rA, rB⟩ := two_boxes w n x z f n' x' z' f'
  have AW := fun w => awake_any w
  have hc4 := rA.c4
  obtain ⟨W0, hW0⟩ : ∃ W0, W0 = (w.alloc (pc n x z f)).alloc (pc n' x' z' f') := ⟨_, rfl⟩
  have hV := Below.refl W0.heap.size W0
  go_enter Try.func4, Try.ntmps4
  go_upto_region 1 with (fail)
  rw [← hW0]
  rw [← hW0] at hW rA rB hc4
  clear hW0
  go_region_held3 (fun w' => Below W0.heap.size W0 w' ∧ C4 w' w.heap.size n x z f)
    ((first | exact ⟨below_drew hV, hc4⟩ | exact keep1 (by assumption) hN))
    (first
      | (go_at_call 8; (with_reducible refine (AW _).mono ?_); rintro e w1 ⟨rfl, hN⟩; have hK := btr (below_drew hV) hN)
      | (go_at_call 13; (with_reducible refine (K1 _).mono ?_); rintro e w2 ⟨rfl, hN⟩; have hK := btr hK hN)
      | (go_at_call 14; (with_reducible refine (K2 _).mono ?_); rintro e w3 ⟨rfl, hN⟩; have hK := btr hK hN))
  replace hW := btr hW hK
  replace rA := rA.below hK
  replace rB := rB.below hK
  clear K1 K2 AW hc4 hV hK
  go_upto_region 3 with (fail)
  go_cut [5, 6] from 34 to 39 (fun vp ve W => (∃ B : Nat, vp = Value.pointer (some ⟨B, 0, none⟩) ∧ ve = Value.int .i64 e1 ∧ PB W B mn mx mz mf) ∧ Below w.heap.size w W ∧ PB W w.heap.size n x z f ∧ PB W (w.heap.size + 1) n' x' z' f')
  case first =>
    have ⟨u00, u01, u02, u03, _, _, _, _⟩ := rA
    have ⟨u10, u11, u12, u13, _, _, _, _⟩ := rB
    go_wp2_with (go_at_call 15; (with_reducible refine (A15 _).mono ?_); rintro e w2 ⟨rfl, hN⟩)
    go_meet
    case rel => exact ⟨⟨_, rfl, rfl, PB.new _ _ _ _ _⟩, bal (btr hW hN) _, (rA.below hN).alloc _, (rB.below hN).alloc _⟩
  clear hW rA rB A15
  obtain ⟨⟨B5, rfl, rfl, r5⟩, hW, rA, rB⟩ := hcut
  go_upto_region 4 with (fail)
  go_cut [7, 8] from 40 to 45 (fun vp ve W => (vp = Value.bool c ∧ ve = Value.int .i64 e2) ∧ Below w.heap.size w W ∧ PB W w.heap.size n x z f ∧ PB W (w.heap.size + 1) n' x' z' f' ∧ PB W B5 mn mx mz mf)
  case first =>
    have ⟨u00, u01, u02, u03, _, _, _, _⟩ := rA
    have ⟨u10, u11, u12, u13, _, _, _, _⟩ := rB
    go_wp2_with (go_at_call 16; (with_reducible refine (A16 _).mono ?_); rintro e w2 ⟨rfl, hN⟩)
    go_meet
    case rel => exact ⟨⟨rfl, rfl⟩, btr hW hN, rA.below hN, rB.below hN, r5.below hN⟩
  clear hW rA rB r5 A16
  obtain ⟨⟨rfl, rfl⟩, hW, rA, rB, r5⟩ := hcut
  go_upto_region 5 with (fail)
  go_cut [9, 10] from 46 to 50 (fun vp ve W => (vp = Value.int .i64 wt ∧ ve = Value.int .i64 e3) ∧ Below w.heap.size w W ∧ PB W w.heap.size n x z f ∧ PB W (w.heap.size + 1) n' x' z' f' ∧ PB W B5 mn mx mz mf)
  case first =>
    have ⟨u00, u01, u02, u03, _, _, _, _⟩ := rA
    go_wp2_with (go_at_call 17; (with_reducible refine (A17 _).mono ?_); rintro e w2 ⟨rfl, hN⟩)
    go_meet
    case rel => exact ⟨⟨rfl, rfl⟩, btr hW hN, rA.below hN, rB.below hN, r5.below hN⟩
  clear hW rA rB r5 A17
  obtain ⟨⟨rfl, rfl⟩, hW, rA, rB, r5⟩ := hcut
  go_upto_region 6 with (fail)
  go_cut [11, 12] from 51 to 55 (fun vp ve W => (∃ B : Nat, vp = Value.pointer (some ⟨B, 0, none⟩) ∧ ve = Value.int .i64 e4 ∧ PB W B dn dx dz df) ∧ Below w.heap.size w W ∧ PB W w.heap.size n x z f ∧ PB W (w.heap.size + 1) n' x' z' f' ∧ PB W B5 mn mx mz mf)
  case first =>
    have ⟨u00, u01, u02, u03, _, _, _, _⟩ := rA
    go_wp2_with (go_at_call 18; (with_reducible refine (A18 _).mono ?_); rintro e w2 ⟨rfl, hN⟩)
    go_meet
    case rel => exact ⟨⟨_, rfl, rfl, PB.new _ _ _ _ _⟩, bal (btr hW hN) _, (rA.below hN).alloc _, (rB.below hN).alloc _, (r5.below hN).alloc _⟩
  clear hW rA rB r5 A18
  obtain ⟨⟨B11, rfl, rfl, r11⟩, hW, rA, rB, r5⟩ := hcut
  go_upto_region 7 with (fail)
  go_cut [13, 14] from 56 to 60 (fun vp ve W => (vp = Value.string S ∧ ve = Value.int .i64 e5) ∧ Below w.heap.size w W ∧ PB W w.heap.size n x z f ∧ PB W (w.heap.size + 1) n' x' z' f' ∧ PB W B5 mn mx mz mf ∧ PB W B11 dn dx dz df)
  case first =>
    have ⟨u00, u01, u02, u03, _, _, _, _⟩ := rA
    go_wp2_with (go_at_call 19; (with_reducible refine (A19 _).mono ?_); rintro e w2 ⟨rfl, hN⟩)
    go_meet
    case rel => exact ⟨⟨rfl, rfl⟩, btr hW hN, rA.below hN, rB.below hN, r5.below hN, r11.below hN⟩
  clear hW rA rB r5 r11 A19
  obtain ⟨⟨rfl, rfl⟩, hW, rA, rB, r5, r11⟩ := hcut
  go_upto_region 8 with (fail)
  go_cut [15, 16] from 61 to 66 (fun vp ve W => (∃ B : Nat, vp = Value.pointer (some ⟨B, 0, none⟩) ∧ ve = Value.int .i64 e1 ∧ PB W B mn mx mz mf) ∧ Below w.heap.size w W ∧ PB W w.heap.size n x z f ∧ PB W (w.heap.size + 1) n' x' z' f' ∧ PB W B5 mn mx mz mf ∧ PB W B11 dn dx dz df)
  case first =>
    have ⟨u00, u01, u02, u03, _, _, _, _⟩ := rA
    have ⟨u10, u11, u12, u13, _, _, _, _⟩ := rB
    go_wp2_with (go_at_call 20; (with_reducible refine (A20 _).mono ?_); rintro e w2 ⟨rfl, hN⟩)
    go_meet
    case rel => exact ⟨⟨_, rfl, rfl, PB.new _ _ _ _ _⟩, bal (btr hW hN) _, (rA.below hN).alloc _, (rB.below hN).alloc _, (r5.below hN).alloc _, (r11.below hN).alloc _⟩
  clear hW rA rB r5 r11 A20
  obtain ⟨⟨B15, rfl, rfl, r15⟩, hW, rA, rB, r5, r11⟩ := hcut
  go_upto_region 9 with (fail)
  go_cut [17, 18] from 67 to 72 (fun vp ve W => (vp = Value.bool c ∧ ve = Value.int .i64 e2) ∧ Below w.heap.size w W ∧ PB W w.heap.size n x z f ∧ PB W (w.heap.size + 1) n' x' z' f' ∧ PB W B5 mn mx mz mf ∧ PB W B11 dn dx dz df ∧ PB W B15 mn mx mz mf)
  case first =>
    have ⟨u00, u01, u02, u03, _, _, _, _⟩ := rA
    have ⟨u10, u11, u12, u13, _, _, _, _⟩ := rB
    go_wp2_with (go_at_call 21; (with_reducible refine (A21 _).mono ?_); rintro e w2 ⟨rfl, hN⟩)
    go_meet
    case rel => exact ⟨⟨rfl, rfl⟩, btr hW hN, rA.below hN, rB.below hN, r5.below hN, r11.below hN, r15.below hN⟩
  clear hW rA rB r5 r11 r15 A21
  obtain ⟨⟨rfl, rfl⟩, hW, rA, rB, r5, r11, r15⟩ := hcut
  go_upto_region 10 with (fail)
  go_cut [19, 20] from 73 to 77 (fun vp ve W => (vp = Value.int .i64 wt ∧ ve = Value.int .i64 e3) ∧ Below w.heap.size w W ∧ PB W w.heap.size n x z f ∧ PB W (w.heap.size + 1) n' x' z' f' ∧ PB W B5 mn mx mz mf ∧ PB W B11 dn dx dz df ∧ PB W B15 mn mx mz mf)
  case first =>
    have ⟨u00, u01, u02, u03, _, _, _, _⟩ := rA
    go_wp2_with (go_at_call 22; (with_reducible refine (A22 _).mono ?_); rintro e w2 ⟨rfl, hN⟩)
    go_meet
    case rel => exact ⟨⟨rfl, rfl⟩, btr hW hN, rA.below hN, rB.below hN, r5.below hN, r11.below hN, r15.below hN⟩
  clear hW rA rB r5 r11 r15 A22
  obtain ⟨⟨rfl, rfl⟩, hW, rA, rB, r5, r11, r15⟩ := hcut
  go_upto_region 11 with (fail)
  go_cut [21, 22] from 78 to 82 (fun vp ve W => (∃ B : Nat, vp = Value.pointer (some ⟨B, 0, none⟩) ∧ ve = Value.int .i64 e4 ∧ PB W B dn dx dz df) ∧ Below w.heap.size w W ∧ PB W w.heap.size n x z f ∧ PB W (w.heap.size + 1) n' x' z' f' ∧ PB W B5 mn mx mz mf ∧ PB W B11 dn dx dz df ∧ PB W B15 mn mx mz mf)
  case first =>
    have ⟨u00, u01, u02, u03, _, _, _, _⟩ := rA
    go_wp2_with (go_at_call 23; (with_reducible refine (A23 _).mono ?_); rintro e w2 ⟨rfl, hN⟩)
    go_meet
    case rel => exact ⟨⟨_, rfl, rfl, PB.new _ _ _ _ _⟩, bal (btr hW hN) _, (rA.below hN).alloc _, (rB.below hN).alloc _, (r5.below hN).alloc _, (r11.below hN).alloc _, (r15.below hN).alloc _⟩
  clear hW rA rB r5 r11 r15 A23
  obtain ⟨⟨B21, rfl, rfl, r21⟩, hW, rA, rB, r5, r11, r15⟩ := hcut
  go_upto_region 12 with (fail)
  go_cut [23, 24] from 83 to 87 (fun vp ve W => (vp = Value.string S ∧ ve = Value.int .i64 e5) ∧ Below w.heap.size w W ∧ PB W w.heap.size n x z f ∧ PB W (w.heap.size + 1) n' x' z' f' ∧ PB W B5 mn mx mz mf ∧ PB W B11 dn dx dz df ∧ PB W B15 mn mx mz mf ∧ PB W B21 dn dx dz df)
  case first =>
    have ⟨u00, u01, u02, u03, _, _, _, _⟩ := rA
    go_wp2_with (go_at_call 24; (with_reducible refine (A24 _).mono ?_); rintro e w2 ⟨rfl, hN⟩)
    go_meet
    case rel => exact ⟨⟨rfl, rfl⟩, btr hW hN, rA.below hN, rB.below hN, r5.below hN, r11.below hN, r15.below hN, r21.below hN⟩
  clear hW rA rB r5 r11 r15 r21 A24
  obtain ⟨⟨rfl, rfl⟩, hW, rA, rB, r5, r11, r15, r21⟩ := hcut
  have ⟨v00, v01, v02, v03, _, _, _, _⟩ := r5
  have ⟨v10, v11, v12, v13, _, _, _, _⟩ := r15
  have ⟨v20, v21, v22, v23, _, _, _, _⟩ := r11
  have ⟨v30, v31, v32, v33, _, _, _, _⟩ := r21
  go_wp2
  go_ret
  exact ⟨rfl, hW⟩

end Go.Proofs.Ytbkdehnemhkbkaa
