/-
  The law PauliGroup answers true, whatever the arguments.
-/
import Derived.Test.YtbkdehnemhkbkaaP4
namespace Go.Proofs.Ytbkdehnemhkbkaa
open Go.RowKit Go.Sort

abbrev CalR (f : Nat) (args : Array Value) (n : Int) (x z : Nat) (g : Int) : Prop := ∀ w, Calls Try.prog f args w fun r w' => r = .returned (.tuple #[pv n x z g, .int .i64 0]) ∧ Below w.heap.size w w'

set_option maxHeartbeats 8000000 in
set_option maxRecDepth 100000 in
theorem group_core (n ax az af bx bz bf cx cz cf : Nat) (ab ba bc x one d : PS) (yes : Bool) (w : World)
    (K1 : ∀ w, Calls Try.prog 13 #[pv n ax az af] w fun r w' => r = .returned (.int .i64 0) ∧ Below w.heap.size w w')
    (K2 : ∀ w, Calls Try.prog 13 #[pv n bx bz bf] w fun r w' => r = .returned (.int .i64 0) ∧ Below w.heap.size w w')
    (K3 : ∀ w, Calls Try.prog 13 #[pv n cx cz cf] w fun r w' => r = .returned (.int .i64 0) ∧ Below w.heap.size w w')
    (M1 : CalR 15 #[pv n ax az af, pv n bx bz bf] ab.n ab.x ab.z ab.f)
    (M2 : CalR 15 #[pv n bx bz bf, pv n ax az af] ba.n ba.x ba.z ba.f)
    (M3 : CalR 15 #[pv n bx bz bf, pv n cx cz cf] bc.n bc.x bc.z bc.f)
    (M4 : CalR 15 #[pv ab.n ab.x ab.z ab.f, pv n cx cz cf] x.n x.x x.z x.f)
    (M5 : CalR 15 #[pv n ax az af, pv bc.n bc.x bc.z bc.f] x.n x.x x.z x.f)
    (E1 : CalR 10 #[.int .i64 n] one.n one.x one.z one.f)
    (D1 : CalR 18 #[pv n ax az af] d.n d.x d.z d.f)
    (M6 : CalR 15 #[pv n ax az af, pv d.n d.x d.z d.f] one.n one.x one.z one.f)
    (M7 : CalR 15 #[pv d.n d.x d.z d.f, pv n ax az af] one.n one.x one.z one.f)
    (M8 : CalR 15 #[pv one.n one.x one.z one.f, pv n ax az af] n ax az af)
    (M9 : CalR 15 #[pv n ax az af, pv one.n one.x one.z one.f] n ax az af)
    (CM : ∀ w, Calls Try.prog 16 #[pv n ax az af, pv n bx bz bf] w fun r w' => r = .returned (.tuple #[.bool yes, .int .i64 0]) ∧ Below w.heap.size w w')
    (HY : yes = true → ab = ba) (HN : yes = false → ab.n = ba.n ∧ ab.x = ba.x ∧ ab.z = ba.z ∧ ab.f = (ba.f + 2) % 4) (hbf : ba.f < 4) :
    Calls Try.prog 6 #[pv n ax az af, pv n bx bz bf, pv n cx cz cf] w fun r w' => r = .returned (.bool true) ∧ Below w.heap.size w w' := by
  obtain ⟨hW, rA, rB, rC⟩ := three_boxes w n ax az af n bx bz bf n cx cz cf
  have AW := awake_any (((w.alloc (pc n ax az af)).alloc (pc n bx bz bf)).alloc (pc n cx cz cf))
  go_enter Try.func6, Try.ntmps6
  go_upto_region 3 with (go_at_call 8; (with_reducible refine AW.mono ?_); rintro e w1 ⟨rfl, hN⟩; replace hW := btr hW hN; replace rA := rA.below hN; replace rB := rB.below hN; replace rC := rC.below hN)
  clear AW
  have ⟨a0, a1, a2, a3, _, _, _, _⟩ := rA
  go_upto_region 5 with (first
    | (go_at_call 13; (with_reducible refine (K1 _).mono ?_); rintro e w1 ⟨rfl, hN⟩; replace hW := btr hW hN; replace rA := rA.below hN; replace rB := rB.below hN; replace rC := rC.below hN; have ⟨b0, b1, b2, b3, _, _, _, _⟩ := rB)
    | (go_at_call 13; (with_reducible refine (K2 _).mono ?_); rintro e w2 ⟨rfl, hN⟩; replace hW := btr hW hN; replace rA := rA.below hN; replace rB := rB.below hN; replace rC := rC.below hN; have ⟨c0, c1, c2, c3, _, _, _, _⟩ := rC)
    | (go_at_call 13; (with_reducible refine (K3 _).mono ?_); rintro e w3 ⟨rfl, hN⟩; replace hW := btr hW hN; replace rA := rA.below hN; replace rB := rB.below hN; replace rC := rC.below hN; have ⟨a0, a1, a2, a3, _, _, _, _⟩ := rA; have ⟨b0, b1, b2, b3, _, _, _, _⟩ := rB; have ⟨c0, c1, c2, c3, _, _, _, _⟩ := rC))
  clear K1 K2 K3
  go_cut [7, 8] from 54 to 59 (fun vp ve W => (∃ B : Nat, vp = Value.pointer (some ⟨B, 0, none⟩) ∧ ve = Value.int .i64 0 ∧ PB W B ab.n ab.x ab.z ab.f) ∧ Below w.heap.size w W ∧ PB W w.heap.size n ax az af ∧ PB W (w.heap.size + 1) n bx bz bf ∧ PB W (w.heap.size + 1 + 1) n cx cz cf)
  case first =>
    have ⟨u00, u01, u02, u03, _, _, _, _⟩ := rA
    have ⟨u10, u11, u12, u13, _, _, _, _⟩ := rB
    go_wp2_with (go_at_call 15; (with_reducible refine (M1 _).mono ?_); rintro e w2 ⟨rfl, hN⟩)
    go_meet
    case rel => exact ⟨⟨_, rfl, rfl, PB.new _ _ _ _ _⟩, bal (btr hW hN) _, (rA.below hN).alloc _, (rB.below hN).alloc _, (rC.below hN).alloc _⟩
  clear hW rA rB rC
  obtain ⟨⟨B7, rfl, rfl, r7⟩, hW, rA, rB, rC⟩ := hcut
  go_upto_region 6 with (fail)
  go_cut [9, 10] from 60 to 65 (fun vp ve W => (∃ B : Nat, vp = Value.pointer (some ⟨B, 0, none⟩) ∧ ve = Value.int .i64 0 ∧ PB W B ba.n ba.x ba.z ba.f ∧ w.heap.size ≤ B ∧ ¬ B7 = B) ∧ Below w.heap.size w W ∧ PB W w.heap.size n ax az af ∧ PB W (w.heap.size + 1) n bx bz bf ∧ PB W (w.heap.size + 1 + 1) n cx cz cf ∧ PB W B7 ab.n ab.x ab.z ab.f)
  case first =>
    have ⟨u00, u01, u02, u03, _, _, _, _⟩ := rB
    have ⟨u10, u11, u12, u13, _, _, _, _⟩ := rA
    go_wp2_with (go_at_call 15; (with_reducible refine (M2 _).mono ?_); rintro e w2 ⟨rfl, hN⟩)
    go_meet
    case rel => exact ⟨⟨_, rfl, rfl, PB.new _ _ _ _ _, (btr hW hN).size, Nat.ne_of_lt (r7.below hN).lt⟩, bal (btr hW hN) _, (rA.below hN).alloc _, (rB.below hN).alloc _, (rC.below hN).alloc _, (r7.below hN).alloc _⟩
  clear hW rA rB rC r7
  obtain ⟨⟨B9, rfl, rfl, r9, hl9, h79⟩, hW, rA, rB, rC, r7⟩ := hcut
  go_upto_region 7 with (fail)
  go_cut [11, 12] from 66 to 71 (fun vp ve W => (∃ B : Nat, vp = Value.pointer (some ⟨B, 0, none⟩) ∧ ve = Value.int .i64 0 ∧ PB W B bc.n bc.x bc.z bc.f) ∧ Below w.heap.size w W ∧ PB W w.heap.size n ax az af ∧ PB W (w.heap.size + 1) n bx bz bf ∧ PB W (w.heap.size + 1 + 1) n cx cz cf ∧ PB W B7 ab.n ab.x ab.z ab.f ∧ PB W B9 ba.n ba.x ba.z ba.f)
  case first =>
    have ⟨u00, u01, u02, u03, _, _, _, _⟩ := rB
    have ⟨u10, u11, u12, u13, _, _, _, _⟩ := rC
    go_wp2_with (go_at_call 15; (with_reducible refine (M3 _).mono ?_); rintro e w2 ⟨rfl, hN⟩)
    go_meet
    case rel => exact ⟨⟨_, rfl, rfl, PB.new _ _ _ _ _⟩, bal (btr hW hN) _, (rA.below hN).alloc _, (rB.below hN).alloc _, (rC.below hN).alloc _, (r7.below hN).alloc _, (r9.below hN).alloc _⟩
  clear hW rA rB rC r7 r9
  obtain ⟨⟨B11, rfl, rfl, r11⟩, hW, rA, rB, rC, r7, r9⟩ := hcut
  go_upto_region 8 with (fail)
  go_cut [13, 14] from 72 to 77 (fun vp ve W => (∃ B : Nat, vp = Value.pointer (some ⟨B, 0, none⟩) ∧ ve = Value.int .i64 0 ∧ PB W B x.n x.x x.z x.f) ∧ Below w.heap.size w W ∧ PB W w.heap.size n ax az af ∧ PB W (w.heap.size + 1) n bx bz bf ∧ PB W (w.heap.size + 1 + 1) n cx cz cf ∧ PB W B7 ab.n ab.x ab.z ab.f ∧ PB W B9 ba.n ba.x ba.z ba.f ∧ PB W B11 bc.n bc.x bc.z bc.f)
  case first =>
    have ⟨u00, u01, u02, u03, _, _, _, _⟩ := r7
    have ⟨u10, u11, u12, u13, _, _, _, _⟩ := rC
    go_wp2_with (go_at_call 15; (with_reducible refine (M4 _).mono ?_); rintro e w2 ⟨rfl, hN⟩)
    go_meet
    case rel => exact ⟨⟨_, rfl, rfl, PB.new _ _ _ _ _⟩, bal (btr hW hN) _, (rA.below hN).alloc _, (rB.below hN).alloc _, (rC.below hN).alloc _, (r7.below hN).alloc _, (r9.below hN).alloc _, (r11.below hN).alloc _⟩
  clear hW rA rB rC r7 r9 r11
  obtain ⟨⟨B13, rfl, rfl, r13⟩, hW, rA, rB, rC, r7, r9, r11⟩ := hcut
  go_upto_region 9 with (fail)
  go_cut [15, 16] from 78 to 83 (fun vp ve W => (∃ B : Nat, vp = Value.pointer (some ⟨B, 0, none⟩) ∧ ve = Value.int .i64 0 ∧ PB W B x.n x.x x.z x.f) ∧ Below w.heap.size w W ∧ PB W w.heap.size n ax az af ∧ PB W (w.heap.size + 1) n bx bz bf ∧ PB W (w.heap.size + 1 + 1) n cx cz cf ∧ PB W B7 ab.n ab.x ab.z ab.f ∧ PB W B9 ba.n ba.x ba.z ba.f ∧ PB W B11 bc.n bc.x bc.z bc.f ∧ PB W B13 x.n x.x x.z x.f)
  case first =>
    have ⟨u00, u01, u02, u03, _, _, _, _⟩ := rA
    have ⟨u10, u11, u12, u13, _, _, _, _⟩ := r11
    go_wp2_with (go_at_call 15; (with_reducible refine (M5 _).mono ?_); rintro e w2 ⟨rfl, hN⟩)
    go_meet
    case rel => exact ⟨⟨_, rfl, rfl, PB.new _ _ _ _ _⟩, bal (btr hW hN) _, (rA.below hN).alloc _, (rB.below hN).alloc _, (rC.below hN).alloc _, (r7.below hN).alloc _, (r9.below hN).alloc _, (r11.below hN).alloc _, (r13.below hN).alloc _⟩
  clear hW rA rB rC r7 r9 r11 r13
  obtain ⟨⟨B15, rfl, rfl, r15⟩, hW, rA, rB, rC, r7, r9, r11, r13⟩ := hcut
  go_upto_region 10 with (fail)
  go_cut [17, 18] from 84 to 89 (fun vp ve W => (∃ B : Nat, vp = Value.pointer (some ⟨B, 0, none⟩) ∧ ve = Value.int .i64 0 ∧ PB W B one.n one.x one.z one.f) ∧ Below w.heap.size w W ∧ PB W w.heap.size n ax az af ∧ PB W (w.heap.size + 1) n bx bz bf ∧ PB W (w.heap.size + 1 + 1) n cx cz cf ∧ PB W B7 ab.n ab.x ab.z ab.f ∧ PB W B9 ba.n ba.x ba.z ba.f ∧ PB W B11 bc.n bc.x bc.z bc.f ∧ PB W B13 x.n x.x x.z x.f ∧ PB W B15 x.n x.x x.z x.f)
  case first =>
    have ⟨u00, u01, u02, u03, _, _, _, _⟩ := rA
    go_wp2_with (go_at_call 10; (with_reducible refine (E1 _).mono ?_); rintro e w2 ⟨rfl, hN⟩)
    go_meet
    case rel => exact ⟨⟨_, rfl, rfl, PB.new _ _ _ _ _⟩, bal (btr hW hN) _, (rA.below hN).alloc _, (rB.below hN).alloc _, (rC.below hN).alloc _, (r7.below hN).alloc _, (r9.below hN).alloc _, (r11.below hN).alloc _, (r13.below hN).alloc _, (r15.below hN).alloc _⟩
  clear hW rA rB rC r7 r9 r11 r13 r15
  obtain ⟨⟨B17, rfl, rfl, r17⟩, hW, rA, rB, rC, r7, r9, r11, r13, r15⟩ := hcut
  have ⟨p0, p1, p2, p3, _, _, _, _⟩ := r13
  have ⟨q0, q1, q2, q3, _, _, _, _⟩ := r15
  go_upto_region 13 with (fail)
  clear r13 r15 M1 M2 M3 M4 M5 E1
  clear r11
  go_cut [19, 8] from 117 to 121 (fun vp ve W => (∃ B : Nat, vp = Value.pointer (some ⟨B, 0, none⟩) ∧ ve = Value.int .i64 0 ∧ PB W B d.n d.x d.z d.f) ∧ Below w.heap.size w W ∧ PB W w.heap.size n ax az af ∧ PB W (w.heap.size + 1) n bx bz bf ∧ PB W (w.heap.size + 1 + 1) n cx cz cf ∧ PB W B7 ab.n ab.x ab.z ab.f ∧ PB W B9 ba.n ba.x ba.z ba.f ∧ PB W B17 one.n one.x one.z one.f)
  case first =>
    have ⟨u00, u01, u02, u03, _, _, _, _⟩ := rA
    go_wp2_with (go_at_call 18; (with_reducible refine (D1 _).mono ?_); rintro e w2 ⟨rfl, hN⟩)
    go_meet
    case rel => exact ⟨⟨_, rfl, rfl, PB.new _ _ _ _ _⟩, bal (btr hW hN) _, (rA.below hN).alloc _, (rB.below hN).alloc _, (rC.below hN).alloc _, (r7.below hN).alloc _, (r9.below hN).alloc _, (r17.below hN).alloc _⟩
  clear hW rA rB rC r7 r9 r17
  obtain ⟨⟨B19, rfl, rfl, r19⟩, hW, rA, rB, rC, r7, r9, r17⟩ := hcut
  go_upto_region 14 with (fail)
  go_cut [20, 10] from 122 to 127 (fun vp ve W => (∃ B : Nat, vp = Value.pointer (some ⟨B, 0, none⟩) ∧ ve = Value.int .i64 0 ∧ PB W B one.n one.x one.z one.f) ∧ Below w.heap.size w W ∧ PB W w.heap.size n ax az af ∧ PB W (w.heap.size + 1) n bx bz bf ∧ PB W (w.heap.size + 1 + 1) n cx cz cf ∧ PB W B7 ab.n ab.x ab.z ab.f ∧ PB W B9 ba.n ba.x ba.z ba.f ∧ PB W B17 one.n one.x one.z one.f ∧ PB W B19 d.n d.x d.z d.f)
  case first =>
    have ⟨u00, u01, u02, u03, _, _, _, _⟩ := rA
    have ⟨u10, u11, u12, u13, _, _, _, _⟩ := r19
    go_wp2_with (go_at_call 15; (with_reducible refine (M6 _).mono ?_); rintro e w2 ⟨rfl, hN⟩)
    go_meet
    case rel => exact ⟨⟨_, rfl, rfl, PB.new _ _ _ _ _⟩, bal (btr hW hN) _, (rA.below hN).alloc _, (rB.below hN).alloc _, (rC.below hN).alloc _, (r7.below hN).alloc _, (r9.below hN).alloc _, (r17.below hN).alloc _, (r19.below hN).alloc _⟩
  clear hW rA rB rC r7 r9 r17 r19
  obtain ⟨⟨B20, rfl, rfl, r20⟩, hW, rA, rB, rC, r7, r9, r17, r19⟩ := hcut
  go_upto_region 15 with (fail)
  go_cut [21, 12] from 128 to 133 (fun vp ve W => (∃ B : Nat, vp = Value.pointer (some ⟨B, 0, none⟩) ∧ ve = Value.int .i64 0 ∧ PB W B one.n one.x one.z one.f) ∧ Below w.heap.size w W ∧ PB W w.heap.size n ax az af ∧ PB W (w.heap.size + 1) n bx bz bf ∧ PB W (w.heap.size + 1 + 1) n cx cz cf ∧ PB W B7 ab.n ab.x ab.z ab.f ∧ PB W B9 ba.n ba.x ba.z ba.f ∧ PB W B17 one.n one.x one.z one.f ∧ PB W B19 d.n d.x d.z d.f ∧ PB W B20 one.n one.x one.z one.f)
  case first =>
    have ⟨u00, u01, u02, u03, _, _, _, _⟩ := r19
    have ⟨u10, u11, u12, u13, _, _, _, _⟩ := rA
    go_wp2_with (go_at_call 15; (with_reducible refine (M7 _).mono ?_); rintro e w2 ⟨rfl, hN⟩)
    go_meet
    case rel => exact ⟨⟨_, rfl, rfl, PB.new _ _ _ _ _⟩, bal (btr hW hN) _, (rA.below hN).alloc _, (rB.below hN).alloc _, (rC.below hN).alloc _, (r7.below hN).alloc _, (r9.below hN).alloc _, (r17.below hN).alloc _, (r19.below hN).alloc _, (r20.below hN).alloc _⟩
  clear hW rA rB rC r7 r9 r17 r19 r20
  obtain ⟨⟨B21, rfl, rfl, r21⟩, hW, rA, rB, rC, r7, r9, r17, r19, r20⟩ := hcut
  go_upto_region 16 with (fail)
  go_cut [22, 14] from 134 to 139 (fun vp ve W => (∃ B : Nat, vp = Value.pointer (some ⟨B, 0, none⟩) ∧ ve = Value.int .i64 0 ∧ PB W B n ax az af) ∧ Below w.heap.size w W ∧ PB W w.heap.size n ax az af ∧ PB W (w.heap.size + 1) n bx bz bf ∧ PB W (w.heap.size + 1 + 1) n cx cz cf ∧ PB W B7 ab.n ab.x ab.z ab.f ∧ PB W B9 ba.n ba.x ba.z ba.f ∧ PB W B17 one.n one.x one.z one.f ∧ PB W B19 d.n d.x d.z d.f ∧ PB W B20 one.n one.x one.z one.f ∧ PB W B21 one.n one.x one.z one.f)
  case first =>
    have ⟨u00, u01, u02, u03, _, _, _, _⟩ := r17
    have ⟨u10, u11, u12, u13, _, _, _, _⟩ := rA
    go_wp2_with (go_at_call 15; (with_reducible refine (M8 _).mono ?_); rintro e w2 ⟨rfl, hN⟩)
    go_meet
    case rel => exact ⟨⟨_, rfl, rfl, PB.new _ _ _ _ _⟩, bal (btr hW hN) _, (rA.below hN).alloc _, (rB.below hN).alloc _, (rC.below hN).alloc _, (r7.below hN).alloc _, (r9.below hN).alloc _, (r17.below hN).alloc _, (r19.below hN).alloc _, (r20.below hN).alloc _, (r21.below hN).alloc _⟩
  clear hW rA rB rC r7 r9 r17 r19 r20 r21
  obtain ⟨⟨B22, rfl, rfl, r22⟩, hW, rA, rB, rC, r7, r9, r17, r19, r20, r21⟩ := hcut
  go_upto_region 17 with (fail)
  go_cut [23, 16] from 140 to 145 (fun vp ve W => (∃ B : Nat, vp = Value.pointer (some ⟨B, 0, none⟩) ∧ ve = Value.int .i64 0 ∧ PB W B n ax az af) ∧ Below w.heap.size w W ∧ PB W w.heap.size n ax az af ∧ PB W (w.heap.size + 1) n bx bz bf ∧ PB W (w.heap.size + 1 + 1) n cx cz cf ∧ PB W B7 ab.n ab.x ab.z ab.f ∧ PB W B9 ba.n ba.x ba.z ba.f ∧ PB W B17 one.n one.x one.z one.f ∧ PB W B19 d.n d.x d.z d.f ∧ PB W B20 one.n one.x one.z one.f ∧ PB W B21 one.n one.x one.z one.f ∧ PB W B22 n ax az af)
  case first =>
    have ⟨u00, u01, u02, u03, _, _, _, _⟩ := rA
    have ⟨u10, u11, u12, u13, _, _, _, _⟩ := r17
    go_wp2_with (go_at_call 15; (with_reducible refine (M9 _).mono ?_); rintro e w2 ⟨rfl, hN⟩)
    go_meet
    case rel => exact ⟨⟨_, rfl, rfl, PB.new _ _ _ _ _⟩, bal (btr hW hN) _, (rA.below hN).alloc _, (rB.below hN).alloc _, (rC.below hN).alloc _, (r7.below hN).alloc _, (r9.below hN).alloc _, (r17.below hN).alloc _, (r19.below hN).alloc _, (r20.below hN).alloc _, (r21.below hN).alloc _, (r22.below hN).alloc _⟩
  clear hW rA rB rC r7 r9 r17 r19 r20 r21 r22
  obtain ⟨⟨B23, rfl, rfl, r23⟩, hW, rA, rB, rC, r7, r9, r17, r19, r20, r21, r22⟩ := hcut
  have ⟨v00, v01, v02, v03, _, _, _, _⟩ := r20
  have ⟨v10, v11, v12, v13, _, _, _, _⟩ := r17
  have ⟨v20, v21, v22, v23, _, _, _, _⟩ := r21
  have ⟨v30, v31, v32, v33, _, _, _, _⟩ := r22
  have ⟨v40, v41, v42, v43, _, _, _, _⟩ := rA
  have ⟨v50, v51, v52, v53, _, _, _, _⟩ := r23
  go_upto_region 20 with (fail)
  clear v00 v01 v02 v03 v10 v11 v12 v13 v20 v21 v22 v23 v30 v31 v32 v33 v40 v41 v42 v43 v50 v51 v52 v53
  go_cut [24, 8] from 184 to 189 (fun vp ve W => vp = Value.bool yes ∧ ve = Value.int .i64 0 ∧ Below w.heap.size w W ∧ PB W w.heap.size n ax az af ∧ PB W (w.heap.size + 1) n bx bz bf ∧ PB W B7 ab.n ab.x ab.z ab.f ∧ PB W B9 ba.n ba.x ba.z ba.f)
  case first =>
    have ⟨u00, u01, u02, u03, _, _, _, _⟩ := rA
    have ⟨u10, u11, u12, u13, _, _, _, _⟩ := rB
    go_wp2_with (go_at_call 16; (with_reducible refine (CM _).mono ?_); rintro e w2 ⟨rfl, hN⟩)
    go_meet
    case rel => exact ⟨rfl, rfl, btr hW hN, rA.below hN, rB.below hN, r7.below hN, r9.below hN⟩
  clear hW rA rB rC r7 r9 r17 r19 r20 r21 r22 r23
  obtain ⟨rfl, rfl, hW, rA, rB, r7, r9⟩ := hcut
  cases yes
  case true =>
    obtain rfl := HY rfl
    clear HN HY
    have ⟨u0, u1, u2, u3, _, _, _, _⟩ := r7
    have ⟨v0, v1, v2, v3, _, _, _, _⟩ := r9
    go_wp2
    go_ret
    exact ⟨rfl, hW⟩
  case false =>
    obtain ⟨e0, e1, e2, e3⟩ := HN rfl
    clear HN HY
    obtain ⟨n7, x7, z7, f7⟩ := ab
    have h97 : ¬ B9 = B7 := fun e => h79 e.symm
    have ⟨u0, u1, u2, u3, _, _, _, _⟩ := r7
    have ⟨v0, v1, v2, v3, g0, g1, g2, g3⟩ := r9
    simp only at e0 e1 e2 e3 u0 u1 u2 u3
    subst e0 e1 e2
    go_wp2
    go_ret
    exact ⟨rfl, hW.setCell hl9 _⟩
end Go.Proofs.Ytbkdehnemhkbkaa
