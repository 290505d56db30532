/-
  Put together of: JQ.
-/
import Derived.Test.YtoddbaljnlhhaabYG
namespace Go.Proofs.Ytoddbaljnlhhaab
open Go.RowKit Go.Sort
open PL (pv PS bt cgk cgT)
open BL (pickN putN)

theorem gl_ok (N j : Nat) (hN : N ≤ 64) (hj : j < N) (x : Bool) : (gL N j x).ok := by
  have h := Nat.pow_lt_pow_right (a := 2) (by decide) hj
  cases x
  · exact ⟨hN, Nat.two_pow_pos _, h, by show 0 < 4; omega⟩
  · exact ⟨hN, h, Nat.two_pow_pos _, by show 0 < 4; omega⟩
set_option maxHeartbeats 2000000 in
set_option maxRecDepth 100000 in
theorem rim_11_0_true (N qa qb : Nat) (_hN : N ≤ 64) (_ha : qa < N) (_hb : qb < N) (_hab : qa ≠ qb) (b o cq : Nat) (w : World) (HC : Hid (∀ W, Below w.heap.size w W → W.cell? ⟨b, o, none⟩ = some (.int .i64 (qa : Nat)) ∧ W.cell? ⟨b, o + 1, none⟩ = some (.int .i64 (qb : Nat)) ∧ b < W.heap.size)) (_hcq : 2 ≤ cq) :
    Calls Try.prog 40 #[.int .i64 (N : Nat), .string ⟨#[99, 120]⟩, .slice (some ⟨b, o, none⟩) 2 cq, .int .i64 (qa : Nat), .bool true] w fun e w' => e = .returned ((gL N qa true).mul (gL N qb true)).v ∧ Below w.heap.size w w' := by
  have O1 := hid (fun w => ron_l N qa 88 0 w _hN _ha (by decide))
  have O2 : Hid (∀ w, Calls Try.prog 22 #[.int .i64 (N : Nat), .int .i64 (qb : Nat), .int .u8 88, .int .i64 0] w fun e w' => e = .returned (pv (N : Nat) (onP N qb 88 0).x (onP N qb 88 0).z 0) ∧ Below w.heap.size w w') := fun w => ron_l N qb 88 0 w _hN _hb (by decide)
  have MU := hid (fun w => rmulT_any (gL N qa true) (gL N qb true) w (gl_ok N qa _hN _ha true) (gl_ok N qb _hN _hb true) rfl)
  have f1 : ((qa : Int) != (qa : Int)) = false := bne_self_eq_false' _
  have f2 : ((qa : Int) == (qa : Int)) = true := beq_self_eq_true _
  have f4 : ((qa : Int) == (qb : Int)) = false := beq_eq_false_iff_ne.2 (by omega)
  have P10 := hid (PL.PB.new w 0 0 0 0)
  have HB := hid (bal (Below.refl w.heap.size w) (PL.pc 0 0 0 0))
  clear _ha _hb _hab _hN
  obtain ⟨X1, hX1⟩ : ∃ X1, Hid (X1 = (onP N qa 88 0).x) := ⟨_, rfl⟩
  obtain ⟨Z1, hZ1⟩ : ∃ Z1, Hid (Z1 = (onP N qa 88 0).z) := ⟨_, rfl⟩
  rw [← hX1.out, ← hZ1.out] at O1
  obtain ⟨X2, hX2⟩ : ∃ X2, Hid (X2 = (onP N qb 88 0).x) := ⟨_, rfl⟩
  obtain ⟨Z2, hZ2⟩ : ∃ Z2, Hid (Z2 = (onP N qb 88 0).z) := ⟨_, rfl⟩
  rw [← hX2.out, ← hZ2.out] at O2
  obtain ⟨M, hM⟩ : ∃ M, Hid (M = (gL N qa true).mul (gL N qb true)) := ⟨_, rfl⟩
  rw [← hM.out] at MU
  have hMN : Hid (M.n = N) := by show _ = _; rw [hM.out]; rfl
  have HR : Hid (((gL N qa true).mul (gL N qb true)).v = pv (N : Nat) M.x M.z M.f) := by show _ = _; rw [← hM.out, ← hMN.out]
  have hMU : Hid (∀ w, Calls Try.prog 21 #[pv (N : Nat) X1 Z1 0, pv (N : Nat) X2 Z2 0] w fun e w' => e = .returned (pv (N : Nat) M.x M.z M.f) ∧ Below w.heap.size w w') := fun w => by
    have h := MU.out w
    rw [hX1.out, hX2.out, hZ1.out, hZ2.out, ← hMN.out]
    rw [hMN.out]
    have e : M.v = pv (N : Nat) M.x M.z M.f := by rw [← hMN.out]
    rw [e] at h
    exact h
  rw [HR.out]
  clear HR hX1 hZ1 hX2 hZ2 hM hMN MU
  obtain ⟨mn, X3, Z3, F3⟩ := M
  simp only at *
  go_enter Try.func40, Try.ntmps40
  go_wp2_with (go_at_call 22; refine Hid.out ?_)
  refine hid ?_
  refine (O1.out _).mono ?_
  rintro e w1 ⟨rfl, hN1⟩
  have P12 := hid (PL.PB.new w1 (N : Nat) X1 Z1 0)
  have hA := bal (Below.refl w1.heap.size w1) (PL.pc (N : Nat) X1 Z1 0)
  replace P10 := hid (P10.out.below (btr hN1 hA))
  replace HB := hid (btr HB.out (btr hN1 hA))
  obtain ⟨c0, c1, cl⟩ := HC.out _ HB.out
  clear hA hN1 O1
  go_upto_region 10 with (fail)
  go_quiet (fail)
  have P12b := hid (P12.out.drewN nq)
  have P10b := hid (P10.out.drewN nq)
  have HBb := hid (below_drewN HB.out nq)
  obtain ⟨V, hV⟩ : ∃ V, V = (w1.alloc (PL.pc (N : Nat) X1 Z1 0)).drewN nq := ⟨_, rfl⟩
  have hVV : V = (w1.alloc (.cells #[.int .i64 (N : Int), .int .u64 (X1 : Int), .int .u64 (Z1 : Int), .int .i64 0] 29)).drewN nq := hV
  rw [← hV] at P12b P10b HBb
  rw [← hVV]
  clear hV hVV P12 P10 HB c0 c1 cl HC
  generalize w1.heap.size = b12 at *
  obtain ⟨u0, u1, u2, u3, _, _, _, _⟩ := P12b.out
  have ul := P12b.out.lt
  go_upto_region 24 with (fail)
  go_region_with (first
    | (go_at_call 22; (with_reducible refine (O2.out _).mono ?_); rintro e w3 ⟨rfl, hN3⟩; (have hh3 := btr (drew_of HBb.out) hN3); obtain ⟨u0, u1, u2, u3, _, _, _, _⟩ := P12b.out.below hh3)
    | (go_at_call 21; (with_reducible refine (hMU.out _).mono ?_); rintro e w4 ⟨rfl, hN4⟩; (have hh4 := btr hh3 hN4); obtain ⟨y0, y1, y2, y3, z0, z1, z2, z3⟩ := P10b.out.below hh4))
  all_goals
    have P10c := hid (P10b.out.below hh4)
    have HBc := hid (btr HBb.out hh4)
    have r := (((P10c.out.set0 (N : Nat)).set1 X3).set2 Z3).set3 (F3 : Nat)
    obtain ⟨q0, q1, q2, q3, _, _, _, _⟩ := r
    have HBf := hid (bset (bset (bset (bset HBc.out w.heap.size 0 (.int .i64 (N : Int)) (Nat.le_refl _)) w.heap.size 1 (.int .u64 (X3 : Int)) (Nat.le_refl _)) w.heap.size 2 (.int .u64 (Z3 : Int)) (Nat.le_refl _)) w.heap.size 3 (.int .i64 (F3 : Int)) (Nat.le_refl _))
    go_wp2
    exact bodyPost_ret (v := pv (N : Nat) X3 Z3 (F3 : Nat)) (by simp [results, Try.results40, go_sem, q0, q1, q2, q3]) rfl ⟨rfl, HBf.out⟩
set_option maxHeartbeats 2000000 in
set_option maxRecDepth 100000 in
theorem rim_11_0_false (N qa qb : Nat) (_hN : N ≤ 64) (_ha : qa < N) (_hb : qb < N) (_hab : qa ≠ qb) (b o cq : Nat) (w : World) (HC : Hid (∀ W, Below w.heap.size w W → W.cell? ⟨b, o, none⟩ = some (.int .i64 (qa : Nat)) ∧ W.cell? ⟨b, o + 1, none⟩ = some (.int .i64 (qb : Nat)) ∧ b < W.heap.size)) (_hcq : 2 ≤ cq) :
    Calls Try.prog 40 #[.int .i64 (N : Nat), .string ⟨#[99, 120]⟩, .slice (some ⟨b, o, none⟩) 2 cq, .int .i64 (qa : Nat), .bool false] w fun e w' => e = .returned (gL N qa false).v ∧ Below w.heap.size w w' := by
  have O1 := hid (fun w => ron_l N qa 90 0 w _hN _ha (by decide))
  have f1 : ((qa : Int) != (qa : Int)) = false := bne_self_eq_false' _
  have f2 : ((qa : Int) == (qa : Int)) = true := beq_self_eq_true _
  have f4 : ((qa : Int) == (qb : Int)) = false := beq_eq_false_iff_ne.2 (by omega)
  have P10 := hid (PL.PB.new w 0 0 0 0)
  have HB := hid (bal (Below.refl w.heap.size w) (PL.pc 0 0 0 0))
  clear _ha _hb _hab _hN
  obtain ⟨X1, hX1⟩ : ∃ X1, Hid (X1 = (onP N qa 90 0).x) := ⟨_, rfl⟩
  obtain ⟨Z1, hZ1⟩ : ∃ Z1, Hid (Z1 = (onP N qa 90 0).z) := ⟨_, rfl⟩
  rw [← hX1.out, ← hZ1.out] at O1
  have HR : Hid ((gL N qa false).v = pv (N : Nat) X1 Z1 0) := by show _ = _; rw [hX1.out, hZ1.out]; rfl
  rw [HR.out]
  clear HR hX1 hZ1
  go_enter Try.func40, Try.ntmps40
  go_wp2_with (go_at_call 22; refine Hid.out ?_)
  refine hid ?_
  refine (O1.out _).mono ?_
  rintro e w1 ⟨rfl, hN1⟩
  have P12 := hid (PL.PB.new w1 (N : Nat) X1 Z1 0)
  have hA := bal (Below.refl w1.heap.size w1) (PL.pc (N : Nat) X1 Z1 0)
  replace P10 := hid (P10.out.below (btr hN1 hA))
  replace HB := hid (btr HB.out (btr hN1 hA))
  obtain ⟨c0, c1, cl⟩ := HC.out _ HB.out
  clear hA hN1 O1
  go_upto_region 10 with (fail)
  go_quiet (fail)
  have P12b := hid (P12.out.drewN nq)
  have P10b := hid (P10.out.drewN nq)
  have HBb := hid (below_drewN HB.out nq)
  obtain ⟨V, hV⟩ : ∃ V, V = (w1.alloc (PL.pc (N : Nat) X1 Z1 0)).drewN nq := ⟨_, rfl⟩
  have hVV : V = (w1.alloc (.cells #[.int .i64 (N : Int), .int .u64 (X1 : Int), .int .u64 (Z1 : Int), .int .i64 0] 29)).drewN nq := hV
  rw [← hV] at P12b P10b HBb
  rw [← hVV]
  clear hV hVV P12 P10 HB c0 c1 cl HC
  generalize w1.heap.size = b12 at *
  obtain ⟨u0, u1, u2, u3, _, _, _, _⟩ := P12b.out
  have ul := P12b.out.lt
  obtain ⟨y0, y1, y2, y3, z0, z1, z2, z3⟩ := P10b.out
  have yl := P10b.out.lt
  have r := (((P10b.out.set0 (N : Nat)).set1 X1).set2 Z1).set3 0
  obtain ⟨q0, q1, q2, q3, _, _, _, _⟩ := r
  have HBf := hid (bset (bset (bset (bset HBb.out w.heap.size 0 (.int .i64 (N : Int)) (Nat.le_refl _)) w.heap.size 1 (.int .u64 (X1 : Int)) (Nat.le_refl _)) w.heap.size 2 (.int .u64 (Z1 : Int)) (Nat.le_refl _)) w.heap.size 3 (.int .i64 0) (Nat.le_refl _))
  go_wp2
  exact bodyPost_ret (v := pv (N : Nat) X1 Z1 0) (by simp [results, Try.results40, go_sem, q0, q1, q2, q3]) rfl ⟨rfl, HBf.out⟩
set_option maxHeartbeats 2000000 in
set_option maxRecDepth 100000 in
theorem rim_11_1_true (N qa qb : Nat) (_hN : N ≤ 64) (_ha : qa < N) (_hb : qb < N) (_hab : qa ≠ qb) (b o cq : Nat) (w : World) (HC : Hid (∀ W, Below w.heap.size w W → W.cell? ⟨b, o, none⟩ = some (.int .i64 (qa : Nat)) ∧ W.cell? ⟨b, o + 1, none⟩ = some (.int .i64 (qb : Nat)) ∧ b < W.heap.size)) (_hcq : 2 ≤ cq) :
    Calls Try.prog 40 #[.int .i64 (N : Nat), .string ⟨#[99, 120]⟩, .slice (some ⟨b, o, none⟩) 2 cq, .int .i64 (qb : Nat), .bool true] w fun e w' => e = .returned (gL N qb true).v ∧ Below w.heap.size w w' := by
  have O1 := hid (fun w => ron_l N qb 88 0 w _hN _hb (by decide))
  have f1 : ((qb : Int) != (qa : Int)) = true := bne_iff_ne.2 (by omega)
  have f2 : ((qb : Int) != (qb : Int)) = false := bne_self_eq_false' _
  have f3 : ((qb : Int) == (qa : Int)) = false := beq_eq_false_iff_ne.2 (by omega)
  have P10 := hid (PL.PB.new w 0 0 0 0)
  have HB := hid (bal (Below.refl w.heap.size w) (PL.pc 0 0 0 0))
  clear _ha _hb _hab _hN
  obtain ⟨X1, hX1⟩ : ∃ X1, Hid (X1 = (onP N qb 88 0).x) := ⟨_, rfl⟩
  obtain ⟨Z1, hZ1⟩ : ∃ Z1, Hid (Z1 = (onP N qb 88 0).z) := ⟨_, rfl⟩
  rw [← hX1.out, ← hZ1.out] at O1
  have HR : Hid ((gL N qb true).v = pv (N : Nat) X1 Z1 0) := by show _ = _; rw [hX1.out, hZ1.out]; rfl
  rw [HR.out]
  clear HR hX1 hZ1
  go_enter Try.func40, Try.ntmps40
  go_wp2_with (go_at_call 22; refine Hid.out ?_)
  refine hid ?_
  refine (O1.out _).mono ?_
  rintro e w1 ⟨rfl, hN1⟩
  have P12 := hid (PL.PB.new w1 (N : Nat) X1 Z1 0)
  have hA := bal (Below.refl w1.heap.size w1) (PL.pc (N : Nat) X1 Z1 0)
  replace P10 := hid (P10.out.below (btr hN1 hA))
  replace HB := hid (btr HB.out (btr hN1 hA))
  obtain ⟨c0, c1, cl⟩ := HC.out _ HB.out
  clear hA hN1 O1
  go_upto_region 10 with (fail)
  go_quiet (fail)
  have P12b := hid (P12.out.drewN nq)
  have P10b := hid (P10.out.drewN nq)
  have HBb := hid (below_drewN HB.out nq)
  obtain ⟨V, hV⟩ : ∃ V, V = (w1.alloc (PL.pc (N : Nat) X1 Z1 0)).drewN nq := ⟨_, rfl⟩
  have hVV : V = (w1.alloc (.cells #[.int .i64 (N : Int), .int .u64 (X1 : Int), .int .u64 (Z1 : Int), .int .i64 0] 29)).drewN nq := hV
  rw [← hV] at P12b P10b HBb
  rw [← hVV]
  clear hV hVV P12 P10 HB c0 c1 cl HC
  generalize w1.heap.size = b12 at *
  obtain ⟨u0, u1, u2, u3, _, _, _, _⟩ := P12b.out
  have ul := P12b.out.lt
  obtain ⟨y0, y1, y2, y3, z0, z1, z2, z3⟩ := P10b.out
  have yl := P10b.out.lt
  have r := (((P10b.out.set0 (N : Nat)).set1 X1).set2 Z1).set3 0
  obtain ⟨q0, q1, q2, q3, _, _, _, _⟩ := r
  have HBf := hid (bset (bset (bset (bset HBb.out w.heap.size 0 (.int .i64 (N : Int)) (Nat.le_refl _)) w.heap.size 1 (.int .u64 (X1 : Int)) (Nat.le_refl _)) w.heap.size 2 (.int .u64 (Z1 : Int)) (Nat.le_refl _)) w.heap.size 3 (.int .i64 0) (Nat.le_refl _))
  go_wp2
  exact bodyPost_ret (v := pv (N : Nat) X1 Z1 0) (by simp [results, Try.results40, go_sem, q0, q1, q2, q3]) rfl ⟨rfl, HBf.out⟩
set_option maxHeartbeats 2000000 in
set_option maxRecDepth 100000 in
theorem rim_11_1_false (N qa qb : Nat) (_hN : N ≤ 64) (_ha : qa < N) (_hb : qb < N) (_hab : qa ≠ qb) (b o cq : Nat) (w : World) (HC : Hid (∀ W, Below w.heap.size w W → W.cell? ⟨b, o, none⟩ = some (.int .i64 (qa : Nat)) ∧ W.cell? ⟨b, o + 1, none⟩ = some (.int .i64 (qb : Nat)) ∧ b < W.heap.size)) (_hcq : 2 ≤ cq) :
    Calls Try.prog 40 #[.int .i64 (N : Nat), .string ⟨#[99, 120]⟩, .slice (some ⟨b, o, none⟩) 2 cq, .int .i64 (qb : Nat), .bool false] w fun e w' => e = .returned ((gL N qb false).mul (gL N qa false)).v ∧ Below w.heap.size w w' := by
  have O1 := hid (fun w => ron_l N qb 90 0 w _hN _hb (by decide))
  have O2 : Hid (∀ w, Calls Try.prog 22 #[.int .i64 (N : Nat), .int .i64 (qa : Nat), .int .u8 90, .int .i64 0] w fun e w' => e = .returned (pv (N : Nat) (onP N qa 90 0).x (onP N qa 90 0).z 0) ∧ Below w.heap.size w w') := fun w => ron_l N qa 90 0 w _hN _ha (by decide)
  have MU := hid (fun w => rmulT_any (gL N qb false) (gL N qa false) w (gl_ok N qb _hN _hb false) (gl_ok N qa _hN _ha false) rfl)
  have f1 : ((qb : Int) != (qa : Int)) = true := bne_iff_ne.2 (by omega)
  have f2 : ((qb : Int) != (qb : Int)) = false := bne_self_eq_false' _
  have f3 : ((qb : Int) == (qa : Int)) = false := beq_eq_false_iff_ne.2 (by omega)
  have P10 := hid (PL.PB.new w 0 0 0 0)
  have HB := hid (bal (Below.refl w.heap.size w) (PL.pc 0 0 0 0))
  clear _ha _hb _hab _hN
  obtain ⟨X1, hX1⟩ : ∃ X1, Hid (X1 = (onP N qb 90 0).x) := ⟨_, rfl⟩
  obtain ⟨Z1, hZ1⟩ : ∃ Z1, Hid (Z1 = (onP N qb 90 0).z) := ⟨_, rfl⟩
  rw [← hX1.out, ← hZ1.out] at O1
  obtain ⟨X2, hX2⟩ : ∃ X2, Hid (X2 = (onP N qa 90 0).x) := ⟨_, rfl⟩
  obtain ⟨Z2, hZ2⟩ : ∃ Z2, Hid (Z2 = (onP N qa 90 0).z) := ⟨_, rfl⟩
  rw [← hX2.out, ← hZ2.out] at O2
  obtain ⟨M, hM⟩ : ∃ M, Hid (M = (gL N qb false).mul (gL N qa false)) := ⟨_, rfl⟩
  rw [← hM.out] at MU
  have hMN : Hid (M.n = N) := by show _ = _; rw [hM.out]; rfl
  have HR : Hid (((gL N qb false).mul (gL N qa false)).v = pv (N : Nat) M.x M.z M.f) := by show _ = _; rw [← hM.out, ← hMN.out]
  have hMU : Hid (∀ w, Calls Try.prog 21 #[pv (N : Nat) X1 Z1 0, pv (N : Nat) X2 Z2 0] w fun e w' => e = .returned (pv (N : Nat) M.x M.z M.f) ∧ Below w.heap.size w w') := fun w => by
    have h := MU.out w
    rw [hX1.out, hX2.out, hZ1.out, hZ2.out, ← hMN.out]
    rw [hMN.out]
    have e : M.v = pv (N : Nat) M.x M.z M.f := by rw [← hMN.out]
    rw [e] at h
    exact h
  rw [HR.out]
  clear HR hX1 hZ1 hX2 hZ2 hM hMN MU
  obtain ⟨mn, X3, Z3, F3⟩ := M
  simp only at *
  go_enter Try.func40, Try.ntmps40
  go_wp2_with (go_at_call 22; refine Hid.out ?_)
  refine hid ?_
  refine (O1.out _).mono ?_
  rintro e w1 ⟨rfl, hN1⟩
  have P12 := hid (PL.PB.new w1 (N : Nat) X1 Z1 0)
  have hA := bal (Below.refl w1.heap.size w1) (PL.pc (N : Nat) X1 Z1 0)
  replace P10 := hid (P10.out.below (btr hN1 hA))
  replace HB := hid (btr HB.out (btr hN1 hA))
  obtain ⟨c0, c1, cl⟩ := HC.out _ HB.out
  clear hA hN1 O1
  go_upto_region 10 with (fail)
  go_quiet (fail)
  have P12b := hid (P12.out.drewN nq)
  have P10b := hid (P10.out.drewN nq)
  have HBb := hid (below_drewN HB.out nq)
  obtain ⟨V, hV⟩ : ∃ V, V = (w1.alloc (PL.pc (N : Nat) X1 Z1 0)).drewN nq := ⟨_, rfl⟩
  have hVV : V = (w1.alloc (.cells #[.int .i64 (N : Int), .int .u64 (X1 : Int), .int .u64 (Z1 : Int), .int .i64 0] 29)).drewN nq := hV
  rw [← hV] at P12b P10b HBb
  rw [← hVV]
  clear hV hVV P12 P10 HB c0 c1 cl HC
  generalize w1.heap.size = b12 at *
  obtain ⟨u0, u1, u2, u3, _, _, _, _⟩ := P12b.out
  have ul := P12b.out.lt
  go_upto_region 24 with (fail)
  go_region_with (first
    | (go_at_call 22; (with_reducible refine (O2.out _).mono ?_); rintro e w3 ⟨rfl, hN3⟩; (have hh3 := btr (drew_of HBb.out) hN3); obtain ⟨u0, u1, u2, u3, _, _, _, _⟩ := P12b.out.below hh3)
    | (go_at_call 21; (with_reducible refine (hMU.out _).mono ?_); rintro e w4 ⟨rfl, hN4⟩; (have hh4 := btr hh3 hN4); obtain ⟨y0, y1, y2, y3, z0, z1, z2, z3⟩ := P10b.out.below hh4))
  all_goals
    have P10c := hid (P10b.out.below hh4)
    have HBc := hid (btr HBb.out hh4)
    have r := (((P10c.out.set0 (N : Nat)).set1 X3).set2 Z3).set3 (F3 : Nat)
    obtain ⟨q0, q1, q2, q3, _, _, _, _⟩ := r
    have HBf := hid (bset (bset (bset (bset HBc.out w.heap.size 0 (.int .i64 (N : Int)) (Nat.le_refl _)) w.heap.size 1 (.int .u64 (X3 : Int)) (Nat.le_refl _)) w.heap.size 2 (.int .u64 (Z3 : Int)) (Nat.le_refl _)) w.heap.size 3 (.int .i64 (F3 : Int)) (Nat.le_refl _))
    go_wp2
    exact bodyPost_ret (v := pv (N : Nat) X3 Z3 (F3 : Nat)) (by simp [results, Try.results40, go_sem, q0, q1, q2, q3]) rfl ⟨rfl, HBf.out⟩
set_option maxHeartbeats 2000000 in
set_option maxRecDepth 100000 in
theorem rim_11_2_true (N qa qb j : Nat) (_hN : N ≤ 64) (_ha : qa < N) (_hb : qb < N) (_hab : qa ≠ qb) (_hj : j < N) (_hja : j ≠ qa) (_hjb : j ≠ qb) (b o cq : Nat) (w : World) (HC : Hid (∀ W, Below w.heap.size w W → W.cell? ⟨b, o, none⟩ = some (.int .i64 (qa : Nat)) ∧ W.cell? ⟨b, o + 1, none⟩ = some (.int .i64 (qb : Nat)) ∧ b < W.heap.size)) (_hcq : 2 ≤ cq) :
    Calls Try.prog 40 #[.int .i64 (N : Nat), .string ⟨#[99, 120]⟩, .slice (some ⟨b, o, none⟩) 2 cq, .int .i64 (j : Nat), .bool true] w fun e w' => e = .returned (gL N j true).v ∧ Below w.heap.size w w' := by
  have O1 := hid (fun w => ron_l N j 88 0 w _hN _hj (by decide))
  have f1 : ((j : Int) != (qa : Int)) = true := bne_iff_ne.2 (by omega)
  have f2 : ((j : Int) != (qb : Int)) = true := bne_iff_ne.2 (by omega)
  have P10 := hid (PL.PB.new w 0 0 0 0)
  have HB := hid (bal (Below.refl w.heap.size w) (PL.pc 0 0 0 0))
  clear _ha _hb _hab _hN _hj _hja _hjb
  obtain ⟨X1, hX1⟩ : ∃ X1, Hid (X1 = (onP N j 88 0).x) := ⟨_, rfl⟩
  obtain ⟨Z1, hZ1⟩ : ∃ Z1, Hid (Z1 = (onP N j 88 0).z) := ⟨_, rfl⟩
  rw [← hX1.out, ← hZ1.out] at O1
  have HR : Hid ((gL N j true).v = pv (N : Nat) X1 Z1 0) := by show _ = _; rw [hX1.out, hZ1.out]; rfl
  rw [HR.out]
  clear HR hX1 hZ1
  go_enter Try.func40, Try.ntmps40
  go_wp2_with (go_at_call 22; refine Hid.out ?_)
  refine hid ?_
  refine (O1.out _).mono ?_
  rintro e w1 ⟨rfl, hN1⟩
  have P12 := hid (PL.PB.new w1 (N : Nat) X1 Z1 0)
  have hA := bal (Below.refl w1.heap.size w1) (PL.pc (N : Nat) X1 Z1 0)
  replace P10 := hid (P10.out.below (btr hN1 hA))
  replace HB := hid (btr HB.out (btr hN1 hA))
  obtain ⟨c0, c1, cl⟩ := HC.out _ HB.out
  clear hA hN1 O1
  go_upto_region 10 with (fail)
  go_quiet (fail)
  have P12b := hid (P12.out.drewN nq)
  have P10b := hid (P10.out.drewN nq)
  have HBb := hid (below_drewN HB.out nq)
  obtain ⟨V, hV⟩ : ∃ V, V = (w1.alloc (PL.pc (N : Nat) X1 Z1 0)).drewN nq := ⟨_, rfl⟩
  have hVV : V = (w1.alloc (.cells #[.int .i64 (N : Int), .int .u64 (X1 : Int), .int .u64 (Z1 : Int), .int .i64 0] 29)).drewN nq := hV
  rw [← hV] at P12b P10b HBb
  rw [← hVV]
  clear hV hVV P12 P10 HB c0 c1 cl HC
  generalize w1.heap.size = b12 at *
  obtain ⟨u0, u1, u2, u3, _, _, _, _⟩ := P12b.out
  have ul := P12b.out.lt
  obtain ⟨y0, y1, y2, y3, z0, z1, z2, z3⟩ := P10b.out
  have yl := P10b.out.lt
  have r := (((P10b.out.set0 (N : Nat)).set1 X1).set2 Z1).set3 0
  obtain ⟨q0, q1, q2, q3, _, _, _, _⟩ := r
  have HBf := hid (bset (bset (bset (bset HBb.out w.heap.size 0 (.int .i64 (N : Int)) (Nat.le_refl _)) w.heap.size 1 (.int .u64 (X1 : Int)) (Nat.le_refl _)) w.heap.size 2 (.int .u64 (Z1 : Int)) (Nat.le_refl _)) w.heap.size 3 (.int .i64 0) (Nat.le_refl _))
  go_wp2
  exact bodyPost_ret (v := pv (N : Nat) X1 Z1 0) (by simp [results, Try.results40, go_sem, q0, q1, q2, q3]) rfl ⟨rfl, HBf.out⟩
set_option maxHeartbeats 2000000 in
set_option maxRecDepth 100000 in
theorem rim_11_2_false (N qa qb j : Nat) (_hN : N ≤ 64) (_ha : qa < N) (_hb : qb < N) (_hab : qa ≠ qb) (_hj : j < N) (_hja : j ≠ qa) (_hjb : j ≠ qb) (b o cq : Nat) (w : World) (HC : Hid (∀ W, Below w.heap.size w W → W.cell? ⟨b, o, none⟩ = some (.int .i64 (qa : Nat)) ∧ W.cell? ⟨b, o + 1, none⟩ = some (.int .i64 (qb : Nat)) ∧ b < W.heap.size)) (_hcq : 2 ≤ cq) :
    Calls Try.prog 40 #[.int .i64 (N : Nat), .string ⟨#[99, 120]⟩, .slice (some ⟨b, o, none⟩) 2 cq, .int .i64 (j : Nat), .bool false] w fun e w' => e = .returned (gL N j false).v ∧ Below w.heap.size w w' := by
  have O1 := hid (fun w => ron_l N j 90 0 w _hN _hj (by decide))
  have f1 : ((j : Int) != (qa : Int)) = true := bne_iff_ne.2 (by omega)
  have f2 : ((j : Int) != (qb : Int)) = true := bne_iff_ne.2 (by omega)
  have P10 := hid (PL.PB.new w 0 0 0 0)
  have HB := hid (bal (Below.refl w.heap.size w) (PL.pc 0 0 0 0))
  clear _ha _hb _hab _hN _hj _hja _hjb
  obtain ⟨X1, hX1⟩ : ∃ X1, Hid (X1 = (onP N j 90 0).x) := ⟨_, rfl⟩
  obtain ⟨Z1, hZ1⟩ : ∃ Z1, Hid (Z1 = (onP N j 90 0).z) := ⟨_, rfl⟩
  rw [← hX1.out, ← hZ1.out] at O1
  have HR : Hid ((gL N j false).v = pv (N : Nat) X1 Z1 0) := by show _ = _; rw [hX1.out, hZ1.out]; rfl
  rw [HR.out]
  clear HR hX1 hZ1
  go_enter Try.func40, Try.ntmps40
  go_wp2_with (go_at_call 22; refine Hid.out ?_)
  refine hid ?_
  refine (O1.out _).mono ?_
  rintro e w1 ⟨rfl, hN1⟩
  have P12 := hid (PL.PB.new w1 (N : Nat) X1 Z1 0)
  have hA := bal (Below.refl w1.heap.size w1) (PL.pc (N : Nat) X1 Z1 0)
  replace P10 := hid (P10.out.below (btr hN1 hA))
  replace HB := hid (btr HB.out (btr hN1 hA))
  obtain ⟨c0, c1, cl⟩ := HC.out _ HB.out
  clear hA hN1 O1
  go_upto_region 10 with (fail)
  go_quiet (fail)
  have P12b := hid (P12.out.drewN nq)
  have P10b := hid (P10.out.drewN nq)
  have HBb := hid (below_drewN HB.out nq)
  obtain ⟨V, hV⟩ : ∃ V, V = (w1.alloc (PL.pc (N : Nat) X1 Z1 0)).drewN nq := ⟨_, rfl⟩
  have hVV : V = (w1.alloc (.cells #[.int .i64 (N : Int), .int .u64 (X1 : Int), .int .u64 (Z1 : Int), .int .i64 0] 29)).drewN nq := hV
  rw [← hV] at P12b P10b HBb
  rw [← hVV]
  clear hV hVV P12 P10 HB c0 c1 cl HC
  generalize w1.heap.size = b12 at *
  obtain ⟨u0, u1, u2, u3, _, _, _, _⟩ := P12b.out
  have ul := P12b.out.lt
  obtain ⟨y0, y1, y2, y3, z0, z1, z2, z3⟩ := P10b.out
  have yl := P10b.out.lt
  have r := (((P10b.out.set0 (N : Nat)).set1 X1).set2 Z1).set3 0
  obtain ⟨q0, q1, q2, q3, _, _, _, _⟩ := r
  have HBf := hid (bset (bset (bset (bset HBb.out w.heap.size 0 (.int .i64 (N : Int)) (Nat.le_refl _)) w.heap.size 1 (.int .u64 (X1 : Int)) (Nat.le_refl _)) w.heap.size 2 (.int .u64 (Z1 : Int)) (Nat.le_refl _)) w.heap.size 3 (.int .i64 0) (Nat.le_refl _))
  go_wp2
  exact bodyPost_ret (v := pv (N : Nat) X1 Z1 0) (by simp [results, Try.results40, go_sem, q0, q1, q2, q3]) rfl ⟨rfl, HBf.out⟩
set_option maxHeartbeats 2000000 in
set_option maxRecDepth 100000 in
theorem rim_13_0_true (N qa qb : Nat) (_hN : N ≤ 64) (_ha : qa < N) (_hb : qb < N) (_hab : qa ≠ qb) (b o cq : Nat) (w : World) (HC : Hid (∀ W, Below w.heap.size w W → W.cell? ⟨b, o, none⟩ = some (.int .i64 (qa : Nat)) ∧ W.cell? ⟨b, o + 1, none⟩ = some (.int .i64 (qb : Nat)) ∧ b < W.heap.size)) (_hcq : 2 ≤ cq) :
    Calls Try.prog 40 #[.int .i64 (N : Nat), .string ⟨#[99, 122]⟩, .slice (some ⟨b, o, none⟩) 2 cq, .int .i64 (qa : Nat), .bool true] w fun e w' => e = .returned ((gL N qa true).mul (gL N qb false)).v ∧ Below w.heap.size w w' := by
  have O1 := hid (fun w => ron_l N qa 88 0 w _hN _ha (by decide))
  have O2 : Hid (∀ w, Calls Try.prog 22 #[.int .i64 (N : Nat), .int .i64 (qb : Nat), .int .u8 90, .int .i64 0] w fun e w' => e = .returned (pv (N : Nat) (onP N qb 90 0).x (onP N qb 90 0).z 0) ∧ Below w.heap.size w w') := fun w => ron_l N qb 90 0 w _hN _hb (by decide)
  have MU := hid (fun w => rmulT_any (gL N qa true) (gL N qb false) w (gl_ok N qa _hN _ha true) (gl_ok N qb _hN _hb false) rfl)
  have f1 : ((qa : Int) != (qa : Int)) = false := bne_self_eq_false' _
  have f2 : ((qa : Int) == (qa : Int)) = true := beq_self_eq_true _
  have f4 : ((qa : Int) == (qb : Int)) = false := beq_eq_false_iff_ne.2 (by omega)
  have P10 := hid (PL.PB.new w 0 0 0 0)
  have HB := hid (bal (Below.refl w.heap.size w) (PL.pc 0 0 0 0))
  clear _ha _hb _hab _hN
  obtain ⟨X1, hX1⟩ : ∃ X1, Hid (X1 = (onP N qa 88 0).x) := ⟨_, rfl⟩
  obtain ⟨Z1, hZ1⟩ : ∃ Z1, Hid (Z1 = (onP N qa 88 0).z) := ⟨_, rfl⟩
  rw [← hX1.out, ← hZ1.out] at O1
  obtain ⟨X2, hX2⟩ : ∃ X2, Hid (X2 = (onP N qb 90 0).x) := ⟨_, rfl⟩
  obtain ⟨Z2, hZ2⟩ : ∃ Z2, Hid (Z2 = (onP N qb 90 0).z) := ⟨_, rfl⟩
  rw [← hX2.out, ← hZ2.out] at O2
  obtain ⟨M, hM⟩ : ∃ M, Hid (M = (gL N qa true).mul (gL N qb false)) := ⟨_, rfl⟩
  rw [← hM.out] at MU
  have hMN : Hid (M.n = N) := by show _ = _; rw [hM.out]; rfl
  have HR : Hid (((gL N qa true).mul (gL N qb false)).v = pv (N : Nat) M.x M.z M.f) := by show _ = _; rw [← hM.out, ← hMN.out]
  have hMU : Hid (∀ w, Calls Try.prog 21 #[pv (N : Nat) X1 Z1 0, pv (N : Nat) X2 Z2 0] w fun e w' => e = .returned (pv (N : Nat) M.x M.z M.f) ∧ Below w.heap.size w w') := fun w => by
    have h := MU.out w
    rw [hX1.out, hX2.out, hZ1.out, hZ2.out, ← hMN.out]
    rw [hMN.out]
    have e : M.v = pv (N : Nat) M.x M.z M.f := by rw [← hMN.out]
    rw [e] at h
    exact h
  rw [HR.out]
  clear HR hX1 hZ1 hX2 hZ2 hM hMN MU
  obtain ⟨mn, X3, Z3, F3⟩ := M
  simp only at *
  go_enter Try.func40, Try.ntmps40
  go_wp2_with (go_at_call 22; refine Hid.out ?_)
  refine hid ?_
  refine (O1.out _).mono ?_
  rintro e w1 ⟨rfl, hN1⟩
  have P12 := hid (PL.PB.new w1 (N : Nat) X1 Z1 0)
  have hA := bal (Below.refl w1.heap.size w1) (PL.pc (N : Nat) X1 Z1 0)
  replace P10 := hid (P10.out.below (btr hN1 hA))
  replace HB := hid (btr HB.out (btr hN1 hA))
  obtain ⟨c0, c1, cl⟩ := HC.out _ HB.out
  clear hA hN1 O1
  go_upto_region 10 with (fail)
  go_quiet (fail)
  have P12b := hid (P12.out.drewN nq)
  have P10b := hid (P10.out.drewN nq)
  have HBb := hid (below_drewN HB.out nq)
  obtain ⟨V, hV⟩ : ∃ V, V = (w1.alloc (PL.pc (N : Nat) X1 Z1 0)).drewN nq := ⟨_, rfl⟩
  have hVV : V = (w1.alloc (.cells #[.int .i64 (N : Int), .int .u64 (X1 : Int), .int .u64 (Z1 : Int), .int .i64 0] 29)).drewN nq := hV
  rw [← hV] at P12b P10b HBb
  rw [← hVV]
  clear hV hVV P12 P10 HB c0 c1 cl HC
  generalize w1.heap.size = b12 at *
  obtain ⟨u0, u1, u2, u3, _, _, _, _⟩ := P12b.out
  have ul := P12b.out.lt
  go_upto_region 21 with (fail)
  go_region_with (first
    | (go_at_call 22; (with_reducible refine (O2.out _).mono ?_); rintro e w3 ⟨rfl, hN3⟩; (have hh3 := btr (drew_of HBb.out) hN3); obtain ⟨u0, u1, u2, u3, _, _, _, _⟩ := P12b.out.below hh3)
    | (go_at_call 21; (with_reducible refine (hMU.out _).mono ?_); rintro e w4 ⟨rfl, hN4⟩; (have hh4 := btr hh3 hN4); obtain ⟨y0, y1, y2, y3, z0, z1, z2, z3⟩ := P10b.out.below hh4))
  all_goals
    have P10c := hid (P10b.out.below hh4)
    have HBc := hid (btr HBb.out hh4)
    have r := (((P10c.out.set0 (N : Nat)).set1 X3).set2 Z3).set3 (F3 : Nat)
    obtain ⟨q0, q1, q2, q3, _, _, _, _⟩ := r
    have HBf := hid (bset (bset (bset (bset HBc.out w.heap.size 0 (.int .i64 (N : Int)) (Nat.le_refl _)) w.heap.size 1 (.int .u64 (X3 : Int)) (Nat.le_refl _)) w.heap.size 2 (.int .u64 (Z3 : Int)) (Nat.le_refl _)) w.heap.size 3 (.int .i64 (F3 : Int)) (Nat.le_refl _))
    go_wp2
    exact bodyPost_ret (v := pv (N : Nat) X3 Z3 (F3 : Nat)) (by simp [results, Try.results40, go_sem, q0, q1, q2, q3]) rfl ⟨rfl, HBf.out⟩
set_option maxHeartbeats 2000000 in
set_option maxRecDepth 100000 in
theorem rim_13_0_false (N qa qb : Nat) (_hN : N ≤ 64) (_ha : qa < N) (_hb : qb < N) (_hab : qa ≠ qb) (b o cq : Nat) (w : World) (HC : Hid (∀ W, Below w.heap.size w W → W.cell? ⟨b, o, none⟩ = some (.int .i64 (qa : Nat)) ∧ W.cell? ⟨b, o + 1, none⟩ = some (.int .i64 (qb : Nat)) ∧ b < W.heap.size)) (_hcq : 2 ≤ cq) :
    Calls Try.prog 40 #[.int .i64 (N : Nat), .string ⟨#[99, 122]⟩, .slice (some ⟨b, o, none⟩) 2 cq, .int .i64 (qa : Nat), .bool false] w fun e w' => e = .returned (gL N qa false).v ∧ Below w.heap.size w w' := by
  have O1 := hid (fun w => ron_l N qa 90 0 w _hN _ha (by decide))
  have f1 : ((qa : Int) != (qa : Int)) = false := bne_self_eq_false' _
  have f2 : ((qa : Int) == (qa : Int)) = true := beq_self_eq_true _
  have f4 : ((qa : Int) == (qb : Int)) = false := beq_eq_false_iff_ne.2 (by omega)
  have P10 := hid (PL.PB.new w 0 0 0 0)
  have HB := hid (bal (Below.refl w.heap.size w) (PL.pc 0 0 0 0))
  clear _ha _hb _hab _hN
  obtain ⟨X1, hX1⟩ : ∃ X1, Hid (X1 = (onP N qa 90 0).x) := ⟨_, rfl⟩
  obtain ⟨Z1, hZ1⟩ : ∃ Z1, Hid (Z1 = (onP N qa 90 0).z) := ⟨_, rfl⟩
  rw [← hX1.out, ← hZ1.out] at O1
  have HR : Hid ((gL N qa false).v = pv (N : Nat) X1 Z1 0) := by show _ = _; rw [hX1.out, hZ1.out]; rfl
  rw [HR.out]
  clear HR hX1 hZ1
  go_enter Try.func40, Try.ntmps40
  go_wp2_with (go_at_call 22; refine Hid.out ?_)
  refine hid ?_
  refine (O1.out _).mono ?_
  rintro e w1 ⟨rfl, hN1⟩
  have P12 := hid (PL.PB.new w1 (N : Nat) X1 Z1 0)
  have hA := bal (Below.refl w1.heap.size w1) (PL.pc (N : Nat) X1 Z1 0)
  replace P10 := hid (P10.out.below (btr hN1 hA))
  replace HB := hid (btr HB.out (btr hN1 hA))
  obtain ⟨c0, c1, cl⟩ := HC.out _ HB.out
  clear hA hN1 O1
  go_upto_region 10 with (fail)
  go_quiet (fail)
  have P12b := hid (P12.out.drewN nq)
  have P10b := hid (P10.out.drewN nq)
  have HBb := hid (below_drewN HB.out nq)
  obtain ⟨V, hV⟩ : ∃ V, V = (w1.alloc (PL.pc (N : Nat) X1 Z1 0)).drewN nq := ⟨_, rfl⟩
  have hVV : V = (w1.alloc (.cells #[.int .i64 (N : Int), .int .u64 (X1 : Int), .int .u64 (Z1 : Int), .int .i64 0] 29)).drewN nq := hV
  rw [← hV] at P12b P10b HBb
  rw [← hVV]
  clear hV hVV P12 P10 HB c0 c1 cl HC
  generalize w1.heap.size = b12 at *
  obtain ⟨u0, u1, u2, u3, _, _, _, _⟩ := P12b.out
  have ul := P12b.out.lt
  obtain ⟨y0, y1, y2, y3, z0, z1, z2, z3⟩ := P10b.out
  have yl := P10b.out.lt
  have r := (((P10b.out.set0 (N : Nat)).set1 X1).set2 Z1).set3 0
  obtain ⟨q0, q1, q2, q3, _, _, _, _⟩ := r
  have HBf := hid (bset (bset (bset (bset HBb.out w.heap.size 0 (.int .i64 (N : Int)) (Nat.le_refl _)) w.heap.size 1 (.int .u64 (X1 : Int)) (Nat.le_refl _)) w.heap.size 2 (.int .u64 (Z1 : Int)) (Nat.le_refl _)) w.heap.size 3 (.int .i64 0) (Nat.le_refl _))
  go_wp2
  exact bodyPost_ret (v := pv (N : Nat) X1 Z1 0) (by simp [results, Try.results40, go_sem, q0, q1, q2, q3]) rfl ⟨rfl, HBf.out⟩
set_option maxHeartbeats 2000000 in
set_option maxRecDepth 100000 in
theorem rim_13_1_true (N qa qb : Nat) (_hN : N ≤ 64) (_ha : qa < N) (_hb : qb < N) (_hab : qa ≠ qb) (b o cq : Nat) (w : World) (HC : Hid (∀ W, Below w.heap.size w W → W.cell? ⟨b, o, none⟩ = some (.int .i64 (qa : Nat)) ∧ W.cell? ⟨b, o + 1, none⟩ = some (.int .i64 (qb : Nat)) ∧ b < W.heap.size)) (_hcq : 2 ≤ cq) :
    Calls Try.prog 40 #[.int .i64 (N : Nat), .string ⟨#[99, 122]⟩, .slice (some ⟨b, o, none⟩) 2 cq, .int .i64 (qb : Nat), .bool true] w fun e w' => e = .returned ((gL N qb true).mul (gL N qa false)).v ∧ Below w.heap.size w w' := by
  have O1 := hid (fun w => ron_l N qb 88 0 w _hN _hb (by decide))
  have O2 : Hid (∀ w, Calls Try.prog 22 #[.int .i64 (N : Nat), .int .i64 (qa : Nat), .int .u8 90, .int .i64 0] w fun e w' => e = .returned (pv (N : Nat) (onP N qa 90 0).x (onP N qa 90 0).z 0) ∧ Below w.heap.size w w') := fun w => ron_l N qa 90 0 w _hN _ha (by decide)
  have MU := hid (fun w => rmulT_any (gL N qb true) (gL N qa false) w (gl_ok N qb _hN _hb true) (gl_ok N qa _hN _ha false) rfl)
  have f1 : ((qb : Int) != (qa : Int)) = true := bne_iff_ne.2 (by omega)
  have f2 : ((qb : Int) != (qb : Int)) = false := bne_self_eq_false' _
  have f3 : ((qb : Int) == (qa : Int)) = false := beq_eq_false_iff_ne.2 (by omega)
  have P10 := hid (PL.PB.new w 0 0 0 0)
  have HB := hid (bal (Below.refl w.heap.size w) (PL.pc 0 0 0 0))
  clear _ha _hb _hab _hN
  obtain ⟨X1, hX1⟩ : ∃ X1, Hid (X1 = (onP N qb 88 0).x) := ⟨_, rfl⟩
  obtain ⟨Z1, hZ1⟩ : ∃ Z1, Hid (Z1 = (onP N qb 88 0).z) := ⟨_, rfl⟩
  rw [← hX1.out, ← hZ1.out] at O1
  obtain ⟨X2, hX2⟩ : ∃ X2, Hid (X2 = (onP N qa 90 0).x) := ⟨_, rfl⟩
  obtain ⟨Z2, hZ2⟩ : ∃ Z2, Hid (Z2 = (onP N qa 90 0).z) := ⟨_, rfl⟩
  rw [← hX2.out, ← hZ2.out] at O2
  obtain ⟨M, hM⟩ : ∃ M, Hid (M = (gL N qb true).mul (gL N qa false)) := ⟨_, rfl⟩
  rw [← hM.out] at MU
  have hMN : Hid (M.n = N) := by show _ = _; rw [hM.out]; rfl
  have HR : Hid (((gL N qb true).mul (gL N qa false)).v = pv (N : Nat) M.x M.z M.f) := by show _ = _; rw [← hM.out, ← hMN.out]
  have hMU : Hid (∀ w, Calls Try.prog 21 #[pv (N : Nat) X1 Z1 0, pv (N : Nat) X2 Z2 0] w fun e w' => e = .returned (pv (N : Nat) M.x M.z M.f) ∧ Below w.heap.size w w') := fun w => by
    have h := MU.out w
    rw [hX1.out, hX2.out, hZ1.out, hZ2.out, ← hMN.out]
    rw [hMN.out]
    have e : M.v = pv (N : Nat) M.x M.z M.f := by rw [← hMN.out]
    rw [e] at h
    exact h
  rw [HR.out]
  clear HR hX1 hZ1 hX2 hZ2 hM hMN MU
  obtain ⟨mn, X3, Z3, F3⟩ := M
  simp only at *
  go_enter Try.func40, Try.ntmps40
  go_wp2_with (go_at_call 22; refine Hid.out ?_)
  refine hid ?_
  refine (O1.out _).mono ?_
  rintro e w1 ⟨rfl, hN1⟩
  have P12 := hid (PL.PB.new w1 (N : Nat) X1 Z1 0)
  have hA := bal (Below.refl w1.heap.size w1) (PL.pc (N : Nat) X1 Z1 0)
  replace P10 := hid (P10.out.below (btr hN1 hA))
  replace HB := hid (btr HB.out (btr hN1 hA))
  obtain ⟨c0, c1, cl⟩ := HC.out _ HB.out
  clear hA hN1 O1
  go_upto_region 10 with (fail)
  go_quiet (fail)
  have P12b := hid (P12.out.drewN nq)
  have P10b := hid (P10.out.drewN nq)
  have HBb := hid (below_drewN HB.out nq)
  obtain ⟨V, hV⟩ : ∃ V, V = (w1.alloc (PL.pc (N : Nat) X1 Z1 0)).drewN nq := ⟨_, rfl⟩
  have hVV : V = (w1.alloc (.cells #[.int .i64 (N : Int), .int .u64 (X1 : Int), .int .u64 (Z1 : Int), .int .i64 0] 29)).drewN nq := hV
  rw [← hV] at P12b P10b HBb
  rw [← hVV]
  clear hV hVV P12 P10 HB c0 c1 cl HC
  generalize w1.heap.size = b12 at *
  obtain ⟨u0, u1, u2, u3, _, _, _, _⟩ := P12b.out
  have ul := P12b.out.lt
  go_upto_region 21 with (fail)
  go_region_with (first
    | (go_at_call 22; (with_reducible refine (O2.out _).mono ?_); rintro e w3 ⟨rfl, hN3⟩; (have hh3 := btr (drew_of HBb.out) hN3); obtain ⟨u0, u1, u2, u3, _, _, _, _⟩ := P12b.out.below hh3)
    | (go_at_call 21; (with_reducible refine (hMU.out _).mono ?_); rintro e w4 ⟨rfl, hN4⟩; (have hh4 := btr hh3 hN4); obtain ⟨y0, y1, y2, y3, z0, z1, z2, z3⟩ := P10b.out.below hh4))
  all_goals
    have P10c := hid (P10b.out.below hh4)
    have HBc := hid (btr HBb.out hh4)
    have r := (((P10c.out.set0 (N : Nat)).set1 X3).set2 Z3).set3 (F3 : Nat)
    obtain ⟨q0, q1, q2, q3, _, _, _, _⟩ := r
    have HBf := hid (bset (bset (bset (bset HBc.out w.heap.size 0 (.int .i64 (N : Int)) (Nat.le_refl _)) w.heap.size 1 (.int .u64 (X3 : Int)) (Nat.le_refl _)) w.heap.size 2 (.int .u64 (Z3 : Int)) (Nat.le_refl _)) w.heap.size 3 (.int .i64 (F3 : Int)) (Nat.le_refl _))
    go_wp2
    exact bodyPost_ret (v := pv (N : Nat) X3 Z3 (F3 : Nat)) (by simp [results, Try.results40, go_sem, q0, q1, q2, q3]) rfl ⟨rfl, HBf.out⟩
set_option maxHeartbeats 2000000 in
set_option maxRecDepth 100000 in
theorem rim_13_1_false (N qa qb : Nat) (_hN : N ≤ 64) (_ha : qa < N) (_hb : qb < N) (_hab : qa ≠ qb) (b o cq : Nat) (w : World) (HC : Hid (∀ W, Below w.heap.size w W → W.cell? ⟨b, o, none⟩ = some (.int .i64 (qa : Nat)) ∧ W.cell? ⟨b, o + 1, none⟩ = some (.int .i64 (qb : Nat)) ∧ b < W.heap.size)) (_hcq : 2 ≤ cq) :
    Calls Try.prog 40 #[.int .i64 (N : Nat), .string ⟨#[99, 122]⟩, .slice (some ⟨b, o, none⟩) 2 cq, .int .i64 (qb : Nat), .bool false] w fun e w' => e = .returned (gL N qb false).v ∧ Below w.heap.size w w' := by
  have O1 := hid (fun w => ron_l N qb 90 0 w _hN _hb (by decide))
  have f1 : ((qb : Int) != (qa : Int)) = true := bne_iff_ne.2 (by omega)
  have f2 : ((qb : Int) != (qb : Int)) = false := bne_self_eq_false' _
  have f3 : ((qb : Int) == (qa : Int)) = false := beq_eq_false_iff_ne.2 (by omega)
  have P10 := hid (PL.PB.new w 0 0 0 0)
  have HB := hid (bal (Below.refl w.heap.size w) (PL.pc 0 0 0 0))
  clear _ha _hb _hab _hN
  obtain ⟨X1, hX1⟩ : ∃ X1, Hid (X1 = (onP N qb 90 0).x) := ⟨_, rfl⟩
  obtain ⟨Z1, hZ1⟩ : ∃ Z1, Hid (Z1 = (onP N qb 90 0).z) := ⟨_, rfl⟩
  rw [← hX1.out, ← hZ1.out] at O1
  have HR : Hid ((gL N qb false).v = pv (N : Nat) X1 Z1 0) := by show _ = _; rw [hX1.out, hZ1.out]; rfl
  rw [HR.out]
  clear HR hX1 hZ1
  go_enter Try.func40, Try.ntmps40
  go_wp2_with (go_at_call 22; refine Hid.out ?_)
  refine hid ?_
  refine (O1.out _).mono ?_
  rintro e w1 ⟨rfl, hN1⟩
  have P12 := hid (PL.PB.new w1 (N : Nat) X1 Z1 0)
  have hA := bal (Below.refl w1.heap.size w1) (PL.pc (N : Nat) X1 Z1 0)
  replace P10 := hid (P10.out.below (btr hN1 hA))
  replace HB := hid (btr HB.out (btr hN1 hA))
  obtain ⟨c0, c1, cl⟩ := HC.out _ HB.out
  clear hA hN1 O1
  go_upto_region 10 with (fail)
  go_quiet (fail)
  have P12b := hid (P12.out.drewN nq)
  have P10b := hid (P10.out.drewN nq)
  have HBb := hid (below_drewN HB.out nq)
  obtain ⟨V, hV⟩ : ∃ V, V = (w1.alloc (PL.pc (N : Nat) X1 Z1 0)).drewN nq := ⟨_, rfl⟩
  have hVV : V = (w1.alloc (.cells #[.int .i64 (N : Int), .int .u64 (X1 : Int), .int .u64 (Z1 : Int), .int .i64 0] 29)).drewN nq := hV
  rw [← hV] at P12b P10b HBb
  rw [← hVV]
  clear hV hVV P12 P10 HB c0 c1 cl HC
  generalize w1.heap.size = b12 at *
  obtain ⟨u0, u1, u2, u3, _, _, _, _⟩ := P12b.out
  have ul := P12b.out.lt
  obtain ⟨y0, y1, y2, y3, z0, z1, z2, z3⟩ := P10b.out
  have yl := P10b.out.lt
  have r := (((P10b.out.set0 (N : Nat)).set1 X1).set2 Z1).set3 0
  obtain ⟨q0, q1, q2, q3, _, _, _, _⟩ := r
  have HBf := hid (bset (bset (bset (bset HBb.out w.heap.size 0 (.int .i64 (N : Int)) (Nat.le_refl _)) w.heap.size 1 (.int .u64 (X1 : Int)) (Nat.le_refl _)) w.heap.size 2 (.int .u64 (Z1 : Int)) (Nat.le_refl _)) w.heap.size 3 (.int .i64 0) (Nat.le_refl _))
  go_wp2
  exact bodyPost_ret (v := pv (N : Nat) X1 Z1 0) (by simp [results, Try.results40, go_sem, q0, q1, q2, q3]) rfl ⟨rfl, HBf.out⟩
set_option maxHeartbeats 2000000 in
set_option maxRecDepth 100000 in
theorem rim_13_2_true (N qa qb j : Nat) (_hN : N ≤ 64) (_ha : qa < N) (_hb : qb < N) (_hab : qa ≠ qb) (_hj : j < N) (_hja : j ≠ qa) (_hjb : j ≠ qb) (b o cq : Nat) (w : World) (HC : Hid (∀ W, Below w.heap.size w W → W.cell? ⟨b, o, none⟩ = some (.int .i64 (qa : Nat)) ∧ W.cell? ⟨b, o + 1, none⟩ = some (.int .i64 (qb : Nat)) ∧ b < W.heap.size)) (_hcq : 2 ≤ cq) :
    Calls Try.prog 40 #[.int .i64 (N : Nat), .string ⟨#[99, 122]⟩, .slice (some ⟨b, o, none⟩) 2 cq, .int .i64 (j : Nat), .bool true] w fun e w' => e = .returned (gL N j true).v ∧ Below w.heap.size w w' := by
  have O1 := hid (fun w => ron_l N j 88 0 w _hN _hj (by decide))
  have f1 : ((j : Int) != (qa : Int)) = true := bne_iff_ne.2 (by omega)
  have f2 : ((j : Int) != (qb : Int)) = true := bne_iff_ne.2 (by omega)
  have P10 := hid (PL.PB.new w 0 0 0 0)
  have HB := hid (bal (Below.refl w.heap.size w) (PL.pc 0 0 0 0))
  clear _ha _hb _hab _hN _hj _hja _hjb
  obtain ⟨X1, hX1⟩ : ∃ X1, Hid (X1 = (onP N j 88 0).x) := ⟨_, rfl⟩
  obtain ⟨Z1, hZ1⟩ : ∃ Z1, Hid (Z1 = (onP N j 88 0).z) := ⟨_, rfl⟩
  rw [← hX1.out, ← hZ1.out] at O1
  have HR : Hid ((gL N j true).v = pv (N : Nat) X1 Z1 0) := by show _ = _; rw [hX1.out, hZ1.out]; rfl
  rw [HR.out]
  clear HR hX1 hZ1
  go_enter Try.func40, Try.ntmps40
  go_wp2_with (go_at_call 22; refine Hid.out ?_)
  refine hid ?_
  refine (O1.out _).mono ?_
  rintro e w1 ⟨rfl, hN1⟩
  have P12 := hid (PL.PB.new w1 (N : Nat) X1 Z1 0)
  have hA := bal (Below.refl w1.heap.size w1) (PL.pc (N : Nat) X1 Z1 0)
  replace P10 := hid (P10.out.below (btr hN1 hA))
  replace HB := hid (btr HB.out (btr hN1 hA))
  obtain ⟨c0, c1, cl⟩ := HC.out _ HB.out
  clear hA hN1 O1
  go_upto_region 10 with (fail)
  go_quiet (fail)
  have P12b := hid (P12.out.drewN nq)
  have P10b := hid (P10.out.drewN nq)
  have HBb := hid (below_drewN HB.out nq)
  obtain ⟨V, hV⟩ : ∃ V, V = (w1.alloc (PL.pc (N : Nat) X1 Z1 0)).drewN nq := ⟨_, rfl⟩
  have hVV : V = (w1.alloc (.cells #[.int .i64 (N : Int), .int .u64 (X1 : Int), .int .u64 (Z1 : Int), .int .i64 0] 29)).drewN nq := hV
  rw [← hV] at P12b P10b HBb
  rw [← hVV]
  clear hV hVV P12 P10 HB c0 c1 cl HC
  generalize w1.heap.size = b12 at *
  obtain ⟨u0, u1, u2, u3, _, _, _, _⟩ := P12b.out
  have ul := P12b.out.lt
  obtain ⟨y0, y1, y2, y3, z0, z1, z2, z3⟩ := P10b.out
  have yl := P10b.out.lt
  have r := (((P10b.out.set0 (N : Nat)).set1 X1).set2 Z1).set3 0
  obtain ⟨q0, q1, q2, q3, _, _, _, _⟩ := r
  have HBf := hid (bset (bset (bset (bset HBb.out w.heap.size 0 (.int .i64 (N : Int)) (Nat.le_refl _)) w.heap.size 1 (.int .u64 (X1 : Int)) (Nat.le_refl _)) w.heap.size 2 (.int .u64 (Z1 : Int)) (Nat.le_refl _)) w.heap.size 3 (.int .i64 0) (Nat.le_refl _))
  go_wp2
  exact bodyPost_ret (v := pv (N : Nat) X1 Z1 0) (by simp [results, Try.results40, go_sem, q0, q1, q2, q3]) rfl ⟨rfl, HBf.out⟩
set_option maxHeartbeats 2000000 in
set_option maxRecDepth 100000 in
theorem rim_13_2_false (N qa qb j : Nat) (_hN : N ≤ 64) (_ha : qa < N) (_hb : qb < N) (_hab : qa ≠ qb) (_hj : j < N) (_hja : j ≠ qa) (_hjb : j ≠ qb) (b o cq : Nat) (w : World) (HC : Hid (∀ W, Below w.heap.size w W → W.cell? ⟨b, o, none⟩ = some (.int .i64 (qa : Nat)) ∧ W.cell? ⟨b, o + 1, none⟩ = some (.int .i64 (qb : Nat)) ∧ b < W.heap.size)) (_hcq : 2 ≤ cq) :
    Calls Try.prog 40 #[.int .i64 (N : Nat), .string ⟨#[99, 122]⟩, .slice (some ⟨b, o, none⟩) 2 cq, .int .i64 (j : Nat), .bool false] w fun e w' => e = .returned (gL N j false).v ∧ Below w.heap.size w w' := by
  have O1 := hid (fun w => ron_l N j 90 0 w _hN _hj (by decide))
  have f1 : ((j : Int) != (qa : Int)) = true := bne_iff_ne.2 (by omega)
  have f2 : ((j : Int) != (qb : Int)) = true := bne_iff_ne.2 (by omega)
  have P10 := hid (PL.PB.new w 0 0 0 0)
  have HB := hid (bal (Below.refl w.heap.size w) (PL.pc 0 0 0 0))
  clear _ha _hb _hab _hN _hj _hja _hjb
  obtain ⟨X1, hX1⟩ : ∃ X1, Hid (X1 = (onP N j 90 0).x) := ⟨_, rfl⟩
  obtain ⟨Z1, hZ1⟩ : ∃ Z1, Hid (Z1 = (onP N j 90 0).z) := ⟨_, rfl⟩
  rw [← hX1.out, ← hZ1.out] at O1
  have HR : Hid ((gL N j false).v = pv (N : Nat) X1 Z1 0) := by show _ = _; rw [hX1.out, hZ1.out]; rfl
  rw [HR.out]
  clear HR hX1 hZ1
  go_enter Try.func40, Try.ntmps40
  go_wp2_with (go_at_call 22; refine Hid.out ?_)
  refine hid ?_
  refine (O1.out _).mono ?_
  rintro e w1 ⟨rfl, hN1⟩
  have P12 := hid (PL.PB.new w1 (N : Nat) X1 Z1 0)
  have hA := bal (Below.refl w1.heap.size w1) (PL.pc (N : Nat) X1 Z1 0)
  replace P10 := hid (P10.out.below (btr hN1 hA))
  replace HB := hid (btr HB.out (btr hN1 hA))
  obtain ⟨c0, c1, cl⟩ := HC.out _ HB.out
  clear hA hN1 O1
  go_upto_region 10 with (fail)
  go_quiet (fail)
  have P12b := hid (P12.out.drewN nq)
  have P10b := hid (P10.out.drewN nq)
  have HBb := hid (below_drewN HB.out nq)
  obtain ⟨V, hV⟩ : ∃ V, V = (w1.alloc (PL.pc (N : Nat) X1 Z1 0)).drewN nq := ⟨_, rfl⟩
  have hVV : V = (w1.alloc (.cells #[.int .i64 (N : Int), .int .u64 (X1 : Int), .int .u64 (Z1 : Int), .int .i64 0] 29)).drewN nq := hV
  rw [← hV] at P12b P10b HBb
  rw [← hVV]
  clear hV hVV P12 P10 HB c0 c1 cl HC
  generalize w1.heap.size = b12 at *
  obtain ⟨u0, u1, u2, u3, _, _, _, _⟩ := P12b.out
  have ul := P12b.out.lt
  obtain ⟨y0, y1, y2, y3, z0, z1, z2, z3⟩ := P10b.out
  have yl := P10b.out.lt
  have r := (((P10b.out.set0 (N : Nat)).set1 X1).set2 Z1).set3 0
  obtain ⟨q0, q1, q2, q3, _, _, _, _⟩ := r
  have HBf := hid (bset (bset (bset (bset HBb.out w.heap.size 0 (.int .i64 (N : Int)) (Nat.le_refl _)) w.heap.size 1 (.int .u64 (X1 : Int)) (Nat.le_refl _)) w.heap.size 2 (.int .u64 (Z1 : Int)) (Nat.le_refl _)) w.heap.size 3 (.int .i64 0) (Nat.le_refl _))
  go_wp2
  exact bodyPost_ret (v := pv (N : Nat) X1 Z1 0) (by simp [results, Try.results40, go_sem, q0, q1, q2, q3]) rfl ⟨rfl, HBf.out⟩
set_option maxHeartbeats 2000000 in
set_option maxRecDepth 100000 in
theorem rim_14_0_true (N qa qb : Nat) (_hN : N ≤ 64) (_ha : qa < N) (_hb : qb < N) (_hab : qa ≠ qb) (b o cq : Nat) (w : World) (HC : Hid (∀ W, Below w.heap.size w W → W.cell? ⟨b, o, none⟩ = some (.int .i64 (qa : Nat)) ∧ W.cell? ⟨b, o + 1, none⟩ = some (.int .i64 (qb : Nat)) ∧ b < W.heap.size)) (_hcq : 2 ≤ cq) :
    Calls Try.prog 40 #[.int .i64 (N : Nat), .string ⟨#[115, 119, 97, 112]⟩, .slice (some ⟨b, o, none⟩) 2 cq, .int .i64 (qa : Nat), .bool true] w fun e w' => e = .returned (gL N qb true).v ∧ Below w.heap.size w w' := by
  have O1 := hid (fun w => ron_l N qa 88 0 w _hN _ha (by decide))
  have O2 : Hid (∀ w, Calls Try.prog 22 #[.int .i64 (N : Nat), .int .i64 (qb : Nat), .int .u8 88, .int .i64 0] w fun e w' => e = .returned (pv (N : Nat) (onP N qb 88 0).x (onP N qb 88 0).z 0) ∧ Below w.heap.size w w') := fun w => ron_l N qb 88 0 w _hN _hb (by decide)
  have f1 : ((qa : Int) != (qa : Int)) = false := bne_self_eq_false' _
  have f2 : ((qa : Int) == (qa : Int)) = true := beq_self_eq_true _
  have f4 : ((qa : Int) == (qb : Int)) = false := beq_eq_false_iff_ne.2 (by omega)
  have P10 := hid (PL.PB.new w 0 0 0 0)
  have HB := hid (bal (Below.refl w.heap.size w) (PL.pc 0 0 0 0))
  clear _ha _hb _hab _hN
  obtain ⟨X1, hX1⟩ : ∃ X1, Hid (X1 = (onP N qa 88 0).x) := ⟨_, rfl⟩
  obtain ⟨Z1, hZ1⟩ : ∃ Z1, Hid (Z1 = (onP N qa 88 0).z) := ⟨_, rfl⟩
  rw [← hX1.out, ← hZ1.out] at O1
  obtain ⟨X2, hX2⟩ : ∃ X2, Hid (X2 = (onP N qb 88 0).x) := ⟨_, rfl⟩
  obtain ⟨Z2, hZ2⟩ : ∃ Z2, Hid (Z2 = (onP N qb 88 0).z) := ⟨_, rfl⟩
  rw [← hX2.out, ← hZ2.out] at O2
  have HR : Hid ((gL N qb true).v = pv (N : Nat) X2 Z2 0) := by show _ = _; rw [hX2.out, hZ2.out]; rfl
  rw [HR.out]
  clear HR hX1 hZ1 hX2 hZ2
  go_enter Try.func40, Try.ntmps40
  go_wp2_with (go_at_call 22; refine Hid.out ?_)
  refine hid ?_
  refine (O1.out _).mono ?_
  rintro e w1 ⟨rfl, hN1⟩
  have P12 := hid (PL.PB.new w1 (N : Nat) X1 Z1 0)
  have hA := bal (Below.refl w1.heap.size w1) (PL.pc (N : Nat) X1 Z1 0)
  replace P10 := hid (P10.out.below (btr hN1 hA))
  replace HB := hid (btr HB.out (btr hN1 hA))
  obtain ⟨c0, c1, cl⟩ := HC.out _ HB.out
  clear hA hN1 O1
  go_upto_region 10 with (fail)
  go_quiet (fail)
  have P12b := hid (P12.out.drewN nq)
  have P10b := hid (P10.out.drewN nq)
  have HBb := hid (below_drewN HB.out nq)
  obtain ⟨V, hV⟩ : ∃ V, V = (w1.alloc (PL.pc (N : Nat) X1 Z1 0)).drewN nq := ⟨_, rfl⟩
  have hVV : V = (w1.alloc (.cells #[.int .i64 (N : Int), .int .u64 (X1 : Int), .int .u64 (Z1 : Int), .int .i64 0] 29)).drewN nq := hV
  rw [← hV] at P12b P10b HBb
  rw [← hVV]
  clear hV hVV P12 P10 HB c0 c1 cl HC
  generalize w1.heap.size = b12 at *
  go_wp2_with (go_at_call 22; refine Hid.out ?_)
  refine hid ?_
  refine (O2.out _).mono ?_
  rintro e w3 ⟨rfl, hN3⟩
  replace P10b := hid (P10b.out.below hN3)
  replace HBb := hid (btr HBb.out hN3)
  obtain ⟨y0, y1, y2, y3, z0, z1, z2, z3⟩ := P10b.out
  have yl := P10b.out.lt
  have r := (((P10b.out.set0 (N : Nat)).set1 X2).set2 Z2).set3 0
  obtain ⟨q0, q1, q2, q3, _, _, _, _⟩ := r
  have HBf := hid (bset (bset (bset (bset HBb.out w.heap.size 0 (.int .i64 (N : Int)) (Nat.le_refl _)) w.heap.size 1 (.int .u64 (X2 : Int)) (Nat.le_refl _)) w.heap.size 2 (.int .u64 (Z2 : Int)) (Nat.le_refl _)) w.heap.size 3 (.int .i64 0) (Nat.le_refl _))
  go_wp2
  exact bodyPost_ret (v := pv (N : Nat) X2 Z2 0) (by simp [results, Try.results40, go_sem, q0, q1, q2, q3]) rfl ⟨rfl, HBf.out⟩
set_option maxHeartbeats 2000000 in
set_option maxRecDepth 100000 in
theorem rim_14_0_false (N qa qb : Nat) (_hN : N ≤ 64) (_ha : qa < N) (_hb : qb < N) (_hab : qa ≠ qb) (b o cq : Nat) (w : World) (HC : Hid (∀ W, Below w.heap.size w W → W.cell? ⟨b, o, none⟩ = some (.int .i64 (qa : Nat)) ∧ W.cell? ⟨b, o + 1, none⟩ = some (.int .i64 (qb : Nat)) ∧ b < W.heap.size)) (_hcq : 2 ≤ cq) :
    Calls Try.prog 40 #[.int .i64 (N : Nat), .string ⟨#[115, 119, 97, 112]⟩, .slice (some ⟨b, o, none⟩) 2 cq, .int .i64 (qa : Nat), .bool false] w fun e w' => e = .returned (gL N qb false).v ∧ Below w.heap.size w w' := by
  have O1 := hid (fun w => ron_l N qa 90 0 w _hN _ha (by decide))
  have O2 : Hid (∀ w, Calls Try.prog 22 #[.int .i64 (N : Nat), .int .i64 (qb : Nat), .int .u8 90, .int .i64 0] w fun e w' => e = .returned (pv (N : Nat) (onP N qb 90 0).x (onP N qb 90 0).z 0) ∧ Below w.heap.size w w') := fun w => ron_l N qb 90 0 w _hN _hb (by decide)
  have f1 : ((qa : Int) != (qa : Int)) = false := bne_self_eq_false' _
  have f2 : ((qa : Int) == (qa : Int)) = true := beq_self_eq_true _
  have f4 : ((qa : Int) == (qb : Int)) = false := beq_eq_false_iff_ne.2 (by omega)
  have P10 := hid (PL.PB.new w 0 0 0 0)
  have HB := hid (bal (Below.refl w.heap.size w) (PL.pc 0 0 0 0))
  clear _ha _hb _hab _hN
  obtain ⟨X1, hX1⟩ : ∃ X1, Hid (X1 = (onP N qa 90 0).x) := ⟨_, rfl⟩
  obtain ⟨Z1, hZ1⟩ : ∃ Z1, Hid (Z1 = (onP N qa 90 0).z) := ⟨_, rfl⟩
  rw [← hX1.out, ← hZ1.out] at O1
  obtain ⟨X2, hX2⟩ : ∃ X2, Hid (X2 = (onP N qb 90 0).x) := ⟨_, rfl⟩
  obtain ⟨Z2, hZ2⟩ : ∃ Z2, Hid (Z2 = (onP N qb 90 0).z) := ⟨_, rfl⟩
  rw [← hX2.out, ← hZ2.out] at O2
  have HR : Hid ((gL N qb false).v = pv (N : Nat) X2 Z2 0) := by show _ = _; rw [hX2.out, hZ2.out]; rfl
  rw [HR.out]
  clear HR hX1 hZ1 hX2 hZ2
  go_enter Try.func40, Try.ntmps40
  go_wp2_with (go_at_call 22; refine Hid.out ?_)
  refine hid ?_
  refine (O1.out _).mono ?_
  rintro e w1 ⟨rfl, hN1⟩
  have P12 := hid (PL.PB.new w1 (N : Nat) X1 Z1 0)
  have hA := bal (Below.refl w1.heap.size w1) (PL.pc (N : Nat) X1 Z1 0)
  replace P10 := hid (P10.out.below (btr hN1 hA))
  replace HB := hid (btr HB.out (btr hN1 hA))
  obtain ⟨c0, c1, cl⟩ := HC.out _ HB.out
  clear hA hN1 O1
  go_upto_region 10 with (fail)
  go_quiet (fail)
  have P12b := hid (P12.out.drewN nq)
  have P10b := hid (P10.out.drewN nq)
  have HBb := hid (below_drewN HB.out nq)
  obtain ⟨V, hV⟩ : ∃ V, V = (w1.alloc (PL.pc (N : Nat) X1 Z1 0)).drewN nq := ⟨_, rfl⟩
  have hVV : V = (w1.alloc (.cells #[.int .i64 (N : Int), .int .u64 (X1 : Int), .int .u64 (Z1 : Int), .int .i64 0] 29)).drewN nq := hV
  rw [← hV] at P12b P10b HBb
  rw [← hVV]
  clear hV hVV P12 P10 HB c0 c1 cl HC
  generalize w1.heap.size = b12 at *
  go_wp2_with (go_at_call 22; refine Hid.out ?_)
  refine hid ?_
  refine (O2.out _).mono ?_
  rintro e w3 ⟨rfl, hN3⟩
  replace P10b := hid (P10b.out.below hN3)
  replace HBb := hid (btr HBb.out hN3)
  obtain ⟨y0, y1, y2, y3, z0, z1, z2, z3⟩ := P10b.out
  have yl := P10b.out.lt
  have r := (((P10b.out.set0 (N : Nat)).set1 X2).set2 Z2).set3 0
  obtain ⟨q0, q1, q2, q3, _, _, _, _⟩ := r
  have HBf := hid (bset (bset (bset (bset HBb.out w.heap.size 0 (.int .i64 (N : Int)) (Nat.le_refl _)) w.heap.size 1 (.int .u64 (X2 : Int)) (Nat.le_refl _)) w.heap.size 2 (.int .u64 (Z2 : Int)) (Nat.le_refl _)) w.heap.size 3 (.int .i64 0) (Nat.le_refl _))
  go_wp2
  exact bodyPost_ret (v := pv (N : Nat) X2 Z2 0) (by simp [results, Try.results40, go_sem, q0, q1, q2, q3]) rfl ⟨rfl, HBf.out⟩
set_option maxHeartbeats 2000000 in
set_option maxRecDepth 100000 in
theorem rim_14_1_true (N qa qb : Nat) (_hN : N ≤ 64) (_ha : qa < N) (_hb : qb < N) (_hab : qa ≠ qb) (b o cq : Nat) (w : World) (HC : Hid (∀ W, Below w.heap.size w W → W.cell? ⟨b, o, none⟩ = some (.int .i64 (qa : Nat)) ∧ W.cell? ⟨b, o + 1, none⟩ = some (.int .i64 (qb : Nat)) ∧ b < W.heap.size)) (_hcq : 2 ≤ cq) :
    Calls Try.prog 40 #[.int .i64 (N : Nat), .string ⟨#[115, 119, 97, 112]⟩, .slice (some ⟨b, o, none⟩) 2 cq, .int .i64 (qb : Nat), .bool true] w fun e w' => e = .returned (gL N qa true).v ∧ Below w.heap.size w w' := by
  have O1 := hid (fun w => ron_l N qb 88 0 w _hN _hb (by decide))
  have O2 : Hid (∀ w, Calls Try.prog 22 #[.int .i64 (N : Nat), .int .i64 (qa : Nat), .int .u8 88, .int .i64 0] w fun e w' => e = .returned (pv (N : Nat) (onP N qa 88 0).x (onP N qa 88 0).z 0) ∧ Below w.heap.size w w') := fun w => ron_l N qa 88 0 w _hN _ha (by decide)
  have f1 : ((qb : Int) != (qa : Int)) = true := bne_iff_ne.2 (by omega)
  have f2 : ((qb : Int) != (qb : Int)) = false := bne_self_eq_false' _
  have f3 : ((qb : Int) == (qa : Int)) = false := beq_eq_false_iff_ne.2 (by omega)
  have P10 := hid (PL.PB.new w 0 0 0 0)
  have HB := hid (bal (Below.refl w.heap.size w) (PL.pc 0 0 0 0))
  clear _ha _hb _hab _hN
  obtain ⟨X1, hX1⟩ : ∃ X1, Hid (X1 = (onP N qb 88 0).x) := ⟨_, rfl⟩
  obtain ⟨Z1, hZ1⟩ : ∃ Z1, Hid (Z1 = (onP N qb 88 0).z) := ⟨_, rfl⟩
  rw [← hX1.out, ← hZ1.out] at O1
  obtain ⟨X2, hX2⟩ : ∃ X2, Hid (X2 = (onP N qa 88 0).x) := ⟨_, rfl⟩
  obtain ⟨Z2, hZ2⟩ : ∃ Z2, Hid (Z2 = (onP N qa 88 0).z) := ⟨_, rfl⟩
  rw [← hX2.out, ← hZ2.out] at O2
  have HR : Hid ((gL N qa true).v = pv (N : Nat) X2 Z2 0) := by show _ = _; rw [hX2.out, hZ2.out]; rfl
  rw [HR.out]
  clear HR hX1 hZ1 hX2 hZ2
  go_enter Try.func40, Try.ntmps40
  go_wp2_with (go_at_call 22; refine Hid.out ?_)
  refine hid ?_
  refine (O1.out _).mono ?_
  rintro e w1 ⟨rfl, hN1⟩
  have P12 := hid (PL.PB.new w1 (N : Nat) X1 Z1 0)
  have hA := bal (Below.refl w1.heap.size w1) (PL.pc (N : Nat) X1 Z1 0)
  replace P10 := hid (P10.out.below (btr hN1 hA))
  replace HB := hid (btr HB.out (btr hN1 hA))
  obtain ⟨c0, c1, cl⟩ := HC.out _ HB.out
  clear hA hN1 O1
  go_upto_region 10 with (fail)
  go_quiet (fail)
  have P12b := hid (P12.out.drewN nq)
  have P10b := hid (P10.out.drewN nq)
  have HBb := hid (below_drewN HB.out nq)
  obtain ⟨V, hV⟩ : ∃ V, V = (w1.alloc (PL.pc (N : Nat) X1 Z1 0)).drewN nq := ⟨_, rfl⟩
  have hVV : V = (w1.alloc (.cells #[.int .i64 (N : Int), .int .u64 (X1 : Int), .int .u64 (Z1 : Int), .int .i64 0] 29)).drewN nq := hV
  rw [← hV] at P12b P10b HBb
  rw [← hVV]
  clear hV hVV P12 P10 HB c0 c1 cl HC
  generalize w1.heap.size = b12 at *
  go_wp2_with (go_at_call 22; refine Hid.out ?_)
  refine hid ?_
  refine (O2.out _).mono ?_
  rintro e w3 ⟨rfl, hN3⟩
  replace P10b := hid (P10b.out.below hN3)
  replace HBb := hid (btr HBb.out hN3)
  obtain ⟨y0, y1, y2, y3, z0, z1, z2, z3⟩ := P10b.out
  have yl := P10b.out.lt
  have r := (((P10b.out.set0 (N : Nat)).set1 X2).set2 Z2).set3 0
  obtain ⟨q0, q1, q2, q3, _, _, _, _⟩ := r
  have HBf := hid (bset (bset (bset (bset HBb.out w.heap.size 0 (.int .i64 (N : Int)) (Nat.le_refl _)) w.heap.size 1 (.int .u64 (X2 : Int)) (Nat.le_refl _)) w.heap.size 2 (.int .u64 (Z2 : Int)) (Nat.le_refl _)) w.heap.size 3 (.int .i64 0) (Nat.le_refl _))
  go_wp2
  exact bodyPost_ret (v := pv (N : Nat) X2 Z2 0) (by simp [results, Try.results40, go_sem, q0, q1, q2, q3]) rfl ⟨rfl, HBf.out⟩
set_option maxHeartbeats 2000000 in
set_option maxRecDepth 100000 in
theorem rim_14_1_false (N qa qb : Nat) (_hN : N ≤ 64) (_ha : qa < N) (_hb : qb < N) (_hab : qa ≠ qb) (b o cq : Nat) (w : World) (HC : Hid (∀ W, Below w.heap.size w W → W.cell? ⟨b, o, none⟩ = some (.int .i64 (qa : Nat)) ∧ W.cell? ⟨b, o + 1, none⟩ = some (.int .i64 (qb : Nat)) ∧ b < W.heap.size)) (_hcq : 2 ≤ cq) :
    Calls Try.prog 40 #[.int .i64 (N : Nat), .string ⟨#[115, 119, 97, 112]⟩, .slice (some ⟨b, o, none⟩) 2 cq, .int .i64 (qb : Nat), .bool false] w fun e w' => e = .returned (gL N qa false).v ∧ Below w.heap.size w w' := by
  have O1 := hid (fun w => ron_l N qb 90 0 w _hN _hb (by decide))
  have O2 : Hid (∀ w, Calls Try.prog 22 #[.int .i64 (N : Nat), .int .i64 (qa : Nat), .int .u8 90, .int .i64 0] w fun e w' => e = .returned (pv (N : Nat) (onP N qa 90 0).x (onP N qa 90 0).z 0) ∧ Below w.heap.size w w') := fun w => ron_l N qa 90 0 w _hN _ha (by decide)
  have f1 : ((qb : Int) != (qa : Int)) = true := bne_iff_ne.2 (by omega)
  have f2 : ((qb : Int) != (qb : Int)) = false := bne_self_eq_false' _
  have f3 : ((qb : Int) == (qa : Int)) = false := beq_eq_false_iff_ne.2 (by omega)
  have P10 := hid (PL.PB.new w 0 0 0 0)
  have HB := hid (bal (Below.refl w.heap.size w) (PL.pc 0 0 0 0))
  clear _ha _hb _hab _hN
  obtain ⟨X1, hX1⟩ : ∃ X1, Hid (X1 = (onP N qb 90 0).x) := ⟨_, rfl⟩
  obtain ⟨Z1, hZ1⟩ : ∃ Z1, Hid (Z1 = (onP N qb 90 0).z) := ⟨_, rfl⟩
  rw [← hX1.out, ← hZ1.out] at O1
  obtain ⟨X2, hX2⟩ : ∃ X2, Hid (X2 = (onP N qa 90 0).x) := ⟨_, rfl⟩
  obtain ⟨Z2, hZ2⟩ : ∃ Z2, Hid (Z2 = (onP N qa 90 0).z) := ⟨_, rfl⟩
  rw [← hX2.out, ← hZ2.out] at O2
  have HR : Hid ((gL N qa false).v = pv (N : Nat) X2 Z2 0) := by show _ = _; rw [hX2.out, hZ2.out]; rfl
  rw [HR.out]
  clear HR hX1 hZ1 hX2 hZ2
  go_enter Try.func40, Try.ntmps40
  go_wp2_with (go_at_call 22; refine Hid.out ?_)
  refine hid ?_
  refine (O1.out _).mono ?_
  rintro e w1 ⟨rfl, hN1⟩
  have P12 := hid (PL.PB.new w1 (N : Nat) X1 Z1 0)
  have hA := bal (Below.refl w1.heap.size w1) (PL.pc (N : Nat) X1 Z1 0)
  replace P10 := hid (P10.out.below (btr hN1 hA))
  replace HB := hid (btr HB.out (btr hN1 hA))
  obtain ⟨c0, c1, cl⟩ := HC.out _ HB.out
  clear hA hN1 O1
  go_upto_region 10 with (fail)
  go_quiet (fail)
  have P12b := hid (P12.out.drewN nq)
  have P10b := hid (P10.out.drewN nq)
  have HBb := hid (below_drewN HB.out nq)
  obtain ⟨V, hV⟩ : ∃ V, V = (w1.alloc (PL.pc (N : Nat) X1 Z1 0)).drewN nq := ⟨_, rfl⟩
  have hVV : V = (w1.alloc (.cells #[.int .i64 (N : Int), .int .u64 (X1 : Int), .int .u64 (Z1 : Int), .int .i64 0] 29)).drewN nq := hV
  rw [← hV] at P12b P10b HBb
  rw [← hVV]
  clear hV hVV P12 P10 HB c0 c1 cl HC
  generalize w1.heap.size = b12 at *
  go_wp2_with (go_at_call 22; refine Hid.out ?_)
  refine hid ?_
  refine (O2.out _).mono ?_
  rintro e w3 ⟨rfl, hN3⟩
  replace P10b := hid (P10b.out.below hN3)
  replace HBb := hid (btr HBb.out hN3)
  obtain ⟨y0, y1, y2, y3, z0, z1, z2, z3⟩ := P10b.out
  have yl := P10b.out.lt
  have r := (((P10b.out.set0 (N : Nat)).set1 X2).set2 Z2).set3 0
  obtain ⟨q0, q1, q2, q3, _, _, _, _⟩ := r
  have HBf := hid (bset (bset (bset (bset HBb.out w.heap.size 0 (.int .i64 (N : Int)) (Nat.le_refl _)) w.heap.size 1 (.int .u64 (X2 : Int)) (Nat.le_refl _)) w.heap.size 2 (.int .u64 (Z2 : Int)) (Nat.le_refl _)) w.heap.size 3 (.int .i64 0) (Nat.le_refl _))
  go_wp2
  exact bodyPost_ret (v := pv (N : Nat) X2 Z2 0) (by simp [results, Try.results40, go_sem, q0, q1, q2, q3]) rfl ⟨rfl, HBf.out⟩
set_option maxHeartbeats 2000000 in
set_option maxRecDepth 100000 in
theorem rim_14_2_true (N qa qb j : Nat) (_hN : N ≤ 64) (_ha : qa < N) (_hb : qb < N) (_hab : qa ≠ qb) (_hj : j < N) (_hja : j ≠ qa) (_hjb : j ≠ qb) (b o cq : Nat) (w : World) (HC : Hid (∀ W, Below w.heap.size w W → W.cell? ⟨b, o, none⟩ = some (.int .i64 (qa : Nat)) ∧ W.cell? ⟨b, o + 1, none⟩ = some (.int .i64 (qb : Nat)) ∧ b < W.heap.size)) (_hcq : 2 ≤ cq) :
    Calls Try.prog 40 #[.int .i64 (N : Nat), .string ⟨#[115, 119, 97, 112]⟩, .slice (some ⟨b, o, none⟩) 2 cq, .int .i64 (j : Nat), .bool true] w fun e w' => e = .returned (gL N j true).v ∧ Below w.heap.size w w' := by
  have O1 := hid (fun w => ron_l N j 88 0 w _hN _hj (by decide))
  have f1 : ((j : Int) != (qa : Int)) = true := bne_iff_ne.2 (by omega)
  have f2 : ((j : Int) != (qb : Int)) = true := bne_iff_ne.2 (by omega)
  have P10 := hid (PL.PB.new w 0 0 0 0)
  have HB := hid (bal (Below.refl w.heap.size w) (PL.pc 0 0 0 0))
  clear _ha _hb _hab _hN _hj _hja _hjb
  obtain ⟨X1, hX1⟩ : ∃ X1, Hid (X1 = (onP N j 88 0).x) := ⟨_, rfl⟩
  obtain ⟨Z1, hZ1⟩ : ∃ Z1, Hid (Z1 = (onP N j 88 0).z) := ⟨_, rfl⟩
  rw [← hX1.out, ← hZ1.out] at O1
  have HR : Hid ((gL N j true).v = pv (N : Nat) X1 Z1 0) := by show _ = _; rw [hX1.out, hZ1.out]; rfl
  rw [HR.out]
  clear HR hX1 hZ1
  go_enter Try.func40, Try.ntmps40
  go_wp2_with (go_at_call 22; refine Hid.out ?_)
  refine hid ?_
  refine (O1.out _).mono ?_
  rintro e w1 ⟨rfl, hN1⟩
  have P12 := hid (PL.PB.new w1 (N : Nat) X1 Z1 0)
  have hA := bal (Below.refl w1.heap.size w1) (PL.pc (N : Nat) X1 Z1 0)
  replace P10 := hid (P10.out.below (btr hN1 hA))
  replace HB := hid (btr HB.out (btr hN1 hA))
  obtain ⟨c0, c1, cl⟩ := HC.out _ HB.out
  clear hA hN1 O1
  go_upto_region 10 with (fail)
  go_quiet (fail)
  have P12b := hid (P12.out.drewN nq)
  have P10b := hid (P10.out.drewN nq)
  have HBb := hid (below_drewN HB.out nq)
  obtain ⟨V, hV⟩ : ∃ V, V = (w1.alloc (PL.pc (N : Nat) X1 Z1 0)).drewN nq := ⟨_, rfl⟩
  have hVV : V = (w1.alloc (.cells #[.int .i64 (N : Int), .int .u64 (X1 : Int), .int .u64 (Z1 : Int), .int .i64 0] 29)).drewN nq := hV
  rw [← hV] at P12b P10b HBb
  rw [← hVV]
  clear hV hVV P12 P10 HB c0 c1 cl HC
  generalize w1.heap.size = b12 at *
  obtain ⟨u0, u1, u2, u3, _, _, _, _⟩ := P12b.out
  have ul := P12b.out.lt
  obtain ⟨y0, y1, y2, y3, z0, z1, z2, z3⟩ := P10b.out
  have yl := P10b.out.lt
  have r := (((P10b.out.set0 (N : Nat)).set1 X1).set2 Z1).set3 0
  obtain ⟨q0, q1, q2, q3, _, _, _, _⟩ := r
  have HBf := hid (bset (bset (bset (bset HBb.out w.heap.size 0 (.int .i64 (N : Int)) (Nat.le_refl _)) w.heap.size 1 (.int .u64 (X1 : Int)) (Nat.le_refl _)) w.heap.size 2 (.int .u64 (Z1 : Int)) (Nat.le_refl _)) w.heap.size 3 (.int .i64 0) (Nat.le_refl _))
  go_wp2
  exact bodyPost_ret (v := pv (N : Nat) X1 Z1 0) (by simp [results, Try.results40, go_sem, q0, q1, q2, q3]) rfl ⟨rfl, HBf.out⟩
set_option maxHeartbeats 2000000 in
set_option maxRecDepth 100000 in
theorem rim_14_2_false (N qa qb j : Nat) (_hN : N ≤ 64) (_ha : qa < N) (_hb : qb < N) (_hab : qa ≠ qb) (_hj : j < N) (_hja : j ≠ qa) (_hjb : j ≠ qb) (b o cq : Nat) (w : World) (HC : Hid (∀ W, Below w.heap.size w W → W.cell? ⟨b, o, none⟩ = some (.int .i64 (qa : Nat)) ∧ W.cell? ⟨b, o + 1, none⟩ = some (.int .i64 (qb : Nat)) ∧ b < W.heap.size)) (_hcq : 2 ≤ cq) :
    Calls Try.prog 40 #[.int .i64 (N : Nat), .string ⟨#[115, 119, 97, 112]⟩, .slice (some ⟨b, o, none⟩) 2 cq, .int .i64 (j : Nat), .bool false] w fun e w' => e = .returned (gL N j false).v ∧ Below w.heap.size w w' := by
  have O1 := hid (fun w => ron_l N j 90 0 w _hN _hj (by decide))
  have f1 : ((j : Int) != (qa : Int)) = true := bne_iff_ne.2 (by omega)
  have f2 : ((j : Int) != (qb : Int)) = true := bne_iff_ne.2 (by omega)
  have P10 := hid (PL.PB.new w 0 0 0 0)
  have HB := hid (bal (Below.refl w.heap.size w) (PL.pc 0 0 0 0))
  clear _ha _hb _hab _hN _hj _hja _hjb
  obtain ⟨X1, hX1⟩ : ∃ X1, Hid (X1 = (onP N j 90 0).x) := ⟨_, rfl⟩
  obtain ⟨Z1, hZ1⟩ : ∃ Z1, Hid (Z1 = (onP N j 90 0).z) := ⟨_, rfl⟩
  rw [← hX1.out, ← hZ1.out] at O1
  have HR : Hid ((gL N j false).v = pv (N : Nat) X1 Z1 0) := by show _ = _; rw [hX1.out, hZ1.out]; rfl
  rw [HR.out]
  clear HR hX1 hZ1
  go_enter Try.func40, Try.ntmps40
  go_wp2_with (go_at_call 22; refine Hid.out ?_)
  refine hid ?_
  refine (O1.out _).mono ?_
  rintro e w1 ⟨rfl, hN1⟩
  have P12 := hid (PL.PB.new w1 (N : Nat) X1 Z1 0)
  have hA := bal (Below.refl w1.heap.size w1) (PL.pc (N : Nat) X1 Z1 0)
  replace P10 := hid (P10.out.below (btr hN1 hA))
  replace HB := hid (btr HB.out (btr hN1 hA))
  obtain ⟨c0, c1, cl⟩ := HC.out _ HB.out
  clear hA hN1 O1
  go_upto_region 10 with (fail)
  go_quiet (fail)
  have P12b := hid (P12.out.drewN nq)
  have P10b := hid (P10.out.drewN nq)
  have HBb := hid (below_drewN HB.out nq)
  obtain ⟨V, hV⟩ : ∃ V, V = (w1.alloc (PL.pc (N : Nat) X1 Z1 0)).drewN nq := ⟨_, rfl⟩
  have hVV : V = (w1.alloc (.cells #[.int .i64 (N : Int), .int .u64 (X1 : Int), .int .u64 (Z1 : Int), .int .i64 0] 29)).drewN nq := hV
  rw [← hV] at P12b P10b HBb
  rw [← hVV]
  clear hV hVV P12 P10 HB c0 c1 cl HC
  generalize w1.heap.size = b12 at *
  obtain ⟨u0, u1, u2, u3, _, _, _, _⟩ := P12b.out
  have ul := P12b.out.lt
  obtain ⟨y0, y1, y2, y3, z0, z1, z2, z3⟩ := P10b.out
  have yl := P10b.out.lt
  have r := (((P10b.out.set0 (N : Nat)).set1 X1).set2 Z1).set3 0
  obtain ⟨q0, q1, q2, q3, _, _, _, _⟩ := r
  have HBf := hid (bset (bset (bset (bset HBb.out w.heap.size 0 (.int .i64 (N : Int)) (Nat.le_refl _)) w.heap.size 1 (.int .u64 (X1 : Int)) (Nat.le_refl _)) w.heap.size 2 (.int .u64 (Z1 : Int)) (Nat.le_refl _)) w.heap.size 3 (.int .i64 0) (Nat.le_refl _))
  go_wp2
  exact bodyPost_ret (v := pv (N : Nat) X1 Z1 0) (by simp [results, Try.results40, go_sem, q0, q1, q2, q3]) rfl ⟨rfl, HBf.out⟩
end Go.Proofs.Ytoddbaljnlhhaab
