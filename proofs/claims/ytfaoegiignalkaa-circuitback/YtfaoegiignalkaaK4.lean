/-
  The law CircuitBack, from what its calls tell.
-/
import Derived.Test.YtfaoegiignalkaaK2
import Derived.Test.YtfaoegiignalkaaM1
namespace Go.Proofs.Ytfaoegiignalkaa
open Go.RowKit Go.Shelf

section
variable (c d : Ci) (a1 a2 : Option Addr) (c1 c2 : Nat) (A1 A2 : Nat → Option Addr) (C1 C2 : Nat → Nat) (w : World)
set_option maxHeartbeats 4000000 in
set_option maxRecDepth 100000 in
theorem back_a (H1 : OS w a1 c1 c.ops A1 C1) (H2 : OS w a2 c2 d.ops A2 C2) (hc : invE c ≠ 0) :
    Calls Try.prog 6 #[civ c a1 c1, civ d a2 c2] w fun e w' => e = .returned (.bool true) ∧ Below w.heap.size w w' := by
  have AW := fun w => awake_any w
  have HO1 := hid H1
  have HO2 := hid H2
  clear H1 H2
  have F1 := fun w1 h => inverseC_any c a1 c1 A1 C1 w1 h
  have F2 := fun w1 h => inverseC_any d a2 c2 A2 C2 w1 h
  have SN : ∀ a k A C w1, OS w1 a k (invR c).ops A C → Calls Try.prog 22 #[.agg #[.int .i64 (invR c).q, .int .i64 (invR c).b, .slice a (invR c).ops.length k], .agg #[.int .i64 0, .int .i64 0, .slice none 0 0]] w1 fun e w' => e = .returned (.bool true) ∧ Below w1.heap.size w1 w' := fun a k A C w1 h => by
    rw [inv_no hc] at h ⊢
    exact same_any noCi a none k 0 A (fun _ => none) C (fun _ => 0) w1 h (os_none _ _ _)
  have h1 : ((invE c : Int) != 0) = true := bne_iff_ne.2 (by omega)
  have h2 : ((invE c : Int) == 0) = false := beq_eq_false_iff_ne.2 (by omega)
  clear hc
  generalize invR c = IR at *
  generalize invE c = IE at *
  generalize invR d = JR at *
  generalize invE d = JE at *
  go_enter Try.func6, Try.ntmps6
  have HB : Below w.heap.size w ((w.alloc (.cells #[.int .i64 c.q, .int .i64 c.b, .slice a1 c.ops.length c1] 24)).alloc (.cells #[.int .i64 d.q, .int .i64 d.b, .slice a2 d.ops.length c2] 24)) := bal (bal (Below.refl _ _) _) _
  have k1 : BK ((w.alloc (.cells #[.int .i64 c.q, .int .i64 c.b, .slice a1 c.ops.length c1] 24)).alloc (.cells #[.int .i64 d.q, .int .i64 d.b, .slice a2 d.ops.length c2] 24)) w.heap.size #[.int .i64 c.q, .int .i64 c.b, .slice a1 c.ops.length c1] 24 := (bk_new _ _ _).alloc _
  have k2 : BK ((w.alloc (.cells #[.int .i64 c.q, .int .i64 c.b, .slice a1 c.ops.length c1] 24)).alloc (.cells #[.int .i64 d.q, .int .i64 d.b, .slice a2 d.ops.length c2] 24)) (w.heap.size + 1) #[.int .i64 d.q, .int .i64 d.b, .slice a2 d.ops.length c2] 24 := bk_at _ _ (by simp)
  go_wp2_with (go_at_call 9; (with_reducible refine (AW _).mono ?_); rintro e w1 ⟨rfl, hB1⟩; refine Hid.out ?_)
  refine hid ?_
  skip
  replace k1 : BK w1 _ _ 24 := (hB1.block _ k1.lt).trans k1
  replace k2 : BK w1 _ _ 24 := (hB1.block _ k2.lt).trans k2
  have x1 := k1.cell
  have x2 := k2.cell
  have l1 := k1.lt
  have l2 := k2.lt
  replace HB := btr HB hB1
  clear hB1
  go_wp2_with (go_at_call 20; (with_reducible refine (F1 _ (HO1.out.below HB)).mono ?_); rintro e w2 ⟨ax, cx, vx, rfl, hOx, hB2⟩; refine Hid.out ?_)
  refine hid ?_
  clear x1 x2 l1 l2
  replace k1 : BK w2 _ _ 24 := (hB2.block _ k1.lt).trans k1
  replace k2 : BK w2 _ _ 24 := (hB2.block _ k2.lt).trans k2
  have x1 := k1.cell
  have x2 := k2.cell
  have l1 := k1.lt
  have l2 := k2.lt
  replace HB := bal (btr HB hB2) (.cells #[.int .i64 IR.q, .int .i64 IR.b, .slice ax IR.ops.length cx] 24)
  replace k1 := k1.alloc (.cells #[.int .i64 IR.q, .int .i64 IR.b, .slice ax IR.ops.length cx] 24)
  replace k2 := k2.alloc (.cells #[.int .i64 IR.q, .int .i64 IR.b, .slice ax IR.ops.length cx] 24)
  have Bx := hid (bx_new hOx)
  clear hOx hB2
  go_wp2_with (go_at_call 20; (with_reducible refine (F2 _ (HO2.out.below HB)).mono ?_); rintro e w3 ⟨ay, cy, vy, rfl, hOy, hB3⟩; refine Hid.out ?_)
  refine hid ?_
  clear x1 x2 l1 l2
  replace k1 : BK w3 _ _ 24 := (hB3.block _ k1.lt).trans k1
  replace k2 : BK w3 _ _ 24 := (hB3.block _ k2.lt).trans k2
  replace Bx := hid (Bx.out.blw hB3)
  have x1 := k1.cell
  have x2 := k2.cell
  have l1 := k1.lt
  have l2 := k2.lt
  have xx := Bx.out.bk.cell
  have lx := Bx.out.bk.lt
  replace HB := bal (btr HB hB3) (.cells #[.int .i64 JR.q, .int .i64 JR.b, .slice ay JR.ops.length cy] 24)
  replace k1 := k1.alloc (.cells #[.int .i64 JR.q, .int .i64 JR.b, .slice ay JR.ops.length cy] 24)
  replace k2 := k2.alloc (.cells #[.int .i64 JR.q, .int .i64 JR.b, .slice ay JR.ops.length cy] 24)
  replace Bx := hid (Bx.out.blw (bal (Below.refl _ _) (.cells #[.int .i64 JR.q, .int .i64 JR.b, .slice ay JR.ops.length cy] 24)))
  have By := hid (bx_new hOy)
  clear hOy hB3
  go_wp2_with (go_at_call 22; (with_reducible refine (SN _ _ _ _ _ Bx.out.os).mono ?_); rintro e w4 ⟨rfl, hB4⟩; refine Hid.out ?_)
  refine hid ?_
  clear x1 x2 l1 l2 xx lx
  replace k1 : BK w4 _ _ 24 := (hB4.block _ k1.lt).trans k1
  replace k2 : BK w4 _ _ 24 := (hB4.block _ k2.lt).trans k2
  replace Bx := hid (Bx.out.blw hB4)
  replace By := hid (By.out.blw hB4)
  have x1 := k1.cell
  have x2 := k2.cell
  have l1 := k1.lt
  have l2 := k2.lt
  have xx := Bx.out.bk.cell
  have lx := Bx.out.bk.lt
  have xy := By.out.bk.cell
  have ly := By.out.bk.lt
  replace HB := btr HB hB4
  clear hB4
  go_wp2
  go_ret
  exact ⟨rfl, HB⟩
set_option maxHeartbeats 4000000 in
set_option maxRecDepth 100000 in
theorem back_b (H1 : OS w a1 c1 c.ops A1 C1) (H2 : OS w a2 c2 d.ops A2 C2) (hc : invE c = 0) (hd : invE d ≠ 0) :
    Calls Try.prog 6 #[civ c a1 c1, civ d a2 c2] w fun e w' => e = .returned (.bool true) ∧ Below w.heap.size w w' := by
  have AW := fun w => awake_any w
  have HO1 := hid H1
  have HO2 := hid H2
  clear H1 H2
  have F1 := fun w1 h => inverseC_any c a1 c1 A1 C1 w1 h
  have F2 := fun w1 h => inverseC_any d a2 c2 A2 C2 w1 h
  rw [hc] at F1
  have h1 : ((invE d : Int) != 0) = true := bne_iff_ne.2 (by omega)
  clear hc hd
  generalize invR c = IR at *
  generalize invR d = JR at *
  generalize invE d = JE at *
  go_enter Try.func6, Try.ntmps6
  have HB : Below w.heap.size w ((w.alloc (.cells #[.int .i64 c.q, .int .i64 c.b, .slice a1 c.ops.length c1] 24)).alloc (.cells #[.int .i64 d.q, .int .i64 d.b, .slice a2 d.ops.length c2] 24)) := bal (bal (Below.refl _ _) _) _
  have k1 : BK ((w.alloc (.cells #[.int .i64 c.q, .int .i64 c.b, .slice a1 c.ops.length c1] 24)).alloc (.cells #[.int .i64 d.q, .int .i64 d.b, .slice a2 d.ops.length c2] 24)) w.heap.size #[.int .i64 c.q, .int .i64 c.b, .slice a1 c.ops.length c1] 24 := (bk_new _ _ _).alloc _
  have k2 : BK ((w.alloc (.cells #[.int .i64 c.q, .int .i64 c.b, .slice a1 c.ops.length c1] 24)).alloc (.cells #[.int .i64 d.q, .int .i64 d.b, .slice a2 d.ops.length c2] 24)) (w.heap.size + 1) #[.int .i64 d.q, .int .i64 d.b, .slice a2 d.ops.length c2] 24 := bk_at _ _ (by simp)
  go_wp2_with (go_at_call 9; (with_reducible refine (AW _).mono ?_); rintro e w1 ⟨rfl, hB1⟩; refine Hid.out ?_)
  refine hid ?_
  skip
  replace k1 : BK w1 _ _ 24 := (hB1.block _ k1.lt).trans k1
  replace k2 : BK w1 _ _ 24 := (hB1.block _ k2.lt).trans k2
  have x1 := k1.cell
  have x2 := k2.cell
  have l1 := k1.lt
  have l2 := k2.lt
  replace HB := btr HB hB1
  clear hB1
  go_wp2_with (go_at_call 20; (with_reducible refine (F1 _ (HO1.out.below HB)).mono ?_); rintro e w2 ⟨ax, cx, vx, rfl, hOx, hB2⟩; refine Hid.out ?_)
  refine hid ?_
  clear x1 x2 l1 l2
  replace k1 : BK w2 _ _ 24 := (hB2.block _ k1.lt).trans k1
  replace k2 : BK w2 _ _ 24 := (hB2.block _ k2.lt).trans k2
  have x1 := k1.cell
  have x2 := k2.cell
  have l1 := k1.lt
  have l2 := k2.lt
  replace HB := bal (btr HB hB2) (.cells #[.int .i64 IR.q, .int .i64 IR.b, .slice ax IR.ops.length cx] 24)
  replace k1 := k1.alloc (.cells #[.int .i64 IR.q, .int .i64 IR.b, .slice ax IR.ops.length cx] 24)
  replace k2 := k2.alloc (.cells #[.int .i64 IR.q, .int .i64 IR.b, .slice ax IR.ops.length cx] 24)
  have Bx := hid (bx_new hOx)
  clear hOx hB2
  go_wp2_with (go_at_call 20; (with_reducible refine (F2 _ (HO2.out.below HB)).mono ?_); rintro e w3 ⟨ay, cy, vy, rfl, hOy, hB3⟩; refine Hid.out ?_)
  refine hid ?_
  clear x1 x2 l1 l2
  replace k1 : BK w3 _ _ 24 := (hB3.block _ k1.lt).trans k1
  replace k2 : BK w3 _ _ 24 := (hB3.block _ k2.lt).trans k2
  replace Bx := hid (Bx.out.blw hB3)
  have x1 := k1.cell
  have x2 := k2.cell
  have l1 := k1.lt
  have l2 := k2.lt
  have xx := Bx.out.bk.cell
  have lx := Bx.out.bk.lt
  replace HB := bal (btr HB hB3) (.cells #[.int .i64 JR.q, .int .i64 JR.b, .slice ay JR.ops.length cy] 24)
  replace k1 := k1.alloc (.cells #[.int .i64 JR.q, .int .i64 JR.b, .slice ay JR.ops.length cy] 24)
  replace k2 := k2.alloc (.cells #[.int .i64 JR.q, .int .i64 JR.b, .slice ay JR.ops.length cy] 24)
  replace Bx := hid (Bx.out.blw (bal (Below.refl _ _) (.cells #[.int .i64 JR.q, .int .i64 JR.b, .slice ay JR.ops.length cy] 24)))
  have By := hid (bx_new hOy)
  clear hOy hB3
  go_wp2
  go_ret
  exact ⟨rfl, HB⟩
set_option maxHeartbeats 4000000 in
set_option maxRecDepth 100000 in
theorem back_c (H1 : OS w a1 c1 c.ops A1 C1) (H2 : OS w a2 c2 d.ops A2 C2) (hc : invE c = 0) (hd : invE d = 0) (ht : thE c d ≠ 0) :
    Calls Try.prog 6 #[civ c a1 c1, civ d a2 c2] w fun e w' => e = .returned (.bool true) ∧ Below w.heap.size w w' := by
  have AW := fun w => awake_any w
  have HO1 := hid H1
  have HO2 := hid H2
  clear H1 H2
  obtain ⟨e1, e2, e3⟩ := back1 hc
  have F1 := fun w1 h => inverseC_any c a1 c1 A1 C1 w1 h
  have F2 := fun w1 h => inverseC_any d a2 c2 A2 C2 w1 h
  have F3 := fun a k A C w1 h => inverseC_any (invR c) a k A C w1 h
  have G1 := fun w1 h => halvesC_any c a1 c1 A1 C1 w1 h
  have G3 := fun a k A C w1 h => halvesC_any (invR c) a k A C w1 h
  have T1 := fun w1 h g => then_any c d a1 a2 c1 c2 A1 A2 C1 C2 w1 h g
  have T2 := fun a b k l A B C D w1 h g => then_any (invR d) (invR c) a b k l A B C D w1 h g
  have S1 := fun a b k l A B C D w1 h g => same_any c a b k l A B C D w1 h g
  have hl : (lk c).2.2 = 0 := (inv_facts hc).1
  have hm : (lk d).2.2 = 0 := (inv_facts hd).1
  have b1 := (lk_all hl).2.2.2.1
  have b2 := (lk_all hm).2.2.2.1
  have b3 := (lk_all hl).2.2.2.2
  have b4 := (lk_all hm).2.2.2.2
  unfold ThR at T1 T2
  rw [hc] at F1
  rw [hd] at F2
  rw [e1, e2] at F3
  rw [hl] at G1
  rw [e3, hl] at G3
  rw [back2 hc hd] at T2
  have SN : ∀ a k A C w1, OS w1 a k (thR c d).ops A C → Calls Try.prog 22 #[.agg #[.int .i64 (thR c d).q, .int .i64 (thR c d).b, .slice a (thR c d).ops.length k], .agg #[.int .i64 0, .int .i64 0, .slice none 0 0]] w1 fun e w' => e = .returned (.bool true) ∧ Below w1.heap.size w1 w' := fun a k A C w1 h => by
    rw [thr_no ht] at h ⊢
    exact same_any noCi a none k 0 A (fun _ => none) C (fun _ => 0) w1 h (os_none _ _ _)
  have r1 : ((thE c d : Int) != 0) = true := bne_iff_ne.2 (by omega)
  clear b1 b2 b3 b4 e1 e2 e3 hl hm hc hd ht
  generalize thR c d = TR at *
  generalize thE c d = TE at *
  generalize thR (invR d) (invR c) = UR at *
  generalize invR c = IR at *
  generalize invR d = JR at *
  generalize (lk c).2.1 = h1 at *
  go_enter Try.func6, Try.ntmps6
  have HB : Below w.heap.size w ((w.alloc (.cells #[.int .i64 c.q, .int .i64 c.b, .slice a1 c.ops.length c1] 24)).alloc (.cells #[.int .i64 d.q, .int .i64 d.b, .slice a2 d.ops.length c2] 24)) := bal (bal (Below.refl _ _) _) _
  have k1 : BK ((w.alloc (.cells #[.int .i64 c.q, .int .i64 c.b, .slice a1 c.ops.length c1] 24)).alloc (.cells #[.int .i64 d.q, .int .i64 d.b, .slice a2 d.ops.length c2] 24)) w.heap.size #[.int .i64 c.q, .int .i64 c.b, .slice a1 c.ops.length c1] 24 := (bk_new _ _ _).alloc _
  have k2 : BK ((w.alloc (.cells #[.int .i64 c.q, .int .i64 c.b, .slice a1 c.ops.length c1] 24)).alloc (.cells #[.int .i64 d.q, .int .i64 d.b, .slice a2 d.ops.length c2] 24)) (w.heap.size + 1) #[.int .i64 d.q, .int .i64 d.b, .slice a2 d.ops.length c2] 24 := bk_at _ _ (by simp)
  go_wp2_with (go_at_call 9; (with_reducible refine (AW _).mono ?_); rintro e w1 ⟨rfl, hB1⟩; refine Hid.out ?_)
  refine hid ?_
  skip
  replace k1 : BK w1 _ _ 24 := (hB1.block _ k1.lt).trans k1
  replace k2 : BK w1 _ _ 24 := (hB1.block _ k2.lt).trans k2
  have x1 := k1.cell
  have x2 := k2.cell
  have l1 := k1.lt
  have l2 := k2.lt
  replace HB := btr HB hB1
  clear hB1
  go_wp2_with (go_at_call 20; (with_reducible refine (F1 _ (HO1.out.below HB)).mono ?_); rintro e w2 ⟨ax, cx, vx, rfl, hOx, hB2⟩; refine Hid.out ?_)
  refine hid ?_
  clear x1 x2 l1 l2
  replace k1 : BK w2 _ _ 24 := (hB2.block _ k1.lt).trans k1
  replace k2 : BK w2 _ _ 24 := (hB2.block _ k2.lt).trans k2
  have x1 := k1.cell
  have x2 := k2.cell
  have l1 := k1.lt
  have l2 := k2.lt
  replace HB := bal (btr HB hB2) (.cells #[.int .i64 IR.q, .int .i64 IR.b, .slice ax IR.ops.length cx] 24)
  replace k1 := k1.alloc (.cells #[.int .i64 IR.q, .int .i64 IR.b, .slice ax IR.ops.length cx] 24)
  replace k2 := k2.alloc (.cells #[.int .i64 IR.q, .int .i64 IR.b, .slice ax IR.ops.length cx] 24)
  have Bx := hid (bx_new hOx)
  clear hOx hB2
  go_wp2_with (go_at_call 20; (with_reducible refine (F2 _ (HO2.out.below HB)).mono ?_); rintro e w3 ⟨ay, cy, vy, rfl, hOy, hB3⟩; refine Hid.out ?_)
  refine hid ?_
  clear x1 x2 l1 l2
  replace k1 : BK w3 _ _ 24 := (hB3.block _ k1.lt).trans k1
  replace k2 : BK w3 _ _ 24 := (hB3.block _ k2.lt).trans k2
  replace Bx := hid (Bx.out.blw hB3)
  have x1 := k1.cell
  have x2 := k2.cell
  have l1 := k1.lt
  have l2 := k2.lt
  have xx := Bx.out.bk.cell
  have lx := Bx.out.bk.lt
  replace HB := bal (btr HB hB3) (.cells #[.int .i64 JR.q, .int .i64 JR.b, .slice ay JR.ops.length cy] 24)
  replace k1 := k1.alloc (.cells #[.int .i64 JR.q, .int .i64 JR.b, .slice ay JR.ops.length cy] 24)
  replace k2 := k2.alloc (.cells #[.int .i64 JR.q, .int .i64 JR.b, .slice ay JR.ops.length cy] 24)
  replace Bx := hid (Bx.out.blw (bal (Below.refl _ _) (.cells #[.int .i64 JR.q, .int .i64 JR.b, .slice ay JR.ops.length cy] 24)))
  have By := hid (bx_new hOy)
  clear hOy hB3
  go_wp2_with (go_at_call 20; (with_reducible refine (F3 _ _ _ _ _ Bx.out.os).mono ?_); rintro e w4 ⟨az, cz, vz, rfl, hOz, hB4⟩; refine Hid.out ?_)
  refine hid ?_
  clear x1 x2 l1 l2 xx lx
  replace k1 : BK w4 _ _ 24 := (hB4.block _ k1.lt).trans k1
  replace k2 : BK w4 _ _ 24 := (hB4.block _ k2.lt).trans k2
  replace Bx := hid (Bx.out.blw hB4)
  replace By := hid (By.out.blw hB4)
  have x1 := k1.cell
  have x2 := k2.cell
  have l1 := k1.lt
  have l2 := k2.lt
  have xx := Bx.out.bk.cell
  have lx := Bx.out.bk.lt
  have xy := By.out.bk.cell
  have ly := By.out.bk.lt
  replace HB := bal (btr HB hB4) (.cells #[.int .i64 c.q, .int .i64 c.b, .slice az c.ops.length cz] 24)
  replace k1 := k1.alloc (.cells #[.int .i64 c.q, .int .i64 c.b, .slice az c.ops.length cz] 24)
  replace k2 := k2.alloc (.cells #[.int .i64 c.q, .int .i64 c.b, .slice az c.ops.length cz] 24)
  replace Bx := hid (Bx.out.blw (bal (Below.refl _ _) (.cells #[.int .i64 c.q, .int .i64 c.b, .slice az c.ops.length cz] 24)))
  replace By := hid (By.out.blw (bal (Below.refl _ _) (.cells #[.int .i64 c.q, .int .i64 c.b, .slice az c.ops.length cz] 24)))
  have Bz := hid (bx_new hOz)
  clear hOz hB4
  go_wp2_with (go_at_call 15; (with_reducible refine (G1 _ (HO1.out.below HB)).mono ?_); rintro e w5 ⟨rfl, hB5⟩; refine Hid.out ?_)
  refine hid ?_
  clear x1 x2 l1 l2 xx lx xy ly
  replace k1 : BK w5 _ _ 24 := (hB5.block _ k1.lt).trans k1
  replace k2 : BK w5 _ _ 24 := (hB5.block _ k2.lt).trans k2
  replace Bx := hid (Bx.out.blw hB5)
  replace By := hid (By.out.blw hB5)
  replace Bz := hid (Bz.out.blw hB5)
  have x1 := k1.cell
  have x2 := k2.cell
  have l1 := k1.lt
  have l2 := k2.lt
  have xx := Bx.out.bk.cell
  have lx := Bx.out.bk.lt
  have xy := By.out.bk.cell
  have ly := By.out.bk.lt
  have xz := Bz.out.bk.cell
  have lz := Bz.out.bk.lt
  replace HB := btr HB hB5
  clear hB5
  go_wp2_with (go_at_call 15; (with_reducible refine (G3 _ _ _ _ _ Bx.out.os).mono ?_); rintro e w6 ⟨rfl, hB6⟩; refine Hid.out ?_)
  refine hid ?_
  clear x1 x2 l1 l2 xx lx xy ly xz lz
  replace k1 : BK w6 _ _ 24 := (hB6.block _ k1.lt).trans k1
  replace k2 : BK w6 _ _ 24 := (hB6.block _ k2.lt).trans k2
  replace Bx := hid (Bx.out.blw hB6)
  replace By := hid (By.out.blw hB6)
  replace Bz := hid (Bz.out.blw hB6)
  have x1 := k1.cell
  have x2 := k2.cell
  have l1 := k1.lt
  have l2 := k2.lt
  have xx := Bx.out.bk.cell
  have lx := Bx.out.bk.lt
  have xy := By.out.bk.cell
  have ly := By.out.bk.lt
  have xz := Bz.out.bk.cell
  have lz := Bz.out.bk.lt
  replace HB := btr HB hB6
  clear hB6
  go_wp2_with (go_at_call 22; (with_reducible refine (S1 _ _ _ _ _ _ _ _ _ Bz.out.os (HO1.out.below HB)).mono ?_); rintro e w7 ⟨rfl, hB7⟩; refine Hid.out ?_)
  refine hid ?_
  clear x1 x2 l1 l2 xx lx xy ly xz lz
  replace k1 : BK w7 _ _ 24 := (hB7.block _ k1.lt).trans k1
  replace k2 : BK w7 _ _ 24 := (hB7.block _ k2.lt).trans k2
  replace Bx := hid (Bx.out.blw hB7)
  replace By := hid (By.out.blw hB7)
  replace Bz := hid (Bz.out.blw hB7)
  have x1 := k1.cell
  have x2 := k2.cell
  have l1 := k1.lt
  have l2 := k2.lt
  have xx := Bx.out.bk.cell
  have lx := Bx.out.bk.lt
  have xy := By.out.bk.cell
  have ly := By.out.bk.lt
  have xz := Bz.out.bk.cell
  have lz := Bz.out.bk.lt
  replace HB := btr HB hB7
  clear hB7
  go_wp2_with (go_at_call 21; (with_reducible refine (T1 _ (HO1.out.below HB) (HO2.out.below HB)).mono ?_); rintro e w8 ⟨ap, cp, vp, rfl, hOp, hB8⟩; refine Hid.out ?_)
  refine hid ?_
  clear x1 x2 l1 l2 xx lx xy ly xz lz
  replace k1 : BK w8 _ _ 24 := (hB8.block _ k1.lt).trans k1
  replace k2 : BK w8 _ _ 24 := (hB8.block _ k2.lt).trans k2
  replace Bx := hid (Bx.out.blw hB8)
  replace By := hid (By.out.blw hB8)
  replace Bz := hid (Bz.out.blw hB8)
  have x1 := k1.cell
  have x2 := k2.cell
  have l1 := k1.lt
  have l2 := k2.lt
  have xx := Bx.out.bk.cell
  have lx := Bx.out.bk.lt
  have xy := By.out.bk.cell
  have ly := By.out.bk.lt
  have xz := Bz.out.bk.cell
  have lz := Bz.out.bk.lt
  replace HB := bal (btr HB hB8) (.cells #[.int .i64 TR.q, .int .i64 TR.b, .slice ap TR.ops.length cp] 24)
  replace k1 := k1.alloc (.cells #[.int .i64 TR.q, .int .i64 TR.b, .slice ap TR.ops.length cp] 24)
  replace k2 := k2.alloc (.cells #[.int .i64 TR.q, .int .i64 TR.b, .slice ap TR.ops.length cp] 24)
  replace Bx := hid (Bx.out.blw (bal (Below.refl _ _) (.cells #[.int .i64 TR.q, .int .i64 TR.b, .slice ap TR.ops.length cp] 24)))
  replace By := hid (By.out.blw (bal (Below.refl _ _) (.cells #[.int .i64 TR.q, .int .i64 TR.b, .slice ap TR.ops.length cp] 24)))
  replace Bz := hid (Bz.out.blw (bal (Below.refl _ _) (.cells #[.int .i64 TR.q, .int .i64 TR.b, .slice ap TR.ops.length cp] 24)))
  have Bp := hid (bx_new hOp)
  clear hOp hB8
  go_wp2_with (go_at_call 21; (with_reducible refine (T2 _ _ _ _ _ _ _ _ _ By.out.os Bx.out.os).mono ?_); rintro e w9 ⟨aq, cq, vq, rfl, hOq, hB9⟩; refine Hid.out ?_)
  refine hid ?_
  clear x1 x2 l1 l2 xx lx xy ly xz lz
  replace k1 : BK w9 _ _ 24 := (hB9.block _ k1.lt).trans k1
  replace k2 : BK w9 _ _ 24 := (hB9.block _ k2.lt).trans k2
  replace Bx := hid (Bx.out.blw hB9)
  replace By := hid (By.out.blw hB9)
  replace Bz := hid (Bz.out.blw hB9)
  replace Bp := hid (Bp.out.blw hB9)
  have x1 := k1.cell
  have x2 := k2.cell
  have l1 := k1.lt
  have l2 := k2.lt
  have xx := Bx.out.bk.cell
  have lx := Bx.out.bk.lt
  have xy := By.out.bk.cell
  have ly := By.out.bk.lt
  have xz := Bz.out.bk.cell
  have lz := Bz.out.bk.lt
  have xp := Bp.out.bk.cell
  have lp := Bp.out.bk.lt
  replace HB := bal (btr HB hB9) (.cells #[.int .i64 UR.q, .int .i64 UR.b, .slice aq UR.ops.length cq] 24)
  replace k1 := k1.alloc (.cells #[.int .i64 UR.q, .int .i64 UR.b, .slice aq UR.ops.length cq] 24)
  replace k2 := k2.alloc (.cells #[.int .i64 UR.q, .int .i64 UR.b, .slice aq UR.ops.length cq] 24)
  replace Bx := hid (Bx.out.blw (bal (Below.refl _ _) (.cells #[.int .i64 UR.q, .int .i64 UR.b, .slice aq UR.ops.length cq] 24)))
  replace By := hid (By.out.blw (bal (Below.refl _ _) (.cells #[.int .i64 UR.q, .int .i64 UR.b, .slice aq UR.ops.length cq] 24)))
  replace Bz := hid (Bz.out.blw (bal (Below.refl _ _) (.cells #[.int .i64 UR.q, .int .i64 UR.b, .slice aq UR.ops.length cq] 24)))
  replace Bp := hid (Bp.out.blw (bal (Below.refl _ _) (.cells #[.int .i64 UR.q, .int .i64 UR.b, .slice aq UR.ops.length cq] 24)))
  have Bq := hid (bx_new hOq)
  clear hOq hB9
  go_wp2_with (go_at_call 22; (with_reducible refine (SN _ _ _ _ _ Bp.out.os).mono ?_); rintro e w10 ⟨rfl, hB10⟩; refine Hid.out ?_)
  refine hid ?_
  clear x1 x2 l1 l2 xx lx xy ly xz lz xp lp
  replace k1 : BK w10 _ _ 24 := (hB10.block _ k1.lt).trans k1
  replace k2 : BK w10 _ _ 24 := (hB10.block _ k2.lt).trans k2
  replace Bx := hid (Bx.out.blw hB10)
  replace By := hid (By.out.blw hB10)
  replace Bz := hid (Bz.out.blw hB10)
  replace Bp := hid (Bp.out.blw hB10)
  replace Bq := hid (Bq.out.blw hB10)
  have x1 := k1.cell
  have x2 := k2.cell
  have l1 := k1.lt
  have l2 := k2.lt
  have xx := Bx.out.bk.cell
  have lx := Bx.out.bk.lt
  have xy := By.out.bk.cell
  have ly := By.out.bk.lt
  have xz := Bz.out.bk.cell
  have lz := Bz.out.bk.lt
  have xp := Bp.out.bk.cell
  have lp := Bp.out.bk.lt
  have xq := Bq.out.bk.cell
  have lq := Bq.out.bk.lt
  replace HB := btr HB hB10
  clear hB10
  go_wp2
  go_ret
  exact ⟨rfl, HB⟩
set_option maxHeartbeats 4000000 in
set_option maxRecDepth 100000 in
theorem back_d (H1 : OS w a1 c1 c.ops A1 C1) (H2 : OS w a2 c2 d.ops A2 C2) (hc : invE c = 0) (hd : invE d = 0) (ht : thE c d = 0) :
    Calls Try.prog 6 #[civ c a1 c1, civ d a2 c2] w fun e w' => e = .returned (.bool true) ∧ Below w.heap.size w w' := by
  have AW := fun w => awake_any w
  have HO1 := hid H1
  have HO2 := hid H2
  clear H1 H2
  obtain ⟨e1, e2, e3⟩ := back1 hc
  have F1 := fun w1 h => inverseC_any c a1 c1 A1 C1 w1 h
  have F2 := fun w1 h => inverseC_any d a2 c2 A2 C2 w1 h
  have F3 := fun a k A C w1 h => inverseC_any (invR c) a k A C w1 h
  have G1 := fun w1 h => halvesC_any c a1 c1 A1 C1 w1 h
  have G3 := fun a k A C w1 h => halvesC_any (invR c) a k A C w1 h
  have T1 := fun w1 h g => then_any c d a1 a2 c1 c2 A1 A2 C1 C2 w1 h g
  have T2 := fun a b k l A B C D w1 h g => then_any (invR d) (invR c) a b k l A B C D w1 h g
  have S1 := fun a b k l A B C D w1 h g => same_any c a b k l A B C D w1 h g
  have hl : (lk c).2.2 = 0 := (inv_facts hc).1
  have hm : (lk d).2.2 = 0 := (inv_facts hd).1
  have b1 := (lk_all hl).2.2.2.1
  have b2 := (lk_all hm).2.2.2.1
  have b3 := (lk_all hl).2.2.2.2
  have b4 := (lk_all hm).2.2.2.2
  unfold ThR at T1 T2
  rw [hc] at F1
  rw [hd] at F2
  rw [e1, e2] at F3
  rw [hl] at G1
  rw [e3, hl] at G3
  rw [back2 hc hd] at T2
  obtain ⟨g1, g2, g3⟩ := back3 hc hd ht
  have F4 := fun a k A C w1 h => inverseC_any (thR c d) a k A C w1 h
  have G4 := fun a k A C w1 h => halvesC_any (thR c d) a k A C w1 h
  have G2 := fun w1 h => halvesC_any d a2 c2 A2 C2 w1 h
  have S2 := fun a b k l A B C D w1 h g => same_any (thR (invR d) (invR c)) a b k l A B C D w1 h g
  rw [g1, g2] at F4
  rw [g3] at G4
  rw [hm] at G2
  rw [ht] at T1 T2
  have q2 : (lk d).2.1 ≤ 36 := by rw [b4]; exact b2
  simp only [Int.natCast_add] at G4
  have q1 : (lk c).2.1 ≤ 36 := by rw [b3]; exact b1
  clear b1 b2 b3 b4 e1 e2 e3 hl hm hc hd ht g1 g2 g3
  generalize thR c d = TR at *
  generalize thR (invR d) (invR c) = UR at *
  generalize invR c = IR at *
  generalize invR d = JR at *
  generalize (lk c).2.1 = h1 at *
  generalize (lk d).2.1 = h2 at *
  go_enter Try.func6, Try.ntmps6
  have HB : Below w.heap.size w ((w.alloc (.cells #[.int .i64 c.q, .int .i64 c.b, .slice a1 c.ops.length c1] 24)).alloc (.cells #[.int .i64 d.q, .int .i64 d.b, .slice a2 d.ops.length c2] 24)) := bal (bal (Below.refl _ _) _) _
  have k1 : BK ((w.alloc (.cells #[.int .i64 c.q, .int .i64 c.b, .slice a1 c.ops.length c1] 24)).alloc (.cells #[.int .i64 d.q, .int .i64 d.b, .slice a2 d.ops.length c2] 24)) w.heap.size #[.int .i64 c.q, .int .i64 c.b, .slice a1 c.ops.length c1] 24 := (bk_new _ _ _).alloc _
  have k2 : BK ((w.alloc (.cells #[.int .i64 c.q, .int .i64 c.b, .slice a1 c.ops.length c1] 24)).alloc (.cells #[.int .i64 d.q, .int .i64 d.b, .slice a2 d.ops.length c2] 24)) (w.heap.size + 1) #[.int .i64 d.q, .int .i64 d.b, .slice a2 d.ops.length c2] 24 := bk_at _ _ (by simp)
  go_wp2_with (go_at_call 9; (with_reducible refine (AW _).mono ?_); rintro e w1 ⟨rfl, hB1⟩; refine Hid.out ?_)
  refine hid ?_
  skip
  replace k1 : BK w1 _ _ 24 := (hB1.block _ k1.lt).trans k1
  replace k2 : BK w1 _ _ 24 := (hB1.block _ k2.lt).trans k2
  have x1 := k1.cell
  have x2 := k2.cell
  have l1 := k1.lt
  have l2 := k2.lt
  replace HB := btr HB hB1
  clear hB1
  go_wp2_with (go_at_call 20; (with_reducible refine (F1 _ (HO1.out.below HB)).mono ?_); rintro e w2 ⟨ax, cx, vx, rfl, hOx, hB2⟩; refine Hid.out ?_)
  refine hid ?_
  clear x1 x2 l1 l2
  replace k1 : BK w2 _ _ 24 := (hB2.block _ k1.lt).trans k1
  replace k2 : BK w2 _ _ 24 := (hB2.block _ k2.lt).trans k2
  have x1 := k1.cell
  have x2 := k2.cell
  have l1 := k1.lt
  have l2 := k2.lt
  replace HB := bal (btr HB hB2) (.cells #[.int .i64 IR.q, .int .i64 IR.b, .slice ax IR.ops.length cx] 24)
  replace k1 := k1.alloc (.cells #[.int .i64 IR.q, .int .i64 IR.b, .slice ax IR.ops.length cx] 24)
  replace k2 := k2.alloc (.cells #[.int .i64 IR.q, .int .i64 IR.b, .slice ax IR.ops.length cx] 24)
  have Bx := hid (bx_new hOx)
  clear hOx hB2
  go_wp2_with (go_at_call 20; (with_reducible refine (F2 _ (HO2.out.below HB)).mono ?_); rintro e w3 ⟨ay, cy, vy, rfl, hOy, hB3⟩; refine Hid.out ?_)
  refine hid ?_
  clear x1 x2 l1 l2
  replace k1 : BK w3 _ _ 24 := (hB3.block _ k1.lt).trans k1
  replace k2 : BK w3 _ _ 24 := (hB3.block _ k2.lt).trans k2
  replace Bx := hid (Bx.out.blw hB3)
  have x1 := k1.cell
  have x2 := k2.cell
  have l1 := k1.lt
  have l2 := k2.lt
  have xx := Bx.out.bk.cell
  have lx := Bx.out.bk.lt
  replace HB := bal (btr HB hB3) (.cells #[.int .i64 JR.q, .int .i64 JR.b, .slice ay JR.ops.length cy] 24)
  replace k1 := k1.alloc (.cells #[.int .i64 JR.q, .int .i64 JR.b, .slice ay JR.ops.length cy] 24)
  replace k2 := k2.alloc (.cells #[.int .i64 JR.q, .int .i64 JR.b, .slice ay JR.ops.length cy] 24)
  replace Bx := hid (Bx.out.blw (bal (Below.refl _ _) (.cells #[.int .i64 JR.q, .int .i64 JR.b, .slice ay JR.ops.length cy] 24)))
  have By := hid (bx_new hOy)
  clear hOy hB3
  go_wp2_with (go_at_call 20; (with_reducible refine (F3 _ _ _ _ _ Bx.out.os).mono ?_); rintro e w4 ⟨az, cz, vz, rfl, hOz, hB4⟩; refine Hid.out ?_)
  refine hid ?_
  clear x1 x2 l1 l2 xx lx
  replace k1 : BK w4 _ _ 24 := (hB4.block _ k1.lt).trans k1
  replace k2 : BK w4 _ _ 24 := (hB4.block _ k2.lt).trans k2
  replace Bx := hid (Bx.out.blw hB4)
  replace By := hid (By.out.blw hB4)
  have x1 := k1.cell
  have x2 := k2.cell
  have l1 := k1.lt
  have l2 := k2.lt
  have xx := Bx.out.bk.cell
  have lx := Bx.out.bk.lt
  have xy := By.out.bk.cell
  have ly := By.out.bk.lt
  replace HB := bal (btr HB hB4) (.cells #[.int .i64 c.q, .int .i64 c.b, .slice az c.ops.length cz] 24)
  replace k1 := k1.alloc (.cells #[.int .i64 c.q, .int .i64 c.b, .slice az c.ops.length cz] 24)
  replace k2 := k2.alloc (.cells #[.int .i64 c.q, .int .i64 c.b, .slice az c.ops.length cz] 24)
  replace Bx := hid (Bx.out.blw (bal (Below.refl _ _) (.cells #[.int .i64 c.q, .int .i64 c.b, .slice az c.ops.length cz] 24)))
  replace By := hid (By.out.blw (bal (Below.refl _ _) (.cells #[.int .i64 c.q, .int .i64 c.b, .slice az c.ops.length cz] 24)))
  have Bz := hid (bx_new hOz)
  clear hOz hB4
  go_wp2_with (go_at_call 15; (with_reducible refine (G1 _ (HO1.out.below HB)).mono ?_); rintro e w5 ⟨rfl, hB5⟩; refine Hid.out ?_)
  refine hid ?_
  clear x1 x2 l1 l2 xx lx xy ly
  replace k1 : BK w5 _ _ 24 := (hB5.block _ k1.lt).trans k1
  replace k2 : BK w5 _ _ 24 := (hB5.block _ k2.lt).trans k2
  replace Bx := hid (Bx.out.blw hB5)
  replace By := hid (By.out.blw hB5)
  replace Bz := hid (Bz.out.blw hB5)
  have x1 := k1.cell
  have x2 := k2.cell
  have l1 := k1.lt
  have l2 := k2.lt
  have xx := Bx.out.bk.cell
  have lx := Bx.out.bk.lt
  have xy := By.out.bk.cell
  have ly := By.out.bk.lt
  have xz := Bz.out.bk.cell
  have lz := Bz.out.bk.lt
  replace HB := btr HB hB5
  clear hB5
  go_wp2_with (go_at_call 15; (with_reducible refine (G3 _ _ _ _ _ Bx.out.os).mono ?_); rintro e w6 ⟨rfl, hB6⟩; refine Hid.out ?_)
  refine hid ?_
  clear x1 x2 l1 l2 xx lx xy ly xz lz
  replace k1 : BK w6 _ _ 24 := (hB6.block _ k1.lt).trans k1
  replace k2 : BK w6 _ _ 24 := (hB6.block _ k2.lt).trans k2
  replace Bx := hid (Bx.out.blw hB6)
  replace By := hid (By.out.blw hB6)
  replace Bz := hid (Bz.out.blw hB6)
  have x1 := k1.cell
  have x2 := k2.cell
  have l1 := k1.lt
  have l2 := k2.lt
  have xx := Bx.out.bk.cell
  have lx := Bx.out.bk.lt
  have xy := By.out.bk.cell
  have ly := By.out.bk.lt
  have xz := Bz.out.bk.cell
  have lz := Bz.out.bk.lt
  replace HB := btr HB hB6
  clear hB6
  go_wp2_with (go_at_call 22; (with_reducible refine (S1 _ _ _ _ _ _ _ _ _ Bz.out.os (HO1.out.below HB)).mono ?_); rintro e w7 ⟨rfl, hB7⟩; refine Hid.out ?_)
  refine hid ?_
  clear x1 x2 l1 l2 xx lx xy ly xz lz
  replace k1 : BK w7 _ _ 24 := (hB7.block _ k1.lt).trans k1
  replace k2 : BK w7 _ _ 24 := (hB7.block _ k2.lt).trans k2
  replace Bx := hid (Bx.out.blw hB7)
  replace By := hid (By.out.blw hB7)
  replace Bz := hid (Bz.out.blw hB7)
  have x1 := k1.cell
  have x2 := k2.cell
  have l1 := k1.lt
  have l2 := k2.lt
  have xx := Bx.out.bk.cell
  have lx := Bx.out.bk.lt
  have xy := By.out.bk.cell
  have ly := By.out.bk.lt
  have xz := Bz.out.bk.cell
  have lz := Bz.out.bk.lt
  replace HB := btr HB hB7
  clear hB7
  go_wp2_with (go_at_call 21; (with_reducible refine (T1 _ (HO1.out.below HB) (HO2.out.below HB)).mono ?_); rintro e w8 ⟨ap, cp, vp, rfl, hOp, hB8⟩; refine Hid.out ?_)
  refine hid ?_
  clear x1 x2 l1 l2 xx lx xy ly xz lz
  replace k1 : BK w8 _ _ 24 := (hB8.block _ k1.lt).trans k1
  replace k2 : BK w8 _ _ 24 := (hB8.block _ k2.lt).trans k2
  replace Bx := hid (Bx.out.blw hB8)
  replace By := hid (By.out.blw hB8)
  replace Bz := hid (Bz.out.blw hB8)
  have x1 := k1.cell
  have x2 := k2.cell
  have l1 := k1.lt
  have l2 := k2.lt
  have xx := Bx.out.bk.cell
  have lx := Bx.out.bk.lt
  have xy := By.out.bk.cell
  have ly := By.out.bk.lt
  have xz := Bz.out.bk.cell
  have lz := Bz.out.bk.lt
  replace HB := bal (btr HB hB8) (.cells #[.int .i64 TR.q, .int .i64 TR.b, .slice ap TR.ops.length cp] 24)
  replace k1 := k1.alloc (.cells #[.int .i64 TR.q, .int .i64 TR.b, .slice ap TR.ops.length cp] 24)
  replace k2 := k2.alloc (.cells #[.int .i64 TR.q, .int .i64 TR.b, .slice ap TR.ops.length cp] 24)
  replace Bx := hid (Bx.out.blw (bal (Below.refl _ _) (.cells #[.int .i64 TR.q, .int .i64 TR.b, .slice ap TR.ops.length cp] 24)))
  replace By := hid (By.out.blw (bal (Below.refl _ _) (.cells #[.int .i64 TR.q, .int .i64 TR.b, .slice ap TR.ops.length cp] 24)))
  replace Bz := hid (Bz.out.blw (bal (Below.refl _ _) (.cells #[.int .i64 TR.q, .int .i64 TR.b, .slice ap TR.ops.length cp] 24)))
  have Bp := hid (bx_new hOp)
  clear hOp hB8
  go_wp2_with (go_at_call 21; (with_reducible refine (T2 _ _ _ _ _ _ _ _ _ By.out.os Bx.out.os).mono ?_); rintro e w9 ⟨aq, cq, vq, rfl, hOq, hB9⟩; refine Hid.out ?_)
  refine hid ?_
  clear x1 x2 l1 l2 xx lx xy ly xz lz
  replace k1 : BK w9 _ _ 24 := (hB9.block _ k1.lt).trans k1
  replace k2 : BK w9 _ _ 24 := (hB9.block _ k2.lt).trans k2
  replace Bx := hid (Bx.out.blw hB9)
  replace By := hid (By.out.blw hB9)
  replace Bz := hid (Bz.out.blw hB9)
  replace Bp := hid (Bp.out.blw hB9)
  have x1 := k1.cell
  have x2 := k2.cell
  have l1 := k1.lt
  have l2 := k2.lt
  have xx := Bx.out.bk.cell
  have lx := Bx.out.bk.lt
  have xy := By.out.bk.cell
  have ly := By.out.bk.lt
  have xz := Bz.out.bk.cell
  have lz := Bz.out.bk.lt
  have xp := Bp.out.bk.cell
  have lp := Bp.out.bk.lt
  replace HB := bal (btr HB hB9) (.cells #[.int .i64 UR.q, .int .i64 UR.b, .slice aq UR.ops.length cq] 24)
  replace k1 := k1.alloc (.cells #[.int .i64 UR.q, .int .i64 UR.b, .slice aq UR.ops.length cq] 24)
  replace k2 := k2.alloc (.cells #[.int .i64 UR.q, .int .i64 UR.b, .slice aq UR.ops.length cq] 24)
  replace Bx := hid (Bx.out.blw (bal (Below.refl _ _) (.cells #[.int .i64 UR.q, .int .i64 UR.b, .slice aq UR.ops.length cq] 24)))
  replace By := hid (By.out.blw (bal (Below.refl _ _) (.cells #[.int .i64 UR.q, .int .i64 UR.b, .slice aq UR.ops.length cq] 24)))
  replace Bz := hid (Bz.out.blw (bal (Below.refl _ _) (.cells #[.int .i64 UR.q, .int .i64 UR.b, .slice aq UR.ops.length cq] 24)))
  replace Bp := hid (Bp.out.blw (bal (Below.refl _ _) (.cells #[.int .i64 UR.q, .int .i64 UR.b, .slice aq UR.ops.length cq] 24)))
  have Bq := hid (bx_new hOq)
  clear hOq hB9
  go_wp2_with (go_at_call 20; (with_reducible refine (F4 _ _ _ _ _ Bp.out.os).mono ?_); rintro e w10 ⟨ar, cr, vr, rfl, hOr, hB10⟩; refine Hid.out ?_)
  refine hid ?_
  clear x1 x2 l1 l2 xx lx xy ly xz lz xp lp
  replace k1 : BK w10 _ _ 24 := (hB10.block _ k1.lt).trans k1
  replace k2 : BK w10 _ _ 24 := (hB10.block _ k2.lt).trans k2
  replace Bx := hid (Bx.out.blw hB10)
  replace By := hid (By.out.blw hB10)
  replace Bz := hid (Bz.out.blw hB10)
  replace Bp := hid (Bp.out.blw hB10)
  replace Bq := hid (Bq.out.blw hB10)
  have x1 := k1.cell
  have x2 := k2.cell
  have l1 := k1.lt
  have l2 := k2.lt
  have xx := Bx.out.bk.cell
  have lx := Bx.out.bk.lt
  have xy := By.out.bk.cell
  have ly := By.out.bk.lt
  have xz := Bz.out.bk.cell
  have lz := Bz.out.bk.lt
  have xp := Bp.out.bk.cell
  have lp := Bp.out.bk.lt
  have xq := Bq.out.bk.cell
  have lq := Bq.out.bk.lt
  replace HB := bal (btr HB hB10) (.cells #[.int .i64 UR.q, .int .i64 UR.b, .slice ar UR.ops.length cr] 24)
  replace k1 := k1.alloc (.cells #[.int .i64 UR.q, .int .i64 UR.b, .slice ar UR.ops.length cr] 24)
  replace k2 := k2.alloc (.cells #[.int .i64 UR.q, .int .i64 UR.b, .slice ar UR.ops.length cr] 24)
  replace Bx := hid (Bx.out.blw (bal (Below.refl _ _) (.cells #[.int .i64 UR.q, .int .i64 UR.b, .slice ar UR.ops.length cr] 24)))
  replace By := hid (By.out.blw (bal (Below.refl _ _) (.cells #[.int .i64 UR.q, .int .i64 UR.b, .slice ar UR.ops.length cr] 24)))
  replace Bz := hid (Bz.out.blw (bal (Below.refl _ _) (.cells #[.int .i64 UR.q, .int .i64 UR.b, .slice ar UR.ops.length cr] 24)))
  replace Bp := hid (Bp.out.blw (bal (Below.refl _ _) (.cells #[.int .i64 UR.q, .int .i64 UR.b, .slice ar UR.ops.length cr] 24)))
  replace Bq := hid (Bq.out.blw (bal (Below.refl _ _) (.cells #[.int .i64 UR.q, .int .i64 UR.b, .slice ar UR.ops.length cr] 24)))
  have Br := hid (bx_new hOr)
  clear hOr hB10
  go_wp2_with (go_at_call 15; (with_reducible refine (G4 _ _ _ _ _ Bp.out.os).mono ?_); rintro e w11 ⟨rfl, hB11⟩; refine Hid.out ?_)
  refine hid ?_
  clear x1 x2 l1 l2 xx lx xy ly xz lz xp lp xq lq
  replace k1 : BK w11 _ _ 24 := (hB11.block _ k1.lt).trans k1
  replace k2 : BK w11 _ _ 24 := (hB11.block _ k2.lt).trans k2
  replace Bx := hid (Bx.out.blw hB11)
  replace By := hid (By.out.blw hB11)
  replace Bz := hid (Bz.out.blw hB11)
  replace Bp := hid (Bp.out.blw hB11)
  replace Bq := hid (Bq.out.blw hB11)
  replace Br := hid (Br.out.blw hB11)
  have x1 := k1.cell
  have x2 := k2.cell
  have l1 := k1.lt
  have l2 := k2.lt
  have xx := Bx.out.bk.cell
  have lx := Bx.out.bk.lt
  have xy := By.out.bk.cell
  have ly := By.out.bk.lt
  have xz := Bz.out.bk.cell
  have lz := Bz.out.bk.lt
  have xp := Bp.out.bk.cell
  have lp := Bp.out.bk.lt
  have xq := Bq.out.bk.cell
  have lq := Bq.out.bk.lt
  have xr := Br.out.bk.cell
  have lr := Br.out.bk.lt
  replace HB := btr HB hB11
  clear hB11
  go_wp2_with (go_at_call 15; (with_reducible refine (G2 _ (HO2.out.below HB)).mono ?_); rintro e w12 ⟨rfl, hB12⟩; refine Hid.out ?_)
  refine hid ?_
  clear x1 x2 l1 l2 xx lx xy ly xz lz xp lp xq lq xr lr
  replace k1 : BK w12 _ _ 24 := (hB12.block _ k1.lt).trans k1
  replace k2 : BK w12 _ _ 24 := (hB12.block _ k2.lt).trans k2
  replace Bx := hid (Bx.out.blw hB12)
  replace By := hid (By.out.blw hB12)
  replace Bz := hid (Bz.out.blw hB12)
  replace Bp := hid (Bp.out.blw hB12)
  replace Bq := hid (Bq.out.blw hB12)
  replace Br := hid (Br.out.blw hB12)
  have x1 := k1.cell
  have x2 := k2.cell
  have l1 := k1.lt
  have l2 := k2.lt
  have xx := Bx.out.bk.cell
  have lx := Bx.out.bk.lt
  have xy := By.out.bk.cell
  have ly := By.out.bk.lt
  have xz := Bz.out.bk.cell
  have lz := Bz.out.bk.lt
  have xp := Bp.out.bk.cell
  have lp := Bp.out.bk.lt
  have xq := Bq.out.bk.cell
  have lq := Bq.out.bk.lt
  have xr := Br.out.bk.cell
  have lr := Br.out.bk.lt
  replace HB := btr HB hB12
  clear hB12
  go_wp2_with (go_at_call 22; (with_reducible refine (S2 _ _ _ _ _ _ _ _ _ Br.out.os Bq.out.os).mono ?_); rintro e w13 ⟨rfl, hB13⟩; refine Hid.out ?_)
  refine hid ?_
  clear x1 x2 l1 l2 xx lx xy ly xz lz xp lp xq lq xr lr
  replace k1 : BK w13 _ _ 24 := (hB13.block _ k1.lt).trans k1
  replace k2 : BK w13 _ _ 24 := (hB13.block _ k2.lt).trans k2
  replace Bx := hid (Bx.out.blw hB13)
  replace By := hid (By.out.blw hB13)
  replace Bz := hid (Bz.out.blw hB13)
  replace Bp := hid (Bp.out.blw hB13)
  replace Bq := hid (Bq.out.blw hB13)
  replace Br := hid (Br.out.blw hB13)
  have x1 := k1.cell
  have x2 := k2.cell
  have l1 := k1.lt
  have l2 := k2.lt
  have xx := Bx.out.bk.cell
  have lx := Bx.out.bk.lt
  have xy := By.out.bk.cell
  have ly := By.out.bk.lt
  have xz := Bz.out.bk.cell
  have lz := Bz.out.bk.lt
  have xp := Bp.out.bk.cell
  have lp := Bp.out.bk.lt
  have xq := Bq.out.bk.cell
  have lq := Bq.out.bk.lt
  have xr := Br.out.bk.cell
  have lr := Br.out.bk.lt
  replace HB := btr HB hB13
  clear hB13
  go_wp2
  go_ret
  exact ⟨rfl, HB⟩
theorem back_any (H1 : OS w a1 c1 c.ops A1 C1) (H2 : OS w a2 c2 d.ops A2 C2) :
    Calls Try.prog 6 #[civ c a1 c1, civ d a2 c2] w fun e w' => e = .returned (.bool true) ∧ Below w.heap.size w w' := by
  by_cases hc : invE c = 0
  · by_cases hd : invE d = 0
    · by_cases ht : thE c d = 0
      · exact back_d c d a1 a2 c1 c2 A1 A2 C1 C2 w H1 H2 hc hd ht
      · exact back_c c d a1 a2 c1 c2 A1 A2 C1 C2 w H1 H2 hc hd ht
    · exact back_b c d a1 a2 c1 c2 A1 A2 C1 C2 w H1 H2 hc hd
  · exact back_a c d a1 a2 c1 c2 A1 A2 C1 C2 w H1 H2 hc
end
end Go.Proofs.Ytfaoegiignalkaa
