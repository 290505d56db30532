/-
  Proved: for every three Pauli strings, of any make, the law PauliGroup (promise P7.2: products hang on no bracketing, the identity changes nothing, the adjoint takes back, two strings commute or their products differ by the sign) answers true. No condition.
-/
import Derived.Test.YtbkdehnemhkbkaaG1
import Derived.Test.YtbkdehnemhkbkaaRow0
namespace Go.Proofs.Ytbkdehnemhkbkaa
open Go.ChangeShapes Go.WideShapes Go.ChangeAt Go.RowKit Go.Sort

/-- What Check answers, of any make. -/
theorem check_some (n : Int) (x z : Nat) (f : Int) (hx : x < 18446744073709551616) (hz : z < 18446744073709551616) :
    Good n x z f ∧ (∀ w, Calls Try.prog 13 #[pv n x z f] w fun r w' => r = .returned (.int .i64 0) ∧ Below w.heap.size w w') ∨ ¬ Good n x z f ∧ (∀ w, Calls Try.prog 13 #[pv n x z f] w fun r w' => r = .returned (.int .i64 70) ∧ Below w.heap.size w w') := by
  by_cases h : Good n x z f
  · refine .inl ⟨h, fun w => ?_⟩
    obtain ⟨p, hp, e, _⟩ := h.ps
    rw [e]
    exact hp.check w
  · exact .inr ⟨h, fun w => check_no n x z f w hx hz h⟩

set_option maxRecDepth 100000 in
theorem group_a (n : Int) (x z : Nat) (f : Int) (n' : Int) (x' z' : Nat) (f' : Int) (n2 : Int) (x2 z2 : Nat) (f2 : Int) (w : World) (K1 : ∀ w, Calls Try.prog 13 #[pv n x z f] w fun r w' => r = .returned (.int .i64 70) ∧ Below w.heap.size w w') :
    Calls Try.prog 6 #[pv n x z f, pv n' x' z' f', pv n2 x2 z2 f2] w fun r w' => r = .returned (.bool true) ∧ Below w.heap.size w w' := by
  obtain ⟨hW, rA, rB, rC⟩ := three_boxes w n x z f n' x' z' f' n2 x2 z2 f2
  have AW := awake_any (((w.alloc (pc n x z f)).alloc (pc n' x' z' f')).alloc (pc n2 x2 z2 f2))
  go_enter Try.func6, Try.ntmps6
  go_wp2_with (first
    | (go_at_call 8; (with_reducible refine AW.mono ?_); rintro e w1 ⟨rfl, hN⟩; replace hW := btr hW hN; replace rA := rA.below hN; replace rB := rB.below hN; replace rC := rC.below hN; have ⟨a0, a1, a2, a3, _, _, _, _⟩ := rA)
    | (go_at_call 13; (with_reducible refine (K1 _).mono ?_); rintro e w2 ⟨rfl, hN⟩; replace hW := btr hW hN; replace rA := rA.below hN; replace rB := rB.below hN; replace rC := rC.below hN; have ⟨b0, b1, b2, b3, _, _, _, _⟩ := rB))
  go_ret
  exact ⟨rfl, hW⟩
set_option maxRecDepth 100000 in
theorem group_b (n : Int) (x z : Nat) (f : Int) (n' : Int) (x' z' : Nat) (f' : Int) (n2 : Int) (x2 z2 : Nat) (f2 : Int) (w : World) (K1 : ∀ w, Calls Try.prog 13 #[pv n x z f] w fun r w' => r = .returned (.int .i64 0) ∧ Below w.heap.size w w') (K2 : ∀ w, Calls Try.prog 13 #[pv n' x' z' f'] w fun r w' => r = .returned (.int .i64 70) ∧ Below w.heap.size w w') :
    Calls Try.prog 6 #[pv n x z f, pv n' x' z' f', pv n2 x2 z2 f2] w fun r w' => r = .returned (.bool true) ∧ Below w.heap.size w w' := by
  obtain ⟨hW, rA, rB, rC⟩ := three_boxes w n x z f n' x' z' f' n2 x2 z2 f2
  have AW := awake_any (((w.alloc (pc n x z f)).alloc (pc n' x' z' f')).alloc (pc n2 x2 z2 f2))
  go_enter Try.func6, Try.ntmps6
  go_wp2_with (first
    | (go_at_call 8; (with_reducible refine AW.mono ?_); rintro e w1 ⟨rfl, hN⟩; replace hW := btr hW hN; replace rA := rA.below hN; replace rB := rB.below hN; replace rC := rC.below hN; have ⟨a0, a1, a2, a3, _, _, _, _⟩ := rA)
    | (go_at_call 13; (with_reducible refine (K1 _).mono ?_); rintro e w2 ⟨rfl, hN⟩; replace hW := btr hW hN; replace rA := rA.below hN; replace rB := rB.below hN; replace rC := rC.below hN; have ⟨b0, b1, b2, b3, _, _, _, _⟩ := rB)
    | (go_at_call 13; (with_reducible refine (K2 _).mono ?_); rintro e w3 ⟨rfl, hN⟩; replace hW := btr hW hN; replace rA := rA.below hN; replace rB := rB.below hN; replace rC := rC.below hN; have ⟨c0, c1, c2, c3, _, _, _, _⟩ := rC))
  go_ret
  exact ⟨rfl, hW⟩
set_option maxRecDepth 100000 in
theorem group_c (n : Int) (x z : Nat) (f : Int) (n' : Int) (x' z' : Nat) (f' : Int) (n2 : Int) (x2 z2 : Nat) (f2 : Int) (w : World) (K1 : ∀ w, Calls Try.prog 13 #[pv n x z f] w fun r w' => r = .returned (.int .i64 0) ∧ Below w.heap.size w w') (K2 : ∀ w, Calls Try.prog 13 #[pv n' x' z' f'] w fun r w' => r = .returned (.int .i64 0) ∧ Below w.heap.size w w') (K3 : ∀ w, Calls Try.prog 13 #[pv n2 x2 z2 f2] w fun r w' => r = .returned (.int .i64 70) ∧ Below w.heap.size w w') :
    Calls Try.prog 6 #[pv n x z f, pv n' x' z' f', pv n2 x2 z2 f2] w fun r w' => r = .returned (.bool true) ∧ Below w.heap.size w w' := by
  obtain ⟨hW, rA, rB, rC⟩ := three_boxes w n x z f n' x' z' f' n2 x2 z2 f2
  have AW := awake_any (((w.alloc (pc n x z f)).alloc (pc n' x' z' f')).alloc (pc n2 x2 z2 f2))
  go_enter Try.func6, Try.ntmps6
  go_wp2_with (first
    | (go_at_call 8; (with_reducible refine AW.mono ?_); rintro e w1 ⟨rfl, hN⟩; replace hW := btr hW hN; replace rA := rA.below hN; replace rB := rB.below hN; replace rC := rC.below hN; have ⟨a0, a1, a2, a3, _, _, _, _⟩ := rA)
    | (go_at_call 13; (with_reducible refine (K1 _).mono ?_); rintro e w2 ⟨rfl, hN⟩; replace hW := btr hW hN; replace rA := rA.below hN; replace rB := rB.below hN; replace rC := rC.below hN; have ⟨b0, b1, b2, b3, _, _, _, _⟩ := rB)
    | (go_at_call 13; (with_reducible refine (K2 _).mono ?_); rintro e w3 ⟨rfl, hN⟩; replace hW := btr hW hN; replace rA := rA.below hN; replace rB := rB.below hN; replace rC := rC.below hN; have ⟨c0, c1, c2, c3, _, _, _, _⟩ := rC)
    | (go_at_call 13; (with_reducible refine (K3 _).mono ?_); rintro e w4 ⟨rfl, hN⟩; replace hW := btr hW hN; replace rA := rA.below hN; replace rB := rB.below hN; replace rC := rC.below hN; have ⟨a0, a1, a2, a3, _, _, _, _⟩ := rA; have ⟨b0, b1, b2, b3, _, _, _, _⟩ := rB; have ⟨c0, c1, c2, c3, _, _, _, _⟩ := rC))
  go_ret
  exact ⟨rfl, hW⟩
set_option maxRecDepth 100000 in
theorem group_n (n : Int) (x z : Nat) (f : Int) (n' : Int) (x' z' : Nat) (f' : Int) (n2 : Int) (x2 z2 : Nat) (f2 : Int) (w : World) (K1 : ∀ w, Calls Try.prog 13 #[pv n x z f] w fun r w' => r = .returned (.int .i64 0) ∧ Below w.heap.size w w') (K2 : ∀ w, Calls Try.prog 13 #[pv n' x' z' f'] w fun r w' => r = .returned (.int .i64 0) ∧ Below w.heap.size w w') (K3 : ∀ w, Calls Try.prog 13 #[pv n2 x2 z2 f2] w fun r w' => r = .returned (.int .i64 0) ∧ Below w.heap.size w w') (hn : ¬ n = n') :
    Calls Try.prog 6 #[pv n x z f, pv n' x' z' f', pv n2 x2 z2 f2] w fun r w' => r = .returned (.bool true) ∧ Below w.heap.size w w' := by
  obtain ⟨hW, rA, rB, rC⟩ := three_boxes w n x z f n' x' z' f' n2 x2 z2 f2
  have AW := awake_any (((w.alloc (pc n x z f)).alloc (pc n' x' z' f')).alloc (pc n2 x2 z2 f2))
  go_enter Try.func6, Try.ntmps6
  go_wp2_with (first
    | (go_at_call 8; (with_reducible refine AW.mono ?_); rintro e w1 ⟨rfl, hN⟩; replace hW := btr hW hN; replace rA := rA.below hN; replace rB := rB.below hN; replace rC := rC.below hN; have ⟨a0, a1, a2, a3, _, _, _, _⟩ := rA)
    | (go_at_call 13; (with_reducible refine (K1 _).mono ?_); rintro e w2 ⟨rfl, hN⟩; replace hW := btr hW hN; replace rA := rA.below hN; replace rB := rB.below hN; replace rC := rC.below hN; have ⟨b0, b1, b2, b3, _, _, _, _⟩ := rB)
    | (go_at_call 13; (with_reducible refine (K2 _).mono ?_); rintro e w3 ⟨rfl, hN⟩; replace hW := btr hW hN; replace rA := rA.below hN; replace rB := rB.below hN; replace rC := rC.below hN; have ⟨c0, c1, c2, c3, _, _, _, _⟩ := rC)
    | (go_at_call 13; (with_reducible refine (K3 _).mono ?_); rintro e w4 ⟨rfl, hN⟩; replace hW := btr hW hN; replace rA := rA.below hN; replace rB := rB.below hN; replace rC := rC.below hN; have ⟨a0, a1, a2, a3, _, _, _, _⟩ := rA; have ⟨b0, b1, b2, b3, _, _, _, _⟩ := rB; have ⟨c0, c1, c2, c3, _, _, _, _⟩ := rC))
  go_ret
  exact ⟨rfl, hW⟩
set_option maxRecDepth 100000 in
theorem group_m (n : Int) (x z : Nat) (f : Int) (x' z' : Nat) (f' : Int) (n2 : Int) (x2 z2 : Nat) (f2 : Int) (w : World) (K1 : ∀ w, Calls Try.prog 13 #[pv n x z f] w fun r w' => r = .returned (.int .i64 0) ∧ Below w.heap.size w w') (K2 : ∀ w, Calls Try.prog 13 #[pv n x' z' f'] w fun r w' => r = .returned (.int .i64 0) ∧ Below w.heap.size w w') (K3 : ∀ w, Calls Try.prog 13 #[pv n2 x2 z2 f2] w fun r w' => r = .returned (.int .i64 0) ∧ Below w.heap.size w w') (hm : ¬ n = n2) :
    Calls Try.prog 6 #[pv n x z f, pv n x' z' f', pv n2 x2 z2 f2] w fun r w' => r = .returned (.bool true) ∧ Below w.heap.size w w' := by
  obtain ⟨hW, rA, rB, rC⟩ := three_boxes w n x z f n x' z' f' n2 x2 z2 f2
  have AW := awake_any (((w.alloc (pc n x z f)).alloc (pc n x' z' f')).alloc (pc n2 x2 z2 f2))
  go_enter Try.func6, Try.ntmps6
  go_wp2_with (first
    | (go_at_call 8; (with_reducible refine AW.mono ?_); rintro e w1 ⟨rfl, hN⟩; replace hW := btr hW hN; replace rA := rA.below hN; replace rB := rB.below hN; replace rC := rC.below hN; have ⟨a0, a1, a2, a3, _, _, _, _⟩ := rA)
    | (go_at_call 13; (with_reducible refine (K1 _).mono ?_); rintro e w2 ⟨rfl, hN⟩; replace hW := btr hW hN; replace rA := rA.below hN; replace rB := rB.below hN; replace rC := rC.below hN; have ⟨b0, b1, b2, b3, _, _, _, _⟩ := rB)
    | (go_at_call 13; (with_reducible refine (K2 _).mono ?_); rintro e w3 ⟨rfl, hN⟩; replace hW := btr hW hN; replace rA := rA.below hN; replace rB := rB.below hN; replace rC := rC.below hN; have ⟨c0, c1, c2, c3, _, _, _, _⟩ := rC)
    | (go_at_call 13; (with_reducible refine (K3 _).mono ?_); rintro e w4 ⟨rfl, hN⟩; replace hW := btr hW hN; replace rA := rA.below hN; replace rB := rB.below hN; replace rC := rC.below hN; have ⟨a0, a1, a2, a3, _, _, _, _⟩ := rA; have ⟨b0, b1, b2, b3, _, _, _, _⟩ := rB; have ⟨c0, c1, c2, c3, _, _, _, _⟩ := rC))
  go_ret
  exact ⟨rfl, hW⟩
theorem group_any (n : Int) (x z : Nat) (f : Int) (n' : Int) (x' z' : Nat) (f' : Int) (n2 : Int) (x2 z2 : Nat) (f2 : Int) (w : World)
    (hx : x < 18446744073709551616) (hz : z < 18446744073709551616) (hx' : x' < 18446744073709551616) (hz' : z' < 18446744073709551616) (hx2 : x2 < 18446744073709551616) (hz2 : z2 < 18446744073709551616) :
    Calls Try.prog 6 #[pv n x z f, pv n' x' z' f', pv n2 x2 z2 f2] w fun r w' => r = .returned (.bool true) ∧ Below w.heap.size w w' := by
  rcases check_some n x z f hx hz with ⟨ga, K1⟩ | ⟨_, K1⟩
  case inr => exact group_a n x z f n' x' z' f' n2 x2 z2 f2 w K1
  rcases check_some n' x' z' f' hx' hz' with ⟨gb, K2⟩ | ⟨_, K2⟩
  case inr => exact group_b n x z f n' x' z' f' n2 x2 z2 f2 w K1 K2
  rcases check_some n2 x2 z2 f2 hx2 hz2 with ⟨gc, K3⟩ | ⟨_, K3⟩
  case inr => exact group_c n x z f n' x' z' f' n2 x2 z2 f2 w K1 K2 K3
  by_cases hn : n = n'
  case neg => exact group_n n x z f n' x' z' f' n2 x2 z2 f2 w K1 K2 K3 hn
  subst hn
  by_cases hm : n = n2
  case neg => exact group_m n x z f x' z' f' n2 x2 z2 f2 w K1 K2 K3 hm
  subst hm
  obtain ⟨N, rfl⟩ := Int.eq_ofNat_of_zero_le ga.n0
  obtain ⟨F, rfl⟩ := Int.eq_ofNat_of_zero_le ga.f0
  obtain ⟨F', rfl⟩ := Int.eq_ofNat_of_zero_le gb.f0
  obtain ⟨F2, rfl⟩ := Int.eq_ofNat_of_zero_le gc.f0
  have hN : N ≤ 64 := by have := ga.n1; omega
  have oa : PS.ok ⟨N, x, z, F⟩ := ⟨hN, by simpa using ga.x1, by simpa using ga.z1, by have := ga.f1; show F < 4; omega⟩
  have ob : PS.ok ⟨N, x', z', F'⟩ := ⟨hN, by simpa using gb.x1, by simpa using gb.z1, by have := gb.f1; show F' < 4; omega⟩
  have oc : PS.ok ⟨N, x2, z2, F2⟩ := ⟨hN, by simpa using gc.x1, by simpa using gc.z1, by have := gc.f1; show F2 < 4; omega⟩
  have oe : PS.ok ⟨N, 0, 0, 0⟩ := ⟨hN, Nat.two_pow_pos N, Nat.two_pow_pos N, Nat.zero_lt_succ 3⟩
  have od := oa.adj
  have f1 := oa.f1
  have f2 := ob.f1
  have hAD : ∀ (q : PS), q.ok → PS.mul q q.adj = ⟨q.n, 0, 0, 0⟩ := fun q hq => by
    unfold PS.mul PS.adj
    simp only [Nat.xor_self, mulF_back _ _ _ hq.f1]
  have hDA : ∀ (q : PS), q.ok → PS.mul q.adj q = ⟨q.n, 0, 0, 0⟩ := fun q hq => by
    unfold PS.mul PS.adj
    simp only [Nat.xor_self, mulF_back' _ _ _ hq.f1]
  have hEA : ∀ (q : PS), q.ok → PS.mul ⟨q.n, 0, 0, 0⟩ q = q := fun q hq => by
    unfold PS.mul
    simp only [Nat.zero_xor, mulF_eye _ _ _ hq.f1]
  have hAE : ∀ (q : PS), q.ok → PS.mul q ⟨q.n, 0, 0, 0⟩ = q := fun q hq => by
    unfold PS.mul
    simp only [Nat.xor_zero, mulF_eye' _ _ _ hq.f1]
  have hAS : PS.mul (PS.mul ⟨N, x, z, F⟩ ⟨N, x', z', F'⟩) ⟨N, x2, z2, F2⟩ = PS.mul ⟨N, x, z, F⟩ (PS.mul ⟨N, x', z', F'⟩ ⟨N, x2, z2, F2⟩) := by
    unfold PS.mul
    simp only [mulF_assoc, Nat.xor_assoc]
  have M1 := fun w => mul_yes ⟨N, x, z, F⟩ ⟨N, x', z', F'⟩ w oa ob rfl
  have M2 := fun w => mul_yes ⟨N, x', z', F'⟩ ⟨N, x, z, F⟩ w ob oa rfl
  have M3 := fun w => mul_yes ⟨N, x', z', F'⟩ ⟨N, x2, z2, F2⟩ w ob oc rfl
  have M4 := fun w => mul_yes (PS.mul ⟨N, x, z, F⟩ ⟨N, x', z', F'⟩) ⟨N, x2, z2, F2⟩ w (oa.mul ob rfl) oc rfl
  have M5 := fun w => mul_yes ⟨N, x, z, F⟩ (PS.mul ⟨N, x', z', F'⟩ ⟨N, x2, z2, F2⟩) w oa (ob.mul oc rfl) rfl
  rw [← hAS] at M5
  have M6 := fun w => mul_yes ⟨N, x, z, F⟩ (PS.adj ⟨N, x, z, F⟩) w oa od rfl
  rw [hAD _ oa] at M6
  have M7 := fun w => mul_yes (PS.adj ⟨N, x, z, F⟩) ⟨N, x, z, F⟩ w od oa rfl
  rw [hDA _ oa] at M7
  have M8 := fun w => mul_yes ⟨N, 0, 0, 0⟩ ⟨N, x, z, F⟩ w oe oa rfl
  rw [show PS.mul ⟨N, 0, 0, 0⟩ ⟨N, x, z, F⟩ = ⟨N, x, z, F⟩ from hEA ⟨N, x, z, F⟩ oa] at M8
  have M9 := fun w => mul_yes ⟨N, x, z, F⟩ ⟨N, 0, 0, 0⟩ w oa oe rfl
  rw [show PS.mul ⟨N, x, z, F⟩ ⟨N, 0, 0, 0⟩ = ⟨N, x, z, F⟩ from hAE ⟨N, x, z, F⟩ oa] at M9
  have CM := fun w => commute_yes ⟨N, x, z, F⟩ ⟨N, x', z', F'⟩ w oa ob rfl
  have D1 := fun w => adjoint_yes ⟨N, x, z, F⟩ w oa
  have hf := (ob.mul oa rfl).f1
  have HY : comB x z x' z' = 0 → PS.mul ⟨N, x, z, F⟩ ⟨N, x', z', F'⟩ = PS.mul ⟨N, x', z', F'⟩ ⟨N, x, z, F⟩ := fun h => by
    have := (mulF_comm_iff x z F x' z' F').2 h
    unfold PS.mul
    simp only [this, Nat.xor_comm]
  have HN : ¬ comB x z x' z' = 0 → (PS.mul ⟨N, x, z, F⟩ ⟨N, x', z', F'⟩).n = (PS.mul ⟨N, x', z', F'⟩ ⟨N, x, z, F⟩).n ∧ (PS.mul ⟨N, x, z, F⟩ ⟨N, x', z', F'⟩).x = (PS.mul ⟨N, x', z', F'⟩ ⟨N, x, z, F⟩).x ∧ (PS.mul ⟨N, x, z, F⟩ ⟨N, x', z', F'⟩).z = (PS.mul ⟨N, x', z', F'⟩ ⟨N, x, z, F⟩).z ∧ (PS.mul ⟨N, x, z, F⟩ ⟨N, x', z', F'⟩).f = ((PS.mul ⟨N, x', z', F'⟩ ⟨N, x, z, F⟩).f + 2) % 4 := fun h => by
    have hc : comB x z x' z' < 2 := Nat.mod_lt _ (by decide)
    have ht := mulF_turn x z F x' z' F'
    have h1 : comB x z x' z' = 1 := by omega
    rw [h1] at ht
    unfold PS.mul
    exact ⟨rfl, Nat.xor_comm _ _, Nat.xor_comm _ _, ht⟩
  generalize PS.mul (PS.mul ⟨N, x, z, F⟩ ⟨N, x', z', F'⟩) ⟨N, x2, z2, F2⟩ = abc at *
  generalize PS.mul ⟨N, x, z, F⟩ ⟨N, x', z', F'⟩ = ab at *
  generalize PS.mul ⟨N, x', z', F'⟩ ⟨N, x, z, F⟩ = ba at *
  generalize PS.mul ⟨N, x', z', F'⟩ ⟨N, x2, z2, F2⟩ = bc at *
  generalize PS.adj ⟨N, x, z, F⟩ = d at *
  simp only at CM
  generalize comB x z x' z' = k at *
  exact group_core N x z F x' z' F' x2 z2 F2 ab ba bc abc ⟨N, 0, 0, 0⟩ d (decide (k = 0)) w K1 K2 K3 M1 M2 M3 M4 M5
    (fun w => eye_yes N w hN) D1 M6 M7 M8 M9 CM (fun h => HY (of_decide_eq_true h)) (fun h => HN (of_decide_eq_false h)) hf

set_option maxHeartbeats 400000 in
set_option maxRecDepth 100000 in
theorem group_lifted (os : Os) (started : os.Started) (H : Type) (enc : TypeId × Value → H) :
    ReturnsInHanded {} Try.checked os 6 .any (Rows.pauliGroupSpec.pre6 enc Try.prog Try.f6 Rows.pauliGroupRow.domain false) (Rows.pauliGroupSpec.post enc Try.prog Try.f6 false true false false) := by
  refine returnsInHanded_of_change (C := Try.checked) Try.own started (by kernel_rfl) Try.func6
    (ChangeSpec.witness6 (enc := enc) (C := Try.checked) false ⟨#[], #[pv 0 0 0 0, pv 0 0 0 0, pv 0 0 0 0], []⟩ 8 (by kernel_rfl) (by kernel_rfl) (by kernel_rfl) (by kernel_rfl)) ?_
  intro W base args ds gs before hval0 hW _ _
  have hval : ∀ (j : Nat) t v, Try.f6.params[j]? = some t → args[j]? = some v → Value.okWide Try.prog W .any base t v := hval0
  have hW' := hW
  obtain ⟨p, q, hA0, hV, rfl, hfz, hnd⟩ := hW
  have hA : DataW.TrodAll enc Try.prog W 0 (fun _ => true) true Try.f6.params.toList args.toList ds p := hA0
  rw [Try.params6] at hA hval
  obtain ⟨v0, vs0, d0, ds0, p0, q0, hargs, rfl, rfl, h0, r0⟩ := trodAll_cons hA
  obtain ⟨v1, vs1, d1, ds1, p1, q1, rfl, rfl, rfl, h1, r1⟩ := trodAll_cons r0
  obtain ⟨v2, vs2, d2, ds2, p2, q2, rfl, rfl, rfl, h2, r2⟩ := trodAll_cons r1
  obtain ⟨rfl, rfl, rfl⟩ := trodAll_nil r2
  obtain rfl : args = #[v0, v1, v2] := by cases args; simp_all
  obtain ⟨rfl, rfl⟩ := trodVars_none hV
  obtain ⟨a0, a1, a2, a3, rfl, rfl, rfl, wa0, wa1, wa2, wa3, la1, la2⟩ := open_pauli (hval 0 25 v0 rfl rfl) h0
  obtain ⟨b0, b1, b2, b3, rfl, rfl, rfl, wb0, wb1, wb2, wb3, lb1, lb2⟩ := open_pauli (hval 1 25 v1 rfl rfl) h1
  obtain ⟨c0, c1, c2, c3, rfl, rfl, rfl, wc0, wc1, wc2, wc3, lc1, lc2⟩ := open_pauli (hval 2 25 v2 rfl rfl) h2
  clear hA0 hval0
  simp only [List.append_nil] at hW'
  refine (group_any a0 a1 a2 a3 b0 b1 b2 b3 c0 c1 c2 c3 W la1 la2 lb1 lb2 lc1 lc2).mono fun e W' ⟨he, hB⟩ => ?_
  subst he
  refine ⟨_, rfl, _, _, _, [], [], [], hW', ?_, ?_, rfl, hB.frame _, fun h => by cases h⟩
  · exact trodAll_mk1 (shut_bool Try.underlying4 true)
  · exact trodAll_cons_mk (shut_pauli wa0 wa1 wa2 wa3) (trodAll_cons_mk (shut_pauli wb0 wb1 wb2 wb3) (trodAll_cons_mk (shut_pauli wc0 wc1 wc2 wc3) trodAll_mk0))

theorem group_holds : Rows.PauliGroupSaid :=
  OpenClaim.holds_of_wide 6 Try.f6 rfl rfl rfl rfl rfl rfl rfl ⟨rfl, rfl, rfl, rfl, rfl⟩ rfl rfl rfl rfl rfl (by kernel_rfl) Try.func6 (by kernel_rfl)
    (of_decide_eq_true (by kernel_rfl)) (by unfold Func.isWrapper; first | (rw [if_pos (by decide +kernel)]; kernel_rfl) | (rw [if_neg (by decide +kernel)]; exact ⟨rfl, rfl⟩))
    (fun os started H enc _ => group_lifted os started H enc)

#print axioms group_holds
end Go.Proofs.Ytbkdehnemhkbkaa
