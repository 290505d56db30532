/-
  What both Floats tell.
-/
import Derived.Test.YtalaacfoaelipaaDoorV5
import Derived.Test.YtalaacfoaelipaaDoorV3
namespace Go.Proofs.YtalaacfoaelipaaDoor
open Go.RowKit Go.Sort

theorem run_fmul {a b r : Nat} (h : floatBits .mul .f64 a b = some r) (t : TypeId) (w : World) : (binOp .mul t (.float .f64 a) (.float .f64 b)).run Tryd.prog w = .ok (.float .f64 r) w := run_float_arith w .mul t .f64 a b r h
theorem run_fadd {a b r : Nat} (h : floatBits .add .f64 a b = some r) (t : TypeId) (w : World) : (binOp .add t (.float .f64 a) (.float .f64 b)).run Tryd.prog w = .ok (.float .f64 r) w := run_float_arith w .add t .f64 a b r h
theorem run_fquo {a b r : Nat} (h : floatBits .quo .f64 a b = some r) (t : TypeId) (w : World) : (binOp .quo t (.float .f64 a) (.float .f64 b)).run Tryd.prog w = .ok (.float .f64 r) w := run_float_arith w .quo t .f64 a b r h

set_option maxHeartbeats 1000000 in
theorem cfloat_bits (p q k : Int) (x y z : Nat) (w : World) (hk : 0 ≤ k ∧ k ≤ 60)
    (C : ∀ w, Calls Tryd.prog 12 #[.agg #[.int .i64 p, .int .i64 q, .int .i64 k]] w fun e w' => e = .returned (.int .i64 0) ∧ Below w.heap.size w w')
    (h1 : floatBits .mul .f64 (floatOfInt .f64 q) 4609047870845172685 = some x) (h2 : floatBits .add .f64 (floatOfInt .f64 p) x = some y)
    (h3 : floatBits .quo .f64 y (floatOfInt .f64 (wrap64 (2 ^ k.toNat))) = some z) :
    Calls Tryd.prog 25 #[rv p q k] w fun e w' => e = .returned (.tuple #[.float .f64 z, .int .i64 0]) ∧ Below w.heap.size w w' := by
  have o1 := run_fmul h1
  have o2 := run_fadd h2
  have o3 := run_fquo h3
  go_enter Tryd.func25, Tryd.ntmps25
  go_wp2_with (first
    | (go_at_call 12; (with_reducible refine (C _).mono ?_); rintro e w1 ⟨rfl, hB⟩; obtain ⟨hc, hf⟩ := bcell hB)
    | rw [o1] | rw [o2] | rw [o3])
  go_ret2
  exact ⟨rfl, btr (bal (Below.refl _ _) _) hB⟩

set_option maxHeartbeats 1000000 in
theorem cfloat_no (p q k : Int) (w : World)
    (C : ∀ w, Calls Tryd.prog 12 #[.agg #[.int .i64 p, .int .i64 q, .int .i64 k]] w fun e w' => e = .returned (.int .i64 2) ∧ Below w.heap.size w w') :
    Calls Tryd.prog 25 #[rv p q k] w fun e w' => e = .returned (.tuple #[.float .f64 0, .int .i64 2]) ∧ Below w.heap.size w w' := by
  go_enter Tryd.func25, Tryd.ntmps25
  go_wp2_with (first
    | (go_at_call 12; (with_reducible refine (C _).mono ?_); rintro e w1 ⟨rfl, hB⟩; obtain ⟨hc, hf⟩ := bcell hB))
  go_ret2
  exact ⟨rfl, btr (bal (Below.refl _ _) _) hB⟩

set_option maxHeartbeats 1000000 in
theorem rfloat_no (p q k : Int) (w : World)
    (C : ∀ w, Calls Tryd.prog 13 #[.agg #[.int .i64 p, .int .i64 q, .int .i64 k]] w fun e w' => e = .returned (.int .i64 2) ∧ Below w.heap.size w w') :
    Calls Tryd.prog 24 #[rv p q k] w fun e w' => e = .returned (.tuple #[.float .f64 0, .int .i64 2]) ∧ Below w.heap.size w w' := by
  go_enter Tryd.func24, Tryd.ntmps24
  go_wp2_with (first
    | (go_at_call 13; (with_reducible refine (C _).mono ?_); rintro e w1 ⟨rfl, hB⟩; obtain ⟨hc, hf⟩ := bcell hB))
  go_ret2
  exact ⟨rfl, btr (bal (Below.refl _ _) _) hB⟩

set_option maxHeartbeats 1000000 in
theorem rfloat_bits (p q k : Int) (x y z : Nat) (w : World) (hk : 0 ≤ k ∧ k ≤ 60)
    (C : ∀ w, Calls Tryd.prog 13 #[.agg #[.int .i64 p, .int .i64 q, .int .i64 k]] w fun e w' => e = .returned (.int .i64 0) ∧ Below w.heap.size w w')
    (h1 : floatBits .mul .f64 (floatOfInt .f64 q) 4609047870845172685 = some x) (h2 : floatBits .add .f64 (floatOfInt .f64 p) x = some y)
    (h3 : floatBits .quo .f64 y (floatOfInt .f64 (wrap64 (2 ^ k.toNat))) = some z) (h4 : floatBits .add .f64 z 0 = some z) :
    Calls Tryd.prog 24 #[rv p q k] w fun e w' => e = .returned (.tuple #[.float .f64 z, .int .i64 0]) ∧ Below w.heap.size w w' := by
  have o1 := run_fmul h1
  have o2 := run_fadd h2
  have o3 := run_fquo h3
  have o4 := run_fadd h4
  go_enter Tryd.func24, Tryd.ntmps24
  go_wp2_with (first
    | (go_at_call 13; (with_reducible refine (C _).mono ?_); rintro e w1 ⟨rfl, hB⟩; obtain ⟨hc, hf⟩ := bcell hB)
    | rw [o1] | rw [o2] | rw [o3] | rw [o4])
  go_ret2
  exact ⟨rfl, btr (bal (Below.refl _ _) _) hB⟩

theorem pow_bd (k : Int) (hk : 0 ≤ k ∧ k ≤ 60) : 0 < wrap64 (2 ^ k.toNat) ∧ (wrap64 (2 ^ k.toNat)).natAbs < 2 ^ 61 := by
  obtain ⟨n, rfl⟩ := Int.eq_ofNat_of_zero_le hk.1
  have hn : n ≤ 60 := by omega
  have h1 : 2 ^ n ≤ 2 ^ 60 := Nat.pow_le_pow_right (by decide) hn
  have h2 : 0 < 2 ^ n := Nat.two_pow_pos n
  have e : ((2 : Int) ^ n) = ((2 ^ n : Nat) : Int) := by simp
  have e60 : (2 : Nat) ^ 60 = 1152921504606846976 := rfl
  have e61 : (2 : Nat) ^ 61 = 2305843009213693952 := rfl
  rw [Int.toNat_natCast, e, e61]
  rw [e60] at h1
  generalize 2 ^ n = x at *
  have e' : wrap64 (x : Int) = x := by unfold wrap64; omega
  rw [e']
  omega

/-- What both Floats tell of a root: the same float, and no error. -/
theorem floats_yes (p q k : Int) (h : isRoot p q k) : ∃ z : Nat, z < 2 ^ 64 ∧
    (∀ w, Calls Tryd.prog 24 #[rv p q k] w fun e w' => e = .returned (.tuple #[.float .f64 z, .int .i64 0]) ∧ Below w.heap.size w w')
    ∧ (∀ w, Calls Tryd.prog 25 #[rv p q k] w fun e w' => e = .returned (.tuple #[.float .f64 z, .int .i64 0]) ∧ Below w.heap.size w w') := by
  have C := fun w => check_yes p q k w h
  have R := fun w => rcheck_yes p q k w h
  obtain ⟨hp, hq, hk, -⟩ := h
  obtain ⟨d1, d2⟩ := pow_bd k hk
  have e : (2 : Nat) ^ 53 = 9007199254740992 := rfl
  obtain ⟨x, y, z, h1, h2, h3, h4⟩ := float_all p q (wrap64 (2 ^ k.toNat)) (by rw [e]; omega) (by rw [e]; omega) d1 d2
  refine ⟨z, Ieee.double.div_lt h3, fun w => rfloat_bits p q k x y z w hk R h1 h2 h3 h4, fun w => cfloat_bits p q k x y z w hk C h1 h2 h3⟩

theorem floats_no (p q k : Int) (h : ¬ isRoot p q k) :
    (∀ w, Calls Tryd.prog 24 #[rv p q k] w fun e w' => e = .returned (.tuple #[.float .f64 0, .int .i64 2]) ∧ Below w.heap.size w w')
    ∧ (∀ w, Calls Tryd.prog 25 #[rv p q k] w fun e w' => e = .returned (.tuple #[.float .f64 0, .int .i64 2]) ∧ Below w.heap.size w w') :=
  ⟨fun w => rfloat_no p q k w fun w => rcheck_no p q k w h, fun w => cfloat_no p q k w fun w => check_no p q k w h⟩

end Go.Proofs.YtalaacfoaelipaaDoor
