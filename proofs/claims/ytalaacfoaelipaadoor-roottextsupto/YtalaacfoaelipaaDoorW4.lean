/-
  What Check and oneForm tell.
-/
import Derived.Test.YtalaacfoaelipaaDoorW3
namespace Go.Proofs.YtalaacfoaelipaaDoor
open Go.RowKit Go.Sort

theorem or_odd (a b : Int) : bits .and .i64 (bits .or .i64 a b) 1 = if a % 2 = 0 ∧ b % 2 = 0 then 0 else 1 := by
  have key : ∀ x : Int, bits .and .i64 x 1 = x % 2 := fun x => by
    show IntKind.i64.wrap ((BitVec.ofInt 64 x &&& BitVec.ofInt 64 1).toNat : Int) = _
    rw [BitVec.toNat_and, show (BitVec.ofInt 64 (1 : Int)).toNat = 1 by decide, Nat.and_one_is_mod, BitVec.toNat_ofInt]
    simp [IntKind.wrap, IntKind.signed, IntKind.bits]
    omega
  rw [key]
  show IntKind.i64.wrap ((BitVec.ofInt 64 a ||| BitVec.ofInt 64 b).toNat : Int) % 2 = _
  rw [BitVec.toNat_or, BitVec.toNat_ofInt, BitVec.toNat_ofInt]
  have e : ∀ n : Nat, IntKind.i64.wrap (n : Int) % 2 = ((n % 2 : Nat) : Int) := fun n => by
    simp [IntKind.wrap, IntKind.signed, IntKind.bits]; omega
  rw [e]
  have h2 := Nat.or_mod_two_pow (a := (a % (2 ^ 64 : Nat)).toNat) (b := (b % (2 ^ 64 : Nat)).toNat) (n := 1)
  rw [Nat.pow_one] at h2
  rw [h2]
  have ha : (a % ((2 ^ 64 : Nat) : Int)).toNat % 2 = (a % 2).toNat := by omega
  have hb : (b % ((2 ^ 64 : Nat) : Int)).toNat % 2 = (b % 2).toNat := by omega
  rw [ha, hb]
  rcases (show a % 2 = 0 ∨ a % 2 = 1 by omega) with h | h <;> rcases (show b % 2 = 0 ∨ b % 2 = 1 by omega) with g | g <;> simp [h, g]

set_option maxHeartbeats 400000 in
theorem check_yes (p q k : Int) (w : World) (h : isRoot p q k) : Calls Tryd.prog 12 #[.agg #[.int .i64 p, .int .i64 q, .int .i64 k]] w fun e w' => e = .returned (.int .i64 0) ∧ Below w.heap.size w w' := by
  obtain ⟨hp, hq, ⟨hk0, hk1⟩, ho⟩ := h
  have P1 := (inP_iff p).2 hp
  have Q1 := (inP_iff q).2 hq
  have HP := fun w => within_any p w
  have HQ := fun w => within_any q w
  rw [P1] at HP
  rw [Q1] at HQ
  clear P1 Q1
  have OR := or_odd p q
  by_cases h0 : k = 0
  · subst h0
    clear ho OR hk0 hk1
    go_enter Tryd.func12, Tryd.ntmps12
    go_wp2_with (first
      | (go_at_call 35; (with_reducible refine (HP _).mono ?_); rintro e w1 ⟨rfl, rfl⟩)
      | (go_at_call 35; (with_reducible refine (HQ _).mono ?_); rintro e w1 ⟨rfl, rfl⟩))
    go_ret
    exact ⟨rfl, bal (Below.refl _ _) _⟩
  · have hk : 0 < k := by omega
    rw [if_neg (by omega)] at OR
    have hk2 : ¬ k < 0 := by omega
    have hk3 : ¬ 60 < k := by omega
    clear ho
    go_enter Tryd.func12, Tryd.ntmps12
    go_wp2_with (first
      | (go_at_call 35; (with_reducible refine (HP _).mono ?_); rintro e w1 ⟨rfl, rfl⟩)
      | (go_at_call 35; (with_reducible refine (HQ _).mono ?_); rintro e w1 ⟨rfl, rfl⟩))
    go_ret
    exact ⟨rfl, bal (Below.refl _ _) _⟩
set_option maxHeartbeats 1000000 in
theorem check_no (p q k : Int) (w : World) (h : ¬ isRoot p q k) : Calls Tryd.prog 12 #[.agg #[.int .i64 p, .int .i64 q, .int .i64 k]] w fun e w' => e = .returned (.int .i64 2) ∧ Below w.heap.size w w' := by
  have HP := fun w => within_any p w
  have HQ := fun w => within_any q w
  unfold isRoot at h
  cases hP : inP p
  · rw [hP] at HP
    clear h hP HQ
    go_enter Tryd.func12, Tryd.ntmps12
    go_wp2_with (first
      | (go_at_call 35; (with_reducible refine (HP _).mono ?_); rintro e w1 ⟨rfl, rfl⟩))
    go_ret
    exact ⟨rfl, bal (Below.refl _ _) _⟩
  · rw [hP] at HP
    cases hQ : inP q
    · rw [hQ] at HQ
      clear h hP hQ
      go_enter Tryd.func12, Tryd.ntmps12
      go_wp2_with (first
        | (go_at_call 35; (with_reducible refine (HP _).mono ?_); rintro e w1 ⟨rfl, rfl⟩)
        | (go_at_call 35; (with_reducible refine (HQ _).mono ?_); rintro e w1 ⟨rfl, rfl⟩))
      go_ret
      exact ⟨rfl, bal (Below.refl _ _) _⟩
    · rw [hQ] at HQ
      rw [inP_iff] at hP hQ
      by_cases k0 : k < 0
      · clear h hP hQ
        go_enter Tryd.func12, Tryd.ntmps12
        go_wp2_with (first
          | (go_at_call 35; (with_reducible refine (HP _).mono ?_); rintro e w1 ⟨rfl, rfl⟩)
          | (go_at_call 35; (with_reducible refine (HQ _).mono ?_); rintro e w1 ⟨rfl, rfl⟩))
        go_ret
        exact ⟨rfl, bal (Below.refl _ _) _⟩
      · by_cases k1 : 60 < k
        · clear h hP hQ
          go_enter Tryd.func12, Tryd.ntmps12
          go_wp2_with (first
            | (go_at_call 35; (with_reducible refine (HP _).mono ?_); rintro e w1 ⟨rfl, rfl⟩)
            | (go_at_call 35; (with_reducible refine (HQ _).mono ?_); rintro e w1 ⟨rfl, rfl⟩))
          go_ret
          exact ⟨rfl, bal (Below.refl _ _) _⟩
        · have k2 : 0 < k := by omega
          have OR := or_odd p q
          rw [if_pos (by omega)] at OR
          clear h hP hQ
          go_enter Tryd.func12, Tryd.ntmps12
          go_wp2_with (first
            | (go_at_call 35; (with_reducible refine (HP _).mono ?_); rintro e w1 ⟨rfl, rfl⟩)
            | (go_at_call 35; (with_reducible refine (HQ _).mono ?_); rintro e w1 ⟨rfl, rfl⟩))
          go_ret
          exact ⟨rfl, bal (Below.refl _ _) _⟩
end Go.Proofs.YtalaacfoaelipaaDoor
