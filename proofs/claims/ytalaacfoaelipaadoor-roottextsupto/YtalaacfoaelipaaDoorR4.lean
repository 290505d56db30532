/-
  The reference's Check.
-/
import Derived.Test.YtalaacfoaelipaaDoorW4
namespace Go.Proofs.YtalaacfoaelipaaDoor
open Go.RowKit Go.Sort

theorem inside_any (n : Int) (w : World) : Calls Tryd.prog 36 #[.int .i64 n] w fun e w' => e = .returned (.bool (inP n)) ∧ w' = w := by
  by_cases h1 : -9007199254740991 ≤ n
  · by_cases h2 : n ≤ 9007199254740991
    · rw [(inP_iff n).2 ⟨h1, h2⟩]
      go_enter Tryd.func36, Tryd.ntmps36
      go_wp2
      go_ret
      exact ⟨rfl, rfl⟩
    · rw [(inP_no n).2 (by omega)]
      go_enter Tryd.func36, Tryd.ntmps36
      go_wp2
      go_ret
      exact ⟨rfl, rfl⟩
  · rw [(inP_no n).2 (by omega)]
    go_enter Tryd.func36, Tryd.ntmps36
    go_wp2
    go_ret
    exact ⟨rfl, rfl⟩
theorem tm2 (n : Int) : (n.tmod 2 == 0) = decide (n % 2 = 0) := by
  have : n.tmod 2 = 0 ↔ n % 2 = 0 := by
    rw [Int.tmod_eq_emod]
    split <;> omega
  rw [Bool.eq_iff_iff]; simp [this]
def RWay (_ _ k : Int) (b1 b2 t1 t2 : Bool) (r : Int) : Prop :=
  ((r = 2) ∧ (b1 = false)) ∨
  ((r = 2) ∧ (b1 = true) ∧ (b2 = false)) ∨
  ((r = 2) ∧ (b1 = true) ∧ (b2 = true) ∧ (k < 0)) ∨
  ((r = 2) ∧ (b1 = true) ∧ (b2 = true) ∧ (¬ k < 0) ∧ (60 < k)) ∨
  ((r = 0) ∧ (b1 = true) ∧ (b2 = true) ∧ (¬ k < 0) ∧ (¬ 60 < k) ∧ (¬ 0 < k)) ∨
  ((r = 0) ∧ (b1 = true) ∧ (b2 = true) ∧ (¬ k < 0) ∧ (¬ 60 < k) ∧ (0 < k) ∧ (t1 = false)) ∨
  ((r = 0) ∧ (b1 = true) ∧ (b2 = true) ∧ (¬ k < 0) ∧ (¬ 60 < k) ∧ (0 < k) ∧ (t1 = true) ∧ (t2 = false)) ∨
  ((r = 2) ∧ (b1 = true) ∧ (b2 = true) ∧ (¬ k < 0) ∧ (¬ 60 < k) ∧ (0 < k) ∧ (t1 = true) ∧ (t2 = true))
theorem RWay.a {p q k : Int} {b1 b2 t1 t2 : Bool} (h : b1 = false) : RWay p q k b1 b2 t1 t2 2 := .inl ⟨rfl, h⟩
theorem RWay.b {p q k : Int} {b1 b2 t1 t2 : Bool} (h : b1 = true) (g : b2 = false) : RWay p q k b1 b2 t1 t2 2 := .inr (.inl ⟨rfl, h, g⟩)
theorem RWay.c {p q k : Int} {b1 b2 t1 t2 : Bool} (h : b1 = true) (g : b2 = true) (hk : k < 0) : RWay p q k b1 b2 t1 t2 2 := .inr (.inr (.inl ⟨rfl, h, g, hk⟩))
theorem RWay.d {p q k : Int} {b1 b2 t1 t2 : Bool} (h : b1 = true) (g : b2 = true) (hk : ¬ k < 0) (hl : 60 < k) : RWay p q k b1 b2 t1 t2 2 := .inr (.inr (.inr (.inl ⟨rfl, h, g, hk, hl⟩)))
theorem RWay.e {p q k : Int} {b1 b2 t1 t2 : Bool} (h : b1 = true) (g : b2 = true) (hk : ¬ k < 0) (hl : ¬ 60 < k) (hz : ¬ 0 < k) : RWay p q k b1 b2 t1 t2 0 := .inr (.inr (.inr (.inr (.inl ⟨rfl, h, g, hk, hl, hz⟩))))
theorem RWay.f {p q k : Int} {b1 b2 t1 t2 : Bool} (h : b1 = true) (g : b2 = true) (hk : ¬ k < 0) (hl : ¬ 60 < k) (hz : 0 < k) (o1 : t1 = false) : RWay p q k b1 b2 t1 t2 0 := .inr (.inr (.inr (.inr (.inr (.inl ⟨rfl, h, g, hk, hl, hz, o1⟩)))))
theorem RWay.g {p q k : Int} {b1 b2 t1 t2 : Bool} (h : b1 = true) (g : b2 = true) (hk : ¬ k < 0) (hl : ¬ 60 < k) (hz : 0 < k) (o1 : t1 = true) (o2 : t2 = false) : RWay p q k b1 b2 t1 t2 0 := .inr (.inr (.inr (.inr (.inr (.inr (.inl ⟨rfl, h, g, hk, hl, hz, o1, o2⟩))))))
theorem RWay.i {p q k : Int} {b1 b2 t1 t2 : Bool} (h : b1 = true) (g : b2 = true) (hk : ¬ k < 0) (hl : ¬ 60 < k) (hz : 0 < k) (o1 : t1 = true) (o2 : t2 = true) : RWay p q k b1 b2 t1 t2 2 := .inr (.inr (.inr (.inr (.inr (.inr (.inr (⟨rfl, h, g, hk, hl, hz, o1, o2⟩)))))))
set_option maxHeartbeats 2000000 in
theorem rcheck_core (p q k : Int) (b1 b2 t1 t2 : Bool) (r : Int) (w : World) (HP : ∀ w, Calls Tryd.prog 36 #[.int .i64 p] w fun e w' => e = .returned (.bool b1) ∧ w' = w) (HQ : ∀ w, Calls Tryd.prog 36 #[.int .i64 q] w fun e w' => e = .returned (.bool b2) ∧ w' = w)
    (e1 : (p.tmod 2 == 0) = t1) (e2 : (q.tmod 2 == 0) = t2) (h : RWay p q k b1 b2 t1 t2 r) :
    Calls Tryd.prog 13 #[.agg #[.int .i64 p, .int .i64 q, .int .i64 k]] w fun e w' => e = .returned (.int .i64 r) ∧ Below w.heap.size w w' := by
  rcases h with ⟨rfl, h⟩ | ⟨rfl, h, g⟩ | ⟨rfl, h, g, hk⟩ | ⟨rfl, h, g, hk, hl⟩ | ⟨rfl, h, g, hk, hl, hz⟩ | ⟨rfl, h, g, hk, hl, hz, o1⟩ | ⟨rfl, h, g, hk, hl, hz, o1, o2⟩ | ⟨rfl, h, g, hk, hl, hz, o1, o2⟩
  all_goals
    subst_vars
    go_enter Tryd.func13, Tryd.ntmps13
    go_wp2_with (first
      | (go_at_call 36; (with_reducible refine (HP _).mono ?_); rintro e w1 ⟨rfl, rfl⟩)
      | (go_at_call 36; (with_reducible refine (HQ _).mono ?_); rintro e w1 ⟨rfl, rfl⟩))
    go_ret
    exact ⟨rfl, bal (Below.refl _ _) _⟩
theorem rcheck_yes (p q k : Int) (w : World) (h : isRoot p q k) : Calls Tryd.prog 13 #[.agg #[.int .i64 p, .int .i64 q, .int .i64 k]] w fun e w' => e = .returned (.int .i64 0) ∧ Below w.heap.size w w' := by
  obtain ⟨hp, hq, ⟨hk0, hk1⟩, ho⟩ := h
  refine rcheck_core p q k _ _ _ _ 0 w (fun w => inside_any p w) (fun w => inside_any q w) (tm2 p) (tm2 q) ?_
  have P1 := (inP_iff p).2 hp
  have Q1 := (inP_iff q).2 hq
  by_cases h0 : 0 < k
  · by_cases h1 : p % 2 = 0
    · exact .g P1 Q1 (by omega) (by omega) h0 (by simpa using h1) (by simp; omega)
    · exact .f P1 Q1 (by omega) (by omega) h0 (by simpa using h1)
  · exact .e P1 Q1 (by omega) (by omega) h0
theorem rcheck_no (p q k : Int) (w : World) (h : ¬ isRoot p q k) : Calls Tryd.prog 13 #[.agg #[.int .i64 p, .int .i64 q, .int .i64 k]] w fun e w' => e = .returned (.int .i64 2) ∧ Below w.heap.size w w' := by
  refine rcheck_core p q k _ _ _ _ 2 w (fun w => inside_any p w) (fun w => inside_any q w) (tm2 p) (tm2 q) ?_
  cases hp : inP p
  · exact .a rfl
  · cases hq : inP q
    · exact .b rfl rfl
    · rw [inP_iff] at hp hq
      by_cases h1 : k < 0
      · exact .c rfl rfl h1
      · by_cases h2 : 60 < k
        · exact .d rfl rfl h1 h2
        · have h3 : 0 < k ∧ p % 2 = 0 ∧ q % 2 = 0 := by
            unfold isRoot at h
            omega
          exact .i rfl rfl h1 h2 h3.1 (by simpa using h3.2.1) (by simpa using h3.2.2)
end Go.Proofs.YtalaacfoaelipaaDoor
