/-
  Amplitudes compared.
-/
import Derived.Test.YtjmgcgjmaemgdaaK4
namespace Go.Proofs.Ytjmgcgjmaemgdaa
open Go.RowKit Go.Sort

theorem run_ceq (n : Nat) (a b c d : Nat) (w : World) : (Op.equalIn (n + 1) 42 (.complex .f64 a b) (.complex .f64 c d)).run Try.prog w = .ok (FloatKind.f64.format.order a c == some .eq && FloatKind.f64.format.order b d == some .eq) w := by
  unfold Op.equalIn
  simp [go_sem, run_underlying Try.underlying42]
  rfl
theorem ord_fin : ∀ i j : Fin 9, (FloatKind.f64.format.order (fb ((i : Nat) - 4)) (fb ((j : Nat) - 4)) == some .eq) = decide (i = j) := by decide +kernel
theorem ord_eq {a b : Int} (ha : sm a) (hb : sm b) : (FloatKind.f64.format.order (fb a) (fb b) == some .eq) = decide (a = b) := by
  unfold sm at ha hb
  have h := ord_fin ⟨(a + 4).toNat, by omega⟩ ⟨(b + 4).toNat, by omega⟩
  have e1 : (((a + 4).toNat : Nat) : Int) - 4 = a := by omega
  have e2 : (((b + 4).toNat : Nat) : Int) - 4 = b := by omega
  simp only [e1, e2] at h
  rw [h]
  have : ((⟨(a + 4).toNat, by omega⟩ : Fin 9) = ⟨(b + 4).toNat, by omega⟩) ↔ a = b := by
    constructor
    · intro g; have := Fin.mk.inj g; omega
    · rintro rfl; rfl
  exact decide_eq_decide.2 this
/-- Amplitudes as whole numbers. -/
structure smA (a b c d : Int) : Prop where
  a : sm a
  b : sm b
  c : sm c
  d : sm d
theorem run_aeq {a b c d k a' b' c' d' k' : Int} (h : smA a b c d) (g : smA a' b' c' d') (w : World) : (binOp .eql 46 (av a b c d k) (av a' b' c' d' k')).run Try.prog w = .ok (.bool (decide (a = a' ∧ b = b' ∧ c = c' ∧ d = d' ∧ k = k'))) w := by
  have e1 := run_ceq 9997 (fb a) (fb b) (fb a') (fb b') w
  have e2 := run_ceq 9997 (fb c) (fb d) (fb c') (fb d') w
  rw [ord_eq h.a g.a, ord_eq h.b g.b] at e1
  rw [ord_eq h.c g.c, ord_eq h.d g.d] at e2
  simp [go_sem, e1, e2]
  by_cases h1 : a = a' <;> by_cases h2 : b = b' <;> by_cases h3 : c = c' <;> by_cases h4 : d = d' <;> by_cases h5 : k = k' <;> simp [h1, h2, h3, h4, h5]
theorem run_ane {a b c d k a' b' c' d' k' : Int} (h : smA a b c d) (g : smA a' b' c' d') (w : World) : (binOp .neq 46 (av a b c d k) (av a' b' c' d' k')).run Try.prog w = .ok (.bool (!decide (a = a' ∧ b = b' ∧ c = c' ∧ d = d' ∧ k = k'))) w := by
  have e1 := run_ceq 9997 (fb a) (fb b) (fb a') (fb b') w
  have e2 := run_ceq 9997 (fb c) (fb d) (fb c') (fb d') w
  rw [ord_eq h.a g.a, ord_eq h.b g.b] at e1
  rw [ord_eq h.c g.c, ord_eq h.d g.d] at e2
  simp [go_sem, e1, e2]
  by_cases h1 : a = a' <;> by_cases h2 : b = b' <;> by_cases h3 : c = c' <;> by_cases h4 : d = d' <;> by_cases h5 : k = k' <;> simp [h1, h2, h3, h4, h5]
end Go.Proofs.Ytjmgcgjmaemgdaa
