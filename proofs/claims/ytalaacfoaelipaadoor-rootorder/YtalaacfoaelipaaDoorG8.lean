/-
  The law RootOrder of three roots.
-/
import Derived.Test.YtalaacfoaelipaaDoorG7
namespace Go.Proofs.YtalaacfoaelipaaDoor
open Go.RowKit Go.Sort

set_option maxHeartbeats 4000000 in
set_option maxRecDepth 100000 in
theorem order_yes_core (a1 a2 a3 b1 b2 b3 c1 c2 c3 x y u v s t : Int) (r m : Rt) (w : World) (hT : Tab w) (hT2 : ∀ W, Below (((w.alloc (.cells #[.int .i64 a1, .int .i64 a2, .int .i64 a3] 23)).alloc (.cells #[.int .i64 b1, .int .i64 b2, .int .i64 b3] 23)).alloc (.cells #[.int .i64 c1, .int .i64 c2, .int .i64 c3] 23)).heap.size (((w.alloc (.cells #[.int .i64 a1, .int .i64 a2, .int .i64 a3] 23)).alloc (.cells #[.int .i64 b1, .int .i64 b2, .int .i64 b3] 23)).alloc (.cells #[.int .i64 c1, .int .i64 c2, .int .i64 c3] 23)) W → Tab W)
    (hy : wrap64 (-y) = x) (hx : (x = 0 ∧ a1 = b1 ∧ a2 = b2 ∧ a3 = b3) ∨ (¬ x = 0 ∧ ¬ a1 = b1) ∨ (¬ x = 0 ∧ a1 = b1 ∧ ¬ a2 = b2) ∨ (¬ x = 0 ∧ a1 = b1 ∧ a2 = b2 ∧ ¬ a3 = b3))
    (ho : (0 ≤ x → 0 ≤ u → 0 ≤ v) ∧ (x ≤ 0 → u ≤ 0 → v ≤ 0)) (hx3 : x = -1 ∨ x = 0 ∨ x = 1) (hu3 : u = -1 ∨ u = 0 ∨ u = 1) (st : Int) (hst : wrap64 (s * t) = st)
    (X1 : (∀ w, Calls Tryd.prog 23 #[rv a1 a2 a3, rv b1 b2 b3] w fun z w' => z = .returned (.tuple #[.int .i64 x, .int .i64 0]) ∧ Below w.heap.size w w')) (X2 : (∀ w, Calls Tryd.prog 23 #[rv b1 b2 b3, rv a1 a2 a3] w fun z w' => z = .returned (.tuple #[.int .i64 y, .int .i64 0]) ∧ Below w.heap.size w w')) (K1 : (∀ w, Calls Tryd.prog 12 #[rv a1 a2 a3] w fun z w' => z = .returned (.int .i64 0) ∧ Below w.heap.size w w')) (K2 : (∀ w, Calls Tryd.prog 12 #[rv b1 b2 b3] w fun z w' => z = .returned (.int .i64 0) ∧ Below w.heap.size w w')) (K3 : (∀ w, Calls Tryd.prog 12 #[rv c1 c2 c3] w fun z w' => z = .returned (.int .i64 0) ∧ Below w.heap.size w w'))
    (X3 : (∀ w, Calls Tryd.prog 23 #[rv b1 b2 b3, rv c1 c2 c3] w fun z w' => z = .returned (.tuple #[.int .i64 u, .int .i64 0]) ∧ Below w.heap.size w w')) (X4 : (∀ w, Calls Tryd.prog 23 #[rv a1 a2 a3, rv c1 c2 c3] w fun z w' => z = .returned (.tuple #[.int .i64 v, .int .i64 0]) ∧ Below w.heap.size w w')) (S1 : (∀ w, Calls Tryd.prog 22 #[rv a1 a2 a3] w fun z w' => z = .returned (.tuple #[.int .i64 s, .int .i64 0]) ∧ Below w.heap.size w w')) (S2 : (∀ w, Calls Tryd.prog 22 #[rv b1 b2 b3] w fun z w' => z = .returned (.tuple #[.int .i64 t, .int .i64 0]) ∧ Below w.heap.size w w')) (SB : ∀ w, Tab w → Calls Tryd.prog 18 #[rv a1 a2 a3, rv b1 b2 b3] w fun z w' => z = .returned (rtV r) ∧ Below w.heap.size w w') (MU : ∀ w, Tab w → Calls Tryd.prog 19 #[rv a1 a2 a3, rv b1 b2 b3] w fun z w' => z = .returned (rtV m) ∧ Below w.heap.size w w')
    (SR : r.e = 0 → ∀ w, Calls Tryd.prog 22 #[rv r.p r.q r.k] w fun z w' => z = .returned (.tuple #[.int .i64 x, .int .i64 0]) ∧ Below w.heap.size w w') (SM : m.e = 0 → ∀ w, Calls Tryd.prog 22 #[rv m.p m.q m.k] w fun z w' => z = .returned (.tuple #[.int .i64 st, .int .i64 0]) ∧ Below w.heap.size w w')
    (X5 : (∀ w, Calls Tryd.prog 23 #[rv a1 a2 a3, rv 0 0 0] w fun z w' => z = .returned (.tuple #[.int .i64 s, .int .i64 0]) ∧ Below w.heap.size w w')) :
    Calls Tryd.prog 8 #[rv a1 a2 a3, rv b1 b2 b3, rv c1 c2 c3] w fun x w' => x = .returned (.bool true) ∧ Below w.heap.size w w' := by
  have HT := ((hT.alloc (.cells #[.int .i64 a1, .int .i64 a2, .int .i64 a3] 23)).alloc (.cells #[.int .i64 b1, .int .i64 b2, .int .i64 b3] 23)).alloc (.cells #[.int .i64 c1, .int .i64 c2, .int .i64 c3] 23)
  have AW := awake_any _ HT
  have l2 : ∀ n : Nat, n < n + 1 + 1 := fun n => by omega
  have l3 : ∀ n : Nat, n < n + 1 + 1 + 1 := fun n => by omega
  go_enter Tryd.func8, Tryd.ntmps8
  go_upto_region 12 with (first
    | (go_at_call 9; (with_reducible refine AW.mono ?_); rintro e w1 ⟨rfl, hB⟩; obtain ⟨hc, hf⟩ := bcell hB)
    | (go_at_call 23; (with_reducible refine (X1 _).mono ?_); rintro e w1 ⟨rfl, hN⟩; replace hB := btr hB hN; obtain ⟨hc, hf⟩ := bcell hB)
    | (go_at_call 23; (with_reducible refine (X2 _).mono ?_); rintro e w1 ⟨rfl, hN⟩; replace hB := btr hB hN; obtain ⟨hc, hf⟩ := bcell hB)
    | (go_at_call 12; (with_reducible refine (K1 _).mono ?_); rintro e w1 ⟨rfl, hN⟩; replace hB := btr hB hN; obtain ⟨hc, hf⟩ := bcell hB)
    | (go_at_call 12; (with_reducible refine (K2 _).mono ?_); rintro e w1 ⟨rfl, hN⟩; replace hB := btr hB hN; obtain ⟨hc, hf⟩ := bcell hB)
    | (go_at_call 12; (with_reducible refine (K3 _).mono ?_); rintro e w1 ⟨rfl, hN⟩; replace hB := btr hB hN; obtain ⟨hc, hf⟩ := bcell hB)
    | (go_at_call 23; (with_reducible refine (X3 _).mono ?_); rintro e w1 ⟨rfl, hN⟩; replace hB := btr hB hN; obtain ⟨hc, hf⟩ := bcell hB)
    | (go_at_call 23; (with_reducible refine (X4 _).mono ?_); rintro e w1 ⟨rfl, hN⟩; replace hB := btr hB hN; obtain ⟨hc, hf⟩ := bcell hB)
    | (go_at_call 22; (with_reducible refine (S1 _).mono ?_); rintro e w1 ⟨rfl, hN⟩; replace hB := btr hB hN; obtain ⟨hc, hf⟩ := bcell hB)
    | (go_at_call 22; (with_reducible refine (S2 _).mono ?_); rintro e w1 ⟨rfl, hN⟩; replace hB := btr hB hN; obtain ⟨hc, hf⟩ := bcell hB)
    | (go_at_call 23; (with_reducible refine (X5 _).mono ?_); rintro e w1 ⟨rfl, hN⟩; replace hB := btr hB hN; obtain ⟨hc, hf⟩ := bcell hB))
  have hB0 : Below (((w.alloc (.cells #[.int .i64 a1, .int .i64 a2, .int .i64 a3] 23)).alloc (.cells #[.int .i64 b1, .int .i64 b2, .int .i64 b3] 23)).alloc (.cells #[.int .i64 c1, .int .i64 c2, .int .i64 c3] 23)).heap.size (((w.alloc (.cells #[.int .i64 a1, .int .i64 a2, .int .i64 a3] 23)).alloc (.cells #[.int .i64 b1, .int .i64 b2, .int .i64 b3] 23)).alloc (.cells #[.int .i64 c1, .int .i64 c2, .int .i64 c3] 23)) w1 := hB
  go_cut [153] from 109 to 153 (fun v W => v = Value.bool false ∧ Below (((w.alloc (.cells #[.int .i64 a1, .int .i64 a2, .int .i64 a3] 23)).alloc (.cells #[.int .i64 b1, .int .i64 b2, .int .i64 b3] 23)).alloc (.cells #[.int .i64 c1, .int .i64 c2, .int .i64 c3] 23)).heap.size (((w.alloc (.cells #[.int .i64 a1, .int .i64 a2, .int .i64 a3] 23)).alloc (.cells #[.int .i64 b1, .int .i64 b2, .int .i64 b3] 23)).alloc (.cells #[.int .i64 c1, .int .i64 c2, .int .i64 c3] 23)) W)
  case first =>
    rcases hx with ⟨hx, rfl, rfl, rfl⟩ | ⟨hx, h⟩ | ⟨hx, rfl, h⟩ | ⟨hx, rfl, rfl, h⟩
    all_goals
      go_wp2
      go_meet
      case rel => exact ⟨by first | rfl | simp [hx], hB0⟩
  case rest =>
    obtain ⟨rfl, hB1⟩ := hcut
    go_upto_region 14 with (fail)
    go_cut [175] from 154 to 175 (fun v W => v = Value.bool false ∧ Below (((w.alloc (.cells #[.int .i64 a1, .int .i64 a2, .int .i64 a3] 23)).alloc (.cells #[.int .i64 b1, .int .i64 b2, .int .i64 b3] 23)).alloc (.cells #[.int .i64 c1, .int .i64 c2, .int .i64 c3] 23)).heap.size (((w.alloc (.cells #[.int .i64 a1, .int .i64 a2, .int .i64 a3] 23)).alloc (.cells #[.int .i64 b1, .int .i64 b2, .int .i64 b3] 23)).alloc (.cells #[.int .i64 c1, .int .i64 c2, .int .i64 c3] 23)) W)
    case first =>
      clear hx
      rcases hx3 with rfl | rfl | rfl <;> rcases hu3 with rfl | rfl | rfl
      all_goals
        have k1 : Hid ((0 : Int) ≤ v ∨ True) := Or.inr trivial
        first
          | (have v1 : ¬ v < 0 := (by have := ho.1 (by omega) (by omega); omega); have v2 : ¬ 0 < v := (by have := ho.2 (by omega) (by omega); omega))
          | (have v1 : ¬ v < 0 := (by have := ho.1 (by omega) (by omega); omega))
          | (have v2 : ¬ 0 < v := (by have := ho.2 (by omega) (by omega); omega))
          | skip
        clear k1
        go_wp2
        go_meet
        case rel => exact ⟨by first | rfl | simp_all, hB1⟩
    case rest =>
      obtain ⟨rfl, hB2⟩ := hcut
      clear hB hB0 hB1 hc hf hx ho hx3 hu3
      have T0 := hT2 _ hB2
      obtain ⟨hc, hf⟩ := bcell hB2
      obtain ⟨rp, rq, rk, re⟩ := r
      obtain ⟨mp, mq, mk, me⟩ := m
      by_cases hr : re = 0 <;> by_cases hm : me = 0
      all_goals
        first | (subst hr; replace SR := SR rfl) | skip
        first | (subst hm; replace SM := SM rfl) | skip
        go_wp2_with (first
          | (go_at_call 18; (refine (SB _ T0).mono ?_); rintro e w2 ⟨rfl, hN⟩; unfold rtV; have T1 := T0.below hN; have hB3 := btr hB2 hN; obtain ⟨hc, hf⟩ := bcell hB3; have zz := szs3 hB3; have z0 : w.heap.size < w2.heap.size := (by omega); have z1 : w.heap.size + 1 < w2.heap.size := (by omega); have z2 : w.heap.size + 1 + 1 < w2.heap.size := (by omega))
          | (go_at_call 22; (with_reducible refine (SR _).mono ?_); rintro e w3 ⟨rfl, hN⟩; have T2 := (T1.alloc _).below hN; have hB4 := btr (bal hB3 _) hN; obtain ⟨hc, hf⟩ := bcell hB4)
          | (go_at_call 19; (first | (refine (MU _ T2).mono ?_) | (refine (MU _ (T1.alloc _)).mono ?_)); rintro e w4 ⟨rfl, hN⟩; unfold rtV; (first | (have hB5 := btr hB4 hN) | (have hB5 := btr (bal hB3 _) hN)); obtain ⟨hc, hf⟩ := bcell hB5)
          | (go_at_call 22; (with_reducible refine (SM _).mono ?_); rintro e w5 ⟨rfl, hN⟩; have hB6 := btr (bal hB5 _) hN; obtain ⟨hc, hf⟩ := bcell hB6))
        go_ret
        exact ⟨rfl, btr (bal (bal (bal (Below.refl w.heap.size w) _) _) _) (by first | exact hB6 | exact bal hB5 _)⟩
end Go.Proofs.YtalaacfoaelipaaDoor
