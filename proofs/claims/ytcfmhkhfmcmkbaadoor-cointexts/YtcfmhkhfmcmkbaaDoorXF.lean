/-
  Put together of: G5.
-/
import Derived.Test.YtcfmhkhfmcmkbaaDoorXE
namespace Go.Proofs.YtcfmhkhfmcmkbaaDoor
open Go.RowKit Go.Sort

theorem keep6c {w W : World} {a b c d e f : Int} (h : Below ((w.alloc (.cells #[.int .i64 a, .int .i64 b, .int .i64 c] 24)).alloc (.cells #[.int .i64 d, .int .i64 e, .int .i64 f] 24)).heap.size ((w.alloc (.cells #[.int .i64 a, .int .i64 b, .int .i64 c] 24)).alloc (.cells #[.int .i64 d, .int .i64 e, .int .i64 f] 24)) W) : Below ((w.alloc (.cells #[.int .i64 a, .int .i64 b, .int .i64 c] 24)).alloc (.cells #[.int .i64 d, .int .i64 e, .int .i64 f] 24)).heap.size ((w.alloc (.cells #[.int .i64 a, .int .i64 b, .int .i64 c] 24)).alloc (.cells #[.int .i64 d, .int .i64 e, .int .i64 f] 24)) W ∧ W.cell? ⟨w.heap.size, 0, none⟩ = some (.int .i64 a) ∧ W.cell? ⟨w.heap.size, 1, none⟩ = some (.int .i64 b) ∧ W.cell? ⟨w.heap.size, 2, none⟩ = some (.int .i64 c) ∧ W.cell? ⟨w.heap.size + 1, 0, none⟩ = some (.int .i64 d) ∧ W.cell? ⟨w.heap.size + 1, 1, none⟩ = some (.int .i64 e) ∧ W.cell? ⟨w.heap.size + 1, 2, none⟩ = some (.int .i64 f) := by
  have hs : ((w.alloc (.cells #[.int .i64 a, .int .i64 b, .int .i64 c] 24)).alloc (.cells #[.int .i64 d, .int .i64 e, .int .i64 f] 24)).heap.size = w.heap.size + 2 := by rw [alz, alz]
  have k0 : ∀ i, W.cell? ⟨w.heap.size, i, none⟩ = (#[Value.int .i64 a, .int .i64 b, .int .i64 c])[i]? := fun i => by
    rw [h.cell (p := ⟨w.heap.size, i, none⟩) (by rw [hs]; show w.heap.size < _; omega), World.cell?_alloc_past _ _ _ (by rw [alz]; omega), World.cell?_alloc_at _ _ _ _ rfl]
  have k1 : ∀ i, W.cell? ⟨w.heap.size + 1, i, none⟩ = (#[Value.int .i64 d, .int .i64 e, .int .i64 f])[i]? := fun i => by
    rw [h.cell (p := ⟨w.heap.size + 1, i, none⟩) (by rw [hs]; show w.heap.size + 1 < _; omega), World.cell?_alloc_at _ _ _ _ (by rw [alz])]
  exact ⟨h, k0 0, k0 1, k0 2, k1 0, k1 1, k1 2⟩

set_option maxHeartbeats 4000000 in
theorem compare_yes_core (a b c d e f d' e' p q k r : Int) (w : World)
    (C : ∀ w, Calls Tryd.prog 28 #[rv a b c, rv d e f] w fun r w' => r = .returned (.int .i64 0) ∧ Below w.heap.size w w')
    (NE : ∀ w, Calls Tryd.prog 31 #[rv d e f] w fun r w' => r = .returned (rv d' e' f) ∧ Below w.heap.size w w')
    (SU : ∀ w, Calls Tryd.prog 30 #[rv a b c, rv d' e' f] w fun r w' => r = .returned (.tuple #[wd p, wd q, .int .i64 k]) ∧ Below w.heap.size w w')
    (SG : ∀ w, Calls Tryd.prog 81 #[wd p, wd q] w fun x w' => x = .returned (.int .i64 r) ∧ Below w.heap.size w w') :
    Calls Tryd.prog 62 #[rv a b c, rv d e f] w fun x w' => x = .returned (.tuple #[.int .i64 r, .int .i64 0]) ∧ Below w.heap.size w w' := by
  have l2 : ∀ n : Nat, n < n + 1 + 1 := fun n => by omega
  have d2 : ∀ n : Nat, ¬ n = n + 1 + 1 := fun n => by omega
  go_enter Tryd.func62, Tryd.ntmps62
  go_upto_region 4 with (first
    | (go_at_call 28; (with_reducible refine (C _).mono ?_); rintro e w1 ⟨rfl, hB⟩; obtain ⟨hc, hf⟩ := bcell hB))
  go_cut [7, 8] from 16 to 23 (fun v7 v8 W => ∃ B7 B8, v7 = Value.pointer (some ⟨B7, 0, none⟩) ∧ v8 = Value.pointer (some ⟨B8, 0, none⟩) ∧ Below ((w.alloc (.cells #[.int .i64 a, .int .i64 b, .int .i64 c] 24)).alloc (.cells #[.int .i64 d, .int .i64 e, .int .i64 f] 24)).heap.size ((w.alloc (.cells #[.int .i64 a, .int .i64 b, .int .i64 c] 24)).alloc (.cells #[.int .i64 d, .int .i64 e, .int .i64 f] 24)) W ∧ W.cell? ⟨B7, 0, none⟩ = some (.int .u64 (hiW p)) ∧ W.cell? ⟨B7, 1, none⟩ = some (.int .u64 (loW p)) ∧ W.cell? ⟨B8, 0, none⟩ = some (.int .u64 (hiW q)) ∧ W.cell? ⟨B8, 1, none⟩ = some (.int .u64 (loW q)))
  case first =>
    go_region_held3 (fun w' => Below ((w.alloc (.cells #[.int .i64 a, .int .i64 b, .int .i64 c] 24)).alloc (.cells #[.int .i64 d, .int .i64 e, .int .i64 f] 24)).heap.size ((w.alloc (.cells #[.int .i64 a, .int .i64 b, .int .i64 c] 24)).alloc (.cells #[.int .i64 d, .int .i64 e, .int .i64 f] 24)) w' ∧ w'.cell? ⟨w.heap.size, 0, none⟩ = some (.int .i64 a) ∧ w'.cell? ⟨w.heap.size, 1, none⟩ = some (.int .i64 b) ∧ w'.cell? ⟨w.heap.size, 2, none⟩ = some (.int .i64 c) ∧ w'.cell? ⟨w.heap.size + 1, 0, none⟩ = some (.int .i64 d) ∧ w'.cell? ⟨w.heap.size + 1, 1, none⟩ = some (.int .i64 e) ∧ w'.cell? ⟨w.heap.size + 1, 2, none⟩ = some (.int .i64 f)) ((refine keep6c ?_; repeat (first | exact hK | exact And.left (by assumption) | exact below_drew (by assumption) | exact bdr (And.left (by assumption)) _ | exact bdr (bdr (below_drew (by assumption)) _) _ | exact btr (And.left (by assumption)) hN | refine bal ?_ _ | refine bset ?_ _ _ _ (by first | exact Below.size (by assumption) | exact Below.size (And.left (by assumption)) | exact Nat.le_succ_of_le (Below.size (by assumption)) | exact Nat.le_succ_of_le (Below.size (And.left (by assumption)))) | refine below_drew ?_)))
      (first
        | (go_at_call 31; (with_reducible refine (NE _).mono ?_); rintro e w2 ⟨rfl, hN⟩; have hK := btr (And.left (by assumption)) hN; (first | (replace hL := btr hL hN) | (have hL := hN)); obtain ⟨hc, hf⟩ := bcell hL; (first | (have sz := szAA hL; obtain ⟨sN, sM, sP, sQ⟩ := sz) | (have sz := szDD hL; obtain ⟨sN, sM, sP, sQ⟩ := sz) | (have sz := szA hL; obtain ⟨sN, sM⟩ := sz) | (have sz := szD hL; obtain ⟨sN, sM⟩ := sz) | skip))
        | (go_at_call 30; (with_reducible refine (SU _).mono ?_); rintro e w2 ⟨rfl, hN⟩; have hK := btr (And.left (by assumption)) hN; (first | (replace hL := btr hL hN) | (have hL := hN)); obtain ⟨hc, hf⟩ := bcell hL; (first | (have sz := szAA hL; obtain ⟨sN, sM, sP, sQ⟩ := sz) | (have sz := szDD hL; obtain ⟨sN, sM, sP, sQ⟩ := sz) | (have sz := szA hL; obtain ⟨sN, sM⟩ := sz) | (have sz := szD hL; obtain ⟨sN, sM⟩ := sz) | skip); unfold wd))
    all_goals
      go_wp2
      go_meet
      case rel => exact ⟨_, _, rfl, rfl, And.left (by assumption), by simp (maxDischargeDepth := 9) [*, go_sem], by simp (maxDischargeDepth := 9) [*, go_sem], by simp (maxDischargeDepth := 9) [*, go_sem], by simp (maxDischargeDepth := 9) [*, go_sem]⟩
  case rest =>
    obtain ⟨B7, B8, rfl, rfl, hF, g0, g1, g2, g3⟩ := hcut
    go_wp2_with (first
      | (go_at_call 81; (refine (SG _).mono ?_); rintro e w3 ⟨rfl, hN⟩))
    go_ret2
    exact ⟨rfl, btr (btr (bal (bal (Below.refl w.heap.size w) _) _) hF) hN⟩
end Go.Proofs.YtcfmhkhfmcmkbaaDoor
