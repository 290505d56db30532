/-
  What Sub tells.
-/
import Derived.Test.YtalaacfoaelipaaDoorW8
namespace Go.Proofs.YtalaacfoaelipaaDoor
open Go.RowKit Go.Sort

/-- What Sub tells of two roots. -/
def subR (a b c d e f : Int) : Rt :=
  haveI := decRoot a b c
  haveI := decRoot d e f
  if isRoot a b c ∧ isRoot d e f then one (sumP a (-d) (max c.toNat f.toNat) c.toNat f.toNat) (sumP b (-e) (max c.toNat f.toNat) c.toNat f.toNat) (max c.toNat f.toNat) else ⟨0, 0, 0, 2⟩

set_option maxHeartbeats 1000000 in
theorem sub_any (a b c d e f : Int) (w : World) (hT : Tab w) :
    Calls Tryd.prog 18 #[rv a b c, rv d e f] w fun r w' => r = .returned (rtV (subR a b c d e f)) ∧ Below w.heap.size w w' := by
  unfold subR
  have HT := ((hT.alloc (.cells #[.int .i64 a, .int .i64 b, .int .i64 c] 23)).alloc (.cells #[.int .i64 d, .int .i64 e, .int .i64 f] 23)).alloc (.cells #[.int .i64 0, .int .i64 0, .int .i64 0] 23)
  by_cases h : isRoot a b c ∧ isRoot d e f
  · rw [if_pos h]
    have C := fun w => both_yes a b c d e f w h.1 h.2
    obtain ⟨⟨ha, hb, hc', _⟩, ⟨hd, he, hf', _⟩⟩ := h
    obtain ⟨c, rfl⟩ := Int.eq_ofNat_of_zero_le hc'.1
    obtain ⟨f, rfl⟩ := Int.eq_ofNat_of_zero_le hf'.1
    rw [Int.toNat_natCast, Int.toNat_natCast]
    have NE := fun w => negative_rt d e f w hd he
    have SU := fun w => sum_any a b (-d) (-e) c f (max c f) w (by omega) (by omega) (by omega) ha hb (by omega) (by omega)
    have ON := fun w hT => oneForm_any (sumP a (-d) (max c f) c f) (sumP b (-e) (max c f) c f) (max c f) w hT (sum_in a (-d) _ c f (by omega) ha (by omega)) (sum_in b (-e) _ c f (by omega) hb (by omega)) (by omega) (Or.inl (by omega))
    generalize one (sumP a (-d) (max c f) c f) (sumP b (-e) (max c f) c f) (max c f) = r at *
    generalize sumP a (-d) (max c f) c f = p at *
    generalize sumP b (-e) (max c f) c f = q at *
    generalize max c f = k at *
    generalize -d = d' at *
    generalize -e = e' at *
    obtain ⟨rp, rq, rk, re⟩ := r
    clear ha hb hd he hc' hf'
    have l0 : w.heap.size < w.heap.size + 1 + 1 + 1 := by omega
    have l1 : w.heap.size + 1 < w.heap.size + 1 + 1 + 1 := by omega
    have l2 : w.heap.size < w.heap.size + 1 + 1 := by omega
    have d0 : ¬ w.heap.size = w.heap.size + 1 + 1 := by omega
    have d1 : ¬ w.heap.size + 1 + 1 = w.heap.size := by omega
    go_enter Tryd.func18, Tryd.ntmps18
    go_wp2_with (first
      | (go_at_call 42; (with_reducible refine (C _).mono ?_); rintro e w1 ⟨rfl, hB⟩; obtain ⟨hc, hf⟩ := bcell hB))
    go_region_held3 (fun w' => w'.cell? ⟨w.heap.size, 0, none⟩ = some (.int .i64 a) ∧ w'.cell? ⟨w.heap.size, 1, none⟩ = some (.int .i64 b) ∧ w'.cell? ⟨w.heap.size, 2, none⟩ = some (.int .i64 c) ∧ w'.cell? ⟨w.heap.size + 1, 0, none⟩ = some (.int .i64 d) ∧ w'.cell? ⟨w.heap.size + 1, 1, none⟩ = some (.int .i64 e) ∧ w'.cell? ⟨w.heap.size + 1, 2, none⟩ = some (.int .i64 f)) (simp [*, go_sem, World.cell?_setCell_far])
      (first
        | (go_at_call 44; (with_reducible refine (NE _).mono ?_); rintro e w2 ⟨rfl, hN⟩; replace hB := btr hB (below_of_drew hN); obtain ⟨hc, hf⟩ := bcell hB)
        | (go_at_call 43; (with_reducible refine (SU _).mono ?_); rintro e w2 ⟨rfl, hN⟩; replace hB := btr hB hN; obtain ⟨hc, hf⟩ := bcell hB; unfold wd)
        | (go_at_call 33; (refine (ON _ (HT.below hB)).mono ?_); rintro e w3 ⟨rfl, hN⟩; replace hB := btr hB hN; obtain ⟨hc, hf⟩ := bcell hB))
    go_wp2
    exact bodyPost_ret (v := rtV ⟨rp, rq, rk, re⟩) (by simp [*, results, Tryd.results18, go_sem]) rfl ⟨rfl, bset (bset (bset (btr (bal (bal (bal (Below.refl w.heap.size w) _) _) _) hB) _ _ _ (by omega)) _ _ _ (by omega)) _ _ _ (by omega)⟩
  · rw [if_neg h]
    have C := fun w => both_no a b c d e f w h
    clear h
    go_enter Tryd.func18, Tryd.ntmps18
    go_wp2_with (first
      | (go_at_call 42; (with_reducible refine (C _).mono ?_); rintro e w1 ⟨rfl, hB⟩; obtain ⟨hc, hf⟩ := bcell hB))
    exact bodyPost_ret (v := rtV ⟨0, 0, 0, 2⟩) (by simp [*, results, Tryd.results18, go_sem]) rfl ⟨rfl, bset (bset (bset (btr (bal (bal (bal (Below.refl w.heap.size w) _) _) _) hB) _ _ _ (by omega)) _ _ _ (by omega)) _ _ _ (by omega)⟩
end Go.Proofs.YtalaacfoaelipaaDoor
