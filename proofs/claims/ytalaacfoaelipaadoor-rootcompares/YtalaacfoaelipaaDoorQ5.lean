/-
  The reference's Minus, greater, bad.
-/
import Derived.Test.YtalaacfoaelipaaDoorQ3
import Derived.Test.YtalaacfoaelipaaDoorQ4
import Derived.Test.YtalaacfoaelipaaDoorR4
namespace Go.Proofs.YtalaacfoaelipaaDoor
open Go.RowKit Go.Sort

theorem greater_any (a b : Int) (w : World) : Calls Tryd.prog 38 #[.int .i64 a, .int .i64 b] w fun e w' => e = .returned (.int .i64 (max a b)) ∧ w' = w := by
  by_cases h : b < a
  · rw [Int.max_eq_left (by omega)]
    go_enter Tryd.func38, Tryd.ntmps38
    go_wp2
    go_ret
    exact ⟨rfl, rfl⟩
  · rw [Int.max_eq_right (by omega)]
    go_enter Tryd.func38, Tryd.ntmps38
    go_wp2
    go_ret
    exact ⟨rfl, rfl⟩
theorem bad_no (a1 a2 a3 b1 b2 b3 : Int) (w : World) (ha : isRoot a1 a2 a3) (hb : isRoot b1 b2 b3) :
    Calls Tryd.prog 37 #[.agg #[.int .i64 a1, .int .i64 a2, .int .i64 a3], .agg #[.int .i64 b1, .int .i64 b2, .int .i64 b3]] w fun e w' => e = .returned (.bool false) ∧ Below w.heap.size w w' := by
  have C1 := fun w => rcheck_yes a1 a2 a3 w ha
  have C2 := fun w => rcheck_yes b1 b2 b3 w hb
  clear ha hb
  go_enter Tryd.func37, Tryd.ntmps37
  go_wp2_with (first
    | (go_at_call 13; (with_reducible refine (C1 _).mono ?_); rintro e w1 ⟨rfl, hN⟩; (first | (replace hB := btr hB hN) | (have hB := hN)); obtain ⟨hc, hf⟩ := bcell hB)
    | (go_at_call 13; (with_reducible refine (C2 _).mono ?_); rintro e w1 ⟨rfl, hN⟩; replace hB := btr hB hN; obtain ⟨hc, hf⟩ := bcell hB))
  go_ret
  exact ⟨rfl, btr (bal (bal (Below.refl _ _) _) _) hB⟩
theorem bad_yes1 (a1 a2 a3 b1 b2 b3 : Int) (w : World) (ha : ¬ isRoot a1 a2 a3) :
    Calls Tryd.prog 37 #[.agg #[.int .i64 a1, .int .i64 a2, .int .i64 a3], .agg #[.int .i64 b1, .int .i64 b2, .int .i64 b3]] w fun e w' => e = .returned (.bool true) ∧ Below w.heap.size w w' := by
  have C1 := fun w => rcheck_no a1 a2 a3 w ha
  clear ha
  go_enter Tryd.func37, Tryd.ntmps37
  go_wp2_with (first
    | (go_at_call 13; (with_reducible refine (C1 _).mono ?_); rintro e w1 ⟨rfl, hN⟩; (first | (replace hB := btr hB hN) | (have hB := hN)); obtain ⟨hc, hf⟩ := bcell hB))
  go_ret
  exact ⟨rfl, btr (bal (bal (Below.refl _ _) _) _) hB⟩
theorem bad_yes2 (a1 a2 a3 b1 b2 b3 : Int) (w : World) (ha : isRoot a1 a2 a3) (hb : ¬ isRoot b1 b2 b3) :
    Calls Tryd.prog 37 #[.agg #[.int .i64 a1, .int .i64 a2, .int .i64 a3], .agg #[.int .i64 b1, .int .i64 b2, .int .i64 b3]] w fun e w' => e = .returned (.bool true) ∧ Below w.heap.size w w' := by
  have C1 := fun w => rcheck_yes a1 a2 a3 w ha
  have C2 := fun w => rcheck_no b1 b2 b3 w hb
  clear ha hb
  go_enter Tryd.func37, Tryd.ntmps37
  go_wp2_with (first
    | (go_at_call 13; (with_reducible refine (C1 _).mono ?_); rintro e w1 ⟨rfl, hN⟩; (first | (replace hB := btr hB hN) | (have hB := hN)); obtain ⟨hc, hf⟩ := bcell hB)
    | (go_at_call 13; (with_reducible refine (C2 _).mono ?_); rintro e w1 ⟨rfl, hN⟩; replace hB := btr hB hN; obtain ⟨hc, hf⟩ := bcell hB))
  go_ret
  exact ⟨rfl, btr (bal (bal (Below.refl _ _) _) _) hB⟩
theorem bad_yes (a1 a2 a3 b1 b2 b3 : Int) (w : World) (h : ¬ (isRoot a1 a2 a3 ∧ isRoot b1 b2 b3)) :
    Calls Tryd.prog 37 #[.agg #[.int .i64 a1, .int .i64 a2, .int .i64 a3], .agg #[.int .i64 b1, .int .i64 b2, .int .i64 b3]] w fun e w' => e = .returned (.bool true) ∧ Below w.heap.size w w' := by
  by_cases ha : isRoot a1 a2 a3
  · exact bad_yes2 a1 a2 a3 b1 b2 b3 w ha (fun hb => h ⟨ha, hb⟩)
  · exact bad_yes1 a1 a2 a3 b1 b2 b3 w ha
set_option maxHeartbeats 1000000 in
theorem minus_any (x y : Int) (a : Option Addr) (n c : Nat) (a' : Option Addr) (n' c' : Nat) (w : World) (hx : II w a n c x) (hy : II w a' n' c' y) (hn : n ≤ 100) (hb : y.natAbs < 65536 ^ 100) :
    Calls Tryd.prog 49 #[.agg #[.int .i64 (sgn x), .slice a n c], .agg #[.int .i64 (sgn y), .slice a' n' c']] w fun e w' => IRet (x - y) e w' ∧ Below w.heap.size w w' := by
  have P0 : Hid _ := PlS.start hx hy
  obtain ⟨s, HS⟩ : ∃ s, Hid (s = sgn x) := ⟨_, rfl⟩
  obtain ⟨t, HT⟩ : ∃ t, Hid (t = sgn y) := ⟨_, rfl⟩
  rw [← HS.out, ← HT.out] at P0 ⊢
  clear hx hy
  go_enter Tryd.func49, Tryd.ntmps49
  go_upto_region 1 with (fail)
  obtain ⟨W0, hW0⟩ : ∃ W0, W0 = (((w.alloc (.cells #[.int .i64 s, .slice a n c] 60)).alloc (.cells #[.int .i64 t, .slice a' n' c'] 60)).alloc (.cells #[.int .i64 0, .slice none 0 0] 60)) := ⟨_, rfl⟩
  rw [← hW0] at P0 ⊢
  clear hW0
  obtain ⟨x0, x1, _, _, _⟩ := P0.out.bp
  obtain ⟨y0, y1, _, _, _⟩ := P0.out.bq
  obtain ⟨r0, r1, rf0, rf1, rt⟩ := P0.out.br
  have l0 := P0.out.bp.lt
  have l1 := P0.out.bq.lt
  have lr := P0.out.br.lt
  have hW := P0.out.below
  have HN := fun V (h : Below W0.heap.size W0 V) => neg_any y a' n' c' V (P0.out.iq.below h)
  have HP : ∀ V, Below W0.heap.size W0 V → ∀ a4 n4 c4, II V a4 n4 c4 (-y) → Calls Tryd.prog 40 #[.agg #[.int .i64 (sgn x), .slice a n c], .agg #[.int .i64 (sgn (-y)), .slice a4 n4 c4]] V fun e w' => IRet (x + -y) e w' ∧ Below V.heap.size V w' :=
    fun V h a4 n4 c4 h4 => rplus_any x (-y) a n c a4 n4 c4 V (P0.out.ip.below h) h4 hn (h4.len (by rw [Int.natAbs_neg]; exact hb))
  have hZ := Below.refl W0.heap.size W0
  rw [← Int.sub_eq_add_neg] at HP
  rw [← HS.out] at HP x0
  rw [← HT.out] at HN y0
  clear P0
  go_region_with (first
    | (go_at_call 70; (with_reducible refine (HN _ (below_drew hZ)).mono ?_); rintro e w2 ⟨⟨a4, n4, c4, rfl, hI4⟩, hN⟩; have hK := btr (below_drew hZ) hN; obtain ⟨hc, hf⟩ := bcell hK)
    | (go_at_call 40; (with_reducible refine (HP _ hK _ _ _ hI4).mono ?_); rintro e w3 ⟨⟨a5, n5, c5, rfl, hI5⟩, hN⟩; have hK := btr hK hN; obtain ⟨hc, hf⟩ := bcell hK))
  all_goals go_wp2
  all_goals exact bodyPost_ret (v := .agg #[.int .i64 (sgn (x - y)), .slice a5 n5 c5]) (by simp [results, Tryd.results49, go_sem, hc, r0, r1, lr]) rfl ⟨⟨_, _, _, rfl, hI5.put2 ((bty_below hK lr).trans rt) _ _⟩, ((btr hW hK).setCell (by simp; omega) _).setCell (by simp; omega) _⟩
end Go.Proofs.YtalaacfoaelipaaDoor
