/-
  Put together of: W5.
-/
import Derived.Test.YtcfmhkhfmcmkbaaDoorXA
namespace Go.Proofs.YtcfmhkhfmcmkbaaDoor
open Go.RowKit Go.Sort

theorem szs3 {w w2 : World} {a b c : Obj} (h : Below (((w.alloc a).alloc b).alloc c).heap.size (((w.alloc a).alloc b).alloc c) w2) : w.heap.size + 3 ≤ w2.heap.size := by
  have := h.size; simp only [World.alloc, Array.size_push] at this; omega
theorem szs2 {w w2 : World} {a b : Obj} (h : Below ((w.alloc a).alloc b).heap.size ((w.alloc a).alloc b) w2) : w.heap.size + 2 ≤ w2.heap.size := by
  have := h.size; simp only [World.alloc, Array.size_push] at this; omega
theorem szs1 {w w2 : World} {a : Obj} (h : Below (w.alloc a).heap.size (w.alloc a) w2) : w.heap.size + 1 ≤ w2.heap.size := by
  have := h.size; simp only [World.alloc, Array.size_push] at this; omega
theorem szs0 {w w2 : World} {p : Addr} {v : Value} (h : Below (w.setCell p v).heap.size (w.setCell p v) w2) : w.heap.size ≤ w2.heap.size := by
  have := h.size; simp at this; omega
theorem bset {B : Nat} {a w : World} (h : Below B a w) (b o : Nat) (v : Value) (hb : B ≤ b) : Below B a (w.setCell ⟨b, o, none⟩ v) := h.setCell hb v
set_option maxHeartbeats 2000000 in
theorem oneForm_core (p q P Q nP nQ : Int) (k n : Nat) (bP bQ cP cQ : Bool) (c : Nat) (w : World) (hT : Tab w) (hn : n ≤ k) (hk : k ≤ 9223372036854775807) (hm : min (c : Int) (k : Int) = (n : Int))
    (S1 : ∀ w, Calls Tryd.prog 45 #[wd p] w fun e w' => e = .returned (.int .i64 (sgn p)) ∧ Below w.heap.size w w')
    (S2 : ∀ w, Calls Tryd.prog 45 #[wd q] w fun e w' => e = .returned (.int .i64 (sgn q)) ∧ Below w.heap.size w w')
    (hs : ¬ sgn p = 0 ∨ (sgn p = 0 ∧ ¬ sgn q = 0))
    (E1 : ∀ w, Tab w → Calls Tryd.prog 46 #[wd p, wd q] w fun e w' => e = .returned (.int .i64 c) ∧ Below w.heap.size w w')
    (D1 : ∀ w, Calls Tryd.prog 47 #[wd p, .int .i64 n] w fun e w' => e = .returned (wd P) ∧ Below w.heap.size w w')
    (D2 : ∀ w, Calls Tryd.prog 47 #[wd q, .int .i64 n] w fun e w' => e = .returned (wd Q) ∧ Below w.heap.size w w')
    (N1 : ∀ w, Calls Tryd.prog 48 #[wd P] w fun e w' => e = .returned (.tuple #[.int .i64 nP, .bool bP]) ∧ Below w.heap.size w w')
    (N2 : ∀ w, Calls Tryd.prog 48 #[wd Q] w fun e w' => e = .returned (.tuple #[.int .i64 nQ, .bool bQ]) ∧ Below w.heap.size w w')
    (I1 : ∀ w, Calls Tryd.prog 49 #[.int .i64 nP] w fun e w' => e = .returned (.bool cP) ∧ w' = w)
    (I2 : ∀ w, Calls Tryd.prog 49 #[.int .i64 nQ] w fun e w' => e = .returned (.bool cQ) ∧ w' = w) :
    Calls Tryd.prog 29 #[wd p, wd q, .int .i64 k] w fun e w' =>
      (e = if bP = true ∧ bQ = true ∧ cP = true ∧ cQ = true ∧ k - n ≤ 60 then .returned (.tuple #[.agg #[.int .i64 nP, .int .i64 nQ, .int .i64 ((k - n : Nat) : Int)], .int .i64 0]) else .returned (.tuple #[.agg #[.int .i64 0, .int .i64 0, .int .i64 0], .int .i64 3])) ∧ Below w.heap.size w w' := by
  have HT := ((hT.alloc (.cells #[.int .u64 (hiW p), .int .u64 (loW p)] 67)).alloc (.cells #[.int .u64 (hiW q), .int .u64 (loW q)] 67)).alloc (.cells #[.int .i64 0, .int .i64 0, .int .i64 0] 24)
  have hkn : (k : Int) - (n : Int) = ((k - n : Nat) : Int) := by omega
  cases bP
  · rw [if_neg (by simp)]
    rcases hs with hs | ⟨hs, hs'⟩
    all_goals
      go_enter Tryd.func29, Tryd.ntmps29
      go_wp2_with (first
        | (go_at_call 45; (with_reducible refine (S1 _).mono ?_); rintro e w1 ⟨rfl, hB1⟩; obtain ⟨hc1, hf1⟩ := bcell hB1)
        | (go_at_call 45; (with_reducible refine (S2 _).mono ?_); rintro e w1 ⟨rfl, hN1⟩; have hB1 := btr hB1 hN1; obtain ⟨hc1, hf1⟩ := bcell hB1)
        | (go_at_call 46; (refine (E1 _ (HT.below hB1)).mono ?_); rintro e w2 ⟨rfl, hN2⟩; have hB2 := btr hB1 hN2; obtain ⟨hc2, hf2⟩ := bcell hB2; have hQ := szs3 hB2; have z0 : w.heap.size < w2.heap.size := (by omega); have z1 : w.heap.size + 1 < w2.heap.size := (by omega); have z2 : w.heap.size + 1 + 1 < w2.heap.size := (by omega); clear hQ)
        | (go_at_call 47; (with_reducible refine (D1 _).mono ?_); rintro e w3 ⟨rfl, hB3⟩; obtain ⟨hc3, hf3⟩ := bcell hB3)
        | (go_at_call 48; (with_reducible refine (N1 _).mono ?_); rintro e w4 ⟨rfl, hN4⟩; have hB4 := btr hB3 hN4; obtain ⟨hc4, hf4⟩ := bcell hB4; have hQ := szs1 hB4; have y0 : w.heap.size < w4.heap.size := (by omega); have y1 : w.heap.size + 1 < w4.heap.size := (by omega); have y2 : w.heap.size + 1 + 1 < w4.heap.size := (by omega); have y3 : w2.heap.size < w4.heap.size := (by omega); clear hQ)
        | (go_at_call 47; (with_reducible refine (D2 _).mono ?_); rintro e w5 ⟨rfl, hB5⟩; obtain ⟨hc5, hf5⟩ := bcell hB5)
        | (go_at_call 48; (with_reducible refine (N2 _).mono ?_); rintro e w6 ⟨rfl, hN6⟩; have hB6 := btr hB5 hN6; obtain ⟨hc6, hf6⟩ := bcell hB6; have hQ := szs0 hB6; have x0 : w.heap.size < w6.heap.size := (by omega); have x1 : w.heap.size + 1 < w6.heap.size := (by omega); have x2 : w.heap.size + 1 + 1 < w6.heap.size := (by omega); have x3 : w2.heap.size < w6.heap.size := (by omega); clear hQ)
        | (go_at_call 49; (with_reducible refine (I1 _).mono ?_); rintro e w7 ⟨rfl, rfl⟩)
        | (go_at_call 49; (with_reducible refine (I2 _).mono ?_); rintro e w7 ⟨rfl, rfl⟩))
      exact bodyPost_ret (v := .tuple #[.agg #[.int .i64 0, .int .i64 0, .int .i64 0], .int .i64 3]) (by simp [*, results, Tryd.results29, go_sem]) rfl ⟨rfl, bset (bset (bset (bset (btr (bset (btr (bal (btr (bal (bal (bal (Below.refl w.heap.size w) _) _) _) hB2) _) hB4) _ _ _ (by omega)) hB6) _ _ _ (by omega)) _ _ _ (by omega)) _ _ _ (by omega)) _ _ _ (by omega)⟩
  cases bQ
  · rw [if_neg (by simp)]
    rcases hs with hs | ⟨hs, hs'⟩
    all_goals
      go_enter Tryd.func29, Tryd.ntmps29
      go_wp2_with (first
        | (go_at_call 45; (with_reducible refine (S1 _).mono ?_); rintro e w1 ⟨rfl, hB1⟩; obtain ⟨hc1, hf1⟩ := bcell hB1)
        | (go_at_call 45; (with_reducible refine (S2 _).mono ?_); rintro e w1 ⟨rfl, hN1⟩; have hB1 := btr hB1 hN1; obtain ⟨hc1, hf1⟩ := bcell hB1)
        | (go_at_call 46; (refine (E1 _ (HT.below hB1)).mono ?_); rintro e w2 ⟨rfl, hN2⟩; have hB2 := btr hB1 hN2; obtain ⟨hc2, hf2⟩ := bcell hB2; have hQ := szs3 hB2; have z0 : w.heap.size < w2.heap.size := (by omega); have z1 : w.heap.size + 1 < w2.heap.size := (by omega); have z2 : w.heap.size + 1 + 1 < w2.heap.size := (by omega); clear hQ)
        | (go_at_call 47; (with_reducible refine (D1 _).mono ?_); rintro e w3 ⟨rfl, hB3⟩; obtain ⟨hc3, hf3⟩ := bcell hB3)
        | (go_at_call 48; (with_reducible refine (N1 _).mono ?_); rintro e w4 ⟨rfl, hN4⟩; have hB4 := btr hB3 hN4; obtain ⟨hc4, hf4⟩ := bcell hB4; have hQ := szs1 hB4; have y0 : w.heap.size < w4.heap.size := (by omega); have y1 : w.heap.size + 1 < w4.heap.size := (by omega); have y2 : w.heap.size + 1 + 1 < w4.heap.size := (by omega); have y3 : w2.heap.size < w4.heap.size := (by omega); clear hQ)
        | (go_at_call 47; (with_reducible refine (D2 _).mono ?_); rintro e w5 ⟨rfl, hB5⟩; obtain ⟨hc5, hf5⟩ := bcell hB5)
        | (go_at_call 48; (with_reducible refine (N2 _).mono ?_); rintro e w6 ⟨rfl, hN6⟩; have hB6 := btr hB5 hN6; obtain ⟨hc6, hf6⟩ := bcell hB6; have hQ := szs0 hB6; have x0 : w.heap.size < w6.heap.size := (by omega); have x1 : w.heap.size + 1 < w6.heap.size := (by omega); have x2 : w.heap.size + 1 + 1 < w6.heap.size := (by omega); have x3 : w2.heap.size < w6.heap.size := (by omega); clear hQ)
        | (go_at_call 49; (with_reducible refine (I1 _).mono ?_); rintro e w7 ⟨rfl, rfl⟩)
        | (go_at_call 49; (with_reducible refine (I2 _).mono ?_); rintro e w7 ⟨rfl, rfl⟩))
      exact bodyPost_ret (v := .tuple #[.agg #[.int .i64 0, .int .i64 0, .int .i64 0], .int .i64 3]) (by simp [*, results, Tryd.results29, go_sem]) rfl ⟨rfl, bset (bset (bset (bset (btr (bset (btr (bal (btr (bal (bal (bal (Below.refl w.heap.size w) _) _) _) hB2) _) hB4) _ _ _ (by omega)) hB6) _ _ _ (by omega)) _ _ _ (by omega)) _ _ _ (by omega)) _ _ _ (by omega)⟩
  cases cP
  · rw [if_neg (by simp)]
    rcases hs with hs | ⟨hs, hs'⟩
    all_goals
      go_enter Tryd.func29, Tryd.ntmps29
      go_wp2_with (first
        | (go_at_call 45; (with_reducible refine (S1 _).mono ?_); rintro e w1 ⟨rfl, hB1⟩; obtain ⟨hc1, hf1⟩ := bcell hB1)
        | (go_at_call 45; (with_reducible refine (S2 _).mono ?_); rintro e w1 ⟨rfl, hN1⟩; have hB1 := btr hB1 hN1; obtain ⟨hc1, hf1⟩ := bcell hB1)
        | (go_at_call 46; (refine (E1 _ (HT.below hB1)).mono ?_); rintro e w2 ⟨rfl, hN2⟩; have hB2 := btr hB1 hN2; obtain ⟨hc2, hf2⟩ := bcell hB2; have hQ := szs3 hB2; have z0 : w.heap.size < w2.heap.size := (by omega); have z1 : w.heap.size + 1 < w2.heap.size := (by omega); have z2 : w.heap.size + 1 + 1 < w2.heap.size := (by omega); clear hQ)
        | (go_at_call 47; (with_reducible refine (D1 _).mono ?_); rintro e w3 ⟨rfl, hB3⟩; obtain ⟨hc3, hf3⟩ := bcell hB3)
        | (go_at_call 48; (with_reducible refine (N1 _).mono ?_); rintro e w4 ⟨rfl, hN4⟩; have hB4 := btr hB3 hN4; obtain ⟨hc4, hf4⟩ := bcell hB4; have hQ := szs1 hB4; have y0 : w.heap.size < w4.heap.size := (by omega); have y1 : w.heap.size + 1 < w4.heap.size := (by omega); have y2 : w.heap.size + 1 + 1 < w4.heap.size := (by omega); have y3 : w2.heap.size < w4.heap.size := (by omega); clear hQ)
        | (go_at_call 47; (with_reducible refine (D2 _).mono ?_); rintro e w5 ⟨rfl, hB5⟩; obtain ⟨hc5, hf5⟩ := bcell hB5)
        | (go_at_call 48; (with_reducible refine (N2 _).mono ?_); rintro e w6 ⟨rfl, hN6⟩; have hB6 := btr hB5 hN6; obtain ⟨hc6, hf6⟩ := bcell hB6; have hQ := szs0 hB6; have x0 : w.heap.size < w6.heap.size := (by omega); have x1 : w.heap.size + 1 < w6.heap.size := (by omega); have x2 : w.heap.size + 1 + 1 < w6.heap.size := (by omega); have x3 : w2.heap.size < w6.heap.size := (by omega); clear hQ)
        | (go_at_call 49; (with_reducible refine (I1 _).mono ?_); rintro e w7 ⟨rfl, rfl⟩)
        | (go_at_call 49; (with_reducible refine (I2 _).mono ?_); rintro e w7 ⟨rfl, rfl⟩))
      exact bodyPost_ret (v := .tuple #[.agg #[.int .i64 0, .int .i64 0, .int .i64 0], .int .i64 3]) (by simp [*, results, Tryd.results29, go_sem]) rfl ⟨rfl, bset (bset (bset (bset (btr (bset (btr (bal (btr (bal (bal (bal (Below.refl w.heap.size w) _) _) _) hB2) _) hB4) _ _ _ (by omega)) hB6) _ _ _ (by omega)) _ _ _ (by omega)) _ _ _ (by omega)) _ _ _ (by omega)⟩
  cases cQ
  · rw [if_neg (by simp)]
    rcases hs with hs | ⟨hs, hs'⟩
    all_goals
      go_enter Tryd.func29, Tryd.ntmps29
      go_wp2_with (first
        | (go_at_call 45; (with_reducible refine (S1 _).mono ?_); rintro e w1 ⟨rfl, hB1⟩; obtain ⟨hc1, hf1⟩ := bcell hB1)
        | (go_at_call 45; (with_reducible refine (S2 _).mono ?_); rintro e w1 ⟨rfl, hN1⟩; have hB1 := btr hB1 hN1; obtain ⟨hc1, hf1⟩ := bcell hB1)
        | (go_at_call 46; (refine (E1 _ (HT.below hB1)).mono ?_); rintro e w2 ⟨rfl, hN2⟩; have hB2 := btr hB1 hN2; obtain ⟨hc2, hf2⟩ := bcell hB2; have hQ := szs3 hB2; have z0 : w.heap.size < w2.heap.size := (by omega); have z1 : w.heap.size + 1 < w2.heap.size := (by omega); have z2 : w.heap.size + 1 + 1 < w2.heap.size := (by omega); clear hQ)
        | (go_at_call 47; (with_reducible refine (D1 _).mono ?_); rintro e w3 ⟨rfl, hB3⟩; obtain ⟨hc3, hf3⟩ := bcell hB3)
        | (go_at_call 48; (with_reducible refine (N1 _).mono ?_); rintro e w4 ⟨rfl, hN4⟩; have hB4 := btr hB3 hN4; obtain ⟨hc4, hf4⟩ := bcell hB4; have hQ := szs1 hB4; have y0 : w.heap.size < w4.heap.size := (by omega); have y1 : w.heap.size + 1 < w4.heap.size := (by omega); have y2 : w.heap.size + 1 + 1 < w4.heap.size := (by omega); have y3 : w2.heap.size < w4.heap.size := (by omega); clear hQ)
        | (go_at_call 47; (with_reducible refine (D2 _).mono ?_); rintro e w5 ⟨rfl, hB5⟩; obtain ⟨hc5, hf5⟩ := bcell hB5)
        | (go_at_call 48; (with_reducible refine (N2 _).mono ?_); rintro e w6 ⟨rfl, hN6⟩; have hB6 := btr hB5 hN6; obtain ⟨hc6, hf6⟩ := bcell hB6; have hQ := szs0 hB6; have x0 : w.heap.size < w6.heap.size := (by omega); have x1 : w.heap.size + 1 < w6.heap.size := (by omega); have x2 : w.heap.size + 1 + 1 < w6.heap.size := (by omega); have x3 : w2.heap.size < w6.heap.size := (by omega); clear hQ)
        | (go_at_call 49; (with_reducible refine (I1 _).mono ?_); rintro e w7 ⟨rfl, rfl⟩)
        | (go_at_call 49; (with_reducible refine (I2 _).mono ?_); rintro e w7 ⟨rfl, rfl⟩))
      exact bodyPost_ret (v := .tuple #[.agg #[.int .i64 0, .int .i64 0, .int .i64 0], .int .i64 3]) (by simp [*, results, Tryd.results29, go_sem]) rfl ⟨rfl, bset (bset (bset (bset (btr (bset (btr (bal (btr (bal (bal (bal (Below.refl w.heap.size w) _) _) _) hB2) _) hB4) _ _ _ (by omega)) hB6) _ _ _ (by omega)) _ _ _ (by omega)) _ _ _ (by omega)) _ _ _ (by omega)⟩
  by_cases h60 : k - n ≤ 60
  · rw [if_pos (by simp [h60])]
    have h61 : ¬ (60 : Int) < ((k - n : Nat) : Int) := by omega
    have h62 : decide ((60 : Int) < ((k - n : Nat) : Int)) = false := by simpa using h61
    have h63 : decide (60 < k - n) = false := by simpa using h60
    rcases hs with hs | ⟨hs, hs'⟩
    all_goals
      go_enter Tryd.func29, Tryd.ntmps29
      go_wp2_with (first
        | (go_at_call 45; (with_reducible refine (S1 _).mono ?_); rintro e w1 ⟨rfl, hB1⟩; obtain ⟨hc1, hf1⟩ := bcell hB1)
        | (go_at_call 45; (with_reducible refine (S2 _).mono ?_); rintro e w1 ⟨rfl, hN1⟩; have hB1 := btr hB1 hN1; obtain ⟨hc1, hf1⟩ := bcell hB1)
        | (go_at_call 46; (refine (E1 _ (HT.below hB1)).mono ?_); rintro e w2 ⟨rfl, hN2⟩; have hB2 := btr hB1 hN2; obtain ⟨hc2, hf2⟩ := bcell hB2; have hQ := szs3 hB2; have z0 : w.heap.size < w2.heap.size := (by omega); have z1 : w.heap.size + 1 < w2.heap.size := (by omega); have z2 : w.heap.size + 1 + 1 < w2.heap.size := (by omega); clear hQ)
        | (go_at_call 47; (with_reducible refine (D1 _).mono ?_); rintro e w3 ⟨rfl, hB3⟩; obtain ⟨hc3, hf3⟩ := bcell hB3)
        | (go_at_call 48; (with_reducible refine (N1 _).mono ?_); rintro e w4 ⟨rfl, hN4⟩; have hB4 := btr hB3 hN4; obtain ⟨hc4, hf4⟩ := bcell hB4; have hQ := szs1 hB4; have y0 : w.heap.size < w4.heap.size := (by omega); have y1 : w.heap.size + 1 < w4.heap.size := (by omega); have y2 : w.heap.size + 1 + 1 < w4.heap.size := (by omega); have y3 : w2.heap.size < w4.heap.size := (by omega); clear hQ)
        | (go_at_call 47; (with_reducible refine (D2 _).mono ?_); rintro e w5 ⟨rfl, hB5⟩; obtain ⟨hc5, hf5⟩ := bcell hB5)
        | (go_at_call 48; (with_reducible refine (N2 _).mono ?_); rintro e w6 ⟨rfl, hN6⟩; have hB6 := btr hB5 hN6; obtain ⟨hc6, hf6⟩ := bcell hB6; have hQ := szs0 hB6; have x0 : w.heap.size < w6.heap.size := (by omega); have x1 : w.heap.size + 1 < w6.heap.size := (by omega); have x2 : w.heap.size + 1 + 1 < w6.heap.size := (by omega); have x3 : w2.heap.size < w6.heap.size := (by omega); clear hQ)
        | (go_at_call 49; (with_reducible refine (I1 _).mono ?_); rintro e w7 ⟨rfl, rfl⟩)
        | (go_at_call 49; (with_reducible refine (I2 _).mono ?_); rintro e w7 ⟨rfl, rfl⟩))
      exact bodyPost_ret (v := .tuple #[.agg #[.int .i64 nP, .int .i64 nQ, .int .i64 ((k - n : Nat) : Int)], .int .i64 0]) (by simp [*, results, Tryd.results29, go_sem]) rfl ⟨rfl, bset (bset (bset (bset (btr (bset (btr (bal (btr (bal (bal (bal (Below.refl w.heap.size w) _) _) _) hB2) _) hB4) _ _ _ (by omega)) hB6) _ _ _ (by omega)) _ _ _ (by omega)) _ _ _ (by omega)) _ _ _ (by omega)⟩
  · rw [if_neg (by simp [h60])]
    have h61 : (60 : Int) < ((k - n : Nat) : Int) := by omega
    have h62 : decide ((60 : Int) < ((k - n : Nat) : Int)) = true := by simpa using h61
    have h63 : decide (60 < k - n) = true := decide_eq_true (by omega)
    rcases hs with hs | ⟨hs, hs'⟩
    all_goals
      go_enter Tryd.func29, Tryd.ntmps29
      go_wp2_with (first
        | (go_at_call 45; (with_reducible refine (S1 _).mono ?_); rintro e w1 ⟨rfl, hB1⟩; obtain ⟨hc1, hf1⟩ := bcell hB1)
        | (go_at_call 45; (with_reducible refine (S2 _).mono ?_); rintro e w1 ⟨rfl, hN1⟩; have hB1 := btr hB1 hN1; obtain ⟨hc1, hf1⟩ := bcell hB1)
        | (go_at_call 46; (refine (E1 _ (HT.below hB1)).mono ?_); rintro e w2 ⟨rfl, hN2⟩; have hB2 := btr hB1 hN2; obtain ⟨hc2, hf2⟩ := bcell hB2; have hQ := szs3 hB2; have z0 : w.heap.size < w2.heap.size := (by omega); have z1 : w.heap.size + 1 < w2.heap.size := (by omega); have z2 : w.heap.size + 1 + 1 < w2.heap.size := (by omega); clear hQ)
        | (go_at_call 47; (with_reducible refine (D1 _).mono ?_); rintro e w3 ⟨rfl, hB3⟩; obtain ⟨hc3, hf3⟩ := bcell hB3)
        | (go_at_call 48; (with_reducible refine (N1 _).mono ?_); rintro e w4 ⟨rfl, hN4⟩; have hB4 := btr hB3 hN4; obtain ⟨hc4, hf4⟩ := bcell hB4; have hQ := szs1 hB4; have y0 : w.heap.size < w4.heap.size := (by omega); have y1 : w.heap.size + 1 < w4.heap.size := (by omega); have y2 : w.heap.size + 1 + 1 < w4.heap.size := (by omega); have y3 : w2.heap.size < w4.heap.size := (by omega); clear hQ)
        | (go_at_call 47; (with_reducible refine (D2 _).mono ?_); rintro e w5 ⟨rfl, hB5⟩; obtain ⟨hc5, hf5⟩ := bcell hB5)
        | (go_at_call 48; (with_reducible refine (N2 _).mono ?_); rintro e w6 ⟨rfl, hN6⟩; have hB6 := btr hB5 hN6; obtain ⟨hc6, hf6⟩ := bcell hB6; have hQ := szs0 hB6; have x0 : w.heap.size < w6.heap.size := (by omega); have x1 : w.heap.size + 1 < w6.heap.size := (by omega); have x2 : w.heap.size + 1 + 1 < w6.heap.size := (by omega); have x3 : w2.heap.size < w6.heap.size := (by omega); clear hQ)
        | (go_at_call 49; (with_reducible refine (I1 _).mono ?_); rintro e w7 ⟨rfl, rfl⟩)
        | (go_at_call 49; (with_reducible refine (I2 _).mono ?_); rintro e w7 ⟨rfl, rfl⟩))
      exact bodyPost_ret (v := .tuple #[.agg #[.int .i64 0, .int .i64 0, .int .i64 0], .int .i64 3]) (by simp [*, results, Tryd.results29, go_sem]) rfl ⟨rfl, bset (bset (bset (bset (btr (bset (btr (bal (btr (bal (bal (bal (Below.refl w.heap.size w) _) _) _) hB2) _) hB4) _ _ _ (by omega)) hB6) _ _ _ (by omega)) _ _ _ (by omega)) _ _ _ (by omega)) _ _ _ (by omega)⟩
end Go.Proofs.YtcfmhkhfmcmkbaaDoor
