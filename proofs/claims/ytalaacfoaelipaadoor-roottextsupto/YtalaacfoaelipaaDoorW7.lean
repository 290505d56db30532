/-
  What Make, negative and sum tell.
-/
import Derived.Test.YtalaacfoaelipaaDoorW6
namespace Go.Proofs.YtalaacfoaelipaaDoor
open Go.RowKit Go.Sort

theorem szs4 {w w2 : World} {a b c d : Obj} (h : Below ((((w.alloc a).alloc b).alloc c).alloc d).heap.size ((((w.alloc a).alloc b).alloc c).alloc d) w2) : w.heap.size + 4 ≤ w2.heap.size := by
  have := h.size; simp only [World.alloc, Array.size_push] at this; omega
theorem negative_rt (a b c : Int) (w : World) (ha : -9007199254740991 ≤ a ∧ a ≤ 9007199254740991) (hb : -9007199254740991 ≤ b ∧ b ≤ 9007199254740991) :
    Calls Tryd.prog 44 #[rv a b c] w fun e w' => e = .returned (rv (-a) (-b) c) ∧ Below w.heap.size w w' := by
  have e1 : wrap64 (-a) = -a := by unfold wrap64; omega
  have e2 : wrap64 (-b) = -b := by unfold wrap64; omega
  go_enter Tryd.func44, Tryd.ntmps44
  go_wp2
  exact bodyPost_ret (v := rv (-a) (-b) c) (by simp [*, results, Tryd.results44, go_sem]) rfl ⟨rfl, bal (bal (Below.refl w.heap.size w) _) _⟩

/-- What Make tells. -/
def makeR (p q k : Int) : Rt := if k < 0 then ⟨0, 0, 0, 2⟩ else one p q k.toNat
theorem i64_evn (p q : Int) (hp : -9223372036854775808 ≤ p ∧ p ≤ 9223372036854775807) (hq : -9223372036854775808 ≤ q ∧ q ≤ 9223372036854775807) : evn p q < 64 ∨ (p = 0 ∧ q = 0) := by
  by_cases h : p = 0 ∧ q = 0
  · exact Or.inr h
  · left
    refine evn_lt p q 64 (Nat.le_refl _) ?_
    rintro ⟨⟨c, hc⟩, ⟨d, hd⟩⟩
    have e : (2 : Int) ^ 64 = 18446744073709551616 := rfl
    rw [e] at hc hd
    omega
set_option maxHeartbeats 400000 in
theorem make_any (p q k : Int) (w : World) (hT : Tab w) (hp : -9223372036854775808 ≤ p ∧ p ≤ 9223372036854775807) (hq : -9223372036854775808 ≤ q ∧ q ≤ 9223372036854775807) (hk : k ≤ 9223372036854775807) :
    Calls Tryd.prog 11 #[.int .i64 p, .int .i64 q, .int .i64 k] w fun e w' => e = .returned (rtV (makeR p q k)) ∧ Below w.heap.size w w' := by
  unfold makeR
  by_cases h0 : k < 0
  · rw [if_pos h0]
    go_enter Tryd.func11, Tryd.ntmps11
    go_wp2
    exact bodyPost_ret (v := rtV ⟨0, 0, 0, 2⟩) (by simp [*, results, Tryd.results11, go_sem]) rfl ⟨rfl, bal (Below.refl w.heap.size w) _⟩
  · rw [if_neg h0]
    obtain ⟨K, rfl⟩ := Int.eq_ofNat_of_zero_le (show 0 ≤ k by omega)
    rw [Int.toNat_natCast]
    have H1 := fun w => wideOf_any p w hp.1 hp.2
    have H2 := fun w => wideOf_any q w hq.1 hq.2
    have H3 := fun w hT => oneForm_any p q K w hT (by unfold In128; omega) (by unfold In128; omega) (by omega) (Or.inr (i64_evn p q hp hq))
    have HT := hT.alloc (.cells #[.int .i64 0, .int .i64 0, .int .i64 0] 23)
    generalize one p q K = r at H3
    obtain ⟨rp, rq, rk, re⟩ := r
    go_enter Tryd.func11, Tryd.ntmps11
    go_wp2_with (first
      | (go_at_call 34; (with_reducible refine (H1 _).mono ?_); rintro e w1 ⟨rfl, hN⟩; (first | (replace hB := btr hB hN) | (have hB := hN)); obtain ⟨hc, hf⟩ := bcell hB)
      | (go_at_call 34; (with_reducible refine (H2 _).mono ?_); rintro e w1 ⟨rfl, hN⟩; (first | (replace hB := btr hB hN) | (have hB := hN)); obtain ⟨hc, hf⟩ := bcell hB)
      | (go_at_call 33; (refine (H3 _ (HT.below hB)).mono ?_); rintro e w1 ⟨rfl, hN⟩; replace hB := btr hB hN; obtain ⟨hc, hf⟩ := bcell hB))
    exact bodyPost_ret (v := rtV ⟨rp, rq, rk, re⟩) (by simp [*, results, Tryd.results11, go_sem]) rfl ⟨rfl, bset (bset (bset (btr (bal (Below.refl w.heap.size w) _) hB) _ _ _ (by omega)) _ _ _ (by omega)) _ _ _ (by omega)⟩

/-- The sum of two roots over the greater power: one part. -/
def sumP (a d : Int) (k c f : Nat) : Int := a * 2 ^ (k - c) + d * 2 ^ (k - f)
set_option maxHeartbeats 2000000 in
theorem sum_any (a b d e : Int) (c f k : Nat) (w : World) (hk : max (c : Int) (f : Int) = (k : Int)) (hc6 : c ≤ 60) (hf6 : f ≤ 60)
    (ha : -9007199254740991 ≤ a ∧ a ≤ 9007199254740991) (hb : -9007199254740991 ≤ b ∧ b ≤ 9007199254740991) (hd : -9007199254740991 ≤ d ∧ d ≤ 9007199254740991) (he : -9007199254740991 ≤ e ∧ e ≤ 9007199254740991) :
    Calls Tryd.prog 43 #[rv a b c, rv d e f] w fun r w' => r = .returned (.tuple #[wd (sumP a d k c f), wd (sumP b e k c f), .int .i64 k]) ∧ Below w.heap.size w w' := by
  have A1 := fun w => wideOf_any a w (by omega) (by omega)
  have A2 := fun w => wideOf_any b w (by omega) (by omega)
  have A3 := fun w => wideOf_any d w (by omega) (by omega)
  have A4 := fun w => wideOf_any e w (by omega) (by omega)
  have U1 := fun w => up_any a (k - c) w (by omega)
  have U2 := fun w => up_any b (k - c) w (by omega)
  have U3 := fun w => up_any d (k - f) w (by omega)
  have U4 := fun w => up_any e (k - f) w (by omega)
  have e1 : (k : Int) - (c : Int) = ((k - c : Nat) : Int) := by omega
  have e2 : (k : Int) - (f : Int) = ((k - f : Nat) : Int) := by omega
  have k60 : k ≤ 60 := by omega
  have kc1 : c ≤ k := by omega
  have kf1 : f ≤ k := by omega
  have i1 : IntKind.i64.wrap ((k - c : Nat) : Int) = ((k - c : Nat) : Int) := by simp [IntKind.wrap, IntKind.signed, IntKind.bits]; omega
  have i2 : IntKind.i64.wrap ((k - f : Nat) : Int) = ((k - f : Nat) : Int) := by simp [IntKind.wrap, IntKind.signed, IntKind.bits]; omega
  unfold sumP
  have P1 := fun w => plus_any (a * 2 ^ (k - c)) (d * 2 ^ (k - f)) w
  have P2 := fun w => plus_any (b * 2 ^ (k - c)) (e * 2 ^ (k - f)) w
  generalize a * 2 ^ (k - c) = a' at *
  generalize b * 2 ^ (k - c) = b' at *
  generalize d * 2 ^ (k - f) = d' at *
  generalize e * 2 ^ (k - f) = e' at *
  generalize k - c = kc at *
  generalize k - f = kf at *
  clear ha hb hd he
  have l0 : w.heap.size < w.heap.size + 1 + 1 + 1 + 1 := by omega
  have l1 : w.heap.size + 1 < w.heap.size + 1 + 1 + 1 + 1 := by omega
  have l2 : w.heap.size < w.heap.size + 1 + 1 := by omega
  have l3 : w.heap.size < w.heap.size + 1 + 1 + 1 := by omega
  have d0 : ¬ w.heap.size = w.heap.size + 1 + 1 := by omega
  have d1 : ¬ w.heap.size + 1 + 1 = w.heap.size := by omega
  have d2 : ¬ w.heap.size = w.heap.size + 1 + 1 + 1 := by omega
  have d3 : ¬ w.heap.size + 1 + 1 + 1 = w.heap.size := by omega
  have d4 : ¬ w.heap.size + 1 = w.heap.size + 1 + 1 + 1 := by omega
  have d5 : ¬ w.heap.size + 1 + 1 + 1 = w.heap.size + 1 := by omega
  have l4 : w.heap.size + 1 < w.heap.size + 1 + 1 + 1 := by omega
  go_enter Tryd.func43, Tryd.ntmps43
  go_wp2
  go_region_held3 (fun w' => w'.cell? ⟨w.heap.size, 0, none⟩ = some (.int .i64 a) ∧ w'.cell? ⟨w.heap.size, 2, none⟩ = some (.int .i64 c) ∧ w'.cell? ⟨w.heap.size + 1, 0, none⟩ = some (.int .i64 d) ∧ w'.cell? ⟨w.heap.size + 1, 2, none⟩ = some (.int .i64 f)) (go_keep)
    (first
      | (go_at_call 34; (with_reducible refine (A1 _).mono ?_); rintro e w1 ⟨rfl, hN⟩; (first | (replace hB := btr hB hN) | (have hB := hN)); obtain ⟨hc, hf⟩ := bcell hB)
      | (go_at_call 34; (with_reducible refine (A3 _).mono ?_); rintro e w1 ⟨rfl, hN⟩; (first | (replace hB := btr hB hN) | (have hB := hN)); obtain ⟨hc, hf⟩ := bcell hB)
      | (go_at_call 47; (with_reducible refine (U1 _).mono ?_); rintro e w1 ⟨rfl, hN⟩; (first | (replace hB := btr hB hN) | (have hB := hN)); obtain ⟨hc, hf⟩ := bcell hB)
      | (go_at_call 47; (with_reducible refine (U3 _).mono ?_); rintro e w1 ⟨rfl, hN⟩; (first | (replace hB := btr hB hN) | (have hB := hN)); obtain ⟨hc, hf⟩ := bcell hB)
      | (go_at_call 46; (with_reducible refine (P1 _).mono ?_); rintro e w1 ⟨rfl, hN⟩; (first | (replace hB := btr hB hN) | (have hB := hN)); obtain ⟨hc, hf⟩ := bcell hB))
  have zq := szs4 (below_of_drew hB)
  have z0 : w.heap.size < w1.heap.size := by omega
  have z1 : w.heap.size + 1 < w1.heap.size := by omega
  have z2 : w.heap.size + 1 + 1 < w1.heap.size := by omega
  have z3 : w.heap.size + 1 + 1 + 1 < w1.heap.size := by omega
  go_wp2
  go_region_held3 (fun w' => w'.cell? ⟨w.heap.size, 1, none⟩ = some (.int .i64 b) ∧ w'.cell? ⟨w.heap.size, 2, none⟩ = some (.int .i64 c) ∧ w'.cell? ⟨w.heap.size + 1, 1, none⟩ = some (.int .i64 e) ∧ w'.cell? ⟨w.heap.size + 1, 2, none⟩ = some (.int .i64 f) ∧ w'.cell? ⟨w.heap.size + 1 + 1, 0, none⟩ = some (.int .u64 (hiW (a' + d'))) ∧ w'.cell? ⟨w.heap.size + 1 + 1, 1, none⟩ = some (.int .u64 (loW (a' + d')))) (simp [*, go_sem, World.cell?_setCell_far])
    (first
      | (go_at_call 34; (with_reducible refine (A2 _).mono ?_); rintro e v1 ⟨rfl, hN⟩; (first | (replace hG := btr hG hN) | (have hG := hN)); obtain ⟨hc, hf⟩ := bcell hG)
      | (go_at_call 34; (with_reducible refine (A4 _).mono ?_); rintro e v1 ⟨rfl, hN⟩; (first | (replace hG := btr hG hN) | (have hG := hN)); obtain ⟨hc, hf⟩ := bcell hG)
      | (go_at_call 47; (with_reducible refine (U2 _).mono ?_); rintro e v1 ⟨rfl, hN⟩; (first | (replace hG := btr hG hN) | (have hG := hN)); obtain ⟨hc, hf⟩ := bcell hG)
      | (go_at_call 47; (with_reducible refine (U4 _).mono ?_); rintro e v1 ⟨rfl, hN⟩; (first | (replace hG := btr hG hN) | (have hG := hN)); obtain ⟨hc, hf⟩ := bcell hG)
      | (go_at_call 46; (with_reducible refine (P2 _).mono ?_); rintro e v1 ⟨rfl, hN⟩; (first | (replace hG := btr hG hN) | (have hG := hN)); obtain ⟨hc, hf⟩ := bcell hG))
  have yq : w1.heap.size ≤ v1.heap.size := by have := hG.size; simpa using this
  have y2 : w.heap.size + 1 + 1 < v1.heap.size := by omega
  have y3 : w.heap.size + 1 + 1 + 1 < v1.heap.size := by omega
  have q0 : ∀ o, v1.cell? ⟨w.heap.size + 1 + 1 + 1, o, none⟩ = (#[Value.int .u64 0, Value.int .u64 0])[o]? := fun o => by
    rw [(below_of_drew hG).cell (p := ⟨w.heap.size + 1 + 1 + 1, o, none⟩) (by simpa using z3), World.cell?_setCell_far _ _ _ _ (by simp), World.cell?_setCell_far _ _ _ _ (by simp), (below_of_drew hB).cell (p := ⟨w.heap.size + 1 + 1 + 1, o, none⟩) (by simp), World.cell?_alloc_at _ _ _ _ (by simp)]
  have q1 : v1.cell? ⟨w.heap.size + 1 + 1 + 1, 0, none⟩ = some (.int .u64 0) := q0 0
  have q2 : v1.cell? ⟨w.heap.size + 1 + 1 + 1, 1, none⟩ = some (.int .u64 0) := q0 1
  clear q0
  go_wp2
  go_region
  go_wp2
  have B1 := btr (bal (bal (bal (bal (Below.refl w.heap.size w) _) _) _) _) (below_of_drew hB)
  have B2 := btr (bset (bset B1 (w.heap.size + 1 + 1) 0 _ (by omega)) (w.heap.size + 1 + 1) 1 _ (by omega)) (below_of_drew hG)
  exact bodyPost_ret (v := .tuple #[wd (a' + d'), wd (b' + e'), .int .i64 k]) (by simp (maxDischargeDepth := 9) [*, results, Tryd.results43, go_sem]) rfl ⟨rfl, below_drew (bset (bset (bset (bset (bset (bset B2 _ _ _ (by omega)) _ _ _ (by omega)) _ _ _ (by omega)) _ _ _ (by omega)) _ _ _ (by omega)) _ _ _ (by omega))⟩
end Go.Proofs.YtalaacfoaelipaaDoor
