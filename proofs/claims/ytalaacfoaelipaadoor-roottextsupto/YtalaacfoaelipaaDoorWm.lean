/-
  What Mul tells.
-/
import Derived.Test.YtalaacfoaelipaaDoorW9
import Derived.Deep.CutRange
namespace Go.Proofs.YtalaacfoaelipaaDoor
open Go.RowKit Go.Sort

theorem odd_mul {a b : Int} (ha : a % 2 = 1) (hb : b % 2 = 1) : (a * b) % 2 = 1 := by rw [Int.mul_emod, ha, hb]; rfl
theorem even_mul {a b : Int} (ha : a % 2 = 0) : (a * b) % 2 = 0 := by rw [Int.mul_emod, ha, Int.zero_mul]; rfl
theorem mul_even {a b : Int} (hb : b % 2 = 0) : (a * b) % 2 = 0 := by rw [Int.mul_comm]; exact even_mul hb
theorem even_even {a b : Int} (ha : a % 2 = 0) (hb : b % 2 = 0) : (a * b) % 4 = 0 := by
  have h1 : a = 2 * (a / 2) := by omega
  have h2 : b = 2 * (b / 2) := by omega
  rw [h1, h2, Int.mul_assoc, Int.mul_left_comm (a / 2) 2 (b / 2)]
  omega
/-- A product of two that aren't even is halved once at most. -/
theorem mul_halves (a b d e : Int) (h1 : a % 2 = 1 ∨ b % 2 = 1) (h2 : d % 2 = 1 ∨ e % 2 = 1) : ¬ ((2 : Int) ^ 2 ∣ a * d + b * e * 2 ∧ (2 : Int) ^ 2 ∣ a * e + b * d) := by
  rintro ⟨⟨x, hx⟩, ⟨y, hy⟩⟩
  have e4 : (2 : Int) ^ 2 = 4 := rfl
  rw [e4] at hx hy
  rcases (show a % 2 = 0 ∨ a % 2 = 1 by omega) with ha | ha <;> rcases (show d % 2 = 0 ∨ d % 2 = 1 by omega) with hd | hd
  · have p1 := even_even ha hd
    have p2 := odd_mul (show b % 2 = 1 by omega) (show e % 2 = 1 by omega)
    omega
  · have p1 := even_mul (b := e) ha
    have p2 := odd_mul (show b % 2 = 1 by omega) hd
    omega
  · have p1 := odd_mul ha (show e % 2 = 1 by omega)
    have p2 := mul_even (a := b) hd
    omega
  · have p1 := odd_mul ha hd
    omega
theorem mul_evn (a b c d e f : Int) (h1 : isRoot a b c) (h2 : isRoot d e f) : (c + f).toNat ≤ 64 ∨ evn (a * d + b * e * 2) (a * e + b * d) < 64 ∨ (a * d + b * e * 2 = 0 ∧ a * e + b * d = 0) := by
  obtain ⟨_, _, hc, ho⟩ := h1
  obtain ⟨_, _, hf, hp⟩ := h2
  by_cases hcf : c = 0 ∨ f = 0
  · left; omega
  · right; left
    exact evn_lt _ _ 2 (by omega) (mul_halves a b d e (by omega) (by omega))

theorem up1_any (a : Int) (w : World) : Calls Tryd.prog 47 #[wd a, .int .i64 1] w fun e w' => e = .returned (wd (a * 2)) ∧ Below w.heap.size w w' := by
  have := up_any a 1 w (by omega)
  simpa using this

theorem alz (w : World) (o : Obj) : (w.alloc o).heap.size = w.heap.size + 1 := by simp only [World.alloc, Array.size_push]
/-- The two roots' cells, in a world behind W0. -/
theorem keep6 {w W : World} {a b c d e f : Int} {o : Obj} (h : Below (((w.alloc (.cells #[.int .i64 a, .int .i64 b, .int .i64 c] 23)).alloc (.cells #[.int .i64 d, .int .i64 e, .int .i64 f] 23)).alloc o).heap.size (((w.alloc (.cells #[.int .i64 a, .int .i64 b, .int .i64 c] 23)).alloc (.cells #[.int .i64 d, .int .i64 e, .int .i64 f] 23)).alloc o) W) :
    Below (((w.alloc (.cells #[.int .i64 a, .int .i64 b, .int .i64 c] 23)).alloc (.cells #[.int .i64 d, .int .i64 e, .int .i64 f] 23)).alloc o).heap.size (((w.alloc (.cells #[.int .i64 a, .int .i64 b, .int .i64 c] 23)).alloc (.cells #[.int .i64 d, .int .i64 e, .int .i64 f] 23)).alloc o) W ∧
    W.cell? ⟨w.heap.size, 0, none⟩ = some (.int .i64 a) ∧ W.cell? ⟨w.heap.size, 1, none⟩ = some (.int .i64 b) ∧ W.cell? ⟨w.heap.size, 2, none⟩ = some (.int .i64 c) ∧ W.cell? ⟨w.heap.size + 1, 0, none⟩ = some (.int .i64 d) ∧ W.cell? ⟨w.heap.size + 1, 1, none⟩ = some (.int .i64 e) ∧ W.cell? ⟨w.heap.size + 1, 2, none⟩ = some (.int .i64 f) := by
  have hs : (((w.alloc (.cells #[.int .i64 a, .int .i64 b, .int .i64 c] 23)).alloc (.cells #[.int .i64 d, .int .i64 e, .int .i64 f] 23)).alloc o).heap.size = w.heap.size + 3 := by rw [alz, alz, alz]
  have k0 : ∀ i, W.cell? ⟨w.heap.size, i, none⟩ = (#[Value.int .i64 a, .int .i64 b, .int .i64 c])[i]? := fun i => by
    rw [h.cell (p := ⟨w.heap.size, i, none⟩) (by rw [hs]; show w.heap.size < _; omega), World.cell?_alloc_past _ _ _ (by rw [alz, alz]; omega), World.cell?_alloc_past _ _ _ (by rw [alz]; omega), World.cell?_alloc_at _ _ _ _ rfl]
  have k1 : ∀ i, W.cell? ⟨w.heap.size + 1, i, none⟩ = (#[Value.int .i64 d, .int .i64 e, .int .i64 f])[i]? := fun i => by
    rw [h.cell (p := ⟨w.heap.size + 1, i, none⟩) (by rw [hs]; show w.heap.size + 1 < _; omega), World.cell?_alloc_past _ _ _ (by rw [alz, alz]; omega), World.cell?_alloc_at _ _ _ _ (by rw [alz])]
  exact ⟨h, k0 0, k0 1, k0 2, k1 0, k1 1, k1 2⟩
theorem keep6b {w wc W : World} {a b c d e f : Int} {o : Obj} (h0 : Below (((w.alloc (.cells #[.int .i64 a, .int .i64 b, .int .i64 c] 23)).alloc (.cells #[.int .i64 d, .int .i64 e, .int .i64 f] 23)).alloc o).heap.size (((w.alloc (.cells #[.int .i64 a, .int .i64 b, .int .i64 c] 23)).alloc (.cells #[.int .i64 d, .int .i64 e, .int .i64 f] 23)).alloc o) wc) (h : Below wc.heap.size wc W) :
    Below wc.heap.size wc W ∧ W.cell? ⟨w.heap.size, 0, none⟩ = some (.int .i64 a) ∧ W.cell? ⟨w.heap.size, 1, none⟩ = some (.int .i64 b) ∧ W.cell? ⟨w.heap.size, 2, none⟩ = some (.int .i64 c) ∧ W.cell? ⟨w.heap.size + 1, 0, none⟩ = some (.int .i64 d) ∧ W.cell? ⟨w.heap.size + 1, 1, none⟩ = some (.int .i64 e) ∧ W.cell? ⟨w.heap.size + 1, 2, none⟩ = some (.int .i64 f) := ⟨h, (keep6 (btr h0 h)).2⟩
/-- The result's cells too. -/
theorem keep3 {w W : World} {a b c d e f : Int} (h : Below (((w.alloc (.cells #[.int .i64 a, .int .i64 b, .int .i64 c] 23)).alloc (.cells #[.int .i64 d, .int .i64 e, .int .i64 f] 23)).alloc (.cells #[.int .i64 0, .int .i64 0, .int .i64 0] 23)).heap.size (((w.alloc (.cells #[.int .i64 a, .int .i64 b, .int .i64 c] 23)).alloc (.cells #[.int .i64 d, .int .i64 e, .int .i64 f] 23)).alloc (.cells #[.int .i64 0, .int .i64 0, .int .i64 0] 23)) W) :
    (W.cell? ⟨w.heap.size + 1 + 1, 0, none⟩ = some (.int .i64 0) ∧ W.cell? ⟨w.heap.size + 1 + 1, 1, none⟩ = some (.int .i64 0) ∧ W.cell? ⟨w.heap.size + 1 + 1, 2, none⟩ = some (.int .i64 0)) ∧ ∀ i, W.frozen? ⟨w.heap.size + 1 + 1, i, none⟩ = false := by
  have hs : (((w.alloc (.cells #[.int .i64 a, .int .i64 b, .int .i64 c] 23)).alloc (.cells #[.int .i64 d, .int .i64 e, .int .i64 f] 23)).alloc (.cells #[.int .i64 0, .int .i64 0, .int .i64 0] 23)).heap.size = w.heap.size + 3 := by rw [alz, alz, alz]
  have k0 : ∀ i, W.cell? ⟨w.heap.size + 1 + 1, i, none⟩ = (#[Value.int .i64 0, .int .i64 0, .int .i64 0])[i]? := fun i => by
    rw [h.cell (p := ⟨w.heap.size + 1 + 1, i, none⟩) (by rw [hs]; show w.heap.size + 1 + 1 < _; omega), World.cell?_alloc_at _ _ _ _ (by rw [alz, alz])]
  refine ⟨⟨k0 0, k0 1, k0 2⟩, fun i => ?_⟩
  rw [h.frozen (p := ⟨w.heap.size + 1 + 1, i, none⟩) (by rw [hs]; show w.heap.size + 1 + 1 < _; omega), World.frozen?_alloc_at _ _ _ _ (by rw [alz, alz])]
theorem bdr {a w : World} (h : Below a.heap.size a w.drew) (o : Obj) : Below a.heap.size a (w.alloc o).drew := ⟨h.os, h.tape, h.output, Nat.le_trans h.size (by show w.heap.size ≤ (w.heap.push o).size; simp), fun k hk => by
  rw [← h.block k hk]
  show (w.heap.push o)[k]? = w.heap[k]?
  have hw : k < w.heap.size := Nat.lt_of_lt_of_le hk h.size
  simp [Array.getElem?_push, Nat.ne_of_lt hw]⟩
set_option maxHeartbeats 2000000 in
theorem mul_core (a b c d e f k p1 p2 p3 p4 p q : Int) (r : Rt) (w : World) (hT : Tab w) (hk : c + f = k) (hk0 : 0 ≤ k) (hk1 : k ≤ 120)
    (C : ∀ w, Calls Tryd.prog 42 #[rv a b c, rv d e f] w fun r w' => r = .returned (.int .i64 0) ∧ Below w.heap.size w w')
    (M1 : ∀ w, Calls Tryd.prog 45 #[.int .i64 a, .int .i64 d] w fun e w' => e = .returned (wd p1) ∧ Below w.heap.size w w')
    (M2 : ∀ w, Calls Tryd.prog 45 #[.int .i64 b, .int .i64 e] w fun e w' => e = .returned (wd p2) ∧ Below w.heap.size w w')
    (M3 : ∀ w, Calls Tryd.prog 45 #[.int .i64 a, .int .i64 e] w fun e w' => e = .returned (wd p3) ∧ Below w.heap.size w w')
    (M4 : ∀ w, Calls Tryd.prog 45 #[.int .i64 b, .int .i64 d] w fun e w' => e = .returned (wd p4) ∧ Below w.heap.size w w')
    (U : ∀ w, Calls Tryd.prog 47 #[wd p2, .int .i64 1] w fun e w' => e = .returned (wd (p2 * 2)) ∧ Below w.heap.size w w')
    (A1 : ∀ w, Calls Tryd.prog 46 #[wd p1, wd (p2 * 2)] w fun e w' => e = .returned (wd p) ∧ Below w.heap.size w w')
    (A2 : ∀ w, Calls Tryd.prog 46 #[wd p3, wd p4] w fun e w' => e = .returned (wd q) ∧ Below w.heap.size w w')
    (ON : ∀ w, Tab w → Calls Tryd.prog 33 #[wd p, wd q, .int .i64 k] w fun e w' => e = .returned (rtV r) ∧ Below w.heap.size w w') :
    Calls Tryd.prog 19 #[rv a b c, rv d e f] w fun x w' => x = .returned (rtV r) ∧ Below w.heap.size w w' := by
  have HT := ((hT.alloc (.cells #[.int .i64 a, .int .i64 b, .int .i64 c] 23)).alloc (.cells #[.int .i64 d, .int .i64 e, .int .i64 f] 23)).alloc (.cells #[.int .i64 0, .int .i64 0, .int .i64 0] 23)
  obtain ⟨rp, rq, rk, re⟩ := r
  have l0 : w.heap.size < w.heap.size + 1 + 1 + 1 := by omega
  have l1 : w.heap.size + 1 < w.heap.size + 1 + 1 + 1 := by omega
  have l2 : w.heap.size < w.heap.size + 1 + 1 := by omega
  have d0 : ¬ w.heap.size = w.heap.size + 1 + 1 := by omega
  have d1 : ¬ w.heap.size + 1 + 1 = w.heap.size := by omega
  go_enter Tryd.func19, Tryd.ntmps19
  go_upto_region 4 with (first
    | (go_at_call 42; (with_reducible refine (C _).mono ?_); rintro e w1 ⟨rfl, hB⟩; obtain ⟨hc, hf⟩ := bcell hB))
  go_cut [7] from 16 to 27 (fun v7 W => ∃ B7, v7 = Value.pointer (some ⟨B7, 0, none⟩) ∧ Below (((w.alloc (.cells #[.int .i64 a, .int .i64 b, .int .i64 c] 23)).alloc (.cells #[.int .i64 d, .int .i64 e, .int .i64 f] 23)).alloc (.cells #[.int .i64 0, .int .i64 0, .int .i64 0] 23)).heap.size (((w.alloc (.cells #[.int .i64 a, .int .i64 b, .int .i64 c] 23)).alloc (.cells #[.int .i64 d, .int .i64 e, .int .i64 f] 23)).alloc (.cells #[.int .i64 0, .int .i64 0, .int .i64 0] 23)) W ∧ (((w.alloc (.cells #[.int .i64 a, .int .i64 b, .int .i64 c] 23)).alloc (.cells #[.int .i64 d, .int .i64 e, .int .i64 f] 23)).alloc (.cells #[.int .i64 0, .int .i64 0, .int .i64 0] 23)).heap.size ≤ B7 ∧ W.cell? ⟨B7, 0, none⟩ = some (.int .u64 (hiW p)) ∧ W.cell? ⟨B7, 1, none⟩ = some (.int .u64 (loW p)))
  case first =>
    go_region_held3 (fun w' => Below (((w.alloc (.cells #[.int .i64 a, .int .i64 b, .int .i64 c] 23)).alloc (.cells #[.int .i64 d, .int .i64 e, .int .i64 f] 23)).alloc (.cells #[.int .i64 0, .int .i64 0, .int .i64 0] 23)).heap.size (((w.alloc (.cells #[.int .i64 a, .int .i64 b, .int .i64 c] 23)).alloc (.cells #[.int .i64 d, .int .i64 e, .int .i64 f] 23)).alloc (.cells #[.int .i64 0, .int .i64 0, .int .i64 0] 23)) w' ∧ w'.cell? ⟨w.heap.size, 0, none⟩ = some (.int .i64 a) ∧ w'.cell? ⟨w.heap.size, 1, none⟩ = some (.int .i64 b) ∧ w'.cell? ⟨w.heap.size, 2, none⟩ = some (.int .i64 c) ∧ w'.cell? ⟨w.heap.size + 1, 0, none⟩ = some (.int .i64 d) ∧ w'.cell? ⟨w.heap.size + 1, 1, none⟩ = some (.int .i64 e) ∧ w'.cell? ⟨w.heap.size + 1, 2, none⟩ = some (.int .i64 f)) ((refine keep6 ?_; first | exact below_drew (by assumption) | exact btr (And.left (by assumption)) hN | exact bdr (And.left (by assumption)) _ | exact bal (And.left (by assumption)) _ | exact bal hK _ | exact bset (bset hK _ _ _ (Below.size (by assumption))) _ _ _ (Below.size (by assumption))))
      (first
        | (go_at_call 45; (with_reducible refine (M1 _).mono ?_); rintro e w2 ⟨rfl, hN⟩; have hK := btr (And.left (by assumption)) hN; (first | (replace hL := btr hL hN) | (have hL := hN)); obtain ⟨hc, hf⟩ := bcell hL)
        | (go_at_call 45; (with_reducible refine (M2 _).mono ?_); rintro e w2 ⟨rfl, hN⟩; have hK := btr (And.left (by assumption)) hN; (first | (replace hL := btr hL hN) | (have hL := hN)); obtain ⟨hc, hf⟩ := bcell hL)
        | (go_at_call 47; (with_reducible refine (U _).mono ?_); rintro e w2 ⟨rfl, hN⟩; have hK := btr (And.left (by assumption)) hN; (first | (replace hL := btr hL hN) | (have hL := hN)); obtain ⟨hc, hf⟩ := bcell hL)
        | (go_at_call 46; (with_reducible refine (A1 _).mono ?_); rintro e w2 ⟨rfl, hN⟩; have hK := btr (And.left (by assumption)) hN; (first | (replace hL := btr hL hN) | (have hL := hN)); obtain ⟨hc, hf⟩ := bcell hL))
    all_goals
      go_wp2
      go_meet
      case rel => exact ⟨_, rfl, And.left (by assumption), Below.size (by assumption), by simp [*, go_sem], by simp [*, go_sem]⟩
  case rest =>
    obtain ⟨B7, rfl, hB', hB7, hp0, hp1⟩ := hcut
    rename World => wA
    have hz7 : B7 < wA.heap.size := block_lt_of_cell hp0
    clear hB hc hf
    go_upto_region 5 with (fail)
    go_cut [8] from 28 to 38 (fun v8 W => ∃ B8, v8 = Value.pointer (some ⟨B8, 0, none⟩) ∧ Below wA.heap.size wA W ∧ W.cell? ⟨B8, 0, none⟩ = some (.int .u64 (hiW q)) ∧ W.cell? ⟨B8, 1, none⟩ = some (.int .u64 (loW q)))
    case first =>
      go_region_held3 (fun w' => Below wA.heap.size wA w' ∧ w'.cell? ⟨w.heap.size, 0, none⟩ = some (.int .i64 a) ∧ w'.cell? ⟨w.heap.size, 1, none⟩ = some (.int .i64 b) ∧ w'.cell? ⟨w.heap.size, 2, none⟩ = some (.int .i64 c) ∧ w'.cell? ⟨w.heap.size + 1, 0, none⟩ = some (.int .i64 d) ∧ w'.cell? ⟨w.heap.size + 1, 1, none⟩ = some (.int .i64 e) ∧ w'.cell? ⟨w.heap.size + 1, 2, none⟩ = some (.int .i64 f)) ((refine keep6b hB' ?_; first | exact below_drew (by assumption) | exact below_drew (Below.refl _ _) | exact btr (And.left (by assumption)) hN | exact bdr (And.left (by assumption)) _ | exact bal (And.left (by assumption)) _ | exact bal hK _ | exact bset (bset hK _ _ _ (Below.size (by assumption))) _ _ _ (Below.size (by assumption)) | exact bset (bset hK _ _ _ (Nat.le_refl _)) _ _ _ (Nat.le_refl _)))
        (first
          | (go_at_call 45; (with_reducible refine (M3 _).mono ?_); rintro e w2 ⟨rfl, hN⟩; have hK := btr (And.left (by assumption)) hN; (first | (replace hL := btr hL hN) | (have hL := hN)); obtain ⟨hc, hf⟩ := bcell hL)
          | (go_at_call 45; (with_reducible refine (M4 _).mono ?_); rintro e w2 ⟨rfl, hN⟩; have hK := btr (And.left (by assumption)) hN; (first | (replace hL := btr hL hN) | (have hL := hN)); obtain ⟨hc, hf⟩ := bcell hL)
          | (go_at_call 46; (with_reducible refine (A2 _).mono ?_); rintro e w2 ⟨rfl, hN⟩; have hK := btr (And.left (by assumption)) hN; (first | (replace hL := btr hL hN) | (have hL := hN)); obtain ⟨hc, hf⟩ := bcell hL))
      all_goals
        go_wp2
        go_meet
        case rel => exact ⟨_, rfl, And.left (by assumption), by simp [*, go_sem], by simp [*, go_sem]⟩
    case rest =>
      obtain ⟨B8, rfl, hB8, hq0, hq1⟩ := hcut
      have hF := btr hB' hB8
      obtain ⟨_, k0, k1, k2, k3, k4, k5⟩ := keep6 hF
      have g0 : wc.cell? ⟨B7, 0, none⟩ = some (.int .u64 (hiW p)) := (hB8.cell (p := ⟨B7, 0, none⟩) hz7).trans hp0
      have g1 : wc.cell? ⟨B7, 1, none⟩ = some (.int .u64 (loW p)) := (hB8.cell (p := ⟨B7, 1, none⟩) hz7).trans hp1
      have HT' := HT.below hF
      go_wp2_with (first
        | (go_at_call 33; (refine (ON _ HT').mono ?_); rintro e w3 ⟨rfl, hN⟩; obtain ⟨⟨j0, j1, j2⟩, j3⟩ := keep3 (btr hF hN)))
      exact bodyPost_ret (v := rtV ⟨rp, rq, rk, re⟩) (by simp [*, results, Tryd.results19, go_sem]) rfl ⟨rfl, bset (bset (bset (btr (bal (bal (bal (Below.refl w.heap.size w) _) _) _) (btr hF hN)) _ _ _ (by omega)) _ _ _ (by omega)) _ _ _ (by omega)⟩

theorem mul_any (a b c d e f : Int) (w : World) (hT : Tab w) :
    Calls Tryd.prog 19 #[rv a b c, rv d e f] w fun r w' => r = .returned (rtV (mulR a b c d e f)) ∧ Below w.heap.size w w' := by
  unfold mulR
  by_cases h : isRoot a b c ∧ isRoot d e f
  · rw [if_pos h]
    have hev := mul_evn a b c d e f h.1 h.2
    have C := fun w => both_yes a b c d e f w h.1 h.2
    obtain ⟨⟨ha, hb, hc', _⟩, ⟨hd, he, hf', _⟩⟩ := h
    have b1 := mul_in a d ha hd
    have b2 := mul_in b e hb he
    have b3 := mul_in a e ha he
    have b4 := mul_in b d hb hd
    have hkk : ((c + f).toNat : Int) = c + f := Int.toNat_of_nonneg (by omega)
    refine mul_core a b c d e f (c + f) (a * d) (b * e) (a * e) (b * d) (a * d + b * e * 2) (a * e + b * d) _ w hT rfl (by omega) (by omega) C
      (fun w => product_any a d w (by omega) (by omega) (by omega) (by omega)) (fun w => product_any b e w (by omega) (by omega) (by omega) (by omega))
      (fun w => product_any a e w (by omega) (by omega) (by omega) (by omega)) (fun w => product_any b d w (by omega) (by omega) (by omega) (by omega))
      (fun w => up1_any _ w) (fun w => plus_any _ _ w) (fun w => plus_any _ _ w) (fun w hT => ?_)
    have := oneForm_any (a * d + b * e * 2) (a * e + b * d) (c + f).toNat w hT (by unfold In128; omega) (by unfold In128; omega) (by omega) hev
    rwa [hkk] at this
  · rw [if_neg h]
    have C := fun w => both_no a b c d e f w h
    clear h
    go_enter Tryd.func19, Tryd.ntmps19
    go_wp2_with (first
      | (go_at_call 42; (with_reducible refine (C _).mono ?_); rintro e w1 ⟨rfl, hB⟩; obtain ⟨hc, hf⟩ := bcell hB))
    exact bodyPost_ret (v := rtV ⟨0, 0, 0, 2⟩) (by simp [*, results, Tryd.results19, go_sem]) rfl ⟨rfl, bset (bset (bset (btr (bal (bal (bal (Below.refl w.heap.size w) _) _) _) hB) _ _ _ (by omega)) _ _ _ (by omega)) _ _ _ (by omega)⟩
end Go.Proofs.YtalaacfoaelipaaDoor
