/-
  Put together of: Q8 Q11.
-/
import Derived.Test.YtcfmhkhfmcmkbaaDoorXJ
import Derived.Test.YtcfmhkhfmcmkbaaDoorXK
import Derived.Test.YtcfmhkhfmcmkbaaDoorXG
namespace Go.Proofs.YtcfmhkhfmcmkbaaDoor
open Go.RowKit Go.Sort
attribute [local go_sem ↓] Go.wp_at_zero Go.wp_at_succ

/-- What the reference's Add, Sub and Mul have in their variables. -/
structure AdS (w W : World) (a1 a2 a3 b1 b2 b3 : Int) : Prop where
  below : Below w.heap.size w W
  ra : RB W w.heap.size a1 a2 a3
  rb : RB W (w.heap.size + 1) b1 b2 b3
  rc : Rc W (w.heap.size + 1 + 1)
  ty : bty W (w.heap.size + 1 + 1) = some 24
theorem AdS.onward {w W V : World} {a1 a2 a3 b1 b2 b3 : Int} (h : AdS w W a1 a2 a3 b1 b2 b3) (hb : Below W.heap.size W V) : AdS w V a1 a2 a3 b1 b2 b3 :=
  ⟨btr h.below hb, h.ra.below hb, h.rb.below hb, h.rc.below hb, (bty_below hb h.rc.lt).trans h.ty⟩
theorem AdS.start (w : World) (a1 a2 a3 b1 b2 b3 : Int) : ∃ W0, W0 = ((w.alloc (.cells #[.int .i64 a1, .int .i64 a2, .int .i64 a3] 24)).alloc (.cells #[.int .i64 b1, .int .i64 b2, .int .i64 b3] 24)).alloc (.cells #[.int .i64 0, .int .i64 0, .int .i64 0] 24) ∧ AdS w W0 a1 a2 a3 b1 b2 b3 := by
  have h := boxes w a1 a2 a3 b1 b2 b3 0 0 0
  refine ⟨_, rfl, h.1, h.2.1, h.2.2.1, ?_, ?_⟩
  · have := Rc.new ((w.alloc (.cells #[.int .i64 a1, .int .i64 a2, .int .i64 a3] 24)).alloc (.cells #[.int .i64 b1, .int .i64 b2, .int .i64 b3] 24))
    simpa using this
  · have := bty_new ((w.alloc (.cells #[.int .i64 a1, .int .i64 a2, .int .i64 a3] 24)).alloc (.cells #[.int .i64 b1, .int .i64 b2, .int .i64 b3] 24)) #[.int .i64 0, .int .i64 0, .int .i64 0] 24
    simpa using this
theorem pair_new {w : World} {P Q : Int} {a : Option Addr} {n k : Nat} {a' : Option Addr} {n' k' : Nat} (i1 : II w a n k P) (i2 : II w a' n' k' Q) :
    let W := (w.alloc (.cells #[.int .i64 (sgn P), .slice a n k] 101)).alloc (.cells #[.int .i64 (sgn Q), .slice a' n' k'] 101)
    (Bx W w.heap.size (sgn P) a n k ∧ Bx W (w.heap.size + 1) (sgn Q) a' n' k' ∧ II W a n k P ∧ II W a' n' k' Q) ∧ Below w.heap.size w W := by
  intro W
  have hb : Below w.heap.size w W := bal (bal (Below.refl _ _) _) _
  refine ⟨⟨(Bx.new w _ _ _ _).alloc _, ?_, i1.below hb, i2.below hb⟩, hb⟩
  have := Bx.new (w.alloc (.cells #[.int .i64 (sgn P), .slice a n k] 101)) (sgn Q) a' n' k'
  simpa using this
theorem quad_on {W V : World} {B B' : Nat} {P Q : Int} {a : Option Addr} {n k : Nat} {a' : Option Addr} {n' k' : Nat} (h : Bx W B (sgn P) a n k ∧ Bx W B' (sgn Q) a' n' k' ∧ II W a n k P ∧ II W a' n' k' Q) (hb : Below W.heap.size W V) :
    Bx V B (sgn P) a n k ∧ Bx V B' (sgn Q) a' n' k' ∧ II V a n k P ∧ II V a' n' k' Q := ⟨h.1.below hb, h.2.1.below hb, h.2.2.1.below hb, h.2.2.2.below hb⟩
/-- The cells of four variables. -/
theorem keep8 {w W V : World} {A B C D : Nat} {a1 b1 c1 d1 : Int} {a b c d : Value}
    (h : Below w.heap.size w W ∧ W.cell? ⟨A, 0, none⟩ = some (.int .i64 a1) ∧ W.cell? ⟨A, 1, none⟩ = some a ∧ W.cell? ⟨B, 0, none⟩ = some (.int .i64 b1) ∧ W.cell? ⟨B, 1, none⟩ = some b ∧ W.cell? ⟨C, 0, none⟩ = some (.int .i64 c1) ∧ W.cell? ⟨C, 1, none⟩ = some c ∧ W.cell? ⟨D, 0, none⟩ = some (.int .i64 d1) ∧ W.cell? ⟨D, 1, none⟩ = some d) (hN : Below W.heap.size W V) :
    Below w.heap.size w V ∧ V.cell? ⟨A, 0, none⟩ = some (.int .i64 a1) ∧ V.cell? ⟨A, 1, none⟩ = some a ∧ V.cell? ⟨B, 0, none⟩ = some (.int .i64 b1) ∧ V.cell? ⟨B, 1, none⟩ = some b ∧ V.cell? ⟨C, 0, none⟩ = some (.int .i64 c1) ∧ V.cell? ⟨C, 1, none⟩ = some c ∧ V.cell? ⟨D, 0, none⟩ = some (.int .i64 d1) ∧ V.cell? ⟨D, 1, none⟩ = some d := by
  obtain ⟨h0, p1, p2, p3, p4, p5, p6, p7, p8⟩ := h
  obtain ⟨hc, _⟩ := bcell hN
  have la := block_lt_of_cell p1
  have lb := block_lt_of_cell p3
  have lc := block_lt_of_cell p5
  have ld := block_lt_of_cell p7
  exact ⟨btr h0 hN, (hc _ _ la).trans p1, (hc _ _ la).trans p2, (hc _ _ lb).trans p3, (hc _ _ lb).trans p4, (hc _ _ lc).trans p5, (hc _ _ lc).trans p6, (hc _ _ ld).trans p7, (hc _ _ ld).trans p8⟩
theorem keep8_put {w W : World} {A B C D : Nat} {a1 b1 c1 d1 : Int} {a b c d : Value}
    (h : Below w.heap.size w W ∧ W.cell? ⟨A, 0, none⟩ = some (.int .i64 a1) ∧ W.cell? ⟨A, 1, none⟩ = some a ∧ W.cell? ⟨B, 0, none⟩ = some (.int .i64 b1) ∧ W.cell? ⟨B, 1, none⟩ = some b ∧ W.cell? ⟨C, 0, none⟩ = some (.int .i64 c1) ∧ W.cell? ⟨C, 1, none⟩ = some c ∧ W.cell? ⟨D, 0, none⟩ = some (.int .i64 d1) ∧ W.cell? ⟨D, 1, none⟩ = some d)
    {R : Nat} (hR : w.heap.size ≤ R) (nA : R ≠ A) (nB : R ≠ B) (nC : R ≠ C) (nD : R ≠ D) (v v' v'' : Value) :
    Below w.heap.size w (((W.setCell ⟨R, 0, none⟩ v).setCell ⟨R, 1, none⟩ v').setCell ⟨R, 2, none⟩ v'') ∧ (((W.setCell ⟨R, 0, none⟩ v).setCell ⟨R, 1, none⟩ v').setCell ⟨R, 2, none⟩ v'').cell? ⟨A, 0, none⟩ = some (.int .i64 a1) ∧ (((W.setCell ⟨R, 0, none⟩ v).setCell ⟨R, 1, none⟩ v').setCell ⟨R, 2, none⟩ v'').cell? ⟨A, 1, none⟩ = some a ∧ (((W.setCell ⟨R, 0, none⟩ v).setCell ⟨R, 1, none⟩ v').setCell ⟨R, 2, none⟩ v'').cell? ⟨B, 0, none⟩ = some (.int .i64 b1) ∧ (((W.setCell ⟨R, 0, none⟩ v).setCell ⟨R, 1, none⟩ v').setCell ⟨R, 2, none⟩ v'').cell? ⟨B, 1, none⟩ = some b ∧ (((W.setCell ⟨R, 0, none⟩ v).setCell ⟨R, 1, none⟩ v').setCell ⟨R, 2, none⟩ v'').cell? ⟨C, 0, none⟩ = some (.int .i64 c1) ∧ (((W.setCell ⟨R, 0, none⟩ v).setCell ⟨R, 1, none⟩ v').setCell ⟨R, 2, none⟩ v'').cell? ⟨C, 1, none⟩ = some c ∧ (((W.setCell ⟨R, 0, none⟩ v).setCell ⟨R, 1, none⟩ v').setCell ⟨R, 2, none⟩ v'').cell? ⟨D, 0, none⟩ = some (.int .i64 d1) ∧ (((W.setCell ⟨R, 0, none⟩ v).setCell ⟨R, 1, none⟩ v').setCell ⟨R, 2, none⟩ v'').cell? ⟨D, 1, none⟩ = some d := by
  obtain ⟨h0, p1, p2, p3, p4, p5, p6, p7, p8⟩ := h
  have e : ∀ B i, R ≠ B → (((W.setCell ⟨R, 0, none⟩ v).setCell ⟨R, 1, none⟩ v').setCell ⟨R, 2, none⟩ v'').cell? ⟨B, i, none⟩ = W.cell? ⟨B, i, none⟩ := fun B i hne => by
    rw [World.cell?_setCell_far _ _ _ _ hne, World.cell?_setCell_far _ _ _ _ hne, World.cell?_setCell_far _ _ _ _ hne]
  exact ⟨((h0.setCell hR _).setCell hR _).setCell hR _, (e _ _ nA).trans p1, (e _ _ nA).trans p2, (e _ _ nB).trans p3, (e _ _ nB).trans p4, (e _ _ nC).trans p5, (e _ _ nC).trans p6, (e _ _ nD).trans p7, (e _ _ nD).trans p8⟩
theorem ty_ne {W : World} {R B : Nat} (h1 : bty W R = some 24) (h2 : bty W B = some 101) : R ≠ B := fun e => by rw [e, h2] at h1; simp at h1
theorem shift_b {x : Int} {n : Nat} (hx : -9007199254740991 ≤ x ∧ x ≤ 9007199254740991) (hn : n ≤ 60) : (x * 2 ^ n).natAbs < 65536 ^ 40 := by
  rw [Int.natAbs_mul, Int.natAbs_pow]
  have h1 : (2 : Int).natAbs ^ n ≤ 2 ^ 60 := Nat.pow_le_pow_right (by decide) hn
  have h2 : x.natAbs * (2 : Int).natAbs ^ n ≤ 9007199254740991 * 2 ^ 60 := Nat.mul_le_mul (by omega) h1
  omega
end Go.Proofs.YtcfmhkhfmcmkbaaDoor
namespace Go.Proofs.YtcfmhkhfmcmkbaaDoor
open Go.RowKit Go.Sort
attribute [local go_sem ↓] Go.wp_at_zero Go.wp_at_succ

theorem sqn (x : Int) : 0 ≤ x * x := by
  rcases (show x < 0 ∨ 0 ≤ x by omega) with h | h
  · have := Int.mul_pos_of_neg_of_neg h h; omega
  · exact Int.mul_nonneg h h
theorem sgn_prod (p q : Int) : (0 ≤ sgn p * sgn q) ↔ ¬ ((p < 0 ∧ 0 < q) ∨ (0 < p ∧ q < 0)) := by
  rw [sgn_times, sgn_ge]
  constructor
  · rintro h (⟨a, b⟩ | ⟨a, b⟩)
    · have := Int.mul_neg_of_neg_of_pos a b; omega
    · have := Int.mul_neg_of_pos_of_neg a b; omega
  · intro h
    rcases (show (0 ≤ p ∧ 0 ≤ q) ∨ (p ≤ 0 ∧ q ≤ 0) by omega) with ⟨a, b⟩ | ⟨a, b⟩
    · exact Int.mul_nonneg a b
    · exact Int.mul_nonneg_of_nonpos_of_nonpos a b
/-- Where the signs aren't against one another. -/
theorem signS_like {p q : Int} (h : ¬ ((p < 0 ∧ 0 < q) ∨ (0 < p ∧ q < 0))) : signS p q = if sgn p = 0 then sgn q else sgn p := by
  unfold signS
  by_cases hp : p = 0
  · subst hp
    have e : sgn 0 = 0 := rfl
    rw [e, if_pos rfl]
    by_cases hq : q = 0
    · subst hq; rfl
    · have hq' := sgn_nz hq
      rw [if_neg (fun e => hq' e.symm), if_neg]
      intro hlt
      have := sqn q
      omega
  · rw [if_neg (sgn_nz hp)]
    by_cases hq : q = 0
    · subst hq
      have e : sgn 0 = 0 := rfl
      rw [e, if_neg (sgn_nz hp), if_pos]
      have : 0 < p * p := by
        rcases (show p < 0 ∨ 0 < p by omega) with h | h
        · exact Int.mul_pos_of_neg_of_neg h h
        · exact Int.mul_pos h h
      omega
    · rw [if_pos (sgn_congr (by omega) (by omega))]
theorem sq_ne {p q : Int} (hq : q ≠ 0) : p * p ≠ 2 * (q * q) := fun h => irr (p := p) hq (by omega)
/-- Where they are. -/
theorem signS_unlike {p q : Int} (h : (p < 0 ∧ 0 < q) ∨ (0 < p ∧ q < 0)) : signS p q = if 0 ≤ cmpN (p * p).natAbs (2 * (q * q)).natAbs then sgn p else sgn q := by
  have hne : sgn p ≠ sgn q := by
    intro e
    rcases h with ⟨a, b⟩ | ⟨a, b⟩
    · unfold sgn at e; rw [if_pos a, if_neg (by omega), if_neg (by omega)] at e; omega
    · unfold sgn at e; rw [if_neg (by omega), if_neg (by omega), if_pos b] at e; omega
  have hs := sq_ne (p := p) (q := q) (by omega)
  have n1 := sqn p
  have n2 := sqn q
  unfold signS
  rw [if_neg hne]
  unfold cmpN
  by_cases hlt : q * q * 2 < p * p
  · rw [if_pos hlt, if_neg (show ¬ (p * p).natAbs < (2 * (q * q)).natAbs by omega), if_pos (show (2 * (q * q)).natAbs < (p * p).natAbs by omega), if_pos (by decide)]
  · rw [if_neg hlt, if_pos (show (p * p).natAbs < (2 * (q * q)).natAbs by omega), if_neg (by decide)]
theorem fld60 (s : Int) (a : Option Addr) (n c : Nat) (w : World) : (Instr.field 101 (.agg #[.int .i64 s, .slice a n c]) 1).run Tryd.prog w = .ok (.slice a n c) w := by kernel_rfl
theorem keepG {w W V : World} {A B : Nat} {a1 b1 : Int} {a b : Value} (h : Below w.heap.size w W ∧ W.cell? ⟨A, 0, none⟩ = some (.int .i64 a1) ∧ W.cell? ⟨A, 1, none⟩ = some a ∧ W.cell? ⟨B, 0, none⟩ = some (.int .i64 b1) ∧ W.cell? ⟨B, 1, none⟩ = some b) (hN : Below W.heap.size W V) :
    Below w.heap.size w V ∧ V.cell? ⟨A, 0, none⟩ = some (.int .i64 a1) ∧ V.cell? ⟨A, 1, none⟩ = some a ∧ V.cell? ⟨B, 0, none⟩ = some (.int .i64 b1) ∧ V.cell? ⟨B, 1, none⟩ = some b := by
  obtain ⟨h0, p1, p2, p3, p4⟩ := h
  obtain ⟨hc, _⟩ := bcell hN
  have la := block_lt_of_cell p1
  have lb := block_lt_of_cell p3
  exact ⟨btr h0 hN, (hc _ _ la).trans p1, (hc _ _ la).trans p2, (hc _ _ lb).trans p3, (hc _ _ lb).trans p4⟩
theorem two_start {w : World} {x y : Int} {a : Option Addr} {n c : Nat} {a' : Option Addr} {n' c' : Nat} (hx : II w a n c x) (hy : II w a' n' c' y) :
    let W0 := (w.alloc (.cells #[.int .i64 (sgn x), .slice a n c] 101)).alloc (.cells #[.int .i64 (sgn y), .slice a' n' c'] 101)
    Below w.heap.size w W0 ∧ Bx W0 w.heap.size (sgn x) a n c ∧ Bx W0 (w.heap.size + 1) (sgn y) a' n' c' ∧ II W0 a n c x ∧ II W0 a' n' c' y := by
  have h := pair_new hx hy
  exact ⟨h.2, h.1.1, h.1.2.1, h.1.2.2.1, h.1.2.2.2⟩
theorem rsign_like (p q : Int) (a : Option Addr) (n c : Nat) (a' : Option Addr) (n' c' : Nat) (w : World) (h : ¬ ((p < 0 ∧ 0 < q) ∨ (0 < p ∧ q < 0))) :
    Calls Tryd.prog 54 #[.agg #[.int .i64 (sgn p), .slice a n c], .agg #[.int .i64 (sgn q), .slice a' n' c']] w fun e w' => e = .returned (.int .i64 (signS p q)) ∧ Below w.heap.size w w' := by
  obtain ⟨u, hst, hu⟩ : ∃ u, wrap64 (sgn p * sgn q) = u ∧ 0 ≤ u := ⟨_, rfl, by rw [wrap_sgn, ← sgn_times]; exact (sgn_prod p q).2 h⟩
  rw [signS_like h]
  clear h
  generalize sgn p = s at *
  generalize sgn q = t at *
  by_cases h0 : s = 0
  · rw [if_pos h0]
    subst h0
    go_enter Tryd.func54, Tryd.ntmps54
    go_wp2
    go_ret
    exact ⟨rfl, bal (bal (Below.refl _ _) _) _⟩
  · rw [if_neg h0]
    go_enter Tryd.func54, Tryd.ntmps54
    go_wp2
    go_ret
    exact ⟨rfl, bal (bal (Below.refl _ _) _) _⟩
set_option maxHeartbeats 4000000 in
theorem rsign_core (p q C : Int) (a : Option Addr) (n c : Nat) (a' : Option Addr) (n' c' : Nat) (w : World) (hx : II w a n c p) (hy : II w a' n' c' q) (h : (p < 0 ∧ 0 < q) ∨ (0 < p ∧ q < 0)) (r : Int) (hr : (0 ≤ C ∧ r = sgn p) ∨ (¬ 0 ≤ C ∧ r = sgn q))
    (T1 : ∀ V, II V a n c p → Calls Tryd.prog 73 #[.agg #[.int .i64 (sgn p), .slice a n c], .agg #[.int .i64 (sgn p), .slice a n c]] V fun e w' => IRet (p * p) e w' ∧ Below V.heap.size V w')
    (T2 : ∀ V, II V a' n' c' q → Calls Tryd.prog 73 #[.agg #[.int .i64 (sgn q), .slice a' n' c'], .agg #[.int .i64 (sgn q), .slice a' n' c']] V fun e w' => IRet (q * q) e w' ∧ Below V.heap.size V w')
    (O : ∀ V, Calls Tryd.prog 55 #[.int .i64 2] V fun e w' => IRet 2 e w' ∧ Below V.heap.size V w')
    (T3 : ∀ (V : World) (d : Option Addr) (p o : Nat) (d' : Option Addr) (p' o' : Nat), II V d p o 2 → II V d' p' o' (q * q) → Calls Tryd.prog 73 #[.agg #[.int .i64 (sgn 2), .slice d p o], .agg #[.int .i64 (sgn (q * q)), .slice d' p' o']] V fun e w' => IRet (2 * (q * q)) e w' ∧ Below V.heap.size V w')
    (SZ : ∀ (V : World) (d : Option Addr) (p' o : Nat) (d' : Option Addr) (p'' o' : Nat), II V d p' o (p * p) → II V d' p'' o' (2 * (q * q)) → Calls Tryd.prog 72 #[.slice d p' o, .slice d' p'' o'] V fun e w' => e = .returned (.int .i64 C) ∧ ∃ m, w' = V.drewN m) :
    Calls Tryd.prog 54 #[.agg #[.int .i64 (sgn p), .slice a n c], .agg #[.int .i64 (sgn q), .slice a' n' c']] w fun e w' => e = .returned (.int .i64 r) ∧ Below w.heap.size w w' := by
  obtain ⟨u, hst, hu⟩ : ∃ u, wrap64 (sgn p * sgn q) = u ∧ ¬ 0 ≤ u := ⟨_, rfl, by rw [wrap_sgn, ← sgn_times, sgn_prod]; exact fun g => g h⟩
  obtain ⟨hW, bp, bq, ip, iq⟩ := two_start hx hy
  have F := fld60
  obtain ⟨s, HS⟩ : ∃ s, Hid (s = sgn p) := ⟨_, rfl⟩
  obtain ⟨t, HT⟩ : ∃ t, Hid (t = sgn q) := ⟨_, rfl⟩
  rw [← HS.out] at T1 hst hr hW bp bq ip iq ⊢
  rw [← HT.out] at T2 hst hr hW bp bq ip iq ⊢
  clear hx hy h
  go_enter Tryd.func54, Tryd.ntmps54
  go_upto_region 1 with (fail)
  obtain ⟨W0, hW0⟩ : ∃ W0, W0 = (w.alloc (.cells #[.int .i64 s, .slice a n c] 101)).alloc (.cells #[.int .i64 t, .slice a' n' c'] 101) := ⟨_, rfl⟩
  rw [← hW0] at hW bp bq ip iq ⊢
  clear hW0
  have l1 := bp.lt
  have l2 := bq.lt
  obtain ⟨x0, x1, _, _, _⟩ := bp
  obtain ⟨y0, y1, _, _, _⟩ := bq
  have hZ := Below.refl W0.heap.size W0
  have hZ' : Below W0.heap.size W0 W0.drew := below_drew hZ
  have T1' := fun V (hb : Below W0.heap.size W0 V) => T1 V (ip.below hb)
  have T2' := fun V (hb : Below W0.heap.size W0 V) => T2 V (iq.below hb)
  clear T1 T2 ip iq
  go_upto_region 5 with (fail)
  go_region_held3 (fun w' => Below w.heap.size w w' ∧ w'.cell? ⟨w.heap.size, 0, none⟩ = some (.int .i64 s) ∧ w'.cell? ⟨w.heap.size, 1, none⟩ = some (.slice a n c) ∧ w'.cell? ⟨w.heap.size + 1, 0, none⟩ = some (.int .i64 t) ∧ w'.cell? ⟨w.heap.size + 1, 1, none⟩ = some (.slice a' n' c'))
    ((refine keepG ⟨hW, x0, x1, y0, y1⟩ ?_; first | exact hK | exact below_drewN hK _ | exact hZ'))
    (first
      | (go_at_call 73; (with_reducible refine (T1' _ hZ').mono ?_); rintro e w2 ⟨⟨d1, p1, o1, rfl, i1⟩, hN⟩; have hK := btr hZ' hN)
      | (go_at_call 55; (with_reducible refine (O _).mono ?_); rintro e w3 ⟨⟨d2, p2, o2, rfl, i2⟩, hN⟩; have i1 := i1.below hN; have hK := btr hK hN)
      | (go_at_call 73; (with_reducible refine (T2' _ hK).mono ?_); rintro e w4 ⟨⟨d3, p3, o3, rfl, i3⟩, hN⟩; have i1 := i1.below hN; have i2 := i2.below hN; have hK := btr hK hN)
      | (go_at_call 73; (with_reducible refine (T3 _ _ _ _ _ _ _ i2 i3).mono ?_); rintro e w5 ⟨⟨d4, p4, o4, rfl, i4⟩, hN⟩; have i1 := i1.below hN; have hK := btr hK hN)
      | (go_at_call 72; (with_reducible refine (SZ _ _ _ _ _ _ _ i1 i4).mono ?_); rintro e w6 ⟨rfl, m, rfl⟩; have hK := below_drewN hK m))
  all_goals
    obtain ⟨hc, hf⟩ := bcell hK
    rcases hr with ⟨hC, rfl⟩ | ⟨hC, rfl⟩
  all_goals
    go_wp2
    go_ret
    exact ⟨rfl, btr hW hK⟩
theorem sq_b {x : Int} (h : x.natAbs < 65536 ^ 20) : (x * x).natAbs < 65536 ^ 40 := by
  rw [Int.natAbs_mul]
  have : x.natAbs * x.natAbs ≤ (65536 ^ 20 - 1) * (65536 ^ 20 - 1) := Nat.mul_le_mul (by omega) (by omega)
  omega
/-- What the reference's signOf tells. -/
theorem rsignOf_any (p q : Int) (a : Option Addr) (n c : Nat) (a' : Option Addr) (n' c' : Nat) (w : World) (hx : II w a n c p) (hy : II w a' n' c' q) (hp : p.natAbs < 65536 ^ 20) (hq : q.natAbs < 65536 ^ 20) :
    Calls Tryd.prog 54 #[.agg #[.int .i64 (sgn p), .slice a n c], .agg #[.int .i64 (sgn q), .slice a' n' c']] w fun e w' => e = .returned (.int .i64 (signS p q)) ∧ Below w.heap.size w w' := by
  by_cases h : (p < 0 ∧ 0 < q) ∨ (0 < p ∧ q < 0)
  · have h1 := sq_b hp
    have h2 := sq_b hq
    have hn := hx.len hp
    have hn' := hy.len hq
    refine rsign_core p q (cmpN (p * p).natAbs (2 * (q * q)).natAbs) a n c a' n' c' w hx hy h _ ?_ (fun V i => times_any p p a n c a n c V i i (by omega) (by omega)) (fun V i => times_any q q a' n' c' a' n' c' V i i (by omega) (by omega))
      (fun V => of_any 2 V (by omega) (by omega)) (fun V d p o d' p' o' i1 i2 => times_any 2 (q * q) d p o d' p' o' V i1 i2 (by have := i1.len (m := 40) (by decide); omega) (by have := i2.len h2; omega))
      (fun V d p' o d' p'' o' i1 i2 => size_any2 (p * p) (2 * (q * q)) d p' o d' p'' o' V i1 i2 (by have := i1.len h1; omega))
    rw [signS_unlike h]
    by_cases hC : 0 ≤ cmpN (p * p).natAbs (2 * (q * q)).natAbs
    · rw [if_pos hC]; exact Or.inl ⟨hC, rfl⟩
    · rw [if_neg hC]; exact Or.inr ⟨hC, rfl⟩
  · exact rsign_like p q a n c a' n' c' w h
end Go.Proofs.YtcfmhkhfmcmkbaaDoor
