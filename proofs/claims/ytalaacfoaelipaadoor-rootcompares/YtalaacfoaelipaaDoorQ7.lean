/-
  The reference's over.
-/
import Derived.Test.YtalaacfoaelipaaDoorQ6
import Derived.Test.YtalaacfoaelipaaDoorF1
import Derived.Deep.DrawnRows
namespace Go.Proofs.YtalaacfoaelipaaDoor
open Go.RowKit Go.Sort
attribute [local go_sem ↓] Go.wp_at_zero Go.wp_at_succ

theorem keepO {w W V : World} {p q k : Int} (h : Below w.heap.size w W ∧ W.cell? ⟨w.heap.size, 0, none⟩ = some (.int .i64 p) ∧ W.cell? ⟨w.heap.size, 1, none⟩ = some (.int .i64 q) ∧ W.cell? ⟨w.heap.size, 2, none⟩ = some (.int .i64 k)) (hN : Below W.heap.size W V) :
    Below w.heap.size w V ∧ V.cell? ⟨w.heap.size, 0, none⟩ = some (.int .i64 p) ∧ V.cell? ⟨w.heap.size, 1, none⟩ = some (.int .i64 q) ∧ V.cell? ⟨w.heap.size, 2, none⟩ = some (.int .i64 k) := by
  obtain ⟨h0, h1, h2, h3⟩ := h
  obtain ⟨hc, _⟩ := bcell hN
  have hl := block_lt_of_cell h1
  exact ⟨btr h0 hN, (hc _ _ hl).trans h1, (hc _ _ hl).trans h2, (hc _ _ hl).trans h3⟩
theorem keepO_put {w W : World} {p q k : Int} (h : Below w.heap.size w W ∧ W.cell? ⟨w.heap.size, 0, none⟩ = some (.int .i64 p) ∧ W.cell? ⟨w.heap.size, 1, none⟩ = some (.int .i64 q) ∧ W.cell? ⟨w.heap.size, 2, none⟩ = some (.int .i64 k)) (R : Nat) (hR : w.heap.size < R) (v v' : Value) :
    Below w.heap.size w ((W.setCell ⟨R, 0, none⟩ v).setCell ⟨R, 1, none⟩ v') ∧ ((W.setCell ⟨R, 0, none⟩ v).setCell ⟨R, 1, none⟩ v').cell? ⟨w.heap.size, 0, none⟩ = some (.int .i64 p) ∧ ((W.setCell ⟨R, 0, none⟩ v).setCell ⟨R, 1, none⟩ v').cell? ⟨w.heap.size, 1, none⟩ = some (.int .i64 q) ∧ ((W.setCell ⟨R, 0, none⟩ v).setCell ⟨R, 1, none⟩ v').cell? ⟨w.heap.size, 2, none⟩ = some (.int .i64 k) := by
  obtain ⟨h0, h1, h2, h3⟩ := h
  have e : ∀ i, ((W.setCell ⟨R, 0, none⟩ v).setCell ⟨R, 1, none⟩ v').cell? ⟨w.heap.size, i, none⟩ = W.cell? ⟨w.heap.size, i, none⟩ := fun i => by
    have hne : R ≠ w.heap.size := by omega
    rw [World.cell?_setCell_far _ _ _ _ hne, World.cell?_setCell_far _ _ _ _ hne]
  exact ⟨(h0.setCell (by show w.heap.size ≤ R; omega) _).setCell (by show w.heap.size ≤ R; omega) _, (e 0).trans h1, (e 1).trans h2, (e 2).trans h3⟩
theorem over_start (w : World) (p q k : Int) : ∃ W0, W0 = ((w.alloc (.cells #[.int .i64 p, .int .i64 q, .int .i64 k] 23)).alloc (.cells #[.int .i64 0, .slice none 0 0] 60)).alloc (.cells #[.int .i64 0, .slice none 0 0] 60) ∧
    Below w.heap.size w W0 ∧ RB W0 w.heap.size p q k ∧ Bx W0 (w.heap.size + 1) 0 none 0 0 ∧ Bx W0 (w.heap.size + 1 + 1) 0 none 0 0 := by
  refine ⟨_, rfl, bal (bal (bal (Below.refl _ _) _) _) _, ((RB.new w p q k).alloc _).alloc _, ?_, ?_⟩
  · have := (Bx.new (w.alloc (.cells #[.int .i64 p, .int .i64 q, .int .i64 k] 23)) 0 none 0 0).alloc (.cells #[.int .i64 0, .slice none 0 0] 60)
    simpa using this
  · have := Bx.new ((w.alloc (.cells #[.int .i64 p, .int .i64 q, .int .i64 k] 23)).alloc (.cells #[.int .i64 0, .slice none 0 0] 60)) 0 none 0 0
    simpa using this
/-- What over tells. -/
def ORet (x y : Int) (e : Ending) (W : World) : Prop := ∃ a n c a' n' c', e = .returned (.tuple #[.agg #[.int .i64 (sgn x), .slice a n c], .agg #[.int .i64 (sgn y), .slice a' n' c']]) ∧ II W a n c x ∧ II W a' n' c' y
set_option maxHeartbeats 4000000 in
theorem over_any (p q : Int) (k m : Nat) (w : World) (hp : -9007199254740991 ≤ p ∧ p ≤ 9007199254740991) (hq : -9007199254740991 ≤ q ∧ q ≤ 9007199254740991) (hk : k ≤ m) (hm : m ≤ 60) :
    Calls Tryd.prog 39 #[.agg #[.int .i64 p, .int .i64 q, .int .i64 k], .int .i64 m] w fun e w' => ORet (p * 2 ^ (m - k)) (q * 2 ^ (m - k)) e w' ∧ Below w.heap.size w w' := by
  have bnd : ∀ x : Int, -9007199254740991 ≤ x ∧ x ≤ 9007199254740991 → (x * 2 ^ (m - k)).natAbs < 65536 ^ 90 := fun x hx => by
    rw [Int.natAbs_mul, Int.natAbs_pow]
    have h1 : (2 : Int).natAbs ^ (m - k) ≤ 2 ^ 60 := Nat.pow_le_pow_right (by decide) (by omega)
    have h2 : x.natAbs * (2 : Int).natAbs ^ (m - k) ≤ 9007199254740991 * 2 ^ 60 := Nat.mul_le_mul (by omega) h1
    omega
  have OP := fun w => of_any p w (by omega) (by omega)
  have OQ := fun w => of_any q w (by omega) (by omega)
  have SP := fun (V : World) (a : Option Addr) (n c : Nat) (h : II V a n c p) => shifted_any p (m - k) a n c V h (by omega) (bnd p hp)
  have SQ := fun (V : World) (a : Option Addr) (n c : Nat) (h : II V a n c q) => shifted_any q (m - k) a n c V h (by omega) (bnd q hq)
  clear bnd hp hq
  obtain ⟨P, HP⟩ : ∃ P, Hid (P = p * 2 ^ (m - k)) := ⟨_, rfl⟩
  obtain ⟨Q, HQ⟩ : ∃ Q, Hid (Q = q * 2 ^ (m - k)) := ⟨_, rfl⟩
  rw [← HP.out] at SP ⊢
  rw [← HQ.out] at SQ ⊢
  clear HP HQ
  have ek : IntKind.i64.wrap ((m : Int) - (k : Int)) = ((m - k : Nat) : Int) := by rw [IntKind.wrap_i64]; omega
  have hsub : ((m : Int) - (k : Int)) = ((m - k : Nat) : Int) := by omega
  have ej : IntKind.i64.wrap ((m - k : Nat) : Int) = ((m - k : Nat) : Int) := by rw [IntKind.wrap_i64]; omega
  generalize m - k = j at *
  go_enter Tryd.func39, Tryd.ntmps39
  go_upto_region 1 with (fail)
  obtain ⟨W0, hW0, hW, rb, bx1, bx2⟩ := over_start w p q k
  rw [← hW0]
  clear hW0
  obtain ⟨x0, x1, x2⟩ := rb
  have t1 := bx1.ty
  have t2 := bx2.ty
  have l1 := bx1.lt
  have l2 := bx2.lt
  obtain ⟨r0, r1, rf0, rf1, _⟩ := bx1
  obtain ⟨s0, s1, sf0, sf1, _⟩ := bx2
  have hZ := Below.refl W0.heap.size W0
  have n1 : ¬ w.heap.size + 1 = w.heap.size + 1 + 1 := by omega
  go_region_held3 (fun w' => Below w.heap.size w w' ∧ w'.cell? ⟨w.heap.size, 0, none⟩ = some (.int .i64 p) ∧ w'.cell? ⟨w.heap.size, 1, none⟩ = some (.int .i64 q) ∧ w'.cell? ⟨w.heap.size, 2, none⟩ = some (.int .i64 k))
    ((first | exact ⟨below_drew hW, x0, x1, x2⟩ | exact keepO_put (by assumption) _ (by omega) _ _ | exact keepO (by assumption) hN))
    (first
      | (go_at_call 32; (with_reducible refine (OP _).mono ?_); rintro e w2 ⟨⟨a2, n2, c2, rfl, i2⟩, hN⟩; have hK := btr (below_drew hZ) hN; obtain ⟨hc, hf⟩ := bcell hK)
      | (go_at_call 64; (with_reducible refine (SP _ _ _ _ i2).mono ?_); rintro e w3 ⟨⟨a3, n3, c3, rfl, i3⟩, hN⟩; have hK := btr hK hN; obtain ⟨hc, hf⟩ := bcell hK)
      | (go_at_call 32; (with_reducible refine (OQ _).mono ?_); rintro e w4 ⟨⟨a4, n4, c4, rfl, i4⟩, hN⟩; have i3 := i3.below hN; have hK := btr hK hN; obtain ⟨hc, hf⟩ := bcell hK)
      | (go_at_call 64; (with_reducible refine (SQ _ _ _ _ i4).mono ?_); rintro e w5 ⟨⟨a5, n5, c5, rfl, i5⟩, hN⟩; have i3 := i3.below hN; have hK := btr hK hN; obtain ⟨hc, hf⟩ := bcell hK))
  go_wp2
  have hB := btr hW hK
  refine bodyPost_ret (v := .tuple #[.agg #[.int .i64 (sgn P), .slice a3 n3 c3], .agg #[.int .i64 (sgn Q), .slice a5 n5 c5]]) (by simp [results, Tryd.results39, go_sem, hc, r0, r1, s0, s1, l1, l2]) rfl ⟨⟨_, _, _, _, _, _, rfl, ?_, ?_⟩, ?_⟩
  · exact (i3.put2 ((bty_below hK l1).trans t1) _ _).put2 (by rw [bty_set, bty_set]; exact (bty_below hK l2).trans t2) _ _
  · exact (i5.put2 ((bty_below hK l1).trans t1) _ _).put2 (by rw [bty_set, bty_set]; exact (bty_below hK l2).trans t2) _ _
  · exact (((hB.setCell (by simp) _).setCell (by simp) _).setCell (by simp; omega) _).setCell (by simp; omega) _
end Go.Proofs.YtalaacfoaelipaaDoor
