/-
  The reference's Mul.
-/
import Derived.Test.YtalaacfoaelipaaDoorQ8
namespace Go.Proofs.YtalaacfoaelipaaDoor
open Go.RowKit Go.Sort
attribute [local go_sem ↓] Go.wp_at_zero Go.wp_at_succ

theorem rmul_no (a1 a2 a3 b1 b2 b3 : Int) (w : World) (h : ¬ (isRoot a1 a2 a3 ∧ isRoot b1 b2 b3)) :
    Calls Tryd.prog 16 #[.agg #[.int .i64 a1, .int .i64 a2, .int .i64 a3], .agg #[.int .i64 b1, .int .i64 b2, .int .i64 b3]] w fun e w' => e = .returned (rtV ⟨0, 0, 0, 2⟩) ∧ Below w.heap.size w w' := by
  have BD := fun w => bad_yes a1 a2 a3 b1 b2 b3 w h
  clear h
  go_enter Tryd.func16, Tryd.ntmps16
  go_wp2_with (go_at_call 37; (with_reducible refine (BD _).mono ?_); rintro e w1 ⟨rfl, hB⟩; obtain ⟨hc, hf⟩ := bcell hB)
  exact bodyPost_ret (v := rtV ⟨0, 0, 0, 2⟩) (by simp [results, Tryd.results16, go_sem, hc]) rfl ⟨rfl, (((btr (bal (bal (bal (Below.refl _ _) _) _) _) hB).setCell (by simp; omega) _).setCell (by simp; omega) _).setCell (by simp; omega) _⟩
theorem keepM {w W V : World} {A B : Nat} {a1 a2 b1 b2 : Int} (h : Below w.heap.size w W ∧ W.cell? ⟨A, 0, none⟩ = some (.int .i64 a1) ∧ W.cell? ⟨A, 1, none⟩ = some (.int .i64 a2) ∧ W.cell? ⟨B, 0, none⟩ = some (.int .i64 b1) ∧ W.cell? ⟨B, 1, none⟩ = some (.int .i64 b2)) (hN : Below W.heap.size W V) :
    Below w.heap.size w V ∧ V.cell? ⟨A, 0, none⟩ = some (.int .i64 a1) ∧ V.cell? ⟨A, 1, none⟩ = some (.int .i64 a2) ∧ V.cell? ⟨B, 0, none⟩ = some (.int .i64 b1) ∧ V.cell? ⟨B, 1, none⟩ = some (.int .i64 b2) := by
  obtain ⟨h0, p1, p2, p3, p4⟩ := h
  obtain ⟨hc, _⟩ := bcell hN
  have la := block_lt_of_cell p1
  have lb := block_lt_of_cell p3
  exact ⟨btr h0 hN, (hc _ _ la).trans p1, (hc _ _ la).trans p2, (hc _ _ lb).trans p3, (hc _ _ lb).trans p4⟩
theorem II.alloc {W : World} {a : Option Addr} {n c : Nat} {z : Int} (h : II W a n c z) (o : Obj) : II (W.alloc o) a n c z := h.below (bal (Below.refl _ _) _)
/-- A product's or sum's variable, made last. -/
theorem mul_fin1 {w W1 V : World} {a1 a2 a3 b1 b2 b3 Z : Int} {a : Option Addr} {n c : Nat} (A : AdS w W1 a1 a2 a3 b1 b2 b3) (hK : Below W1.heap.size W1 V) (i : II V a n c Z) :
    ∃ (B : Nat) (d : Option Addr) (p o : Nat), Value.pointer (some ⟨V.heap.size, 0, none⟩) = Value.pointer (some ⟨B, 0, none⟩) ∧ Hid (Bx (V.alloc (.cells #[.int .i64 (sgn Z), .slice a n c] 60)) B (sgn Z) d p o ∧ II (V.alloc (.cells #[.int .i64 (sgn Z), .slice a n c] 60)) d p o Z) ∧ Hid (AdS w (V.alloc (.cells #[.int .i64 (sgn Z), .slice a n c] 60)) a1 a2 a3 b1 b2 b3) ∧ Below W1.heap.size W1 (V.alloc (.cells #[.int .i64 (sgn Z), .slice a n c] 60)) :=
  ⟨_, a, n, c, rfl, ⟨Bx.new _ _ _ _ _, i.alloc _⟩, A.onward (bal hK _), bal hK _⟩
/-- The same, made earlier. -/
theorem mul_fin2 {w W1 Vi V : World} {a1 a2 a3 b1 b2 b3 Z : Int} {a : Option Addr} {n c : Nat} (A : AdS w W1 a1 a2 a3 b1 b2 b3) (hi : Below W1.heap.size W1 Vi) (hL : Below (Vi.alloc (.cells #[.int .i64 0, .slice none 0 0] 60)).heap.size (Vi.alloc (.cells #[.int .i64 0, .slice none 0 0] 60)) V) (hK : Below W1.heap.size W1 V) (i : II V a n c Z) :
    ∃ (B : Nat) (d : Option Addr) (p o : Nat), Value.pointer (some ⟨Vi.heap.size, 0, none⟩) = Value.pointer (some ⟨B, 0, none⟩) ∧ Hid (Bx ((V.setCell ⟨Vi.heap.size, 0, none⟩ (.int .i64 (sgn Z))).setCell ⟨Vi.heap.size, 1, none⟩ (.slice a n c)) B (sgn Z) d p o ∧ II ((V.setCell ⟨Vi.heap.size, 0, none⟩ (.int .i64 (sgn Z))).setCell ⟨Vi.heap.size, 1, none⟩ (.slice a n c)) d p o Z) ∧ Hid (AdS w ((V.setCell ⟨Vi.heap.size, 0, none⟩ (.int .i64 (sgn Z))).setCell ⟨Vi.heap.size, 1, none⟩ (.slice a n c)) a1 a2 a3 b1 b2 b3) ∧ Below W1.heap.size W1 ((V.setCell ⟨Vi.heap.size, 0, none⟩ (.int .i64 (sgn Z))).setCell ⟨Vi.heap.size, 1, none⟩ (.slice a n c)) := by
  have bx := (Bx.new Vi 0 none 0 0).below hL
  have hb : Below W1.heap.size W1 ((V.setCell ⟨Vi.heap.size, 0, none⟩ (.int .i64 (sgn Z))).setCell ⟨Vi.heap.size, 1, none⟩ (.slice a n c)) := (hK.setCell hi.size _).setCell hi.size _
  exact ⟨_, a, n, c, rfl, ⟨bx.put (sgn Z) a n c, i.put2 bx.ty _ _⟩, A.onward hb, hb⟩
theorem keepM_st {w W W1 Vi : World} {A B : Nat} {a1 a2 b1 b2 : Int} (h : Below w.heap.size w W ∧ W.cell? ⟨A, 0, none⟩ = some (.int .i64 a1) ∧ W.cell? ⟨A, 1, none⟩ = some (.int .i64 a2) ∧ W.cell? ⟨B, 0, none⟩ = some (.int .i64 b1) ∧ W.cell? ⟨B, 1, none⟩ = some (.int .i64 b2)) (hi : Below W1.heap.size W1 Vi) (hW : Below w.heap.size w W1) (hl : A < W1.heap.size ∧ B < W1.heap.size) {v v' : Value} :
    Below w.heap.size w ((W.setCell ⟨Vi.heap.size, 0, none⟩ v).setCell ⟨Vi.heap.size, 1, none⟩ v') ∧ ((W.setCell ⟨Vi.heap.size, 0, none⟩ v).setCell ⟨Vi.heap.size, 1, none⟩ v').cell? ⟨A, 0, none⟩ = some (.int .i64 a1) ∧ ((W.setCell ⟨Vi.heap.size, 0, none⟩ v).setCell ⟨Vi.heap.size, 1, none⟩ v').cell? ⟨A, 1, none⟩ = some (.int .i64 a2) ∧ ((W.setCell ⟨Vi.heap.size, 0, none⟩ v).setCell ⟨Vi.heap.size, 1, none⟩ v').cell? ⟨B, 0, none⟩ = some (.int .i64 b1) ∧ ((W.setCell ⟨Vi.heap.size, 0, none⟩ v).setCell ⟨Vi.heap.size, 1, none⟩ v').cell? ⟨B, 1, none⟩ = some (.int .i64 b2) := by
  obtain ⟨h0, p1, p2, p3, p4⟩ := h
  have s1 := hi.size
  have s2 := hW.size
  have e : ∀ C i, C < W1.heap.size → ((W.setCell ⟨Vi.heap.size, 0, none⟩ v).setCell ⟨Vi.heap.size, 1, none⟩ v').cell? ⟨C, i, none⟩ = W.cell? ⟨C, i, none⟩ := fun C i hC => by
    have hne : Vi.heap.size ≠ C := by omega
    rw [World.cell?_setCell_far _ _ _ _ hne, World.cell?_setCell_far _ _ _ _ hne]
  exact ⟨(h0.setCell (by show w.heap.size ≤ Vi.heap.size; omega) _).setCell (by show w.heap.size ≤ Vi.heap.size; omega) _, (e _ _ hl.1).trans p1, (e _ _ hl.1).trans p2, (e _ _ hl.2).trans p3, (e _ _ hl.2).trans p4⟩
set_option maxHeartbeats 8000000 in
theorem rmul_core (a1 a2 a3 b1 b2 b3 : Int) (r : Rt) (w : World) (hs0 : 0 ≤ a3 ∧ a3 ≤ 60) (hs1 : 0 ≤ b3 ∧ b3 ≤ 60)
    (BD : ∀ w, Calls Tryd.prog 37 #[.agg #[.int .i64 a1, .int .i64 a2, .int .i64 a3], .agg #[.int .i64 b1, .int .i64 b2, .int .i64 b3]] w fun e w' => e = .returned (.bool false) ∧ Below w.heap.size w w')
    (O1 : ∀ w, Calls Tryd.prog 32 #[.int .i64 a1] w fun e w' => IRet a1 e w' ∧ Below w.heap.size w w') (O2 : ∀ w, Calls Tryd.prog 32 #[.int .i64 a2] w fun e w' => IRet a2 e w' ∧ Below w.heap.size w w')
    (O3 : ∀ w, Calls Tryd.prog 32 #[.int .i64 b1] w fun e w' => IRet b1 e w' ∧ Below w.heap.size w w') (O4 : ∀ w, Calls Tryd.prog 32 #[.int .i64 b2] w fun e w' => IRet b2 e w' ∧ Below w.heap.size w w')
    (O5 : ∀ w, Calls Tryd.prog 32 #[.int .i64 2] w fun e w' => IRet 2 e w' ∧ Below w.heap.size w w')
    (m1 m2 m3 m4 m5 s1 s2 : Int)
    (T1 : ∀ (V : World) (d : Option Addr) (p o : Nat) (d' : Option Addr) (p' o' : Nat), II V d p o (a1) → II V d' p' o' (b1) → Calls Tryd.prog 41 #[.agg #[.int .i64 (sgn (a1)), .slice d p o], .agg #[.int .i64 (sgn (b1)), .slice d' p' o']] V fun e w' => IRet (m1) e w' ∧ Below V.heap.size V w')
    (T2 : ∀ (V : World) (d : Option Addr) (p o : Nat) (d' : Option Addr) (p' o' : Nat), II V d p o (a2) → II V d' p' o' (b2) → Calls Tryd.prog 41 #[.agg #[.int .i64 (sgn (a2)), .slice d p o], .agg #[.int .i64 (sgn (b2)), .slice d' p' o']] V fun e w' => IRet (m2) e w' ∧ Below V.heap.size V w')
    (T3 : ∀ (V : World) (d : Option Addr) (p o : Nat) (d' : Option Addr) (p' o' : Nat), II V d p o (2) → II V d' p' o' (m2) → Calls Tryd.prog 41 #[.agg #[.int .i64 (sgn (2)), .slice d p o], .agg #[.int .i64 (sgn (m2)), .slice d' p' o']] V fun e w' => IRet (m3) e w' ∧ Below V.heap.size V w')
    (P1 : ∀ (V : World) (d : Option Addr) (p o : Nat) (d' : Option Addr) (p' o' : Nat), II V d p o (m1) → II V d' p' o' (m3) → Calls Tryd.prog 40 #[.agg #[.int .i64 (sgn (m1)), .slice d p o], .agg #[.int .i64 (sgn (m3)), .slice d' p' o']] V fun e w' => IRet (s1) e w' ∧ Below V.heap.size V w')
    (T4 : ∀ (V : World) (d : Option Addr) (p o : Nat) (d' : Option Addr) (p' o' : Nat), II V d p o (a1) → II V d' p' o' (b2) → Calls Tryd.prog 41 #[.agg #[.int .i64 (sgn (a1)), .slice d p o], .agg #[.int .i64 (sgn (b2)), .slice d' p' o']] V fun e w' => IRet (m4) e w' ∧ Below V.heap.size V w')
    (T5 : ∀ (V : World) (d : Option Addr) (p o : Nat) (d' : Option Addr) (p' o' : Nat), II V d p o (a2) → II V d' p' o' (b1) → Calls Tryd.prog 41 #[.agg #[.int .i64 (sgn (a2)), .slice d p o], .agg #[.int .i64 (sgn (b1)), .slice d' p' o']] V fun e w' => IRet (m5) e w' ∧ Below V.heap.size V w')
    (P2 : ∀ (V : World) (d : Option Addr) (p o : Nat) (d' : Option Addr) (p' o' : Nat), II V d p o (m4) → II V d' p' o' (m5) → Calls Tryd.prog 40 #[.agg #[.int .i64 (sgn (m4)), .slice d p o], .agg #[.int .i64 (sgn (m5)), .slice d' p' o']] V fun e w' => IRet (s2) e w' ∧ Below V.heap.size V w')
    (ON : ∀ (V : World) (d : Option Addr) (p o : Nat) (d' : Option Addr) (p' o' : Nat), II V d p o s1 → II V d' p' o' s2 → Calls Tryd.prog 31 #[.agg #[.int .i64 (sgn s1), .slice d p o], .agg #[.int .i64 (sgn s2), .slice d' p' o'], .int .i64 (a3 + b3)] V fun e w' => e = .returned (rtV r) ∧ Below V.heap.size V w') :
    Calls Tryd.prog 16 #[.agg #[.int .i64 a1, .int .i64 a2, .int .i64 a3], .agg #[.int .i64 b1, .int .i64 b2, .int .i64 b3]] w fun e w' => e = .returned (rtV r) ∧ Below w.heap.size w w' := by
  obtain ⟨W0, hW0, A0⟩ := AdS.start w a1 a2 a3 b1 b2 b3
  go_enter Tryd.func16, Tryd.ntmps16
  go_upto_region 1 with (fail)
  rw [← hW0]
  clear hW0
  obtain ⟨x0, x1, x2⟩ := A0.ra
  obtain ⟨y0, y1, y2⟩ := A0.rb
  have l1 := A0.ra.lt
  have l2 := A0.rb.lt
  have HA : Hid (AdS w W0 a1 a2 a3 b1 b2 b3) := A0
  clear A0
  go_upto_region 3 with (first
    | (go_at_call 37; (with_reducible refine (BD _).mono ?_); rintro e W1 ⟨rfl, hN⟩; obtain ⟨hc, hf⟩ := bcell hN))
  have A : Hid _ := HA.out.onward hN
  clear HA hN hc hf x0 x1 x2 y0 y1 y2 l1 l2
  go_cut [6] from 12 to 28 (fun v W => ∃ (B : Nat) (d : Option Addr) (p o : Nat), v = Value.pointer (some ⟨B, 0, none⟩) ∧ Hid (Bx W B (sgn s1) d p o ∧ II W d p o s1) ∧ Hid (AdS w W a1 a2 a3 b1 b2 b3) ∧ Below W1.heap.size W1 W)
  case first =>
    obtain ⟨x0, x1, x2⟩ := A.out.ra
    obtain ⟨y0, y1, y2⟩ := A.out.rb
    have hW := A.out.below
    have hZ := Below.refl W1.heap.size W1
    have hZ' : Below W1.heap.size W1 W1.drew := below_drew hZ
    have hlt := And.intro A.out.ra.lt A.out.rb.lt
    go_region_held3 (fun w' => Below w.heap.size w w' ∧ w'.cell? ⟨w.heap.size, 0, none⟩ = some (.int .i64 a1) ∧ w'.cell? ⟨w.heap.size, 1, none⟩ = some (.int .i64 a2) ∧ w'.cell? ⟨w.heap.size + 1, 0, none⟩ = some (.int .i64 b1) ∧ w'.cell? ⟨w.heap.size + 1, 1, none⟩ = some (.int .i64 b2))
    ((refine keepM ⟨hW, x0, x1, y0, y1⟩ ?_; first | exact hK | exact bal hK _ | exact hZ' | exact bal hZ' _ | exact (hK.setCell (Below.size (by assumption)) _).setCell (Below.size (by assumption)) _))
    (first
      | (go_at_call 32; (with_reducible refine (O1 _).mono ?_); rintro e w2 ⟨⟨di1, pi1, oi1, rfl, i1⟩, hN⟩; have hK := btr (by first | exact hK | exact bal hK _ | exact hZ' | exact bal hZ' _ : Below W1.heap.size W1 _) hN; (first | (replace hL := btr hL hN) | (have hL := hN)); obtain ⟨hc, hf⟩ := bcell hL; skip)
      | (go_at_call 32; (with_reducible refine (O3 _).mono ?_); rintro e w2 ⟨⟨di2, pi2, oi2, rfl, i2⟩, hN⟩; have hK := btr (by first | exact hK | exact bal hK _ | exact hZ' | exact bal hZ' _ : Below W1.heap.size W1 _) hN; (first | (replace hL := btr hL hN) | (have hL := hN)); obtain ⟨hc, hf⟩ := bcell hL; try (replace i1 := (by first | exact i1.below hN | exact (i1.alloc _).below hN)); skip)
      | (go_at_call 41; (with_reducible refine (T1 _ _ _ _ _ _ _ (by first | exact i1 | exact i1.alloc _) (by first | exact i2 | exact i2.alloc _)).mono ?_); rintro e w2 ⟨⟨di3, pi3, oi3, rfl, i3⟩, hN⟩; have hK := btr (by first | exact hK | exact bal hK _ | exact hZ' | exact bal hZ' _ : Below W1.heap.size W1 _) hN; (first | (replace hL := btr hL hN) | (have hL := hN)); obtain ⟨hc, hf⟩ := bcell hL; try (replace i1 := (by first | exact i1.below hN | exact (i1.alloc _).below hN)); try (replace i2 := (by first | exact i2.below hN | exact (i2.alloc _).below hN)); skip)
      | (go_at_call 32; (with_reducible refine (O5 _).mono ?_); rintro e w2 ⟨⟨di4, pi4, oi4, rfl, i4⟩, hN⟩; have hK := btr (by first | exact hK | exact bal hK _ | exact hZ' | exact bal hZ' _ : Below W1.heap.size W1 _) hN; (first | (replace hL := btr hL hN) | (have hL := hN)); obtain ⟨hc, hf⟩ := bcell hL; try (replace i1 := (by first | exact i1.below hN | exact (i1.alloc _).below hN)); try (replace i2 := (by first | exact i2.below hN | exact (i2.alloc _).below hN)); try (replace i3 := (by first | exact i3.below hN | exact (i3.alloc _).below hN)); skip)
      | (go_at_call 32; (with_reducible refine (O2 _).mono ?_); rintro e w2 ⟨⟨di5, pi5, oi5, rfl, i5⟩, hN⟩; have hK := btr (by first | exact hK | exact bal hK _ | exact hZ' | exact bal hZ' _ : Below W1.heap.size W1 _) hN; (first | (replace hL := btr hL hN) | (have hL := hN)); obtain ⟨hc, hf⟩ := bcell hL; try (replace i1 := (by first | exact i1.below hN | exact (i1.alloc _).below hN)); try (replace i2 := (by first | exact i2.below hN | exact (i2.alloc _).below hN)); try (replace i3 := (by first | exact i3.below hN | exact (i3.alloc _).below hN)); try (replace i4 := (by first | exact i4.below hN | exact (i4.alloc _).below hN)); skip)
      | (go_at_call 32; (with_reducible refine (O4 _).mono ?_); rintro e w2 ⟨⟨di6, pi6, oi6, rfl, i6⟩, hN⟩; have hK := btr (by first | exact hK | exact bal hK _ | exact hZ' | exact bal hZ' _ : Below W1.heap.size W1 _) hN; (first | (replace hL := btr hL hN) | (have hL := hN)); obtain ⟨hc, hf⟩ := bcell hL; try (replace i1 := (by first | exact i1.below hN | exact (i1.alloc _).below hN)); try (replace i2 := (by first | exact i2.below hN | exact (i2.alloc _).below hN)); try (replace i3 := (by first | exact i3.below hN | exact (i3.alloc _).below hN)); try (replace i4 := (by first | exact i4.below hN | exact (i4.alloc _).below hN)); try (replace i5 := (by first | exact i5.below hN | exact (i5.alloc _).below hN)); skip)
      | (go_at_call 41; (with_reducible refine (T2 _ _ _ _ _ _ _ (by first | exact i5 | exact i5.alloc _) (by first | exact i6 | exact i6.alloc _)).mono ?_); rintro e w2 ⟨⟨di7, pi7, oi7, rfl, i7⟩, hN⟩; have hK := btr (by first | exact hK | exact bal hK _ | exact hZ' | exact bal hZ' _ : Below W1.heap.size W1 _) hN; (first | (replace hL := btr hL hN) | (have hL := hN)); obtain ⟨hc, hf⟩ := bcell hL; try (replace i1 := (by first | exact i1.below hN | exact (i1.alloc _).below hN)); try (replace i2 := (by first | exact i2.below hN | exact (i2.alloc _).below hN)); try (replace i3 := (by first | exact i3.below hN | exact (i3.alloc _).below hN)); try (replace i4 := (by first | exact i4.below hN | exact (i4.alloc _).below hN)); try (replace i5 := (by first | exact i5.below hN | exact (i5.alloc _).below hN)); try (replace i6 := (by first | exact i6.below hN | exact (i6.alloc _).below hN)); skip)
      | (go_at_call 41; (with_reducible refine (T3 _ _ _ _ _ _ _ (by first | exact i4 | exact i4.alloc _) (by first | exact i7 | exact i7.alloc _)).mono ?_); rintro e w2 ⟨⟨di8, pi8, oi8, rfl, i8⟩, hN⟩; have hK := btr (by first | exact hK | exact bal hK _ | exact hZ' | exact bal hZ' _ : Below W1.heap.size W1 _) hN; (first | (replace hL := btr hL hN) | (have hL := hN)); obtain ⟨hc, hf⟩ := bcell hL; try (replace i1 := (by first | exact i1.below hN | exact (i1.alloc _).below hN)); try (replace i2 := (by first | exact i2.below hN | exact (i2.alloc _).below hN)); try (replace i3 := (by first | exact i3.below hN | exact (i3.alloc _).below hN)); try (replace i4 := (by first | exact i4.below hN | exact (i4.alloc _).below hN)); try (replace i5 := (by first | exact i5.below hN | exact (i5.alloc _).below hN)); try (replace i6 := (by first | exact i6.below hN | exact (i6.alloc _).below hN)); try (replace i7 := (by first | exact i7.below hN | exact (i7.alloc _).below hN)); skip)
      | (go_at_call 40; (with_reducible refine (P1 _ _ _ _ _ _ _ (by first | exact i3 | exact i3.alloc _) (by first | exact i8 | exact i8.alloc _)).mono ?_); rintro e w2 ⟨⟨di9, pi9, oi9, rfl, i9⟩, hN⟩; have hK := btr (by first | exact hK | exact bal hK _ | exact hZ' | exact bal hZ' _ : Below W1.heap.size W1 _) hN; (first | (replace hL := btr hL hN) | (have hL := hN)); obtain ⟨hc, hf⟩ := bcell hL; try (replace i1 := (by first | exact i1.below hN | exact (i1.alloc _).below hN)); try (replace i2 := (by first | exact i2.below hN | exact (i2.alloc _).below hN)); try (replace i3 := (by first | exact i3.below hN | exact (i3.alloc _).below hN)); try (replace i4 := (by first | exact i4.below hN | exact (i4.alloc _).below hN)); try (replace i5 := (by first | exact i5.below hN | exact (i5.alloc _).below hN)); try (replace i6 := (by first | exact i6.below hN | exact (i6.alloc _).below hN)); try (replace i7 := (by first | exact i7.below hN | exact (i7.alloc _).below hN)); try (replace i8 := (by first | exact i8.below hN | exact (i8.alloc _).below hN)); skip))
    all_goals
      go_wp2
      go_meet
      case rel => (first | exact mul_fin1 A.out (by assumption) i9 | exact mul_fin2 A.out (by assumption) hL hK i9 | exact mul_fin2 A.out hZ (below_of_drew hL) hK i9)
  clear A
  obtain ⟨B6, d6, p6, o6, rfl, H6, A, _⟩ := hcut
  clear T1 T2 T3 P1 O5 BD
  obtain ⟨W2, hW2⟩ : ∃ W2, W2 = wc := ⟨_, rfl⟩
  rw [← hW2] at H6 A ⊢
  clear hW2
  go_upto_region 4 with (fail)
  go_cut [7] from 29 to 43 (fun v W => ∃ (B : Nat) (d : Option Addr) (p o : Nat), v = Value.pointer (some ⟨B, 0, none⟩) ∧ Hid (Bx W B (sgn s2) d p o ∧ II W d p o s2) ∧ Hid (AdS w W a1 a2 a3 b1 b2 b3) ∧ Below W2.heap.size W2 W)
  case first =>
    obtain ⟨x0, x1, x2⟩ := A.out.ra
    obtain ⟨y0, y1, y2⟩ := A.out.rb
    have hW := A.out.below
    have hZ := Below.refl W2.heap.size W2
    have hZ' : Below W2.heap.size W2 W2.drew := below_drew hZ
    go_region_held3 (fun w' => Below w.heap.size w w' ∧ w'.cell? ⟨w.heap.size, 0, none⟩ = some (.int .i64 a1) ∧ w'.cell? ⟨w.heap.size, 1, none⟩ = some (.int .i64 a2) ∧ w'.cell? ⟨w.heap.size + 1, 0, none⟩ = some (.int .i64 b1) ∧ w'.cell? ⟨w.heap.size + 1, 1, none⟩ = some (.int .i64 b2))
    ((refine keepM ⟨hW, x0, x1, y0, y1⟩ ?_; first | exact hK | exact bal hK _ | exact hZ' | exact bal hZ' _ | exact (hK.setCell (Below.size (by assumption)) _).setCell (Below.size (by assumption)) _))
    (first
      | (go_at_call 32; (with_reducible refine (O1 _).mono ?_); rintro e w2 ⟨⟨di1, pi1, oi1, rfl, i1⟩, hN⟩; have hK := btr (by first | exact hK | exact bal hK _ | exact hZ' | exact bal hZ' _ : Below W2.heap.size W2 _) hN; (first | (replace hL := btr hL hN) | (have hL := hN)); obtain ⟨hc, hf⟩ := bcell hL; skip)
      | (go_at_call 32; (with_reducible refine (O4 _).mono ?_); rintro e w2 ⟨⟨di2, pi2, oi2, rfl, i2⟩, hN⟩; have hK := btr (by first | exact hK | exact bal hK _ | exact hZ' | exact bal hZ' _ : Below W2.heap.size W2 _) hN; (first | (replace hL := btr hL hN) | (have hL := hN)); obtain ⟨hc, hf⟩ := bcell hL; try (replace i1 := (by first | exact i1.below hN | exact (i1.alloc _).below hN)); skip)
      | (go_at_call 41; (with_reducible refine (T4 _ _ _ _ _ _ _ (by first | exact i1 | exact i1.alloc _) (by first | exact i2 | exact i2.alloc _)).mono ?_); rintro e w2 ⟨⟨di3, pi3, oi3, rfl, i3⟩, hN⟩; have hK := btr (by first | exact hK | exact bal hK _ | exact hZ' | exact bal hZ' _ : Below W2.heap.size W2 _) hN; (first | (replace hL := btr hL hN) | (have hL := hN)); obtain ⟨hc, hf⟩ := bcell hL; try (replace i1 := (by first | exact i1.below hN | exact (i1.alloc _).below hN)); try (replace i2 := (by first | exact i2.below hN | exact (i2.alloc _).below hN)); skip)
      | (go_at_call 32; (with_reducible refine (O2 _).mono ?_); rintro e w2 ⟨⟨di5, pi5, oi5, rfl, i5⟩, hN⟩; have hK := btr (by first | exact hK | exact bal hK _ | exact hZ' | exact bal hZ' _ : Below W2.heap.size W2 _) hN; (first | (replace hL := btr hL hN) | (have hL := hN)); obtain ⟨hc, hf⟩ := bcell hL; try (replace i1 := (by first | exact i1.below hN | exact (i1.alloc _).below hN)); try (replace i2 := (by first | exact i2.below hN | exact (i2.alloc _).below hN)); try (replace i3 := (by first | exact i3.below hN | exact (i3.alloc _).below hN)); skip)
      | (go_at_call 32; (with_reducible refine (O3 _).mono ?_); rintro e w2 ⟨⟨di6, pi6, oi6, rfl, i6⟩, hN⟩; have hK := btr (by first | exact hK | exact bal hK _ | exact hZ' | exact bal hZ' _ : Below W2.heap.size W2 _) hN; (first | (replace hL := btr hL hN) | (have hL := hN)); obtain ⟨hc, hf⟩ := bcell hL; try (replace i1 := (by first | exact i1.below hN | exact (i1.alloc _).below hN)); try (replace i2 := (by first | exact i2.below hN | exact (i2.alloc _).below hN)); try (replace i3 := (by first | exact i3.below hN | exact (i3.alloc _).below hN)); try (replace i5 := (by first | exact i5.below hN | exact (i5.alloc _).below hN)); skip)
      | (go_at_call 41; (with_reducible refine (T5 _ _ _ _ _ _ _ (by first | exact i5 | exact i5.alloc _) (by first | exact i6 | exact i6.alloc _)).mono ?_); rintro e w2 ⟨⟨di7, pi7, oi7, rfl, i7⟩, hN⟩; have hK := btr (by first | exact hK | exact bal hK _ | exact hZ' | exact bal hZ' _ : Below W2.heap.size W2 _) hN; (first | (replace hL := btr hL hN) | (have hL := hN)); obtain ⟨hc, hf⟩ := bcell hL; try (replace i1 := (by first | exact i1.below hN | exact (i1.alloc _).below hN)); try (replace i2 := (by first | exact i2.below hN | exact (i2.alloc _).below hN)); try (replace i3 := (by first | exact i3.below hN | exact (i3.alloc _).below hN)); try (replace i5 := (by first | exact i5.below hN | exact (i5.alloc _).below hN)); try (replace i6 := (by first | exact i6.below hN | exact (i6.alloc _).below hN)); skip)
      | (go_at_call 40; (with_reducible refine (P2 _ _ _ _ _ _ _ (by first | exact i3 | exact i3.alloc _) (by first | exact i7 | exact i7.alloc _)).mono ?_); rintro e w2 ⟨⟨di9, pi9, oi9, rfl, i9⟩, hN⟩; have hK := btr (by first | exact hK | exact bal hK _ | exact hZ' | exact bal hZ' _ : Below W2.heap.size W2 _) hN; (first | (replace hL := btr hL hN) | (have hL := hN)); obtain ⟨hc, hf⟩ := bcell hL; try (replace i1 := (by first | exact i1.below hN | exact (i1.alloc _).below hN)); try (replace i2 := (by first | exact i2.below hN | exact (i2.alloc _).below hN)); try (replace i3 := (by first | exact i3.below hN | exact (i3.alloc _).below hN)); try (replace i5 := (by first | exact i5.below hN | exact (i5.alloc _).below hN)); try (replace i6 := (by first | exact i6.below hN | exact (i6.alloc _).below hN)); try (replace i7 := (by first | exact i7.below hN | exact (i7.alloc _).below hN)); skip))
    all_goals
      go_wp2
      go_meet
      case rel => (first | exact mul_fin1 A.out (by assumption) i9 | exact mul_fin2 A.out (by assumption) hL hK i9 | exact mul_fin2 A.out hZ (below_of_drew hL) hK i9)
  clear A
  obtain ⟨B7, d7, p7, o7, rfl, H7, A, hWW⟩ := hcut
  replace H6 : Hid (Bx wc B6 (sgn s1) d6 p6 o6 ∧ II wc d6 p6 o6 s1) := ⟨H6.out.1.below hWW, H6.out.2.below hWW⟩
  have ON' := ON wc _ _ _ _ _ _ H6.out.2 H7.out.2
  obtain ⟨u0, u1, _, _, _⟩ := H6.out.1
  obtain ⟨v0, v1, _, _, _⟩ := H7.out.1
  obtain ⟨x0, x1, x2⟩ := A.out.ra
  obtain ⟨y0, y1, y2⟩ := A.out.rb
  obtain ⟨r0, r1, r2, rf0, rf1, rf2⟩ := A.out.rc
  have lr := A.out.rc.lt
  have hW := A.out.below
  obtain ⟨hs00, hs01⟩ := hs0
  obtain ⟨hs10, hs11⟩ := hs1
  clear H6 H7 A ON T4 T5 P2 O1 O2 O3 O4 hWW
  generalize sgn s1 = S1 at *
  generalize sgn s2 = S2 at *
  go_wp2_with (go_at_call 31; (with_reducible refine ON'.mono ?_); rintro e w4 ⟨rfl, hN⟩; unfold rtV; obtain ⟨hc, hf⟩ := bcell hN)
  exact bodyPost_ret (v := rtV r) (by simp [results, Tryd.results16, go_sem, hc, r0, r1, r2, lr]) rfl ⟨rfl, (((btr hW hN).setCell (by simp; omega) _).setCell (by simp; omega) _).setCell (by simp; omega) _⟩
theorem prod_b {x y : Int} (hx : -9007199254740991 ≤ x ∧ x ≤ 9007199254740991) (hy : -9007199254740991 ≤ y ∧ y ≤ 9007199254740991) : (x * y).natAbs ≤ 81129638414606663681390495662081 := by
  rw [Int.natAbs_mul]
  exact Nat.mul_le_mul (show x.natAbs ≤ 9007199254740991 by omega) (show y.natAbs ≤ 9007199254740991 by omega)
theorem rmul_any (a1 a2 a3 b1 b2 b3 : Int) (w : World) :
    Calls Tryd.prog 16 #[rv a1 a2 a3, rv b1 b2 b3] w fun e w' => e = .returned (rtV (mulR a1 a2 a3 b1 b2 b3)) ∧ Below w.heap.size w w' := by
  by_cases h : isRoot a1 a2 a3 ∧ isRoot b1 b2 b3
  · have ha := h.1
    have hb := h.2
    unfold mulR
    rw [if_pos h]
    have q1 := prod_b ha.1 hb.1
    have q2 := prod_b ha.2.1 hb.2.1
    have q3 := prod_b ha.1 hb.2.1
    have q4 := prod_b ha.2.1 hb.1
    have tm : ∀ (x y : Int), x.natAbs < 65536 ^ 40 → y.natAbs < 65536 ^ 40 → ∀ (V : World) (d : Option Addr) (p o : Nat) (d' : Option Addr) (p' o' : Nat), II V d p o x → II V d' p' o' y → Calls Tryd.prog 41 #[.agg #[.int .i64 (sgn x), .slice d p o], .agg #[.int .i64 (sgn y), .slice d' p' o']] V fun e w' => IRet (x * y) e w' ∧ Below V.heap.size V w' :=
      fun x y hx hy V d p o d' p' o' h1 h2 => times_any x y d p o d' p' o' V h1 h2 (by have := h1.len hx; omega) (by have := h2.len hy; omega)
    have pl : ∀ (x y : Int), x.natAbs < 65536 ^ 40 → y.natAbs < 65536 ^ 40 → ∀ (V : World) (d : Option Addr) (p o : Nat) (d' : Option Addr) (p' o' : Nat), II V d p o x → II V d' p' o' y → Calls Tryd.prog 40 #[.agg #[.int .i64 (sgn x), .slice d p o], .agg #[.int .i64 (sgn y), .slice d' p' o']] V fun e w' => IRet (x + y) e w' ∧ Below V.heap.size V w' :=
      fun x y hx hy V d p o d' p' o' h1 h2 => rplus_any x y d p o d' p' o' V h1 h2 (by have := h1.len hx; omega) (by have := h2.len hy; omega)
    have e1 : a1 * b1 + a2 * b2 * 2 = a1 * b1 + 2 * (a2 * b2) := by omega
    rw [e1]
    have ha3 := ha.2.2.1
    have hb3 := hb.2.2.1
    refine rmul_core a1 a2 a3 b1 b2 b3 _ w ha3 hb3 (fun w => bad_no _ _ _ _ _ _ w ha hb) (fun w => of_any a1 w (by have := ha.1; omega) (by have := ha.1; omega)) (fun w => of_any a2 w (by have := ha.2.1; omega) (by have := ha.2.1; omega))
      (fun w => of_any b1 w (by have := hb.1; omega) (by have := hb.1; omega)) (fun w => of_any b2 w (by have := hb.2.1; omega) (by have := hb.2.1; omega)) (fun w => of_any 2 w (by omega) (by omega))
      (a1 * b1) (a2 * b2) (2 * (a2 * b2)) (a1 * b2) (a2 * b1) (a1 * b1 + 2 * (a2 * b2)) (a1 * b2 + a2 * b1)
      (tm a1 b1 (by have := ha.1; omega) (by have := hb.1; omega)) (tm a2 b2 (by have := ha.2.1; omega) (by have := hb.2.1; omega)) (tm 2 (a2 * b2) (by decide) (by omega)) (pl _ _ (by omega) (by omega))
      (tm a1 b2 (by have := ha.1; omega) (by have := hb.2.1; omega)) (tm a2 b1 (by have := ha.2.1; omega) (by have := hb.1; omega)) (pl _ _ (by omega) (by omega))
      (fun V d p o d' p' o' h1 h2 => ?_)
    have := rone_any (a1 * b1 + 2 * (a2 * b2)) (a1 * b2 + a2 * b1) (a3 + b3).toNat d p o d' p' o' V h1 h2 (by omega) (by omega) (by omega)
    rwa [Int.toNat_of_nonneg (by omega)] at this
  · unfold mulR
    rw [if_neg h]
    exact rmul_no a1 a2 a3 b1 b2 b3 w h
end Go.Proofs.YtalaacfoaelipaaDoor
