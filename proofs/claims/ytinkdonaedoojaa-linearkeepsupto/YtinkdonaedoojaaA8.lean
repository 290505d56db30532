/-
  Rows exchanged and added.
-/
import Derived.Test.YtinkdonaedoojaaA7
namespace Go.Proofs.Ytinkdonaedoojaa
open Go.RowKit

/-- Two values exchanged. -/
def swp (f : Nat → Nat) (i j : Nat) : Nat → Nat := up (up f i (f j)) j (f i)
/-- A row added to another one. -/
def adr (f : Nat → Nat) (p i : Nat) : Nat → Nat := up f i (f i ^^^ f p)
theorem OR.drew {W : World} {g n : Nat} {f : Nat → Nat} (h : OR W g n f) : OR W.drew g n f := h.of_block rfl
abbrev s2 (g1 g2 n c1 c2 : Nat) : Array Value := #[.slice (some ⟨g1, 0, none⟩) n c1, .slice (some ⟨g2, 0, none⟩) n c2]
set_option maxHeartbeats 2000000 in
set_option maxRecDepth 100000 in
theorem add_any (n g1 g2 c1 c2 p i : Nat) (f h : Nat → Nat) (w : World) (H1 : OR w g1 n f) (H2 : OR w g2 n h) (hne : g1 ≠ g2) (hp : p < n) (hi : i < n) :
    Calls Try.prog 51 #[.agg (s2 g1 g2 n c1 c2), .int .i64 p, .int .i64 i] w fun e w' => e = .returned (.tuple #[]) ∧ OR w' g1 n (adr f p i) ∧ OR w' g2 n (adr h p i) ∧ G2 g1 g2 w w' := by
  have K0 := bk_new w (s2 g1 g2 n c1 c2) 70
  have O1 := H1.on (bal (Below.refl w.heap.size w) (.cells (s2 g1 g2 n c1 c2) 70))
  have O2 := H2.on (bal (Below.refl w.heap.size w) (.cells (s2 g1 g2 n c1 c2) 70))
  have G0 : G2 g1 g2 w (w.alloc (.cells (s2 g1 g2 n c1 c2) 70)) := G2.of (bal (Below.refl _ _) _)
  have hl1 := H1.gl
  have hl2 := H2.gl
  clear H1 H2
  generalize hV : w.alloc (.cells (s2 g1 g2 n c1 c2) 70) = V at *
  have HV := hid hV
  clear hV
  have d0 := K0.cell
  have l0 := K0.lt
  have x1 := O1.cell hp
  have x2 := O1.cell hi
  have x3 := O1.free i
  have x4 := O1.gl
  have b1 := O1.lt i hi
  have b2 := O1.lt p hp
  have e1 := i_xor (f i) (f p) b1 b2
  have O1b := hid (O1.set i (f i ^^^ f p) (xor_lt b1 b2)).drew
  have O2b := hid (O2.far (b := g1) (o := i) hne.symm (.int .u64 ((f i ^^^ f p : Nat) : Int))).drew
  have K0b := hid (BK.drew (K0.far (c := g1) (by omega) i (.int .u64 ((f i ^^^ f p : Nat) : Int))))
  have G0b := hid ((G0.set g1 i (.int .u64 ((f i ^^^ f p : Nat) : Int)) (.inl rfl)).below (below_drew (Below.refl _ _)))
  clear K0 O1 O2 G0
  go_enter Try.func51, Try.ntmps51
  go_upto_region 1 with (fail)
  rw [show w.alloc (.cells (s2 g1 g2 n c1 c2) 70) = V from HV.out]
  go_region
  all_goals
    generalize (V.setCell ⟨g1, i, none⟩ (.int .u64 ((f i ^^^ f p : Nat) : Int))).drew = X at *
    clear d0 l0 x1 x2 x3 x4 b1 b2 e1 HV
    have d0 := K0b.out.cell
    have l0 := K0b.out.lt
    have x1 := O2b.out.cell hp
    have x2 := O2b.out.cell hi
    have x3 := O2b.out.free i
    have x4 := O2b.out.gl
    have b1 := O2b.out.lt i hi
    have b2 := O2b.out.lt p hp
    have e1 := i_xor (h i) (h p) b1 b2
    have O2c := hid (O2b.out.set i (h i ^^^ h p) (xor_lt b1 b2)).drew
    have O1c := hid (O1b.out.far (b := g2) (o := i) hne (.int .u64 ((h i ^^^ h p : Nat) : Int))).drew
    have G0c := hid ((G0b.out.set g2 i (.int .u64 ((h i ^^^ h p : Nat) : Int)) (.inr (.inl rfl))).below (below_drew (Below.refl _ _)))
    clear O1b O2b K0b G0b
    go_wp2
    go_region
    all_goals
      go_wp2
      go_end0
      exact ⟨rfl, O1c.out, O2c.out, G0c.out⟩
theorem swp_set {W : World} {g n i j : Nat} {f : Nat → Nat} (O : OR W g n f) (hi : i < n) (hj : j < n) : OR ((W.setCell ⟨g, i, none⟩ (.int .u64 (f j : Int))).setCell ⟨g, j, none⟩ (.int .u64 (f i : Int))) g n (swp f i j) := (O.set i _ (O.lt j hj)).set j _ (O.lt i hi)
set_option maxHeartbeats 2000000 in
set_option maxRecDepth 100000 in
theorem exch_any (n g1 g2 c1 c2 i j : Nat) (f h : Nat → Nat) (w : World) (H1 : OR w g1 n f) (H2 : OR w g2 n h) (hne : g1 ≠ g2) (hi : i < n) (hj : j < n) :
    Calls Try.prog 50 #[.agg (s2 g1 g2 n c1 c2), .int .i64 i, .int .i64 j] w fun e w' => e = .returned (.tuple #[]) ∧ OR w' g1 n (swp f i j) ∧ OR w' g2 n (swp h i j) ∧ G2 g1 g2 w w' := by
  have K0 := bk_new w (s2 g1 g2 n c1 c2) 70
  have O1 := H1.on (bal (Below.refl w.heap.size w) (.cells (s2 g1 g2 n c1 c2) 70))
  have O2 := H2.on (bal (Below.refl w.heap.size w) (.cells (s2 g1 g2 n c1 c2) 70))
  have G0 : G2 g1 g2 w (w.alloc (.cells (s2 g1 g2 n c1 c2) 70)) := G2.of (bal (Below.refl _ _) _)
  have hl1 := H1.gl
  have hl2 := H2.gl
  clear H1 H2
  generalize hV : w.alloc (.cells (s2 g1 g2 n c1 c2) 70) = V at *
  have HV := hid hV
  clear hV
  have d0 := K0.cell
  have l0 := K0.lt
  have x1 := O1.cell hi
  have x2 := O1.cell hj
  have x3 := O1.free i
  have x4 := O1.gl
  have x5 := O1.free j
  have y1 : ((V.setCell ⟨g1, i, none⟩ (.int .u64 (f j : Int))).drew).cell? ⟨g1, j, none⟩ = some (.int .u64 (up f i (f j) j : Int)) := (O1.set i _ (O1.lt j hj)).cell hj
  have y2 : ((V.setCell ⟨g1, i, none⟩ (.int .u64 (f j : Int))).drew).frozen? ⟨g1, j, none⟩ = false := (O1.set i _ (O1.lt j hj)).free j
  have O1b := hid (swp_set O1 hi hj).drew
  have O2b := hid ((O2.far (b := g1) (o := i) hne.symm (.int .u64 (f j : Int))).far (b := g1) (o := j) hne.symm (.int .u64 (f i : Int))).drew
  have K0b := hid (BK.drew ((K0.far (c := g1) (by omega) i (.int .u64 (f j : Int))).far (c := g1) (by omega) j (.int .u64 (f i : Int))))
  have G0b := hid (((G0.set g1 i (.int .u64 (f j : Int)) (.inl rfl)).set g1 j (.int .u64 (f i : Int)) (.inl rfl)).below (below_drew (Below.refl _ _)))
  clear K0 O1 O2 G0
  go_enter Try.func50, Try.ntmps50
  go_upto_region 1 with (fail)
  rw [show w.alloc (.cells (s2 g1 g2 n c1 c2) 70) = V from HV.out]
  go_region
  all_goals
    generalize ((V.setCell ⟨g1, i, none⟩ (.int .u64 (f j : Int))).setCell ⟨g1, j, none⟩ (.int .u64 (f i : Int))).drew = X at *
    clear d0 l0 x1 x2 x3 x4 x5 y1 y2 HV
    have d0 := K0b.out.cell
    have l0 := K0b.out.lt
    have x1 := O2b.out.cell hi
    have x2 := O2b.out.cell hj
    have x3 := O2b.out.free i
    have x4 := O2b.out.gl
    have x5 := O2b.out.free j
    have y1 : ((X.setCell ⟨g2, i, none⟩ (.int .u64 (h j : Int))).drew).cell? ⟨g2, j, none⟩ = some (.int .u64 (up h i (h j) j : Int)) := (O2b.out.set i _ (O2b.out.lt j hj)).cell hj
    have y2 : ((X.setCell ⟨g2, i, none⟩ (.int .u64 (h j : Int))).drew).frozen? ⟨g2, j, none⟩ = false := (O2b.out.set i _ (O2b.out.lt j hj)).free j
    have O2c := hid (swp_set O2b.out hi hj).drew
    have O1c := hid ((O1b.out.far (b := g2) (o := i) hne (.int .u64 (h j : Int))).far (b := g2) (o := j) hne (.int .u64 (h i : Int))).drew
    have G0c := hid (((G0b.out.set g2 i (.int .u64 (h j : Int)) (.inr (.inl rfl))).set g2 j (.int .u64 (h i : Int)) (.inr (.inl rfl))).below (below_drew (Below.refl _ _)))
    clear O1b O2b K0b G0b
    go_wp2
    go_region
    all_goals
      go_wp2
      go_end0
      exact ⟨rfl, O1c.out, O2c.out, G0c.out⟩
end Go.Proofs.Ytinkdonaedoojaa
