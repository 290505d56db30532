/-
  linear.turn.
-/
import Derived.Test.YtinkdonaedoojaaA8
import Derived.Test.YtinkdonaedoojaaAI
namespace Go.Proofs.Ytinkdonaedoojaa
open Go.RowKit

/-- A gate's name. -/
abbrev cxN : ByteArray := ⟨#[99, 120]⟩
abbrev swN : ByteArray := ⟨#[115, 119, 97, 112]⟩
abbrev ocs (k : Int) (nm : ByteArray) (q : Option Addr) (ql qc : Nat) (ob : Int) (fl : Bool) (om ov : Int) : Array Value := #[.int .i64 k, .string nm, .slice q ql qc, .int .i64 ob, .bool fl, .int .u64 om, .int .u64 ov]
set_option maxHeartbeats 2000000 in
set_option maxRecDepth 100000 in
theorem turn_cx (n g cr bq oq cq a b : Nat) (f : Nat → Nat) (ob om ov : Int) (w : World) (H : OR w g n f) (h0 : w.cell? ⟨bq, oq, none⟩ = some (.int .i64 a)) (h1 : w.cell? ⟨bq, oq + 1, none⟩ = some (.int .i64 b)) (hq : bq < w.heap.size) (ha : a < n) (hb : b < n) :
    Calls Try.prog 36 #[.slice (some ⟨g, 0, none⟩) n cr, .agg (ocs 1 cxN (some ⟨bq, oq, none⟩) 2 cq ob false om ov)] w fun e w' => e = .returned (.bool true) ∧ OR w' g n (up f b (f b ^^^ f a)) ∧ G2 g g w w' := by
  have K0 := bk_new w (ocs 1 cxN (some ⟨bq, oq, none⟩) 2 cq ob false om ov) 58
  have O1 := H.on (bal (Below.refl w.heap.size w) (.cells (ocs 1 cxN (some ⟨bq, oq, none⟩) 2 cq ob false om ov) 58))
  have hv : Below w.heap.size w (w.alloc (.cells (ocs 1 cxN (some ⟨bq, oq, none⟩) 2 cq ob false om ov) 58)) := bal (Below.refl _ _) _
  have G0 : G2 g g w (w.alloc (.cells (ocs 1 cxN (some ⟨bq, oq, none⟩) 2 cq ob false om ov) 58)) := G2.of hv
  have h0' := (hv.cell (p := ⟨bq, oq, none⟩) hq).trans h0
  have h1' := (hv.cell (p := ⟨bq, oq + 1, none⟩) hq).trans h1
  have hq' := Nat.lt_of_lt_of_le hq hv.size
  have hl1 := H.gl
  have l1 := H.lt b hb
  have l2 := H.lt a ha
  clear H h0 h1 hq hv
  generalize hV : w.alloc (.cells (ocs 1 cxN (some ⟨bq, oq, none⟩) 2 cq ob false om ov) 58) = V at *
  have HV := hid hV
  clear hV
  have x1 := O1.cell ha
  have x2 := O1.cell hb
  have x3 := O1.free b
  have x4 := O1.gl
  have d0 := K0.cell
  have l0 := K0.lt
  have e1 := i_xor (f b) (f a) l1 l2
  have O1b := hid (O1.set b _ (Nat.xor_lt_two_pow (n := 64) l1 l2)).drew
  have G0b := hid ((G0.set g b (.int .u64 ((f b ^^^ f a : Nat) : Int)) (.inl rfl)).below (below_drew (Below.refl _ _)))
  clear K0 O1 G0
  go_enter Try.func36, Try.ntmps36
  go_upto_region 6 with (fail)
  rw [show w.alloc (.cells (ocs 1 cxN (some ⟨bq, oq, none⟩) 2 cq ob false om ov) 58) = V from HV.out]
  go_region
  all_goals
    go_wp2
    go_ret
    exact ⟨rfl, O1b.out, G0b.out⟩
set_option maxHeartbeats 2000000 in
set_option maxRecDepth 100000 in
theorem turn_sw (n g cr bq oq cq a b : Nat) (f : Nat → Nat) (ob om ov : Int) (w : World) (H : OR w g n f) (h0 : w.cell? ⟨bq, oq, none⟩ = some (.int .i64 a)) (h1 : w.cell? ⟨bq, oq + 1, none⟩ = some (.int .i64 b)) (hq : bq < w.heap.size) (ha : a < n) (hb : b < n) :
    Calls Try.prog 36 #[.slice (some ⟨g, 0, none⟩) n cr, .agg (ocs 1 swN (some ⟨bq, oq, none⟩) 2 cq ob false om ov)] w fun e w' => e = .returned (.bool true) ∧ OR w' g n (swp f a b) ∧ G2 g g w w' := by
  have K0 := bk_new w (ocs 1 swN (some ⟨bq, oq, none⟩) 2 cq ob false om ov) 58
  have O1 := H.on (bal (Below.refl w.heap.size w) (.cells (ocs 1 swN (some ⟨bq, oq, none⟩) 2 cq ob false om ov) 58))
  have hv : Below w.heap.size w (w.alloc (.cells (ocs 1 swN (some ⟨bq, oq, none⟩) 2 cq ob false om ov) 58)) := bal (Below.refl _ _) _
  have G0 : G2 g g w (w.alloc (.cells (ocs 1 swN (some ⟨bq, oq, none⟩) 2 cq ob false om ov) 58)) := G2.of hv
  have h0' := (hv.cell (p := ⟨bq, oq, none⟩) hq).trans h0
  have h1' := (hv.cell (p := ⟨bq, oq + 1, none⟩) hq).trans h1
  have hq' := Nat.lt_of_lt_of_le hq hv.size
  have hl1 := H.gl
  clear H h0 h1 hq hv
  generalize hV : w.alloc (.cells (ocs 1 swN (some ⟨bq, oq, none⟩) 2 cq ob false om ov) 58) = V at *
  have HV := hid hV
  clear hV
  have d0 := K0.cell
  have l0 := K0.lt
  go_enter Try.func36, Try.ntmps36
  go_upto_region 8 with (fail)
  rw [show w.alloc (.cells (ocs 1 swN (some ⟨bq, oq, none⟩) 2 cq ob false om ov) 58) = V from HV.out]
  go_region
  all_goals
    clear HV h0' h1' d0 l0
    have O2 := O1.drew
    have G2a := G0.below (below_drew (Below.refl _ _))
    generalize V.drew = X at *
    have x1 := O2.cell ha
    have x2 := O2.cell hb
    have x3 := O2.free a
    have x4 := O2.gl
    have x5 := O2.free b
    have y1 : ((X.setCell ⟨g, a, none⟩ (.int .u64 (f b : Int))).drew).cell? ⟨g, b, none⟩ = some (.int .u64 (up f a (f b) b : Int)) := (O2.set a _ (O2.lt b hb)).cell hb
    have y2 : ((X.setCell ⟨g, a, none⟩ (.int .u64 (f b : Int))).drew).frozen? ⟨g, b, none⟩ = false := (O2.set a _ (O2.lt b hb)).free b
    have O1b := hid (swp_set O2 ha hb).drew
    have G0b := hid (((G2a.set g a (.int .u64 (f b : Int)) (.inl rfl)).set g b (.int .u64 (f a : Int)) (.inl rfl)).below (below_drew (Below.refl _ _)))
    clear O2 G2a O1 G0 K0
    go_wp2
    go_region
    all_goals
      go_wp2
      go_ret
      exact ⟨rfl, O1b.out, G0b.out⟩
set_option maxHeartbeats 2000000 in
set_option maxRecDepth 100000 in
theorem turn_no (k : Int) (nm : ByteArray) (q : Option Addr) (ql qc : Nat) (ob : Int) (fl : Bool) (om ov : Int) (v0 : Value) (w : World) (h : (k != 1) = true ∨ fl = true ∨ ((nm.toList == [99, 120]) = false ∧ (nm.toList == [115, 119, 97, 112]) = false)) :
    Calls Try.prog 36 #[v0, .agg (ocs k nm q ql qc ob fl om ov)] w fun e w' => e = .returned (.bool false) ∧ Below w.heap.size w w' := by
  have HB := hid (bal (Below.refl w.heap.size w) (.cells (ocs k nm q ql qc ob fl om ov) 58))
  cases hk : (k != 1)
  · rw [hk] at h
    have hk2 : k = 1 := by simpa using hk
    subst hk2
    cases fl
    · obtain ⟨h1, h2⟩ : (nm.toList == [99, 120]) = false ∧ (nm.toList == [115, 119, 97, 112]) = false := by
        rcases h with h | h | h
        · cases h
        · cases h
        · exact h
      go_enter Try.func36, Try.ntmps36
      go_wp2
      go_ret
      exact ⟨rfl, HB.out⟩
    · go_enter Try.func36, Try.ntmps36
      go_wp2
      go_ret
      exact ⟨rfl, HB.out⟩
  · have hk2 : ¬ k = 1 := by simpa using hk
    clear h
    go_enter Try.func36, Try.ntmps36
    go_wp2
    go_ret
    exact ⟨rfl, HB.out⟩
end Go.Proofs.Ytinkdonaedoojaa
