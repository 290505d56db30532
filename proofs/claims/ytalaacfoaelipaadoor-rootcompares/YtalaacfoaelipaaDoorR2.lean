/-
  The reference's even, part and half.
-/
import Derived.Test.YtalaacfoaelipaaDoorR1
import Derived.Deep.CutRange
namespace Go.Proofs.YtalaacfoaelipaaDoor
open Go.RowKit Go.Sort

theorem nv_mod2 (l : List Nat) : nv l % 2 = gd l 0 % 2 := by
  cases l with
  | nil => rfl
  | cons d l => show (d + 65536 * nv l) % 2 = d % 2; omega
theorem even_b (n d : Nat) (h : ¬ n = 0) : (((n : Int) == 0) || ((d : Int) % 2 == 0)) = decide ((d : Int) % 2 = 0) := by
  have e : ((n : Int) == 0) = false := by simpa using h
  rw [e]; rfl
set_option maxHeartbeats 400000 in
theorem even_any (s z : Int) (a : Option Addr) (n c : Nat) (w : World) (h : II w a n c z) :
    Calls Tryd.prog 56 #[.agg #[.int .i64 s, .slice a n c]] w fun e w' => e = .returned (.bool (decide (z % 2 = 0))) ∧ Below w.heap.size w w' := by
  obtain ⟨l, rfl, hr, hd, hm, hz, hc1, hc2⟩ := h.ex
  have h2 := nv_mod2 l
  have h3 := hd.at_ 0
  by_cases h0 : l.length = 0
  · have e : decide (z % 2 = 0) = true := by
      have : nv l = 0 := by rw [List.length_eq_zero_iff.1 h0]; rfl
      simp; omega
    rw [e, h0]
    clear e h2 h3 hr hd hm hz hc1
    go_enter Tryd.func56, Tryd.ntmps56
    go_wp2
    go_ret
    exact ⟨rfl, bal (Below.refl _ _) _⟩
  · obtain ⟨B, rfl, hcell, _⟩ := hr.at_ 0 (by omega)
    have hB : B < w.heap.size := block_lt_of_cell hcell
    have e : decide (z % 2 = 0) = decide (((gd l 0 : Nat) : Int) % 2 = 0) := by congr 1; simp only [eq_iff_iff]; omega
    rw [e]
    clear e h2 hr hd hm hz h
    generalize gd l 0 = d at *
    generalize l.length = n at *
    go_enter Tryd.func56, Tryd.ntmps56
    go_wp2
    go_ret
    exact ⟨by rw [even_b _ _ h0]; rfl, bal (Below.refl _ _) _⟩

theorem part_step (l : List Nat) (i : Nat) (hi : i < l.length) : nv (l.drop i) = nv (l.drop (i + 1)) * 65536 + gd l i := by rw [nv_drop l i hi]; omega
theorem part_big (l : List Nat) (i : Nat) (hi : i ≤ l.length) (h : 1 ≤ i) (hv : 137438953471 < nv (l.drop i)) : 9007199254740991 < nv l := by
  have h1 := nv_split l i hi
  have h2 : 65536 ^ 1 ≤ 65536 ^ i := Nat.pow_le_pow_right (by decide) h
  have h3 : 65536 ^ 1 * nv (l.drop i) ≤ 65536 ^ i * nv (l.drop i) := Nat.mul_le_mul_right _ h2
  omega
set_option maxHeartbeats 400000 in
theorem part_core (z rz : Int) (rb : Bool) (a : Option Addr) (l : List Nat) (c : Nat) (w : World) (hr : Row a l w) (hd : Dg l) (hm : Nm l) (hz : nv l = z.natAbs)
    (hyes : nv l ≤ 9007199254740991 → rz = z ∧ rb = true) (hno : 9007199254740991 < nv l → rz = 0 ∧ rb = false) :
    Calls Tryd.prog 58 #[.agg #[.int .i64 (sgn z), .slice a l.length c]] w fun e w' => e = .returned (.tuple #[.int .i64 rz, .bool rb]) ∧ Below w.heap.size w w' := by
  have HR : Hid (Row a l w) := hr
  have HZ : Hid (nv l = z.natAbs) := hz
  have HY : Hid (nv l ≤ 9007199254740991 → rz = z ∧ rb = true) := hyes
  have HN : Hid (9007199254740991 < nv l → rz = 0 ∧ rb = false) := hno
  have HD : Hid (Dg l) := hd
  have h4 : 4 < l.length → 9007199254740991 < nv l := fun h => by
    have h1 := nm_le hm (by intro e; rw [e] at h; simp at h)
    have h2 : 65536 ^ 4 ≤ 65536 ^ (l.length - 1) := Nat.pow_le_pow_right (by decide) (by omega)
    omega
  clear hr hz hyes hno hd hm
  by_cases hl : 4 < l.length
  · obtain ⟨rfl, rfl⟩ := HN.out (h4 hl)
    clear h4
    generalize l.length = n at *
    go_enter Tryd.func58, Tryd.ntmps58
    go_wp2
    go_ret2
    exact ⟨rfl, bal (Below.refl _ _) _⟩
  · clear h4
    generalize hn : l.length = n at *
    have HL : Hid (l.length = n) := hn
    clear hn
    go_enter Tryd.func58, Tryd.ntmps58
    go_wp2
    go_loop [4, 5] (fun v i => ∃ k : Nat, k ≤ n ∧ i = .int .i64 ((k : Int) - 1) ∧ v = .int .i64 (nv (l.drop k) : Nat)) (fun _ i => (intOf i + 1).toNat)
    case atStart => exact ⟨n, by omega, rfl, by rw [nv_drop_ge (by have := HL.out; omega)]; rfl⟩
    case round =>
      obtain ⟨k, hk, rfl, rfl⟩ := hrel
      by_cases hk0 : k = 0
      · subst hk0
        have e0 : nv (l.drop 0) = nv l := by simp
        rw [e0]
        have hnn := HZ.out
        by_cases hb : 9007199254740991 < nv l
        · obtain ⟨rfl, rfl⟩ := HN.out hb
          generalize nv l = V at *
          go_wp2
          go_ret2
          exact ⟨rfl, bal (Below.refl _ _) _⟩
        · obtain ⟨rfl, rfl⟩ := HY.out (by omega)
          by_cases hs : rz < 0
          · have e1 : sgn rz = -1 := by unfold sgn; rw [if_pos hs]
            rw [e1]
            have e2 : -((nv l : Nat) : Int) = rz := by omega
            generalize nv l = V at *
            clear hnn hs e1 e0 HZ HY HN HD HR HL
            go_wp2
            go_ret2
            exact ⟨by first | rfl | rw [e2], bal (Below.refl _ _) _⟩
          · have e1 : ¬ sgn rz < 0 := by unfold sgn; rw [if_neg hs]; split <;> omega
            have e2 : ((nv l : Nat) : Int) = rz := by omega
            rw [e2]
            have b1 : rz ≤ 9007199254740991 := by omega
            generalize sgn rz = S at *
            clear hnn e0 HZ HY HN HD HR HL e2 hb
            go_wp2
            go_ret2
            exact ⟨rfl, bal (Below.refl _ _) _⟩
      · obtain ⟨m, rfl⟩ : ∃ m, k = m + 1 := ⟨k - 1, by omega⟩
        clear hk0
        obtain ⟨B, rfl, hcell, _⟩ := HR.out.at_ m (by have := HL.out; omega)
        have hB : B < w.heap.size := block_lt_of_cell hcell
        have hdm := HD.out.at_ m
        by_cases hb : 137438953471 < nv (l.drop (m + 1))
        · obtain ⟨rfl, rfl⟩ := HN.out (part_big l (m + 1) (by have := HL.out; omega) (by omega) hb)
          generalize nv (l.drop (m + 1)) = V at *
          go_wp2
          go_ret2
          exact ⟨rfl, bal (Below.refl _ _) _⟩
        · have HS : Hid _ := part_step l m (by have := HL.out; omega)
          generalize nv (l.drop (m + 1)) = V at *
          generalize gd l m = d at *
          go_wp2
          go_round
          case rel => exact ⟨m, by omega, by go_num, by rw [HS.out]; go_num⟩
          case measure => simp [intOf]
theorem part_yes (z : Int) (a : Option Addr) (n c : Nat) (w : World) (h : II w a n c z) (hz : -9007199254740991 ≤ z ∧ z ≤ 9007199254740991) :
    Calls Tryd.prog 58 #[.agg #[.int .i64 (sgn z), .slice a n c]] w fun e w' => e = .returned (.tuple #[.int .i64 z, .bool true]) ∧ Below w.heap.size w w' := by
  obtain ⟨l, rfl, hr, hd, hm, hv, _, _⟩ := h.ex
  exact part_core z z true a l c w hr hd hm hv (fun _ => ⟨rfl, rfl⟩) (fun h => by omega)
theorem part_no (z : Int) (a : Option Addr) (n c : Nat) (w : World) (h : II w a n c z) (hz : ¬ (-9007199254740991 ≤ z ∧ z ≤ 9007199254740991)) :
    Calls Tryd.prog 58 #[.agg #[.int .i64 (sgn z), .slice a n c]] w fun e w' => e = .returned (.tuple #[.int .i64 0, .bool false]) ∧ Below w.heap.size w w' := by
  obtain ⟨l, rfl, hr, hd, hm, hv, _, _⟩ := h.ex
  exact part_core z 0 false a l c w hr hd hm hv (fun h => by omega) (fun _ => ⟨rfl, rfl⟩)
end Go.Proofs.YtalaacfoaelipaaDoor
