/-
  One column of a descent settled.
-/
import Derived.Test.YtinkdonaedoojaaS1
namespace Go.Proofs.Ytinkdonaedoojaa
open Go.RowKit

/-- Rows and the gates that were added. -/
structure Sp where
  f : Nat → Nat
  l : List (Nat × Nat)
/-- The column's own row given its one, when the rows ahead of k have been looked at. -/
def pr1 (f : Nat → Nat) (j k : Nat) : Sp := if (f j).testBit j = true then ⟨f, []⟩ else match fnd f j (j + 1) k with
  | none => ⟨f, []⟩
  | some i => ⟨adr f i j, [(i, j)]⟩
/-- The gates that clear the column, of rows ahead of k. -/
def clL (j : Nat) (f : Nat → Nat) : Nat → List (Nat × Nat)
  | 0 => []
  | k + 1 => if k ≠ j ∧ (f k).testBit j = true then clL j f k ++ [(j, k)] else clL j f k
theorem clL_len (j : Nat) (f : Nat → Nat) : ∀ k, (clL j f k).length ≤ k
  | 0 => Nat.le_refl _
  | k + 1 => by
    have := clL_len j f k
    unfold clL
    split
    · rw [List.length_append]; simp; omega
    · omega
theorem pr1_len (f : Nat → Nat) (j k : Nat) : (pr1 f j k).l.length ≤ 1 := by
  unfold pr1
  split
  · exact Nat.zero_le _
  · split
    · exact Nat.zero_le _
    · exact Nat.le_refl _
theorem adr_at (f : Nat → Nat) (p i : Nat) : adr f p i i = f i ^^^ f p := if_pos rfl
/-- Where the row has its one, looking further changes nothing. -/
theorem pr1_done (f : Nat → Nat) (j : Nat) : ∀ k l, ((pr1 f j k).f j).testBit j = true → k ≤ l → pr1 f j l = pr1 f j k := fun k l h hl => by
  unfold pr1 at h ⊢
  by_cases g : (f j).testBit j = true
  · rw [if_pos g, if_pos g]
  · rw [if_neg g] at h ⊢
    rw [if_neg g]
    cases e : fnd f j (j + 1) k with
    | none => rw [e] at h; exact absurd h g
    | some i => rw [fnd_mono f j (j + 1) i k l e hl]
/-- Where it has not, no row was met that has one. -/
theorem pr1_not (f : Nat → Nat) (j k : Nat) (h : ((pr1 f j k).f j).testBit j = false) : (f j).testBit j = false ∧ fnd f j (j + 1) k = none ∧ pr1 f j k = ⟨f, []⟩ := by
  unfold pr1 at h ⊢
  by_cases g : (f j).testBit j = true
  · rw [if_pos g] at h
    rw [show ((⟨f, []⟩ : Sp).f j).testBit j = (f j).testBit j from rfl, g] at h
    cases h
  · rw [if_neg g] at h ⊢
    cases e : fnd f j (j + 1) k with
    | none => exact ⟨by simpa using g, rfl, rfl⟩
    | some i =>
      rw [e] at h
      have h : (adr f i j j).testBit j = false := h
      rw [adr_at, Nat.testBit_xor, (fnd_lt f j (j + 1) k i e).2.2] at h
      have g' : (f j).testBit j = false := by simpa using g
      rw [g'] at h
      cases h
theorem pr1_yes (f : Nat → Nat) (j k : Nat) (hk : j < k) (h : ((pr1 f j k).f j).testBit j = false) (hb : (f k).testBit j = true) : pr1 f j (k + 1) = ⟨adr f k j, [(k, j)]⟩ := by
  obtain ⟨h1, h2, _⟩ := pr1_not f j k h
  unfold pr1
  rw [if_neg (by rw [h1]; simp)]
  have e : fnd f j (j + 1) (k + 1) = some k := by
    unfold fnd
    rw [h2]
    exact if_pos ⟨by omega, hb⟩
  rw [e]
theorem pr1_no (f : Nat → Nat) (j k : Nat) (h : ((pr1 f j k).f j).testBit j = false) (hb : ¬ (f k).testBit j = true) : pr1 f j (k + 1) = ⟨f, []⟩ := by
  obtain ⟨h1, h2, _⟩ := pr1_not f j k h
  unfold pr1
  rw [if_neg (by rw [h1]; simp)]
  have e : fnd f j (j + 1) (k + 1) = none := by
    unfold fnd
    rw [h2]
    exact if_neg (fun g => hb g.2)
  rw [e]
theorem pr1_start (f : Nat → Nat) (j : Nat) : pr1 f j (j + 1) = ⟨f, []⟩ := by
  unfold pr1
  split
  · rfl
  · rw [fnd_below f j (j + 1) (j + 1) (Nat.le_refl _)]
/-- What settling a column tells; what it makes. -/
def stB (n j : Nat) (f : Nat → Nat) : Bool := ((pr1 f j n).f j).testBit j
def stS (n j : Nat) (f : Nat → Nat) : Sp := if stB n j f = true then ⟨clr j j (pr1 f j n).f (pr1 f j n).f n, (pr1 f j n).l ++ clL j (pr1 f j n).f n⟩ else pr1 f j n
set_option maxHeartbeats 4000000 in
set_option maxRecDepth 100000 in
theorem settle_any (n d g c B j : Nat) (f : Nat → Nat) (l : List (Nat × Nat)) (w : World) (H : DS w B d g n c f l) (hn : n ≤ 64) (hj : j < n) (hl : l.length ≤ 4200) (hB : B ≤ w.heap.size) :
    Calls Try.prog 39 #[.pointer (some ⟨d, 0, none⟩), .int .i64 j] w fun e w' => e = .returned (.bool (stB n j f)) ∧ DS w' B d g n c (stS n j f).f (l ++ (stS n j f).l) ∧ F3 B w w' := by
  have AD := hid (fun (f : Nat → Nat) l p i w (H : DS w B d g n c f l) (hp : p < n) (hi : i < n) (hl : l.length ≤ 5000) (hB : B ≤ w.heap.size) => dadd_any n d g c B f l p i w H hp hi hl hB)
  have HD := hid H
  clear H
  go_enter Try.func39, Try.ntmps39
  go_wp2
  go_loopw [5] (fun i wx => ∃ k : Nat, j < k ∧ k ≤ n ∧ i = .int .i64 k ∧ Hid (DS wx B d g n c (pr1 f j k).f (l ++ (pr1 f j k).l)) ∧ Hid (F3 B w wx)) (fun i _ => n - (intOf i).toNat)
  case atStart => exact ⟨j + 1, by omega, by omega, by go_num, by rw [pr1_start]; simpa using HD, F3.refl _ _⟩
  case round =>
    clear HD
    obtain ⟨k, hjk, hk, rfl, HD, HF⟩ := hrel
    have hSL := pr1_len f j k
    by_cases hb1 : ((pr1 f j k).f j).testBit j = true
    case neg =>
      have hb0 : ((pr1 f j k).f j).testBit j = false := by simpa using hb1
      obtain ⟨hfb, _, hP⟩ := pr1_not f j k hb0
      have HY := hid (pr1_yes f j k hjk hb0)
      have HNO := hid (pr1_no f j k hb0)
      have HB0 := hid hb0
      rw [hP] at HD
      have HD2 : Hid (DS wr B d g n c f l) := by simpa using HD
      clear HD hb1 hb0
      obtain ⟨v, hK, _⟩ := HD2.out.bx
      have d0 := hK.cell
      have l0 := hK.lt
      have hc := HD2.out.rows.cell hj
      have hg := HD2.out.rows.gl
      have T : ∀ w, Calls Try.prog 41 #[.int .u64 (f j), .int .i64 j] w fun e w' => e = .returned (.bool false) ∧ w' = w := fun w => by
        have := has_any (f j) j w (HD2.out.rows.lt j hj) (by omega)
        rwa [hfb] at this
      clear hK hfb
      by_cases hkn : k < n
      case neg =>
        obtain rfl : k = n := by omega
        have hSB : Hid (stB k j f = false) := by exact HB0.out
        have hSS : Hid (stS k j f = ⟨f, []⟩) := by show stS k j f = _; unfold stS; rw [if_neg (by rw [hSB.out]; simp)]; exact hP
        clear hP
        go_wp2_with (go_at_call 41; (with_reducible refine (T _).mono ?_); rintro e w1 ⟨rfl, rfl⟩)
        go_ret
        rw [hSB.out, hSS.out]
        exact ⟨rfl, by simpa using HD2.out, HF.out⟩
      have hc2 := HD2.out.rows.cell hkn
      by_cases ht : (f k).testBit j = true
      · have T2 : ∀ w, Calls Try.prog 41 #[.int .u64 (f k), .int .i64 j] w fun e w' => e = .returned (.bool true) ∧ w' = w := fun w => by
          have := has_any (f k) j w (HD2.out.rows.lt k hkn) (by omega)
          rwa [ht] at this
        have E := AD.out f l k j wr HD2.out hkn hj (by omega) (by have := HF.out.1; omega)
        have HY2 := hid (HY.out ht)
        clear ht hP
        go_wp2_with (first
          | (go_at_call 41; (with_reducible refine (T _).mono ?_); rintro e w1 ⟨rfl, rfl⟩)
          | (go_at_call 41; (with_reducible refine (T2 _).mono ?_); rintro e w1 ⟨rfl, rfl⟩)
          | (go_at_call 48; (with_reducible refine E.mono ?_); rintro e w1 ⟨rfl, hD1, hF1⟩))
        exact ⟨⟨k + 1, by omega, by omega, by go_num, by rw [HY2.out]; exact hD1, HF.out.trans hF1⟩, by simp only [intOf]; omega⟩
      · have T2 : ∀ w, Calls Try.prog 41 #[.int .u64 (f k), .int .i64 j] w fun e w' => e = .returned (.bool false) ∧ w' = w := fun w => by
          have := has_any (f k) j w (HD2.out.rows.lt k hkn) (by omega)
          rwa [show (f k).testBit j = false by simpa using ht] at this
        have HN2 := hid (HNO.out ht)
        clear ht hP
        go_wp2_with (first
          | (go_at_call 41; (with_reducible refine (T _).mono ?_); rintro e w1 ⟨rfl, rfl⟩)
          | (go_at_call 41; (with_reducible refine (T2 _).mono ?_); rintro e w1 ⟨rfl, rfl⟩))
        exact ⟨⟨k + 1, by omega, by omega, by go_num, by rw [HN2.out]; simpa using HD2, HF⟩, by simp only [intOf]; omega⟩
    have hPN : pr1 f j n = pr1 f j k := pr1_done f j k n hb1 hk
    have hSB : Hid (stB n j f = true) := by show ((pr1 f j n).f j).testBit j = true; rw [hPN]; exact hb1
    have hSS : Hid (stS n j f = ⟨clr j j (pr1 f j k).f (pr1 f j k).f n, (pr1 f j k).l ++ clL j (pr1 f j k).f n⟩) := by
      show stS n j f = _
      unfold stS
      rw [if_pos hSB.out, hPN]
    clear hPN
    generalize pr1 f j k = s at *
    obtain ⟨sf, sl⟩ := s
    simp only at *
    obtain ⟨v, hK, _⟩ := HD.out.bx
    have d0 := hK.cell
    have l0 := hK.lt
    have hc := HD.out.rows.cell hj
    have hg := HD.out.rows.gl
    have T : ∀ w, Calls Try.prog 41 #[.int .u64 (sf j), .int .i64 j] w fun e w' => e = .returned (.bool true) ∧ w' = w := fun w => by
      have := has_any (sf j) j w (HD.out.rows.lt j hj) (by omega)
      rwa [hb1] at this
    have HD0 : Hid (DS wr B d g n c (clr j j sf sf 0) (l ++ sl ++ clL j sf 0)) := by
      rw [clr_zero]
      show DS _ _ _ _ _ _ _ (l ++ sl ++ [])
      rw [List.append_nil]
      exact HD.out
    have HLT := hid HD.out.rows.lt
    clear hK hb1 HD
    rcases Nat.lt_or_ge k n with hkn | hkn
    all_goals
      go_wp2_with (go_at_call 41; (with_reducible refine (T _).mono ?_); rintro e w1 ⟨rfl, rfl⟩)
      clear d0 l0 hc hg T hkn
      go_loopw [58] (fun i wx => ∃ q : Nat, q ≤ n ∧ i = .int .i64 q ∧ Hid (DS wx B d g n c (clr j j sf sf q) (l ++ sl ++ clL j sf q)) ∧ Hid (F3 B w wx)) (fun i _ => n - (intOf i).toNat)
      case atStart => exact ⟨0, Nat.zero_le _, rfl, HD0, HF⟩
      case round =>
        clear HD0 HF
        obtain ⟨q, hq, rfl, HD, HF⟩ := hrel
        obtain ⟨v, hK, _⟩ := HD.out.bx
        have d0 := hK.cell
        have l0 := hK.lt
        have hcl := clL_len j sf q
        clear hK
        by_cases hqn : q < n
        case neg =>
          obtain rfl : q = n := by omega
          go_wp2
          go_ret
          rw [hSB.out, hSS.out]
          refine ⟨rfl, ?_, HF.out⟩
          show DS _ _ _ _ _ _ _ (l ++ (sl ++ clL j sf q))
          rw [← List.append_assoc]
          exact HD.out
        have hc := HD.out.rows.cell hqn
        rw [clr_at] at hc
        have hg := HD.out.rows.gl
        by_cases hqj : q = j
        · have hx : ¬ (q ≠ j ∧ (sf q).testBit j = true) := fun x => x.1 hqj
          have HD2 : Hid (DS wr B d g n c (clr j j sf sf (q + 1)) (l ++ sl ++ clL j sf (q + 1))) := by
            show DS _ _ _ _ _ _ _ _
            rw [← clr_no j j sf sf q hx, clL, if_neg hx]
            exact HD.out
          have hqj' : ((q : Int) != (j : Int)) = false := by rw [hqj]; exact bne_self_eq_false' _
          clear hqj hx HD
          go_wp2
          exact ⟨⟨q + 1, by omega, by go_num, HD2, HF⟩, by simp only [intOf]; omega⟩
        have hqj' : ((q : Int) != (j : Int)) = true := bne_iff_ne.2 (by omega)
        by_cases ht : (sf q).testBit j = true
        · have E := AD.out _ _ j q wr HD.out hj hqn (by simp only [List.length_append]; omega) (by have := HF.out.1; omega)
          rw [clr_yes j j sf sf q hqj ht] at E
          have hx : q ≠ j ∧ (sf q).testBit j = true := ⟨hqj, ht⟩
          have HCL : Hid (clL j sf (q + 1) = clL j sf q ++ [(j, q)]) := by show _ = _; rw [clL, if_pos hx]
          have T2 : ∀ w, Calls Try.prog 41 #[.int .u64 (sf q), .int .i64 j] w fun e w' => e = .returned (.bool true) ∧ w' = w := fun w => by
            have := has_any (sf q) j w (HLT.out q hqn) (by omega)
            rwa [ht] at this
          clear ht hx hqj
          go_wp2_with (first
            | (go_at_call 41; (with_reducible refine (T2 _).mono ?_); rintro e w1 ⟨rfl, rfl⟩)
            | (go_at_call 48; (with_reducible refine E.mono ?_); rintro e w1 ⟨rfl, hD1, hF1⟩))
          exact ⟨⟨q + 1, by omega, by go_num, by rw [HCL.out, ← List.append_assoc]; exact hD1, HF.out.trans hF1⟩, by simp only [intOf]; omega⟩
        · have hx : ¬ (q ≠ j ∧ (sf q).testBit j = true) := fun x => ht x.2
          have HD2 : Hid (DS wr B d g n c (clr j j sf sf (q + 1)) (l ++ sl ++ clL j sf (q + 1))) := by
            show DS _ _ _ _ _ _ _ _
            rw [← clr_no j j sf sf q hx, clL, if_neg hx]
            exact HD.out
          have T2 : ∀ w, Calls Try.prog 41 #[.int .u64 (sf q), .int .i64 j] w fun e w' => e = .returned (.bool false) ∧ w' = w := fun w => by
            have := has_any (sf q) j w (HLT.out q hqn) (by omega)
            rwa [show (sf q).testBit j = false by simpa using ht] at this
          clear ht hx hqj HD
          go_wp2_with (go_at_call 41; (with_reducible refine (T2 _).mono ?_); rintro e w1 ⟨rfl, rfl⟩)
          exact ⟨⟨q + 1, by omega, by go_num, HD2, HF⟩, by simp only [intOf]; omega⟩
end Go.Proofs.Ytinkdonaedoojaa
