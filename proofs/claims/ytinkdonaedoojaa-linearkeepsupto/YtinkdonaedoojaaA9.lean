/-
  A row lifted, a column cleared, rows reduced.
-/
import Derived.Test.YtinkdonaedoojaaA8
namespace Go.Proofs.Ytinkdonaedoojaa
open Go.RowKit

/-- The first row from p on that has a one in column j, among the first k. -/
def fnd (f : Nat → Nat) (j p : Nat) : Nat → Option Nat
  | 0 => none
  | k + 1 => match fnd f j p k with
    | some i => some i
    | none => if p ≤ k ∧ (f k).testBit j = true then some k else none
theorem fnd_lt (f : Nat → Nat) (j p : Nat) : ∀ k i, fnd f j p k = some i → i < k ∧ p ≤ i ∧ (f i).testBit j = true
  | 0, i, h => by cases h
  | k + 1, i, h => by
    unfold fnd at h
    cases e : fnd f j p k with
    | some x =>
      rw [e] at h
      cases h
      have := fnd_lt f j p k i e
      exact ⟨by omega, this.2⟩
    | none =>
      rw [e] at h
      by_cases g : p ≤ k ∧ (f k).testBit j = true
      · simp only [if_pos g] at h
        cases h
        exact ⟨by omega, g⟩
      · simp only [if_neg g] at h
        cases h
theorem fnd_no (f : Nat → Nat) (j p : Nat) : ∀ k, fnd f j p k = none → ∀ i, i < k → p ≤ i → (f i).testBit j = false
  | 0, _, i, hi, _ => by omega
  | k + 1, h, i, hi, hp => by
    unfold fnd at h
    cases e : fnd f j p k with
    | some x => rw [e] at h; cases h
    | none =>
      rw [e] at h
      by_cases g : p ≤ k ∧ (f k).testBit j = true
      · simp only [if_pos g] at h; cases h
      · by_cases hk : i = k
        · subst hk
          have : ¬ (f i).testBit j = true := fun t => g ⟨hp, t⟩
          simpa using this
        · exact fnd_no f j p k e i (by omega) hp
theorem fnd_mono (f : Nat → Nat) (j p i : Nat) : ∀ k l, fnd f j p k = some i → k ≤ l → fnd f j p l = some i := fun k l h hl => by
  induction l with
  | zero => have : k = 0 := by omega
            rw [← this]; exact h
  | succ l ih =>
    by_cases e : k = l + 1
    · rw [← e]; exact h
    · unfold fnd
      rw [ih (by omega)]
/-- What lifting makes of numbers u. -/
def lft (f u : Nat → Nat) (j p n : Nat) : Nat → Nat := match fnd f j p n with
  | none => u
  | some i => swp u i p
set_option maxHeartbeats 2000000 in
set_option maxRecDepth 100000 in
theorem lift_any (n g1 g2 c1 c2 p j : Nat) (f h : Nat → Nat) (w : World) (H1 : OR w g1 n f) (H2 : OR w g2 n h) (hne : g1 ≠ g2) (hn : n ≤ 64) (hp : p < n) (hj : j < 64) :
    Calls Try.prog 43 #[.agg (s2 g1 g2 n c1 c2), .int .i64 p, .int .i64 j] w fun e w' => e = .returned (.bool (fnd f j p n).isSome) ∧ OR w' g1 n (lft f f j p n) ∧ OR w' g2 n (lft f h j p n) ∧ G2 g1 g2 w w' := by
  have K0 := bk_new w (s2 g1 g2 n c1 c2) 70
  have O1 := hid (H1.on (bal (Below.refl w.heap.size w) (.cells (s2 g1 g2 n c1 c2) 70)))
  have O2 := hid (H2.on (bal (Below.refl w.heap.size w) (.cells (s2 g1 g2 n c1 c2) 70)))
  have G0 : Hid (G2 g1 g2 w (w.alloc (.cells (s2 g1 g2 n c1 c2) 70))) := G2.of (bal (Below.refl _ _) _)
  have HT := hid (fun k (hk : k < n) w => has_any (f k) j w (H1.lt k hk) hj)
  have EX := hid (fun i (hi : i < n) => exch_any n g1 g2 c1 c2 i p f h (w.alloc (.cells (s2 g1 g2 n c1 c2) 70)) O1.out O2.out hne hi hp)
  clear H1 H2
  generalize hV : w.alloc (.cells (s2 g1 g2 n c1 c2) 70) = V at *
  have HV := hid hV
  clear hV
  have d0 := K0.cell
  have l0 := K0.lt
  go_enter Try.func43, Try.ntmps43
  go_upto_region 1 with (fail)
  rw [show w.alloc (.cells (s2 g1 g2 n c1 c2) 70) = V from HV.out]
  go_wp2
  go_loop [11] (fun i => ∃ k : Nat, k ≤ n ∧ i = .int .i64 k ∧ Hid (fnd f j p k = none)) (fun i => n - (intOf i).toNat)
  case atStart => exact ⟨0, Nat.zero_le _, rfl, rfl⟩
  case round =>
    obtain ⟨k, hk, rfl, HN⟩ := hrel
    by_cases hlt : k < n
    · have hc := O1.out.cell hlt
      have hg := O1.out.gl
      have T := HT.out k hlt
      have E := EX.out k hlt
      by_cases hpk : p ≤ k
      · by_cases ht : (f k).testBit j = true
        · have hF : fnd f j p (k + 1) = some k := by
            have e := HN.out
            unfold fnd
            rw [e]
            exact if_pos ⟨hpk, ht⟩
          have hF2 := fnd_mono f j p k (k + 1) n hF hlt
          have hb : Hid ((fnd f j p n).isSome = true) := by show _ = true; rw [hF2]; rfl
          have hL : Hid (lft f f j p n = swp f k p) := by show _ = _; unfold lft; rw [hF2]
          have hL2 : Hid (lft f h j p n = swp h k p) := by show _ = _; unfold lft; rw [hF2]
          rw [ht] at T
          clear hF hF2 ht
          go_wp2_with (first
            | (go_at_call 41; (with_reducible refine (T _).mono ?_); rintro e w1 ⟨rfl, rfl⟩)
            | (go_at_call 50; (with_reducible refine E.mono ?_); rintro e w1 ⟨rfl, hO1, hO2, hG⟩))
          go_ret
          rw [hb.out, hL.out, hL2.out]
          exact ⟨rfl, hO1, hO2, G0.out.trans hG⟩
        · have ht' : (f k).testBit j = false := by simpa using ht
          have HN2 : Hid (fnd f j p (k + 1) = none) := by
            show fnd f j p (k + 1) = none
            have e := HN.out
            unfold fnd
            rw [e]
            exact if_neg (fun g => ht g.2)
          rw [ht'] at T
          clear ht ht' HN
          go_wp2_with (go_at_call 41; (with_reducible refine (T _).mono ?_); rintro e w1 ⟨rfl, rfl⟩)
          go_round
          case rel => exact ⟨k + 1, by omega, by go_num, HN2⟩
          case measure => simp [intOf]; omega
      · have HN2 : Hid (fnd f j p (k + 1) = none) := by
          show fnd f j p (k + 1) = none
          have e := HN.out
          unfold fnd
          rw [e]
          exact if_neg (fun g => hpk g.1)
        clear HN
        go_wp2
        go_round
        case rel => exact ⟨k + 1, by omega, by go_num, HN2⟩
        case measure => simp [intOf]; omega
    · obtain rfl : k = n := by omega
      have hb : Hid ((fnd f j p k).isSome = false) := by show _ = false; rw [HN.out]; rfl
      have hL : Hid (lft f f j p k = f) := by show _ = _; unfold lft; rw [HN.out]
      have hL2 : Hid (lft f h j p k = h) := by show _ = _; unfold lft; rw [HN.out]
      go_wp2
      go_ret
      rw [hb.out, hL.out, hL2.out]
      exact ⟨rfl, O1.out, O2.out, G0.out⟩
/-- Rows below k cleared by row p in column j. -/
def clr (p j : Nat) (t u : Nat → Nat) (k : Nat) : Nat → Nat := fun i => if i < k ∧ i ≠ p ∧ (t i).testBit j = true then u i ^^^ u p else u i
theorem clr_zero (p j : Nat) (t u : Nat → Nat) : clr p j t u 0 = u := funext fun i => by unfold clr; rw [if_neg (by omega)]
theorem clr_at (p j : Nat) (t u : Nat → Nat) (k : Nat) : clr p j t u k k = u k := by unfold clr; rw [if_neg (by omega)]
theorem clr_p (p j : Nat) (t u : Nat → Nat) (k : Nat) : clr p j t u k p = u p := by unfold clr; rw [if_neg (by omega)]
theorem clr_yes (p j : Nat) (t u : Nat → Nat) (k : Nat) (h1 : k ≠ p) (h2 : (t k).testBit j = true) : adr (clr p j t u k) p k = clr p j t u (k + 1) := funext fun i => by
  unfold adr up
  rw [clr_at, clr_p]
  by_cases e : i = k
  · subst e; rw [if_pos rfl]; unfold clr; rw [if_pos ⟨by omega, h1, h2⟩]
  · rw [if_neg e]; unfold clr
    by_cases g : i < k
    · by_cases g2 : i ≠ p ∧ (t i).testBit j = true
      · rw [if_pos ⟨g, g2⟩, if_pos ⟨by omega, g2⟩]
      · rw [if_neg (fun x => g2 x.2), if_neg (fun x => g2 x.2)]
    · rw [if_neg (fun x => g x.1), if_neg (fun x => by omega)]
theorem clr_no (p j : Nat) (t u : Nat → Nat) (k : Nat) (h : ¬ (k ≠ p ∧ (t k).testBit j = true)) : clr p j t u k = clr p j t u (k + 1) := funext fun i => by
  unfold clr
  by_cases e : i = k
  · subst e; rw [if_neg (by omega), if_neg (fun x => h x.2)]
  · by_cases g : i < k
    · by_cases g2 : i ≠ p ∧ (t i).testBit j = true
      · rw [if_pos ⟨g, g2⟩, if_pos ⟨by omega, g2⟩]
      · rw [if_neg (fun x => g2 x.2), if_neg (fun x => g2 x.2)]
    · rw [if_neg (fun x => g x.1), if_neg (fun x => by omega)]
set_option maxHeartbeats 2000000 in
set_option maxRecDepth 100000 in
theorem clear_any (n g1 g2 c1 c2 p j : Nat) (f h : Nat → Nat) (w : World) (H1 : OR w g1 n f) (H2 : OR w g2 n h) (hne : g1 ≠ g2) (hn : n ≤ 64) (hp : p < n) (hj : j < 64) :
    Calls Try.prog 44 #[.agg (s2 g1 g2 n c1 c2), .int .i64 p, .int .i64 j] w fun e w' => e = .returned (.tuple #[]) ∧ OR w' g1 n (clr p j f f n) ∧ OR w' g2 n (clr p j f h n) ∧ G2 g1 g2 w w' := by
  have K0 := hid (bk_new w (s2 g1 g2 n c1 c2) 70)
  have O1 := hid (H1.on (bal (Below.refl w.heap.size w) (.cells (s2 g1 g2 n c1 c2) 70)))
  have O2 := hid (H2.on (bal (Below.refl w.heap.size w) (.cells (s2 g1 g2 n c1 c2) 70)))
  have G0 : Hid (G2 g1 g2 w (w.alloc (.cells (s2 g1 g2 n c1 c2) 70))) := G2.of (bal (Below.refl _ _) _)
  have HT := hid (fun k (hk : k < n) w => has_any (f k) j w (H1.lt k hk) hj)
  have AD := hid (fun (f h : Nat → Nat) w i (H1 : OR w g1 n f) (H2 : OR w g2 n h) (hi : i < n) => add_any n g1 g2 c1 c2 p i f h w H1 H2 hne hp hi)
  have hg1 := H1.gl
  have hg2 := H2.gl
  clear H1 H2
  go_enter Try.func44, Try.ntmps44
  go_wp2
  go_loopw [10] (fun i wx => ∃ k : Nat, k ≤ n ∧ i = .int .i64 k ∧ Hid (BK wx w.heap.size (s2 g1 g2 n c1 c2) 70) ∧ Hid (OR wx g1 n (clr p j f f k)) ∧ Hid (OR wx g2 n (clr p j f h k)) ∧ Hid (G2 g1 g2 w wx)) (fun i _ => n - (intOf i).toNat)
  case atStart => exact ⟨0, Nat.zero_le _, rfl, K0, by rw [clr_zero]; exact O1, by rw [clr_zero]; exact O2, G0⟩
  case round =>
    clear K0 O1 O2 G0
    obtain ⟨k, hk, rfl, K0, O1, O2, G0⟩ := hrel
    have d0 := K0.out.cell
    have l0 := K0.out.lt
    by_cases hlt : k < n
    · have hc := O1.out.cell hlt
      rw [clr_at] at hc
      have hg := O1.out.gl
      have T := HT.out k hlt
      by_cases hkp : k = p
      · have O1b := hid (clr_no p j f f k (by omega) ▸ O1.out)
        have O2b := hid (clr_no p j f h k (by omega) ▸ O2.out)
        have hkp' : ((k : Int) != (p : Int)) = false := by rw [hkp]; exact bne_self_eq_false' _
        clear hkp
        go_wp2
        exact ⟨⟨k + 1, by omega, by go_num, K0, O1b, O2b, G0⟩, by simp only [intOf]; omega⟩
      have hkp' : ((k : Int) != (p : Int)) = true := bne_iff_ne.2 (by omega)
      by_cases ht : (f k).testBit j = true
      · have E := AD.out _ _ wr k O1.out O2.out hlt
        rw [clr_yes p j f f k hkp ht, clr_yes p j f h k hkp ht] at E
        rw [ht] at T
        clear ht hkp
        go_wp2_with (first
          | (go_at_call 41; (with_reducible refine (T _).mono ?_); rintro e w1 ⟨rfl, rfl⟩)
          | (go_at_call 51; (with_reducible refine E.mono ?_); rintro e w1 ⟨rfl, hO1, hO2, hG⟩))
        exact ⟨⟨k + 1, by omega, by go_num, hG.bk K0.out (by omega) (by omega), hO1, hO2, G0.out.trans hG⟩, by simp only [intOf]; omega⟩
      · have ht' : (f k).testBit j = false := by simpa using ht
        have O1b := hid (clr_no p j f f k (fun x => ht x.2) ▸ O1.out)
        have O2b := hid (clr_no p j f h k (fun x => ht x.2) ▸ O2.out)
        rw [ht'] at T
        clear ht ht' hkp
        go_wp2_with (go_at_call 41; (with_reducible refine (T _).mono ?_); rintro e w1 ⟨rfl, rfl⟩)
        exact ⟨⟨k + 1, by omega, by go_num, K0, O1b, O2b, G0⟩, by simp only [intOf]; omega⟩
    · obtain rfl : k = n := by omega
      go_wp2
      go_end0
      exact ⟨rfl, O1.out, O2.out, G0.out⟩
end Go.Proofs.Ytinkdonaedoojaa
