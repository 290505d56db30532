/-
  The reference's reduction of rows.
-/
import Derived.Test.YtinkdonaedoojaaAB
namespace Go.Proofs.Ytinkdonaedoojaa
open Go.RowKit

/-- A place or -1. -/
def atV : Option Nat → Int
  | none => -1
  | some i => i
theorem fnd_below (f : Nat → Nat) (j p : Nat) : ∀ k, k ≤ p → fnd f j p k = none
  | 0, _ => rfl
  | k + 1, h => by
    unfold fnd
    rw [fnd_below f j p k (by omega)]
    exact if_neg (fun g => by omega)
theorem bit_one {x j : Nat} (hx : x < 18446744073709551616) (h : x.testBit j = true) : bits .and .u64 ((x : Int) / 2 ^ j) 1 = 1 := by rw [i_bit x j hx, bt_one.2 h]; rfl
theorem bit_zero {x j : Nat} (hx : x < 18446744073709551616) (h : x.testBit j = false) : bits .and .u64 ((x : Int) / 2 ^ j) 1 = 0 := by rw [i_bit x j hx, bt_zero.2 h]; rfl
set_option maxHeartbeats 4000000 in
set_option maxRecDepth 100000 in
theorem rreduce_any (n g1 g2 c1 c2 : Nat) (f h : Nat → Nat) (w : World) (H1 : OR w g1 n f) (H2 : OR w g2 n h) (hne : g1 ≠ g2) (hn : n ≤ 64) :
    Calls Try.prog 34 #[.slice (some ⟨g1, 0, none⟩) n c1, .slice (some ⟨g2, 0, none⟩) n c2, .int .i64 n] w fun e w' => e = .returned (.int .i64 ((rd n f h n).r : Nat)) ∧ OR w' g1 n (rd n f h n).f ∧ OR w' g2 n (rd n f h n).h ∧ G2 g1 g2 w w' := by
  have O1 := hid H1
  have O2 := hid H2
  have G0 : Hid (G2 g1 g2 w w) := G2.refl w
  have hg1 := H1.gl
  have hg2 := H2.gl
  clear H1 H2
  go_enter Try.func34, Try.ntmps34
  go_wp2
  go_loopw [7, 8] (fun r i wx => ∃ j : Nat, j ≤ n ∧ i = .int .i64 j ∧ r = .int .i64 ((rd n f h j).r : Nat) ∧ Hid (OR wx g1 n (rd n f h j).f) ∧ Hid (OR wx g2 n (rd n f h j).h) ∧ Hid (G2 g1 g2 w wx)) (fun _ i _ => n - (intOf i).toNat)
  case atStart => exact ⟨0, Nat.zero_le _, rfl, rfl, O1, O2, G0⟩
  case round =>
    clear O1 O2 G0
    obtain ⟨j, hj, rfl, rfl, O1, O2, G0⟩ := hrel
    by_cases hlt : j < n
    case neg =>
      obtain rfl : j = n := by omega
      go_wp2
      go_ret
      exact ⟨rfl, O1.out, O2.out, G0.out⟩
    have hr := rd_r n f h j
    have HS : Hid (rd n f h (j + 1) = stp n j (rd n f h j)) := rfl
    generalize rd n f h j = s at *
    obtain ⟨sf, sh, sr⟩ := s
    simp only at *
    unfold stp at HS
    simp only at HS
    go_wp2
    go_loop [9, 10] (fun t i => ∃ k : Nat, sr ≤ k ∧ k ≤ n ∧ i = .int .i64 k ∧ t = .int .i64 (atV (fnd sf j sr k))) (fun _ i => n - (intOf i).toNat)
    case atStart => exact ⟨sr, Nat.le_refl _, by omega, rfl, by rw [fnd_below sf j sr sr (Nat.le_refl _)]; rfl⟩
    case round =>
      obtain ⟨k, hpk, hk, rfl, rfl⟩ := hrel
      by_cases hkn : k < n
      · cases hF : fnd sf j sr k with
        | some x =>
          have hF2 : Hid (fnd sf j sr (k + 1) = some x) := by show _ = _; unfold fnd; rw [hF]
          have hx : ¬ (x : Int) < 0 := by omega
          clear hF
          simp only [atV]
          go_wp2
          go_round
          case rel => exact ⟨k + 1, by omega, by omega, by go_num, by simp only [hF2.out]⟩
          case measure => simp [intOf]; omega
        | none =>
          have hc := O1.out.cell hkn
          have hg := O1.out.gl
          have hb := O1.out.lt k hkn
          simp only [atV]
          by_cases ht : (sf k).testBit j = true
          · have hF2 : Hid (fnd sf j sr (k + 1) = some k) := by
              show _ = _
              unfold fnd
              rw [hF]
              exact if_pos ⟨hpk, ht⟩
            have hbit := bit_one hb ht
            clear hF ht hb
            go_wp2
            go_round
            case rel => exact ⟨k + 1, by omega, by omega, by go_num, by simp only [hF2.out]⟩
            case measure => simp [intOf]; omega
          · have hF2 : Hid (fnd sf j sr (k + 1) = none) := by
              show _ = _
              unfold fnd
              rw [hF]
              exact if_neg (fun g => ht g.2)
            have hbit := bit_zero hb (by simpa using ht)
            clear hF ht hb
            go_wp2
            go_round
            case rel => exact ⟨k + 1, by omega, by omega, by go_num, by simp only [hF2.out]⟩
            case measure => simp [intOf]; omega
      obtain rfl : k = n := by omega
      cases hF : fnd sf j sr k with
      | none =>
        rw [hF] at HS
        simp only at HS
        simp only [atV]
        clear hF
        go_wp2
        refine ⟨⟨j + 1, by omega, by go_num, ?_, ?_, ?_, G0⟩, by simp only [intOf]; omega⟩
        · rw [HS.out]
        · show OR _ _ _ _
          rw [HS.out]; exact O1.out
        · show OR _ _ _ _
          rw [HS.out]; exact O2.out
      | some x =>
        rw [hF] at HS
        simp only at HS
        simp only [atV]
        have hxk := (fnd_lt sf j sr k x hF).1
        have hsr : sr < k := by omega
        have hx0 : ¬ (x : Int) < 0 := by omega
        clear hF
        go_wp2
        have x1 := O1.out.cell hxk
        have x2 := O1.out.cell hsr
        have x3 := O1.out.free x
        have x4 := O1.out.gl
        have x5 := O1.out.free sr
        have y1 : ((wr.setCell ⟨g1, x, none⟩ (.int .u64 (sf sr : Int))).drew).cell? ⟨g1, sr, none⟩ = some (.int .u64 (up sf x (sf sr) sr : Int)) := (O1.out.set x _ (O1.out.lt sr hsr)).cell hsr
        have y2 : ((wr.setCell ⟨g1, x, none⟩ (.int .u64 (sf sr : Int))).drew).frozen? ⟨g1, sr, none⟩ = false := (O1.out.set x _ (O1.out.lt sr hsr)).free sr
        have O1b := hid (swp_set O1.out hxk hsr).drew
        have O2b := hid ((O2.out.far (b := g1) (o := x) hne.symm (.int .u64 (sf sr : Int))).far (b := g1) (o := sr) hne.symm (.int .u64 (sf x : Int))).drew
        have G0b := hid (((G0.out.set g1 x (.int .u64 (sf sr : Int)) (.inl rfl)).set g1 sr (.int .u64 (sf x : Int)) (.inl rfl)).below (below_drew (Below.refl _ _)))
        clear O1 O2 G0
        go_region
        all_goals
          generalize ((wr.setCell ⟨g1, x, none⟩ (.int .u64 (sf sr : Int))).setCell ⟨g1, sr, none⟩ (.int .u64 (sf x : Int))).drew = X at *
          clear x1 x2 x3 x4 x5 y1 y2
          have x1 := O2b.out.cell hxk
          have x2 := O2b.out.cell hsr
          have x3 := O2b.out.free x
          have x4 := O2b.out.gl
          have x5 := O2b.out.free sr
          have y1 : ((X.setCell ⟨g2, x, none⟩ (.int .u64 (sh sr : Int))).drew).cell? ⟨g2, sr, none⟩ = some (.int .u64 (up sh x (sh sr) sr : Int)) := (O2b.out.set x _ (O2b.out.lt sr hsr)).cell hsr
          have y2 : ((X.setCell ⟨g2, x, none⟩ (.int .u64 (sh sr : Int))).drew).frozen? ⟨g2, sr, none⟩ = false := (O2b.out.set x _ (O2b.out.lt sr hsr)).free sr
          have O2c := hid (swp_set O2b.out hxk hsr).drew
          have O1c := hid ((O1b.out.far (b := g2) (o := x) hne (.int .u64 (sh sr : Int))).far (b := g2) (o := sr) hne (.int .u64 (sh x : Int))).drew
          have G0c := hid (((G0b.out.set g2 x (.int .u64 (sh sr : Int)) (.inr (.inl rfl))).set g2 sr (.int .u64 (sh x : Int)) (.inr (.inl rfl))).below (below_drew (Below.refl _ _)))
          clear O1b O2b G0b
          go_wp2
          go_region
          all_goals
            generalize ((X.setCell ⟨g2, x, none⟩ (.int .u64 (sh sr : Int))).setCell ⟨g2, sr, none⟩ (.int .u64 (sh x : Int))).drew = Y at *
            clear x1 x2 x3 x4 x5 y1 y2
            generalize swp sf x sr = tf at *
            generalize swp sh x sr = th at *
            go_wp2
            go_loopw [11] (fun i wx => ∃ q : Nat, q ≤ k ∧ i = .int .i64 q ∧ Hid (OR wx g1 k (clr sr j tf tf q)) ∧ Hid (OR wx g2 k (clr sr j tf th q)) ∧ Hid (G2 g1 g2 w wx)) (fun i _ => k - (intOf i).toNat)
            case atStart => exact ⟨0, Nat.zero_le _, rfl, by rw [clr_zero]; exact O1c, by rw [clr_zero]; exact O2c, G0c⟩
            case round =>
              clear O1c O2c G0c
              obtain ⟨q, hq, rfl, O1, O2, G0⟩ := hrel
              by_cases hqk : q < k
              case neg =>
                obtain rfl : q = k := by omega
                go_wp2
                refine ⟨⟨j + 1, by omega, by go_num, ?_, ?_, ?_, G0⟩, by simp only [intOf]; omega⟩
                · rw [HS.out]; go_num
                · show OR _ _ _ _
                  rw [HS.out]; exact O1.out
                · show OR _ _ _ _
                  rw [HS.out]; exact O2.out
              have x1 := O1.out.cell hqk
              have x2 := O1.out.cell hsr
              have x3 := O1.out.free q
              have x4 := O1.out.gl
              have b1 := O1.out.lt q hqk
              have b2 := O1.out.lt sr hsr
              rw [clr_at] at x1 b1
              rw [clr_p] at x2 b2
              by_cases hqp : q = sr
              · have O1b := hid (clr_no sr j tf tf q (by omega) ▸ O1.out)
                have O2b := hid (clr_no sr j tf th q (by omega) ▸ O2.out)
                have hqp' : ((q : Int) != (sr : Int)) = false := by rw [hqp]; exact bne_self_eq_false' _
                clear hqp x1 x2 x3 x4 b1 b2
                go_wp2
                exact ⟨⟨q + 1, by omega, by go_num, O1b, O2b, G0⟩, by simp only [intOf]; omega⟩
              have hqp' : ((q : Int) != (sr : Int)) = true := bne_iff_ne.2 (by omega)
              by_cases ht : (tf q).testBit j = true
              case neg =>
                have O1b := hid (clr_no sr j tf tf q (fun x => ht x.2) ▸ O1.out)
                have O2b := hid (clr_no sr j tf th q (fun x => ht x.2) ▸ O2.out)
                have hbit := bit_zero b1 (by simpa using ht)
                clear hqp ht x2 x3 b1 b2
                go_wp2
                exact ⟨⟨q + 1, by omega, by go_num, O1b, O2b, G0⟩, by simp only [intOf]; omega⟩
              have hbit := bit_one b1 ht
              have e1 := i_xor (tf q) (tf sr) b1 b2
              have O1b := O1.out.set q (clr sr j tf tf q q ^^^ clr sr j tf tf q sr) (by rw [clr_at, clr_p]; exact xor_lt b1 b2)
              rw [show up (clr sr j tf tf q) q (clr sr j tf tf q q ^^^ clr sr j tf tf q sr) = clr sr j tf tf (q + 1) from clr_yes sr j tf tf q hqp ht, clr_at, clr_p] at O1b
              have O1b := hid O1b.drew
              have O2b := hid (O2.out.far (b := g1) (o := q) hne.symm (.int .u64 ((tf q ^^^ tf sr : Nat) : Int))).drew
              have G0b := hid ((G0.out.set g1 q (.int .u64 ((tf q ^^^ tf sr : Nat) : Int)) (.inl rfl)).below (below_drew (Below.refl _ _)))
              have HT := hid ht
              have HQP := hid hqp
              clear O1 O2 G0 ht hqp
              go_wp2
              go_region
              all_goals
                generalize (wr.setCell ⟨g1, q, none⟩ (.int .u64 ((tf q ^^^ tf sr : Nat) : Int))).drew = Z at *
                clear x1 x2 x3 x4 b1 b2 e1 hbit
                have x1 := O2b.out.cell hqk
                have x2 := O2b.out.cell hsr
                have x3 := O2b.out.free q
                have x4 := O2b.out.gl
                have b1 := O2b.out.lt q hqk
                have b2 := O2b.out.lt sr hsr
                rw [clr_at] at x1 b1
                rw [clr_p] at x2 b2
                have e1 := i_xor (th q) (th sr) b1 b2
                have O2c := O2b.out.set q (clr sr j tf th q q ^^^ clr sr j tf th q sr) (by rw [clr_at, clr_p]; exact xor_lt b1 b2)
                rw [show up (clr sr j tf th q) q (clr sr j tf th q q ^^^ clr sr j tf th q sr) = clr sr j tf th (q + 1) from clr_yes sr j tf th q HQP.out HT.out, clr_at, clr_p] at O2c
                have O2c := hid O2c.drew
                have O1c := hid (O1b.out.far (b := g2) (o := q) hne (.int .u64 ((th q ^^^ th sr : Nat) : Int))).drew
                have G0c := hid ((G0b.out.set g2 q (.int .u64 ((th q ^^^ th sr : Nat) : Int)) (.inr (.inl rfl))).below (below_drew (Below.refl _ _)))
                clear O1b O2b G0b
                go_wp2
                go_region
                all_goals
                  go_wp2
                  exact ⟨⟨q + 1, by omega, by go_num, O1c, O2c, G0c⟩, by simp only [intOf]; omega⟩
end Go.Proofs.Ytinkdonaedoojaa
