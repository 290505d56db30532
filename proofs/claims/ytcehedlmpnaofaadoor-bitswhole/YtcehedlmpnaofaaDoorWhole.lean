/-
  The walk of the law BitsWhole: true, whatever the input.
-/
import Derived.Test.YtcehedlmpnaofaaDoorSeen
import Derived.Test.YtcehedlmpnaofaaDoorNumbers
namespace Go.Proofs.YtcehedlmpnaofaaDoor
open Go.RowKit

theorem not_mem_take {k N i : Nat} (hi : i < (ofP k N).length) : (ofP k N)[i] ∉ (ofP k N).take i := by
  intro h
  obtain ⟨j, hj, e⟩ := List.getElem_of_mem h
  have hj' : j < i := by
    have := List.length_take_le i (ofP k N)
    omega
  rw [List.getElem_take] at e
  have := ofP_lt hi hj'
  omega
theorem mem_take_succ {l : List Nat} {i y : Nat} (hi : i < l.length) : y ∈ l.take (i + 1) ↔ y = l[i] ∨ y ∈ l.take i := by
  rw [List.take_succ_eq_append_getElem hi, List.mem_append, List.mem_singleton]
  exact Or.comm
/-- What is seen when all with fewer than k ones and the first i of those with k ones are. -/
def seenF (k N i : Nat) (x : Nat) : Bool := decide (pop 64 x < k) || decide (x ∈ (ofP k N).take i)
theorem seenF_zero (k N x : Nat) : seenF k N 0 x = decide (pop 64 x < k) := by simp [seenF]
theorem seenF_new {k N i : Nat} (hi : i < (ofP k N).length) : seenF k N i (ofP k N)[i] = false := by
  have h1 : pop 64 (ofP k N)[i] = k := (mem_ofP.1 (List.getElem_mem hi)).2
  have h2 := not_mem_take hi
  simp [seenF, h1, h2]
theorem seenF_succ {k N i : Nat} (hi : i < (ofP k N).length) (y : Nat) : seenF k N (i + 1) y = if y = (ofP k N)[i] then true else seenF k N i y := by
  unfold seenF
  by_cases e : y = (ofP k N)[i]
  · rw [if_pos e]; simp [mem_take_succ hi, e]
  · rw [if_neg e]; simp [mem_take_succ hi, e]
theorem seenF_all {k N x : Nat} (hx : x < N) : seenF k N (ofP k N).length x = decide (pop 64 x < k + 1) := by
  unfold seenF
  rw [List.take_length, Bool.eq_iff_iff]
  simp [mem_ofP, hx]
  omega

set_option maxHeartbeats 4000000 in
set_option maxRecDepth 4000 in
theorem whole_any (n : Nat) (w : World) (hn : n < 256) :
    Calls Tryd.prog 8 #[.int .u8 n] w fun e w' => e = .returned (.bool true) ∧ Below w.heap.size w w' := by
  obtain ⟨m, hm, hm12⟩ : ∃ m : Nat, (n : Int) % 13 = m ∧ m ≤ 12 := ⟨n % 13, by omega, by omega⟩
  have hp := i_pow m (by omega)
  obtain ⟨N, hN⟩ : ∃ N, N = 2 ^ m := ⟨_, rfl⟩
  have HN : Hid (N = 2 ^ m) := hN
  have hN1 : N ≤ 4096 := by rw [hN]; exact Nat.pow_le_pow_right (n := 2) (by decide) hm12
  rw [← hN] at hp
  have hw64 : wrap64 (2 ^ m) = (N : Int) := by
    rw [show (2 : Int) ^ m = ((2 ^ m : Nat) : Int) by simp, ← hN]
    exact wrap64_small (by omega) (by omega)
  have HOF : Hid (∀ k, k ≤ m → ∀ w, Calls Tryd.prog 37 #[.int .i64 m, .int .i64 k] w fun e w' => ∃ v, e = .returned (.tuple #[v, .int .i64 0]) ∧ Told (ofP k N) v w w') := fun k hk w => by
    rw [hN]; exact of_any m k w (by omega) hk
  have HSY : Hid (∀ k, k ≤ m → (ofP k N).length = (ofP (m - k) N).length) := fun k hk => by
    rw [hN, cnt_ofP, cnt_ofP]; exact cnt_symm m (by omega) k hk
  have HLO : Hid (∀ k, low m (k + 1) = low m k + (ofP k N).length) := fun k => by rw [hN, cnt_ofP]; exact low_succ m k
  have HLA : Hid (low m (m + 1) = N) := by show _ = _; rw [hN]; exact low_all m
  have HLB : Hid (∀ k, low m k ≤ N) := fun k => by
    rw [hN]; unfold low cntB
    have := List.length_filter_le (fun x => decide (pop 64 x < k)) (List.range (2 ^ m))
    simpa using this
  clear hN
  have hmk := run_make_row' (P := Tryd.prog) 59 4 (.bool false) 1 Tryd.underlying59 Tryd.info4 rfl .i64 .i64 N (by omega) (by omega)
  go_enter Tryd.func8, Tryd.ntmps8
  go_wp2_with (first
    | (go_at_call 9; refine (awake_any _).mono ?_; rintro e w1 ⟨rfl, hB⟩))
  have HS0 := Seen.make (N := N) hB
  clear hmk hB
  obtain ⟨S, hS⟩ : ∃ S, S = w1.heap.size := ⟨_, rfl⟩
  rw [← hS] at HS0
  rw [← hS]
  clear hS
  simp only [hm, hw64]
  go_loopw [5, 6] (fun t k wr => ∃ j : Nat, j ≤ m + 1 ∧ k = .int .i64 j ∧ t = .int .i64 (low m j) ∧ Hid (Seen S N (fun x => decide (pop 64 x < j)) w wr)) (fun _ k _ => m + 1 - (intOf k).toNat)
  case atStart => exact ⟨0, by omega, rfl, by rw [low_zero']; rfl, HS0.congr fun y _ => by simp⟩
  case round =>
    obtain ⟨k, hk, rfl, rfl, hs⟩ := hrel
    have hlb := HLB.out k
    by_cases hlt : k ≤ m
    · have hlsz : (ofP k N).length = (ofP (m - k) N).length := HSY.out k hlt
      have O1 := HOF.out k hlt
      have O2 : ∀ w, Calls Tryd.prog 37 #[.int .i64 m, .int .i64 ((m : Int) - k)] w fun e w' => ∃ v, e = .returned (.tuple #[v, .int .i64 0]) ∧ Told (ofP (m - k) N) v w w' := fun w => by
        have := HOF.out (m - k) (by omega) w
        rwa [show ((m - k : Nat) : Int) = (m : Int) - k by omega] at this
      have HSZ : Hid ((ofP k N).length = (ofP (m - k) N).length) := hlsz
      clear hlsz
      have hlen := ofP_len k N
      go_wp2_with (first
        | (go_at_call 37; (with_reducible refine (O1 _).mono ?_); rintro e w2 ⟨v1, rfl, ht1⟩; obtain ⟨a1, c1, rfl⟩ := ht1.shape; have HS2 : Hid (Seen S N (fun x => decide (pop 64 x < k)) w w2) := hs.out.next ht1.below; have HA1 : Hid (Nums S a1 (ofP k N) w2) := ht1.nums hs.out.lt)
        | (go_at_call 37; (with_reducible refine (O2 _).mono ?_); rintro e w3 ⟨v2, rfl, ht2⟩; obtain ⟨a2, c2, rfl⟩ := ht2.shape; have HS3 : Hid (Seen S N (fun x => decide (pop 64 x < k)) w w3) := HS2.out.next ht2.below; have HA2 : Hid (Nums S a1 (ofP k N) w3) := HA1.out.next ht2.below; have hlen2 := HSZ.out.symm))
      clear O1 O2
      go_loopw [5, 11] (fun t j wr => ∃ i : Nat, i ≤ (ofP k N).length ∧ j = .int .i64 i ∧ t = .int .i64 ((low m k + i : Nat) : Int) ∧ Hid (Seen S N (seenF k N i) w wr) ∧ Hid (Nums S a1 (ofP k N) wr)) (fun _ j _ => (ofP k N).length - (intOf j).toNat)
      case atStart => exact ⟨0, by omega, rfl, rfl, HS3.out.congr fun y _ => seenF_zero k N y, HA2⟩
      case round =>
        obtain ⟨i, hi, rfl, rfl, hsi, hai⟩ := hrel
        by_cases hil : i < (ofP k N).length
        · obtain ⟨g, rfl, hgS, hgl, hc⟩ := hai.out.at_ i hil
          have hmem := mem_ofP.1 (List.getElem_mem hil)
          have hx := hmem.1
          have hseen := hsi.out.at_ _ hx
          rw [seenF_new hil] at hseen
          have hfree := hsi.out.free (ofP k N)[i]
          have HC := fun w => count_any (ofP k N)[i] w (by omega)
          rw [hmem.2] at HC
          have HSET : Hid (∀ nq, Seen S N (seenF k N (i + 1)) w ((wr.drewN nq).setCell ⟨S, (ofP k N)[i], none⟩ (.bool true))) := fun nq => (hsi.out.drewN nq).set hx fun y _ => seenF_succ hil y
          have HNUM : Hid (∀ nq, Nums S (some ⟨g, 0, none⟩) (ofP k N) ((wr.drewN nq).setCell ⟨S, (ofP k N)[i], none⟩ (.bool true))) := fun nq => (hai.out.drewN nq).set _ _
          have hd1 : decide ((N : Int) ≤ ((ofP k N)[i] : Int)) = false := by simp; omega
          have hd1' : decide (N ≤ (ofP k N)[i]) = false := by simp; omega
          by_cases hi0 : i = 0
          · subst hi0
            clear hmem hsi hai
            generalize (ofP k N)[0] = x at hx hc hseen hfree HC HSET HNUM hd1 hd1'
            go_wp2
            go_quiet ((go_at_call 10; exact Calls.quiet_of_same (HC _)))
            go_wp2
            go_roundw
            case rel => exact ⟨1, by omega, by go_num, by go_num, HSET.out _, HNUM.out _⟩
            case measure => simp [intOf]; omega
          · obtain ⟨j, rfl⟩ : ∃ j, i = j + 1 := ⟨i - 1, by omega⟩
            obtain ⟨g', e, _, _, hcj⟩ := hai.out.at_ j (by omega)
            cases e
            have hxy := ofP_lt hil (show j < j + 1 by omega)
            clear hmem hsi hai hi0
            generalize (ofP k N)[j + 1] = x at hx hc hseen hfree HC HSET HNUM hd1 hd1' hxy
            generalize (ofP k N)[j] = y at hcj hxy
            have hd2 : decide ((x : Int) ≤ (y : Int)) = false := by simp; omega
            have hd2' : decide (x ≤ y) = false := by simp; omega
            have hd3 : decide ((0 : Int) < (j : Int) + 1) = true := decide_eq_true (by omega)
            go_wp2
            go_quiet ((go_at_call 10; exact Calls.quiet_of_same (HC _)))
            go_wp2
            go_roundw
            case rel => exact ⟨j + 2, by omega, by go_num, by go_num, HSET.out _, HNUM.out _⟩
            case measure => simp [intOf]; omega
        · obtain rfl : i = (ofP k N).length := by omega
          have hlo := HLO.out k
          rw [← hlo]
          clear hlo
          go_wp2
          go_roundw
          case rel => exact ⟨k + 1, by omega, by go_num, rfl, hsi.out.congr fun y hy => (seenF_all hy).symm⟩
          case measure => simp [intOf]; omega
    · obtain rfl : k = m + 1 := by omega
      have hlow := HLA.out
      rw [hlow]
      go_wp2
      go_ret
      exact ⟨rfl, hs.out.below⟩
end Go.Proofs.YtcehedlmpnaofaaDoor
