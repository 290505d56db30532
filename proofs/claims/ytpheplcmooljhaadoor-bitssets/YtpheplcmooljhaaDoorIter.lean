/-
  The iterator that Subsets hands back: the sets of the mask, rising, as far as the loop's body goes.
-/
import Derived.RangeFuncNested
import Derived.RangeFuncBound
import Derived.RangeFuncCalls
import Derived.RangeFuncLeaves
import Derived.Shelf.Abstract
import Derived.Shelf.RegionOpen
import Derived.WalkKit
import Derived.OwnWalkIn
import Derived.TacticsInMore
import Derived.LoopNIn
import Derived.LoopIn
import Derived.Test.YtpheplcmooljhaaDoorRefS
namespace Go.Proofs.YtpheplcmooljhaaDoor
open Go.RowKit Go.Shelf
attribute [local go_sem] Oper.semAt_some

theorem lt_of_bit {a b q : Nat} (h0 : bt a q = 0) (h1 : bt b q = 1) (h : ∀ i, q < i → bt a i = bt b i) : a < b := by
  have e : a / 2 ^ (q + 1) = b / 2 ^ (q + 1) := ext_bt fun i => by rw [bt_divp, bt_divp]; exact h _ (by omega)
  have ha : a / 2 ^ q / 2 = a / 2 ^ (q + 1) := by rw [Nat.div_div_eq_div_mul, ← Nat.pow_succ]
  have hb : b / 2 ^ q / 2 = b / 2 ^ (q + 1) := by rw [Nat.div_div_eq_div_mul, ← Nat.pow_succ]
  rw [bt_div] at h0 h1
  have : a / 2 ^ q < b / 2 ^ q := by omega
  exact Nat.lt_of_not_le fun hle => by
    have := Nat.div_le_div_right (c := 2 ^ q) hle
    omega
theorem sb_rise {mask k : Nat} (hm : mask < 18446744073709551616) (hk : k + 1 < 2 ^ ones mask) : sbN mask k < sbN mask (k + 1) := by
  obtain ⟨r, hr, h1, h0⟩ := lowest_nought hk
  have hinc := bt_inc h1 h0
  refine lt_of_bit (q := (plF mask r).toNat) (by rw [bt_sb_at hr, h0]) (by rw [bt_sb_at hr, hinc]; simp) fun i hi => ?_
  rcases (show bt mask i = 0 ∨ bt mask i = 1 by have := bt_le mask i; omega) with h | h
  · rw [bt_sb_off h, bt_sb_off h]
  · obtain ⟨j, hj, e⟩ := plF_all hm h
    have a0 := bt_sb_at (k := k) hj
    have a1 := bt_sb_at (k := k + 1) hj
    rw [e, Int.toNat_natCast] at a0 a1
    have hjr : r < j := by
      apply Decidable.byContradiction
      intro hc
      rcases (show j = r ∨ j < r by omega) with h' | h'
      · rw [h'] at e; omega
      · have := plF_inc hr h'; omega
    rw [a0, a1, hinc, if_neg (by omega), if_neg (by omega)]
theorem sb_le {mask : Nat} (k : Nat) (hm : mask < 18446744073709551616) (hk : k < 2 ^ ones mask) : sbN mask k ≤ mask := by
  obtain ⟨d, hd⟩ : ∃ d, k + 1 + d = 2 ^ ones mask := ⟨2 ^ ones mask - (k + 1), by omega⟩
  induction d generalizing k with
  | zero => rw [sb_last hm hd]; exact Nat.le_refl _
  | succ d ih => exact Nat.le_trans (Nat.le_of_lt (sb_rise hm (by omega))) (ih (k + 1) (by omega) (by omega))

set_option maxHeartbeats 1000000 in
theorem sub1_in (F : Fence) (n : Nat) (h47 : F.fn 47) (hro : F.round = none) (hn : 1 ≤ n) (l Bn n₀ mask : Nat) (hm : mask < 18446744073709551616) (J Jx : List Nat → World → Prop)
    (hY : ∀ (pre : List Nat) (x : Nat) W, J pre W → pre.length < 2 ^ ones mask → YieldAt F (n - 1) Tryd.prog l #[.int .u64 (x : Int)] W fun e W' =>
      (e = .returned (.bool true) ∧ J (pre ++ [x]) W' ∧ Below n₀ W W') ∨ (e = .returned (.bool false) ∧ Jx (pre ++ [x]) W'))
    (W : World) (hb : Bn < n₀) (hBn : W.cell? ⟨Bn, 0, none⟩ = some (.int .u64 mask)) (h0 : J [] W) :
    CallsIn F n Tryd.prog 47 #[.func (.yield l) #[] #[], .pointer (some ⟨Bn, 0, none⟩)] W fun e W' => (∃ v, e = .returned v) ∧
      ((∃ ys, ys = sbL mask (2 ^ ones mask) ∧ J ys W') ∨ (∃ pre, (∃ q, q ≤ 2 ^ ones mask ∧ pre = sbL mask q) ∧ Jx pre W')) := by
  refine callsIn_of_wp Tryd.func47 rfl h47 ?_ hro
  simp only [Tryd.ntmps47, List.size_toArray, List.length_cons, List.length_nil, Nat.reduceAdd, Nat.reduceSub, Array.replicate_succ, Array.replicate_zero, List.push_toArray, List.append_toArray, List.nil_append, List.cons_append]
  gi_wp2
  gi_loopw [3] (fun s wr => ∃ k : Nat, k < 2 ^ ones mask ∧ s = .int .u64 (sbN mask k) ∧ J (sbL mask k) wr ∧ wr.cell? ⟨Bn, 0, none⟩ = some (.int .u64 mask)) (fun s _ => mask - (intOf s).toNat)
  case atStart =>
    exact ⟨0, Nat.two_pow_pos _, by rw [sb_zero hm]; rfl, h0, hBn⟩
  case round =>
    obtain ⟨k, hk, rfl, hJs, hcell⟩ := hrel
    obtain ⟨fn, tmps, assign, body, hy, hR⟩ := hY (sbL mask k) (sbN mask k) wr hJs (by rw [sbL_len]; exact hk)
    have hl := sb_lt k hm
    have HI := fun h => i_next (mask := mask) (k := k) hm h
    have HRI := fun h => sb_rise (mask := mask) (k := k) hm h
    have HNE := fun h => sb_ne (mask := mask) (k := k) h
    have HLA := fun h => sb_last (mask := mask) (k := k) hm h
    have HLE := fun h => sb_le (mask := mask) (k + 1) hm h
    have HJS : Hid (J (sbL mask k) wr) := hJs
    clear hJs
    gi_wp2
    refine hR.mono ?_
    rintro e W3 (⟨rfl, hJ3, hk3⟩ | ⟨rfl, hJx3⟩)
    · have hc3 : W3.cell? ⟨Bn, 0, none⟩ = some (.int .u64 mask) := (hk3.cell (p := ⟨Bn, 0, none⟩) hb).trans hcell
      rw [← sbL_succ] at hJ3
      have HJ3 : Hid (J (sbL mask (k + 1)) W3) := hJ3
      clear hJ3 hk3 hR hy hcell
      by_cases hlast : k + 1 < 2 ^ ones mask
      · have hne : (((sbN mask k : Nat) : Int) != (mask : Int)) = true := by have := HNE hlast; simp; omega
        have hne' : ¬ sbN mask k = mask := HNE hlast
        have hnx := HI hlast
        have HM : Hid (sbN mask k < sbN mask (k + 1) ∧ sbN mask (k + 1) ≤ mask) := ⟨HRI hlast, HLE hlast⟩
        have HL : Hid (k + 1 < 2 ^ ones mask) := hlast
        clear HI HRI HNE HLA HLE hlast hk
        gi_wp2
        go_roundw
        case rel => exact ⟨k + 1, HL, rfl, HJ3, hc3⟩
        case measure =>
          have := HM.out
          simp [intOf]; omega
      · have hk1 : k + 1 = 2 ^ ones mask := by omega
        have heq : sbN mask k = mask := HLA hk1
        have HK1 : Hid (k + 1 = 2 ^ ones mask) := hk1
        clear HI HRI HNE HLA HLE hlast hk hk1
        gi_wp2
        go_end0
        exact ⟨⟨_, rfl⟩, .inl ⟨_, rfl, by rw [← HK1.out]; exact HJ3⟩⟩
    · rw [← sbL_succ] at hJx3
      have HJX : Hid (Jx (sbL mask (k + 1)) W3) := hJx3
      have HK : Hid (k + 1 ≤ 2 ^ ones mask) := hk
      clear HI HRI HNE HLA HLE hk hJx3 hR hy
      gi_wp2
      go_end0
      exact ⟨⟨_, rfl⟩, .inr ⟨_, ⟨k + 1, HK, rfl⟩, HJX⟩⟩
end Go.Proofs.YtpheplcmooljhaaDoor
