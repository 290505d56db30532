/-
  Mul and Apply.
-/
import Derived.Test.YtinkdonaedoojaaA3
namespace Go.Proofs.Ytinkdonaedoojaa
open Go.RowKit

theorem boxes3 (w : World) (c0 c1 c2 : Array Value) : Below w.heap.size w (((w.alloc (.cells c0 24)).alloc (.cells c1 24)).alloc (.cells c2 24)) ∧ BK (((w.alloc (.cells c0 24)).alloc (.cells c1 24)).alloc (.cells c2 24)) w.heap.size c0 24 ∧ BK (((w.alloc (.cells c0 24)).alloc (.cells c1 24)).alloc (.cells c2 24)) (w.heap.size + 1) c1 24 ∧ BK (((w.alloc (.cells c0 24)).alloc (.cells c1 24)).alloc (.cells c2 24)) (w.heap.size + 2) c2 24 := by
  refine ⟨bal (bal (bal (Below.refl _ _) _) _) _, ((bk_new w c0 24).alloc _).alloc _, ?_, ?_⟩
  · have h := bk_new (w.alloc (.cells c0 24)) c1 24
    rw [alz] at h
    exact h.alloc _
  · have h := bk_new ((w.alloc (.cells c0 24)).alloc (.cells c1 24)) c2 24
    rw [alz, alz] at h
    exact h
/-- The rows of a product, as far as k. -/
def mlT (f g : Nat → Nat) (n k : Nat) : Nat → Nat := fun i => if i < k then sm g (f i) n else 0
theorem mlT_up (f g : Nat → Nat) (n k : Nat) : up (mlT f g n k) k (sm g (f k) n) = mlT f g n (k + 1) := funext fun i => by
  unfold up mlT
  by_cases e : i = k
  · rw [if_pos e, if_pos (by omega), e]
  · rw [if_neg e]
    by_cases h : i < k
    · rw [if_pos h, if_pos (by omega)]
    · rw [if_neg h, if_neg (by omega)]
set_option maxHeartbeats 2000000 in
set_option maxRecDepth 100000 in
theorem mul_good (n : Nat) (a a' : Option Addr) (c c' : Nat) (f g : Nat → Nat) (w : World) (H : RR w a n f) (H' : RR w a' n g) (hf : Gd n n f) (hg : Gd n n g) :
    Calls Try.prog 14 #[lv n a n c, lv n a' n c'] w fun e w' => LR w w' e n n (fun i => sm g (f i) n) 0 := by
  have hn : n ≤ 64 := by have := hf.2.1; omega
  obtain ⟨hB0, hK0, hK1, hK2⟩ := boxes3 w (lcs n a n c) (lcs n a' n c') zl
  have C1 := fun w' (h : Below w.heap.size w w') => check_good n a c f w' (H.below h) hn hf.2.2.2
  have C2 := fun w' (h : Below w.heap.size w w') => check_good n a' c' g w' (H'.below h) hn hg.2.2.2
  have C3 := fun w' x (h : Below w.heap.size w w') (hx : x < 18446744073709551616) => sum_any n a' c' g x w' (H'.below h) hn hx
  have mk := made_u64 n (by omega)
  have HLT := hid H.lt
  have HH := hid H
  have HS := hid (sm_lt g)
  have HGL := hid H'.lt
  clear H H' hf hg
  have HB0 := hid hB0
  have HK0 := hid hK0
  have HK1 := hid hK1
  have HK2 := hid hK2
  clear hB0 hK0 hK1 hK2
  go_enter Try.func14, Try.ntmps14
  go_upto_region 2 with (go_at_call 9; (with_reducible refine (C1 _ HB0.out).mono ?_); rintro e w1 ⟨rfl, hN⟩)
  have HB1 := hid (btr HB0.out hN)
  have K0 := hid (bk_on HK0.out hN)
  have K1 := hid (bk_on HK1.out hN)
  have K2 := hid (bk_on HK2.out hN)
  clear HB0 HK0 HK1 HK2 hN C1
  have d0 := K0.out.cell
  have d1 := K1.out.cell
  have l0 := K0.out.lt
  have l1 := K1.out.lt
  go_upto_region 5 with (go_at_call 9; (with_reducible refine (C2 _ HB1.out).mono ?_); rintro e w2 ⟨rfl, hN⟩)
  have HB2 := hid (btr HB1.out hN)
  replace K0 := hid (bk_on K0.out hN)
  replace K1 := hid (bk_on K1.out hN)
  replace K2 := hid (bk_on K2.out hN)
  clear HB1 hN C2 d0 d1 l0 l1
  have d0 := K0.out.cell
  have d1 := K1.out.cell
  have l0 := K0.out.lt
  have l1 := K1.out.lt
  go_wp2
  go_loopw [35] (fun i wx => ∃ k : Nat, k ≤ n ∧ i = .int .i64 k ∧ Hid (BK wx w.heap.size (lcs n a n c) 24) ∧ Hid (BK wx (w.heap.size + 1) (lcs n a' n c') 24) ∧ Hid (BK wx (w.heap.size + 2) zl 24) ∧ Hid (OR wx w2.heap.size n (mlT f g n k)) ∧ Hid (Below w.heap.size w wx)) (fun i _ => n - (intOf i).toNat)
  case atStart => exact ⟨0, Nat.zero_le _, rfl, K0.out.alloc _, K1.out.alloc _, K2.out.alloc _, (or_made w2 n).congr (fun i _ => by unfold mlT; rw [if_neg (by omega)]), bal HB2.out _⟩
  case round =>
    have hz : w.heap.size + 2 < w2.heap.size := K2.out.lt
    clear K0 K1 K2 HB2 d0 d1 l0 l1
    obtain ⟨k, hk, rfl, K0, K1, K2, HO, HB⟩ := hrel
    have d0 := K0.out.cell
    have d1 := K1.out.cell
    have d2 := K2.out.cell
    have l0 := K0.out.lt
    have l1 := K1.out.lt
    have l2 := K2.out.lt
    have f2 := K2.out.free
    by_cases hlt : k < n
    · obtain ⟨b, o, rfl, hc, hb⟩ := (HH.out.below HB.out).at_ k hlt
      have CC := C3 wr (f k) HB.out (HLT.out k hlt)
      have hf := HO.out.free k
      have hcc := HO.out.cell hlt
      have hg := HO.out.gl
      have HO2 := HO.out.set k (sm g (f k) n) (HS.out (f k) n HGL.out n (Nat.le_refl _))
      rw [mlT_up] at HO2
      have HO2 := hid HO2
      generalize sm g (f k) n = S at *
      go_wp2_with (go_at_call 29; (with_reducible refine CC.mono ?_); rintro e w1 ⟨rfl, rfl⟩)
      exact ⟨⟨k + 1, by omega, by go_num, K0.out.far (c := w2.heap.size) (by omega) _ _, K1.out.far (c := w2.heap.size) (by omega) _ _, K2.out.far (c := w2.heap.size) (by omega) _ _, HO2, bset HB.out _ _ _ (by omega)⟩, by simp only [intOf]; omega⟩
    · obtain rfl : k = n := by omega
      have HO3 := HO.out.congr (f' := fun i => sm g (f i) k) (fun i hi => by unfold mlT; rw [if_pos hi])
      obtain ⟨q0, q1⟩ := two_set K2.out (.int .i64 (k : Int)) (.slice (some ⟨w2.heap.size, 0, none⟩) k k)
      go_wp2
      exact bodyPost_ret (v := .tuple #[.agg #[.int .i64 (k : Int), .slice (some ⟨w2.heap.size, 0, none⟩) k k], .int .i64 0]) (by simp [results, Try.results14, go_sem, q0, q1]) rfl (lr_end (OS.of HO3 (Nat.le_refl _) (by omega) (by omega)) K2.out (by omega) HB.out)
end Go.Proofs.Ytinkdonaedoojaa
