/-
  Parse of package pauli, where all are letters.
-/
import Derived.Test.YtoddbaljnlhhaaaXG
namespace Go.Proofs.Ytoddbaljnlhhaaa.PL
open Go.RowKit Go.Sort

set_option maxHeartbeats 1000000 in
theorem parse_long (L : List UInt8) (w : World) (hl : L.length ≤ 9223372036854775807) (ha : AllLet (cutS L).2) (h64 : 64 < (cutS L).2.length) :
    Calls Try.prog 98 #[.string ⟨L.toArray⟩] w fun e w' => e = .returned (.tuple #[pv 0 0 0 0, .int .i64 1]) ∧ Below w.heap.size w w' := by
  have CS := fun w => cutSign_any L w
  have hr : (cutS L).2.length ≤ 9223372036854775807 := Nat.le_trans (cutS_len L) hl
  have hf := cutS_f L
  generalize (cutS L).2 = R at *
  generalize (cutS L).1 = F at *
  have KD := fun (k : Nat) w => kind_any (gl R k) w (gl_lt R k)
  obtain ⟨hW, b1⟩ := one_box w 0 0 0 0
  obtain ⟨B, c, W1, CV0, hB1, hc, hBb, hC⟩ := conv_rd R (w.alloc (pc 0 0 0 0))
  have CV : (convert 9 89 (.string ⟨R.toArray⟩)).run Try.prog (w.alloc (.cells #[.int .i64 0, .int .u64 0, .int .u64 0, .int .i64 0] 27)) = .ok (.slice (some ⟨B, 0, none⟩) R.length c) W1 := CV0
  have b2 := b1.below hB1
  clear CV0
  have HC : Hid (∀ j, j < R.length → W1.cell? ⟨B, j, none⟩ = some (.int .u8 (gl R j : Nat))) := hC
  have HA : Hid (AllLet R) := ha
  clear hC ha hl
  go_enter Try.func98, Try.ntmps98
  go_upto_region 3 with (go_at_call 103; (with_reducible refine (CS _).mono ?_); rintro e w1 ⟨rfl, rfl⟩)
  clear CV CS
  go_loop [20] (fun i => ∃ k : Nat, k ≤ R.length ∧ i = .int .i64 k) (fun i => R.length - (intOf i).toNat)
  case atStart => exact ⟨0, by omega, rfl⟩
  case round =>
    obtain ⟨k, hk, rfl⟩ := hrel
    by_cases hlt : k < R.length
    · have hcell := HC.out k hlt
      have KDk := fun w => KD k w
      have hkd := kd_let (HA.out k hlt)
      generalize kd (gl R k) = kk at *
      have hkd' : ¬ kk < 0 := by omega
      clear KD
      go_wp2_with (go_at_call 62; (with_reducible refine (KDk _).mono ?_); rintro e w1 ⟨rfl, rfl⟩)
      go_round
      case rel => exact ⟨k + 1, by omega, by go_num⟩
      case measure => simp [intOf]; omega
    · obtain rfl : k = R.length := by omega
      obtain ⟨d0, d1, d2, d3, g0, g1, g2, g3⟩ := b2
      have hsz : (⟨R.toArray⟩ : ByteArray).size = R.length := rfl
      go_wp2
      refine bodyPost_ret (v := .tuple #[pv 0 0 0 0, .int .i64 1]) (by simp [results, Try.results98, go_sem, d0, d1, d2, d3]) rfl ⟨rfl, ?_⟩
      repeat (first | exact btr hW hB1 | refine bset ?_ _ _ _ (by omega))

/-- What Parse reads. -/
def rdP (L : List UInt8) : PS := ⟨(cutS L).2.length, prs (xs (cutS L).2) (cutS L).2.length, prs (zs (cutS L).2) (cutS L).2.length, (cutS L).1⟩
theorem push_x (X c : Nat) (hX : X < 9223372036854775808) (hc : isLet c) : bits .or .u64 ((X : Int) * 2) (IntKind.u64.wrap (bits .and .i64 (kd c) 1)) = ((2 * X + xd c : Nat) : Int) := by
  rcases hc with rfl | rfl | rfl | rfl
  · exact i_push X 0 hX (by decide)
  · exact i_push X 1 hX (by decide)
  · exact i_push X 1 hX (by decide)
  · exact i_push X 0 hX (by decide)
theorem push_z (X c : Nat) (hX : X < 9223372036854775808) (hc : isLet c) : bits .or .u64 ((X : Int) * 2) (IntKind.u64.wrap (kd c / 2)) = ((2 * X + zd c : Nat) : Int) := by
  rcases hc with rfl | rfl | rfl | rfl
  · exact i_push X 0 hX (by decide)
  · exact i_push X 0 hX (by decide)
  · exact i_push X 1 hX (by decide)
  · exact i_push X 1 hX (by decide)
/-- Parse's memory. -/
structure MP (w : World) (B8 B : Nat) (R : List UInt8) (X Z F : Nat) (W : World) : Prop where
  below : Below w.heap.size w W
  r : PB W w.heap.size 0 0 0 0
  p : PB W B8 R.length X Z F
  t : ∀ j, j < R.length → W.cell? ⟨B, j, none⟩ = some (.int .u8 (gl R j : Nat))
theorem MP.put {w : World} {B8 B : Nat} {R : List UInt8} {X Z F : Nat} {W : World} (h : MP w B8 B R X Z F W) (h1 : w.heap.size < B8) (h2 : B8 ≠ B) (X' Z' : Nat) :
    MP w B8 B R X' Z' F ((W.setCell ⟨B8, 1, none⟩ (.int .u64 (X' : Int))).setCell ⟨B8, 2, none⟩ (.int .u64 (Z' : Int))) :=
  ⟨bset (bset h.below _ _ _ (by omega)) _ _ _ (by omega), (h.r.far (by omega) _ _).far (by omega) _ _, (h.p.set1 X').set2 Z', fun j hj => by
    rw [World.cell?_setCell_far _ _ _ _ h2, World.cell?_setCell_far _ _ _ _ h2]; exact h.t j hj⟩

set_option maxHeartbeats 4000000 in
set_option maxRecDepth 100000 in
theorem parse_good (L : List UInt8) (w : World) (hl : L.length ≤ 9223372036854775807) (ha : AllLet (cutS L).2) (h64 : (cutS L).2.length ≤ 64) :
    Calls Try.prog 98 #[.string ⟨L.toArray⟩] w fun e w' => e = .returned (.tuple #[(rdP L).v, .int .i64 0]) ∧ Below w.heap.size w w' := by
  unfold rdP
  have CS := fun w => cutSign_any L w
  have hr : (cutS L).2.length ≤ 9223372036854775807 := Nat.le_trans (cutS_len L) hl
  have hf := cutS_f L
  generalize (cutS L).2 = R at *
  generalize (cutS L).1 = F at *
  have KD := fun (k : Nat) w => kind_any (gl R k) w (gl_lt R k)
  obtain ⟨hW, b1⟩ := one_box w 0 0 0 0
  obtain ⟨B, c, W1, CV0, hB1, hc, hBb, hC⟩ := conv_rd R (w.alloc (pc 0 0 0 0))
  have CV : (convert 9 89 (.string ⟨R.toArray⟩)).run Try.prog (w.alloc (.cells #[.int .i64 0, .int .u64 0, .int .u64 0, .int .i64 0] 27)) = .ok (.slice (some ⟨B, 0, none⟩) R.length c) W1 := CV0
  have b2 := b1.below hB1
  clear CV0
  have HC : Hid (∀ j, j < R.length → W1.cell? ⟨B, j, none⟩ = some (.int .u8 (gl R j : Nat))) := hC
  have HA : Hid (AllLet R) := ha
  have h65 : ¬ (64 : Int) < (R.length : Int) := by omega
  have h66 : ¬ 64 < R.length := by omega
  clear hC ha hl
  go_enter Try.func98, Try.ntmps98
  go_upto_region 3 with (go_at_call 103; (with_reducible refine (CS _).mono ?_); rintro e w1 ⟨rfl, rfl⟩)
  clear CV CS
  go_loop [20] (fun i => ∃ k : Nat, k ≤ R.length ∧ i = .int .i64 k) (fun i => R.length - (intOf i).toNat)
  case atStart => exact ⟨0, by omega, rfl⟩
  case round =>
    obtain ⟨k, hk, rfl⟩ := hrel
    by_cases hlt : k < R.length
    · have hcell := HC.out k hlt
      have KDk := fun w => KD k w
      have hkd := kd_let (HA.out k hlt)
      generalize kd (gl R k) = kk at *
      have hkd' : ¬ kk < 0 := by omega
      clear KD
      go_wp2_with (go_at_call 62; (with_reducible refine (KDk _).mono ?_); rintro e w1 ⟨rfl, rfl⟩)
      go_round
      case rel => exact ⟨k + 1, by omega, by go_num⟩
      case measure => simp [intOf]; omega
    · obtain rfl : k = R.length := by omega
      obtain ⟨B2, c', W2, CV2, hB2, hc2, hBb2, hC2⟩ := conv_rd R (W1.alloc (pc R.length 0 0 F))
      have CV3 : (convert 9 89 (.string ⟨R.toArray⟩)).run Try.prog (W1.alloc (.cells #[.int .i64 (R.length : Int), .int .u64 0, .int .u64 0, .int .i64 (F : Int)] 27)) = .ok (.slice (some ⟨B2, 0, none⟩) R.length c') W2 := CV2
      have hs1 := b2.lt
      have hM : Hid (MP w W1.heap.size B2 R 0 0 F W2) := ⟨btr (bal (btr hW hB1) _) hB2, (b2.alloc _).below hB2, (PB.new W1 R.length 0 0 F).below hB2, hC2⟩
      have hne : W1.heap.size ≠ B2 := by rw [alz] at hBb2; omega
      clear CV2 hC2 HC b1 b2 hB2 hBb2 hBb
      generalize hB8 : W1.heap.size = B8 at *
      go_upto_region 12 with (fail)
      clear CV3
      go_loopw [40] (fun i wr => ∃ k : Nat, k ≤ R.length ∧ i = .int .i64 k ∧ Hid (MP w B8 B2 R (prs (xs R) k) (prs (zs R) k) F wr)) (fun i _ => R.length - (intOf i).toNat)
      case atStart => exact ⟨0, by omega, rfl, hM⟩
      case round =>
        clear hM
        obtain ⟨k, hk, rfl, hH⟩ := hrel
        by_cases hlt : k < R.length
        · have hcell := hH.out.t k hlt
          have KDk := fun w => KD k w
          have hX := prs_small (xs_le R) (show k < 64 by omega)
          have hZ := prs_small (zs_le R) (show k < 64 by omega)
          have PX := push_x (prs (xs R) k) (gl R k) hX (HA.out k hlt)
          have PZ := push_z (prs (zs R) k) (gl R k) hZ (HA.out k hlt)
          have EX : Hid (prs (xs R) (k + 1) = 2 * prs (xs R) k + xd (gl R k)) := rfl
          have EZ : Hid (prs (zs R) (k + 1) = 2 * prs (zs R) k + zd (gl R k)) := rfl
          have hkd := kd_let (HA.out k hlt)
          obtain ⟨X', hX'⟩ : ∃ X', Hid (X' = 2 * prs (xs R) k + xd (gl R k)) := ⟨_, rfl⟩
          obtain ⟨Z', hZ'⟩ : ∃ Z', Hid (Z' = 2 * prs (zs R) k + zd (gl R k)) := ⟨_, rfl⟩
          rw [← hX'.out] at PX EX
          rw [← hZ'.out] at PZ EZ
          generalize prs (xs R) k = X at *
          generalize prs (zs R) k = Z at *
          generalize kd (gl R k) = kk at *
          have hwX : IntKind.u64.wrap ((X : Int) * 2) = (X : Int) * 2 := by rw [IntKind.wrap_u64]; omega
          have hwZ : IntKind.u64.wrap ((Z : Int) * 2) = (Z : Int) * 2 := by rw [IntKind.wrap_u64]; omega
          obtain ⟨p0, p1, p2, p3, g0, g1, g2, g3⟩ := hH.out.p
          clear KD
          go_wp2_with (go_at_call 62; (with_reducible refine (KDk _).mono ?_); rintro e w1 ⟨rfl, rfl⟩)
          go_roundw
          case rel =>
            refine ⟨k + 1, by omega, by go_num, ?_⟩
            rw [EX.out, EZ.out]
            exact hH.out.put hs1 hne X' Z'
          case measure => simp [intOf]; omega
        · obtain rfl : k = R.length := by omega
          obtain ⟨p0, p1, p2, p3, g0, g1, g2, g3⟩ := hH.out.p
          obtain ⟨r0, r1, r2, r3, k0, k1, k2, k3⟩ := hH.out.r
          obtain ⟨X, eX⟩ : ∃ X, Hid (X = prs (xs R) R.length) := ⟨_, rfl⟩
          obtain ⟨Z, eZ⟩ : ∃ Z, Hid (Z = prs (zs R) R.length) := ⟨_, rfl⟩
          rw [← eX.out] at p1
          rw [← eZ.out] at p2
          have n1 : ¬ B8 = w.heap.size := by omega
          have n2 : ¬ w.heap.size = B8 := by omega
          go_wp2
          refine bodyPost_ret (v := .tuple #[pv R.length X Z F, .int .i64 0]) (by simp [results, Try.results98, go_sem, r0, r1, r2, r3]) rfl ⟨by rw [eX.out, eZ.out], ?_⟩
          repeat (first | exact hH.out.below | refine bset ?_ _ _ _ (by omega))

end Go.Proofs.Ytoddbaljnlhhaaa.PL
