/-
  Rows reduced; Rank and Inverse.
-/
import Derived.Test.YtinkdonaedoojaaA9
namespace Go.Proofs.Ytinkdonaedoojaa
open Go.RowKit

/-- Rows, what was Eye, and the rank: behind the first columns. -/
structure St where
  f : Nat → Nat
  h : Nat → Nat
  r : Nat
/-- One column. -/
def stp (n j : Nat) (s : St) : St := match fnd s.f j s.r n with
  | none => s
  | some i => ⟨clr s.r j (swp s.f i s.r) (swp s.f i s.r) n, clr s.r j (swp s.f i s.r) (swp s.h i s.r) n, s.r + 1⟩
def rd (n : Nat) (f h : Nat → Nat) : Nat → St
  | 0 => ⟨f, h, 0⟩
  | j + 1 => stp n j (rd n f h j)
theorem rd_r (n : Nat) (f h : Nat → Nat) : ∀ j, (rd n f h j).r ≤ j
  | 0 => Nat.le_refl _
  | j + 1 => by
    have := rd_r n f h j
    unfold rd stp
    split
    · omega
    · show (rd n f h j).r + 1 ≤ j + 1
      omega
set_option maxHeartbeats 2000000 in
set_option maxRecDepth 100000 in
theorem reduce_any (n g1 g2 c1 c2 : Nat) (f h : Nat → Nat) (w : World) (H1 : OR w g1 n f) (H2 : OR w g2 n h) (hne : g1 ≠ g2) (hn : n ≤ 64) :
    Calls Try.prog 33 #[.agg (s2 g1 g2 n c1 c2)] w fun e w' => e = .returned (.int .i64 ((rd n f h n).r : Nat)) ∧ OR w' g1 n (rd n f h n).f ∧ OR w' g2 n (rd n f h n).h ∧ G2 g1 g2 w w' := by
  have K0 := hid (bk_new w (s2 g1 g2 n c1 c2) 70)
  have O1 := hid (H1.on (bal (Below.refl w.heap.size w) (.cells (s2 g1 g2 n c1 c2) 70)))
  have O2 := hid (H2.on (bal (Below.refl w.heap.size w) (.cells (s2 g1 g2 n c1 c2) 70)))
  have G0 : Hid (G2 g1 g2 w (w.alloc (.cells (s2 g1 g2 n c1 c2) 70))) := G2.of (bal (Below.refl _ _) _)
  have LI := hid (fun (f h : Nat → Nat) p j w (H1 : OR w g1 n f) (H2 : OR w g2 n h) (hp : p < n) (hj : j < n) => lift_any n g1 g2 c1 c2 p j f h w H1 H2 hne hn hp (by omega))
  have CL := hid (fun (f h : Nat → Nat) p j w (H1 : OR w g1 n f) (H2 : OR w g2 n h) (hp : p < n) (hj : j < n) => clear_any n g1 g2 c1 c2 p j f h w H1 H2 hne hn hp (by omega))
  have hg1 := H1.gl
  have hg2 := H2.gl
  clear H1 H2
  go_enter Try.func33, Try.ntmps33
  go_wp2
  go_loopw [3, 8] (fun r i wx => ∃ j : Nat, j ≤ n ∧ i = .int .i64 j ∧ r = .int .i64 ((rd n f h j).r : Nat) ∧ Hid (BK wx w.heap.size (s2 g1 g2 n c1 c2) 70) ∧ Hid (OR wx g1 n (rd n f h j).f) ∧ Hid (OR wx g2 n (rd n f h j).h) ∧ Hid (G2 g1 g2 w wx)) (fun _ i _ => n - (intOf i).toNat)
  case atStart => exact ⟨0, Nat.zero_le _, rfl, rfl, K0, O1, O2, G0⟩
  case round =>
    clear K0 O1 O2 G0
    obtain ⟨j, hj, rfl, rfl, K0, O1, O2, G0⟩ := hrel
    have d0 := K0.out.cell
    have l0 := K0.out.lt
    by_cases hlt : j < n
    · have hr := rd_r n f h j
      have HS : Hid (rd n f h (j + 1) = stp n j (rd n f h j)) := rfl
      generalize rd n f h j = s at *
      obtain ⟨sf, sh, sr⟩ := s
      simp only at *
      have L := LI.out sf sh sr j wr O1.out O2.out (by omega) hlt
      unfold stp at HS
      unfold lft at L
      cases hF : fnd sf j sr n with
      | none =>
        rw [hF] at L HS
        simp only [Option.isSome_none] at L HS
        clear hF
        go_wp2_with (go_at_call 43; (with_reducible refine L.mono ?_); rintro e w1 ⟨rfl, hO1, hO2, hG⟩)
        refine ⟨⟨j + 1, by omega, by go_num, ?_, hG.bk K0.out (by omega) (by omega), ?_, ?_, G0.out.trans hG⟩, by simp only [intOf]; omega⟩
        · rw [HS.out]
        · show OR _ _ _ _
          rw [HS.out]; exact hO1
        · show OR _ _ _ _
          rw [HS.out]; exact hO2
      | some i =>
        rw [hF] at L HS
        simp only [Option.isSome_some] at L HS
        have hsr : sr < n := by omega
        clear hF
        go_upto_region 6 with (go_at_call 43; (with_reducible refine L.mono ?_); rintro e w1 ⟨rfl, hO1, hO2, hG⟩)
        have K1 := hid (hG.bk K0.out (by omega) (by omega))
        have C := CL.out _ _ sr j w1 hO1 hO2 hsr hlt
        have G1 := hid (G0.out.trans hG)
        clear hG hO1 hO2 K0 G0 d0 l0 O1 O2 L
        have d0 := K1.out.cell
        have l0 := K1.out.lt
        go_wp2_with (go_at_call 44; (with_reducible refine C.mono ?_); rintro e w2 ⟨rfl, hO1, hO2, hG⟩)
        refine ⟨⟨j + 1, by omega, by go_num, ?_, hG.bk K1.out (by omega) (by omega), ?_, ?_, G1.out.trans hG⟩, by simp only [intOf]; omega⟩
        · rw [HS.out]; go_num
        · show OR _ _ _ _
          rw [HS.out]; exact hO1
        · show OR _ _ _ _
          rw [HS.out]; exact hO2
    · obtain rfl : j = n := by omega
      go_wp2
      go_ret
      exact ⟨rfl, O1.out, O2.out, G0.out⟩
end Go.Proofs.Ytinkdonaedoojaa
