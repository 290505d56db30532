/-
  Amplitudes with small parts that can't be halved: Check, Turn; an entry of a gate's column as an amplitude.
-/
import Derived.Test.YtjmgcgjmaemgdaaE3
namespace Go.Proofs.Ytjmgcgjmaemgdaa
open Go.RowKit Go.Sort

set_option maxHeartbeats 400000 in
theorem parts_any (a b : Int) (w : World) (ha : sm a) (hb : sm b) : Calls Try.prog 81 #[cx a b] w fun e w' => e = .returned (.tuple #[.int .i64 a, .int .i64 b]) ∧ w' = w := by
  have c1 := fb_int ha
  have c2 := fb_int hb
  go_enter Try.func81, Try.ntmps81
  go_wp2
  all_goals (go_ret2; exact ⟨rfl, rfl⟩)

/-- Is the sum of the two odd? -/
def od (a b : Int) : Prop := bits .and .i64 (bits .xor .i64 a b) 1 ≠ 0
set_option maxHeartbeats 1000000 in
theorem halve_no (a b c d : Int) (w : World) (ha : sm a) (hb : sm b) (hc : sm c) (hd : sm d) (ho : od a b ∨ od c d) :
    Calls Try.prog 68 #[rg a b c d] w fun e w' => e = .returned (.tuple #[.agg #[.complex .f64 0 0, .complex .f64 0 0], .bool false, .int .i64 0]) ∧ Below w.heap.size w w' := by
  have C := fun w => rcheck a b c d w ha hb hc hd
  have P1 := fun w => parts_any a b w ha hb
  have P2 := fun w => parts_any c d w hc hd
  have hW : Below w.heap.size w ((w.alloc (.cells #[cx a b, cx c d] 44)).alloc (.cells #[.complex .f64 0 0, .complex .f64 0 0] 44)) := bal (bal (Below.refl _ _) _) _
  have hY : Bx ((w.alloc (.cells #[cx a b, cx c d] 44)).alloc (.cells #[.complex .f64 0 0, .complex .f64 0 0] 44)) w.heap.size [cx a b, cx c d] := (Bx.new w [cx a b, cx c d] 44).alloc _
  have hX : Bx ((w.alloc (.cells #[cx a b, cx c d] 44)).alloc (.cells #[.complex .f64 0 0, .complex .f64 0 0] 44)) (w.heap.size + 1) [.complex .f64 0 0, .complex .f64 0 0] := by
    have := Bx.new (w.alloc (.cells #[cx a b, cx c d] 44)) [.complex .f64 0 0, .complex .f64 0 0] 44
    simpa [go_sem] using this
  unfold od at ho
  have key : (bits .and .i64 (bits .xor .i64 a b) 1 != 0) = true ∨ ((bits .and .i64 (bits .xor .i64 a b) 1 != 0) = false ∧ (bits .and .i64 (bits .xor .i64 c d) 1 != 0) = true) := by
    by_cases h : bits .and .i64 (bits .xor .i64 a b) 1 = 0
    · exact .inr ⟨by simp [h], by simpa using ho.resolve_left (fun g => g h)⟩
    · exact .inl (by simpa using h)
  clear ho
  rcases key with k1 | ⟨k1, k2⟩
  all_goals
    go_enter Try.func68, Try.ntmps68
    go_wp2_with (first
      | (go_at_call 67; (with_reducible refine (C _).mono ?_); rintro e w1 ⟨rfl, hN1⟩; replace hW := btr hW hN1; replace hX := hX.below hN1; replace hY := hY.below hN1; have y0 := hY.c 0 _ rfl; have y1 := hY.c 1 _ rfl; have c0 := hX.c 0 _ rfl; have c1 := hX.c 1 _ rfl; have f0 := hX.f 0 _ rfl; have f1 := hX.f 1 _ rfl)
      | (go_at_call 81; (with_reducible refine (P1 _).mono ?_); rintro e w2 ⟨rfl, rfl⟩)
      | (go_at_call 81; (with_reducible refine (P2 _).mono ?_); rintro e w2 ⟨rfl, rfl⟩))
    refine bodyPost_ret (v := .tuple #[.agg #[.complex .f64 0 0, .complex .f64 0 0], .bool false, .int .i64 0]) (by simp [results, Try.results68, go_sem, c0, c1]) rfl ⟨rfl, ?_⟩
    repeat (first | exact hW | refine bset ?_ _ _ _ (by omega))

/-- An amplitude. -/
abbrev av (a b c d k : Int) : Value := .agg #[cx a b, cx c d, .int .i64 k]
set_option maxHeartbeats 1000000 in
theorem acheck_odd (a b c d k : Int) (w : World) (ha : sm a) (hb : sm b) (hc : sm c) (hd : sm d) (ho : od a b ∨ od c d) (hk : 0 ≤ k) (hk2 : k ≤ 60) :
    Calls Try.prog 54 #[av a b c d k] w fun e w' => e = .returned (.int .i64 0) ∧ Below w.heap.size w w' := by
  have C := fun w => rcheck a b c d w ha hb hc hd
  have H := fun w => halve_no a b c d w ha hb hc hd ho
  have hW : Below w.heap.size w (w.alloc (.cells #[cx a b, cx c d, .int .i64 k] 46)) := bal (Below.refl _ _) _
  have hY : Bx (w.alloc (.cells #[cx a b, cx c d, .int .i64 k] 46)) w.heap.size [cx a b, cx c d, .int .i64 k] := Bx.new w [cx a b, cx c d, .int .i64 k] 46
  have k1 : ¬ k < 0 := by omega
  have k2 : ¬ 60 < k := by omega
  clear ho
  go_enter Try.func54, Try.ntmps54
  go_wp2_with (first
    | (go_at_call 67; (with_reducible refine (C _).mono ?_); rintro e w1 ⟨rfl, hN1⟩; replace hW := btr hW hN1; replace hY := hY.below hN1; have y0 := hY.c 0 _ rfl; have y1 := hY.c 1 _ rfl; have y2 := hY.c 2 _ rfl)
    | (go_at_call 68; (with_reducible refine (H _).mono ?_); rintro e w2 ⟨rfl, hN2⟩; replace hW := bal (btr hW hN2) (.cells #[.complex .f64 0 0, .complex .f64 0 0] 44)))
  all_goals (go_ret; exact ⟨by simp, hW⟩)

set_option maxHeartbeats 400000 in
theorem over_any (a b c d k : Int) (w : World) : Calls Try.prog 56 #[rg a b c d, .int .i64 k, .int .i64 0] w fun e w' => e = .returned (.tuple #[av a b c d k, .int .i64 0]) ∧ Below w.heap.size w w' := by
  go_enter Try.func56, Try.ntmps56
  go_wp2
  refine bodyPost_ret (v := .tuple #[av a b c d k, .int .i64 0]) (by simp [results, Try.results56, go_sem]) rfl ⟨rfl, ?_⟩
  exact bal (bal (Below.refl _ _) _) _
end Go.Proofs.Ytjmgcgjmaemgdaa
