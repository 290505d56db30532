/-
  gate.checkBoth, isOne.
-/
import Derived.Test.YtjmgcgjmaemgdaaC1
import Derived.Test.YtjmgcgjmaemgdaaQ1
namespace Go.Proofs.Ytjmgcgjmaemgdaa
open Go.RowKit Go.Sort

set_option maxHeartbeats 1000000 in
theorem both_any {w : World} {M M' N : Nat} {A B : Nat → Nat → A5} (h : MR w M N A) (h' : MR w M' N B) (h0 : 0 < N) (h8 : N ≤ 8) (hc : ∀ x y, x < N → y < N → (A x y).chk = true) (hc' : ∀ x y, x < N → y < N → (B x y).chk = true) : Calls Try.prog 36 #[mv M N, mv M' N] w fun e w' => e = .returned (.int .i64 0) ∧ Below w.heap.size w w' := by
  have S1 := shaped_any h h0 h8
  have S2 := shaped_any h' h0 h8
  have C1 := checks_any h h8 hc
  have C2 := fun V (hV : Below w.heap.size w V) => checks_any (h'.on hV) h8 hc'
  have c0 := h.m 0 h0
  go_enter Try.func36, Try.ntmps36
  go_wp2_with (first
    | (go_at_call 38; (with_reducible refine S1.mono ?_); rintro e w1 ⟨rfl, hE⟩; subst hE)
    | (go_at_call 38; (with_reducible refine S2.mono ?_); rintro e w1 ⟨rfl, hE⟩; subst hE)
    | (go_at_call 51; (with_reducible refine C1.mono ?_); rintro e w1 ⟨rfl, hB⟩)
    | (go_at_call 51; (with_reducible refine (C2 _ hB).mono ?_); rintro e w2 ⟨rfl, hN⟩))
  go_ret
  exact ⟨by simp, btr hB hN⟩
theorem run_one (w : World) : (binOp .neq 46 (.agg #[.complex .f64 4607182418800017408 0, .complex .f64 0 0, .int .i64 0]) (.agg #[.complex .f64 4607182418800017408 0, .complex .f64 0 0, .int .i64 0])).run Try.prog w = .ok (.bool false) w := by
  have := run_ane (a := 1) (b := 0) (c := 0) (d := 0) (k := 0) (a' := 1) (b' := 0) (c' := 0) (d' := 0) (k' := 0) ⟨by unfold sm; omega, by unfold sm; omega, by unfold sm; omega, by unfold sm; omega⟩ ⟨by unfold sm; omega, by unfold sm; omega, by unfold sm; omega, by unfold sm; omega⟩ w
  exact this
theorem run_nought (w : World) : (binOp .neq 46 (.agg #[.complex .f64 0 0, .complex .f64 0 0, .int .i64 0]) (.agg #[.complex .f64 0 0, .complex .f64 0 0, .int .i64 0])).run Try.prog w = .ok (.bool false) w := by
  have := run_ane (a := 0) (b := 0) (c := 0) (d := 0) (k := 0) (a' := 0) (b' := 0) (c' := 0) (d' := 0) (k' := 0) ⟨by unfold sm; omega, by unfold sm; omega, by unfold sm; omega, by unfold sm; omega⟩ ⟨by unfold sm; omega, by unfold sm; omega, by unfold sm; omega, by unfold sm; omega⟩ w
  exact this
def a0 : A5 := ⟨⟨0, 0, 0, 0⟩, 0⟩
def a1 : A5 := ⟨⟨1, 0, 0, 0⟩, 0⟩
/-- The matrix 1. -/
def oneA : Nat → Nat → A5 := fun x y => if x = y then a1 else a0
set_option maxHeartbeats 1000000 in
theorem isOne_any {w : World} {M N : Nat} (h : MR w M N oneA) (h8 : N ≤ 8) : Calls Try.prog 40 #[mv M N] w fun e w' => e = .returned (.bool true) ∧ Below w.heap.size w w' := by
  go_enter Try.func40, Try.ntmps40
  go_upto_region 2 with (fail)
  go_loopw [10] (fun v wr => ∃ k : Nat, k ≤ N ∧ v = .int .i64 k ∧ Hid (Below w.heap.size w wr)) (fun v _ => N - (intOf v).toNat)
  case atStart => exact ⟨0, by omega, rfl, Below.refl _ _⟩
  case round =>
    obtain ⟨x, hx, rfl, hH⟩ := hrel
    have hB := hH.out
    by_cases hlt : x < N
    · have ck := (h.on hB).m x hlt
      go_upto_region 5 with (fail)
      go_loopw [17] (fun v wr => ∃ k : Nat, k ≤ N ∧ v = .int .i64 k ∧ Hid (Below w.heap.size w wr)) (fun v _ => N - (intOf v).toNat)
      case atStart => exact ⟨0, by omega, rfl, hB⟩
      case round =>
        clear hH hB ck
        obtain ⟨y, hy, rfl, hH⟩ := hrel
        have hB := hH.out
        by_cases hly : y < N
        · have c0 := (h.on hB).c0 x y hlt hly
          have c1 := (h.on hB).c1 x y hlt hly
          have c2 := (h.on hB).c2 x y hlt hly
          have R1 := run_one
          have R0 := run_nought
          by_cases hxy : x = y
          · rw [show oneA x y = a1 by simp [oneA, hxy]] at c0 c1 c2
            subst hxy
            replace c0 : wr.cell? ⟨M + 1 + x, x * 3, none⟩ = some (.complex .f64 4607182418800017408 0) := c0
            replace c1 : wr.cell? ⟨M + 1 + x, x * 3 + 1, none⟩ = some (.complex .f64 0 0) := c1
            replace c2 : wr.cell? ⟨M + 1 + x, x * 3 + 2, none⟩ = some (.int .i64 0) := c2
            go_wp2
            go_roundw
            case rel => exact ⟨x + 1, by omega, by go_num, bal (bal hB _) _⟩
            case measure => simp [intOf]; omega
          · rw [show oneA x y = a0 by simp [oneA, hxy]] at c0 c1 c2
            replace c0 : wr.cell? ⟨M + 1 + x, y * 3, none⟩ = some (.complex .f64 0 0) := c0
            replace c1 : wr.cell? ⟨M + 1 + x, y * 3 + 1, none⟩ = some (.complex .f64 0 0) := c1
            replace c2 : wr.cell? ⟨M + 1 + x, y * 3 + 2, none⟩ = some (.int .i64 0) := c2
            go_wp2
            go_roundw
            case rel => exact ⟨y + 1, by omega, by go_num, bal (bal hB _) _⟩
            case measure => simp [intOf]; omega
        · go_wp2
          go_roundw
          case rel => exact ⟨x + 1, by omega, by go_num, hB⟩
          case measure => simp [intOf]; omega
    · go_wp2
      go_ret
      exact ⟨by simp, hB⟩
end Go.Proofs.Ytjmgcgjmaemgdaa
