/-
  The law's same and eye.
-/
import Derived.Test.YtjmgcgjmaemgdaaC2
import Derived.BigQuiet
namespace Go.Proofs.Ytjmgcgjmaemgdaa
open Go.RowKit Go.Sort

theorem bdn {B : Nat} {a w : World} (h : Below B a w) (n : Nat) : Below B a (w.drewN n) := ⟨h.os, h.tape, h.output, h.size, h.block⟩
theorem run_self (a : A5) (h : a.chk = true) (w : World) : (binOp .neq 46 a.v a.v).run Try.prog w = .ok (.bool false) w := by
  have hs : a.q.sm := by
    unfold A5.chk at h
    simp only [Bool.and_eq_true] at h
    exact Q4.sm_of h.1.1
  have := run_ane (k := (a.k : Nat)) (k' := (a.k : Nat)) ⟨hs.a, hs.b, hs.c, hs.d⟩ ⟨hs.a, hs.b, hs.c, hs.d⟩ w
  rw [show (binOp .neq 46 a.v a.v).run Try.prog w = _ from this]
  simp
set_option maxHeartbeats 1000000 in
theorem same_any {w : World} {M M' N : Nat} {A : Nat → Nat → A5} (h : MR w M N A) (h' : MR w M' N A) (h8 : N ≤ 8) (hc : ∀ x y, x < N → y < N → (A x y).chk = true) : Calls Try.prog 20 #[mv M N, mv M' N] w fun e w' => e = .returned (.bool true) ∧ Below w.heap.size w w' := by
  go_enter Try.func20, Try.ntmps20
  go_upto_region 4 with (fail)
  go_loopw [5] (fun v wr => ∃ k : Nat, k ≤ N ∧ v = .int .i64 k ∧ Hid (Below w.heap.size w wr)) (fun v _ => N - (intOf v).toNat)
  case atStart => exact ⟨0, by omega, rfl, Below.refl _ _⟩
  case round =>
    obtain ⟨x, hx, rfl, hH⟩ := hrel
    have hB := hH.out
    by_cases hlt : x < N
    · have c0 := (h.on hB).m x hlt
      have c1 := (h'.on hB).m x hlt
      go_upto_region 6 with (fail)
      go_quiet (fail)
      go_upto_region 9 with (fail)
      go_loopw [6] (fun v wr => ∃ k : Nat, k ≤ N ∧ v = .int .i64 k ∧ Hid (Below w.heap.size w wr)) (fun v _ => N - (intOf v).toNat)
      case atStart => exact ⟨0, by omega, rfl, bdn hB _⟩
      case round =>
        clear hH hB c0 c1
        obtain ⟨y, hy, rfl, hH⟩ := hrel
        have hB := hH.out
        have c0 := (h.on hB).m x hlt
        by_cases hly : y < N
        · have c1 := (h'.on hB).m x hlt
          have d0 := (h.on hB).c0 x y hlt hly
          have d1 := (h.on hB).c1 x y hlt hly
          have d2 := (h.on hB).c2 x y hlt hly
          have e0 := (h'.on hB).c0 x y hlt hly
          have e1 := (h'.on hB).c1 x y hlt hly
          have e2 := (h'.on hB).c2 x y hlt hly
          have RS := run_self (A x y) (hc x y hlt hly)
          generalize A x y = a at *
          go_upto_region 11 with (fail)
          go_quiet (fail)
          go_wp2
          go_roundw
          case rel => exact ⟨y + 1, by omega, by go_num, bdn hB _⟩
          case measure => simp [intOf]; omega
        · go_wp2
          go_roundw
          case rel => exact ⟨x + 1, by omega, by go_num, hB⟩
          case measure => simp [intOf]; omega
    · go_wp2
      go_ret
      exact ⟨by simp, hB⟩
set_option maxHeartbeats 1000000 in
theorem eye_any {w : World} {M N : Nat} (h : MR w M N oneA) (h8 : N ≤ 8) : Calls Try.prog 28 #[mv M N] w fun e w' => e = .returned (.bool true) ∧ Below w.heap.size w w' := by
  go_enter Try.func28, Try.ntmps28
  go_upto_region 2 with (fail)
  go_loopw [3] (fun v wr => ∃ k : Nat, k ≤ N ∧ v = .int .i64 k ∧ Hid (Below w.heap.size w wr)) (fun v _ => N - (intOf v).toNat)
  case atStart => exact ⟨0, by omega, rfl, Below.refl _ _⟩
  case round =>
    obtain ⟨x, hx, rfl, hH⟩ := hrel
    have hB := hH.out
    by_cases hlt : x < N
    · go_upto_region 5 with (fail)
      go_loopw [4] (fun v wr => ∃ k : Nat, k ≤ N ∧ v = .int .i64 k ∧ Hid (Below w.heap.size w wr)) (fun v _ => N - (intOf v).toNat)
      case atStart => exact ⟨0, by omega, rfl, hB⟩
      case round =>
        clear hH hB
        obtain ⟨y, hy, rfl, hH⟩ := hrel
        have hB := hH.out
        by_cases hly : y < N
        · have R1 := run_one
          have R0 := run_nought
          by_cases hxy : x = y
          · subst hxy
            have hA : Below w.heap.size w (wr.alloc (.cells #[.complex .f64 4607182418800017408 0, .complex .f64 0 0, .int .i64 0] 46)) := bal hB _
            have hV := Bx.new wr [.complex .f64 4607182418800017408 0, .complex .f64 0 0, .int .i64 0] 46
            have v0 := hV.c 0 _ rfl
            have v1 := hV.c 1 _ rfl
            have v2 := hV.c 2 _ rfl
            have m0 := (h.on hA).m x hlt
            have c0 := (h.on hA).c0 x x hlt hly
            have c1 := (h.on hA).c1 x x hlt hly
            have c2 := (h.on hA).c2 x x hlt hly
            rw [show oneA x x = a1 by simp [oneA]] at c0 c1 c2
            replace c0 : (wr.alloc (.cells #[.complex .f64 4607182418800017408 0, .complex .f64 0 0, .int .i64 0] 46)).cell? ⟨M + 1 + x, x * 3, none⟩ = some (.complex .f64 4607182418800017408 0) := c0
            replace c1 : (wr.alloc (.cells #[.complex .f64 4607182418800017408 0, .complex .f64 0 0, .int .i64 0] 46)).cell? ⟨M + 1 + x, x * 3 + 1, none⟩ = some (.complex .f64 0 0) := c1
            replace c2 : (wr.alloc (.cells #[.complex .f64 4607182418800017408 0, .complex .f64 0 0, .int .i64 0] 46)).cell? ⟨M + 1 + x, x * 3 + 2, none⟩ = some (.int .i64 0) := c2
            go_upto_region 10 with (fail)
            go_quiet (fail)
            go_wp2
            go_roundw
            case rel => exact ⟨x + 1, by omega, by go_num, bdn hA _⟩
            case measure => simp [intOf]; omega
          · have hA : Below w.heap.size w (wr.alloc (.cells #[.complex .f64 0 0, .complex .f64 0 0, .int .i64 0] 46)) := bal hB _
            have hV := Bx.new wr [.complex .f64 0 0, .complex .f64 0 0, .int .i64 0] 46
            have v0 := hV.c 0 _ rfl
            have v1 := hV.c 1 _ rfl
            have v2 := hV.c 2 _ rfl
            have m0 := (h.on hA).m x hlt
            have c0 := (h.on hA).c0 x y hlt hly
            have c1 := (h.on hA).c1 x y hlt hly
            have c2 := (h.on hA).c2 x y hlt hly
            rw [show oneA x y = a0 by simp [oneA, hxy]] at c0 c1 c2
            replace c0 : (wr.alloc (.cells #[.complex .f64 0 0, .complex .f64 0 0, .int .i64 0] 46)).cell? ⟨M + 1 + x, y * 3, none⟩ = some (.complex .f64 0 0) := c0
            replace c1 : (wr.alloc (.cells #[.complex .f64 0 0, .complex .f64 0 0, .int .i64 0] 46)).cell? ⟨M + 1 + x, y * 3 + 1, none⟩ = some (.complex .f64 0 0) := c1
            replace c2 : (wr.alloc (.cells #[.complex .f64 0 0, .complex .f64 0 0, .int .i64 0] 46)).cell? ⟨M + 1 + x, y * 3 + 2, none⟩ = some (.int .i64 0) := c2
            go_upto_region 10 with (fail)
            go_quiet (fail)
            go_wp2
            go_roundw
            case rel => exact ⟨y + 1, by omega, by go_num, bdn hA _⟩
            case measure => simp [intOf]; omega
        · go_wp2
          go_roundw
          case rel => exact ⟨x + 1, by omega, by go_num, hB⟩
          case measure => simp [intOf]; omega
    · go_wp2
      go_ret
      exact ⟨by simp, hB⟩
end Go.Proofs.Ytjmgcgjmaemgdaa
