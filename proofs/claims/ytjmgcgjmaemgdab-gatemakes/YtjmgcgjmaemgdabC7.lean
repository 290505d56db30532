/-
  The law's same and eye.
-/
import Derived.Test.YtjmgcgjmaemgdabC2
import Derived.BigQuiet
namespace Go.Proofs.Ytjmgcgjmaemgdab
open Go.RowKit Go.Sort

theorem bdn {B : Nat} {a w : World} (h : Below B a w) (n : Nat) : Below B a (w.drewN n) := ⟨h.os, h.tape, h.output, h.size, h.block⟩
theorem run_self (a : A5) (h : a.chk = true) (w : World) : (binOp .neq 42 a.v a.v).run Try.prog w = .ok (.bool false) w := by
  have hs : a.q.sm := by
    unfold A5.chk at h
    simp only [Bool.and_eq_true] at h
    exact Q4.sm_of h.1.1
  have := run_ane (k := (a.k : Nat)) (k' := (a.k : Nat)) ⟨hs.a, hs.b, hs.c, hs.d⟩ ⟨hs.a, hs.b, hs.c, hs.d⟩ w
  rw [show (binOp .neq 42 a.v a.v).run Try.prog w = _ from this]
  simp
set_option maxHeartbeats 1000000 in
theorem same_any {w : World} {M M' N : Nat} {A : Nat → Nat → A5} (h : MR w M N A) (h' : MR w M' N A) (h8 : N ≤ 8) (hc : ∀ x y, x < N → y < N → (A x y).chk = true) : Calls Try.prog 6 #[mv M N, mv M' N] w fun e w' => e = .returned (.bool true) ∧ Below w.heap.size w w' := by
  go_enter Try.func6, Try.ntmps6
  go_upto_region 4 with (fail)
  go_loopw [5] (fun v wr => ∃ k : Nat, k ≤ N ∧ v = .int .i64 k ∧ Hid (Below w.heap.size w wr)) (fun v _ => N - (intOf v).toNat)
  case atStart => exact ⟨0, by omega, rfl, Below.refl _ _⟩
  case round =>
    obtain ⟨x, hx, rfl, hH⟩ := hrel
    have hB := hH.out
    by_cases hlt : x < N
    · have c0 := (h.on hB).m x hlt
      have c1 := (h'.on hB).m x hlt
      go_upto_region 6 with (fail)
      go_quiet (fail)
      go_upto_region 9 with (fail)
      go_loopw [6] (fun v wr => ∃ k : Nat, k ≤ N ∧ v = .int .i64 k ∧ Hid (Below w.heap.size w wr)) (fun v _ => N - (intOf v).toNat)
      case atStart => exact ⟨0, by omega, rfl, bdn hB _⟩
      case round =>
        clear hH hB c0 c1
        obtain ⟨y, hy, rfl, hH⟩ := hrel
        have hB := hH.out
        have c0 := (h.on hB).m x hlt
        by_cases hly : y < N
        · have c1 := (h'.on hB).m x hlt
          have d0 := (h.on hB).c0 x y hlt hly
          have d1 := (h.on hB).c1 x y hlt hly
          have d2 := (h.on hB).c2 x y hlt hly
          have e0 := (h'.on hB).c0 x y hlt hly
          have e1 := (h'.on hB).c1 x y hlt hly
          have e2 := (h'.on hB).c2 x y hlt hly
          have RS := run_self (A x y) (hc x y hlt hly)
          generalize A x y = a at *
          go_upto_region 11 with (fail)
          go_quiet (fail)
          go_wp2
          go_roundw
          case rel => exact ⟨y + 1, by omega, by go_num, bdn hB _⟩
          case measure => simp [intOf]; omega
        · go_wp2
          go_roundw
          case rel => exact ⟨x + 1, by omega, by go_num, hB⟩
          case measure => simp [intOf]; omega
    · go_wp2
      go_ret
      exact ⟨by simp, hB⟩
end Go.Proofs.Ytjmgcgjmaemgdab
