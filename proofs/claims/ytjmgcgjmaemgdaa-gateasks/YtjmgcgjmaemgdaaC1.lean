/-
  Matrices that are read: shaped, checkEntries.
-/
import Derived.Test.YtjmgcgjmaemgdaaB7
import Derived.Test.YtjmgcgjmaemgdaaM1
namespace Go.Proofs.Ytjmgcgjmaemgdaa
open Go.RowKit Go.Sort

/-- A matrix that can be read. -/
structure MR (W : World) (M N : Nat) (A : Nat → Nat → A5) : Prop where
  m : ∀ x, x < N → W.cell? ⟨M, x, none⟩ = some (.slice (some ⟨M + 1 + x, 0, none⟩) N N)
  c0 : ∀ x y, x < N → y < N → W.cell? ⟨M + 1 + x, y * 3, none⟩ = some (cx (A x y).q.a (A x y).q.b)
  c1 : ∀ x y, x < N → y < N → W.cell? ⟨M + 1 + x, y * 3 + 1, none⟩ = some (cx (A x y).q.c (A x y).q.d)
  c2 : ∀ x y, x < N → y < N → W.cell? ⟨M + 1 + x, y * 3 + 2, none⟩ = some (.int .i64 ((A x y).k : Nat))
  lt : M + N < W.heap.size
theorem MR.on {W W2 : World} {M N : Nat} {A : Nat → Nat → A5} (h : MR W M N A) (hb : Below W.heap.size W W2) : MR W2 M N A :=
  ⟨fun x hx => (hb.cell (p := ⟨M, x, none⟩) (by have := h.lt; show M < _; omega)).trans (h.m x hx),
   fun x y hx hy => (hb.cell (p := ⟨M + 1 + x, _, none⟩) (by have := h.lt; show M + 1 + x < _; omega)).trans (h.c0 x y hx hy),
   fun x y hx hy => (hb.cell (p := ⟨M + 1 + x, _, none⟩) (by have := h.lt; show M + 1 + x < _; omega)).trans (h.c1 x y hx hy),
   fun x y hx hy => (hb.cell (p := ⟨M + 1 + x, _, none⟩) (by have := h.lt; show M + 1 + x < _; omega)).trans (h.c2 x y hx hy),
   Nat.lt_of_lt_of_le h.lt hb.size⟩
theorem MX.mr {w W : World} {M N : Nat} {A : Nat → Nat → A5} (h : MX w W M N (fun x y => (A x y).cells)) : MR W M N A :=
  ⟨h.m, fun x y hx hy => h.c x y 0 _ hx hy rfl, fun x y hx hy => h.c x y 1 _ hx hy rfl, fun x y hx hy => h.c x y 2 _ hx hy rfl, h.lt⟩
abbrev mv (M N : Nat) : Value := .slice (some ⟨M, 0, none⟩) N N
set_option maxHeartbeats 1000000 in
theorem shaped_any {w : World} {M N : Nat} {A : Nat → Nat → A5} (h : MR w M N A) (h0 : 0 < N) (h8 : N ≤ 8) : Calls Try.prog 38 #[mv M N] w fun e w' => e = .returned (.bool true) ∧ w' = w := by
  have c0 := h.m 0 h0
  have hz : ¬ N = 0 := by omega
  go_enter Try.func38, Try.ntmps38
  go_upto_region 4 with (fail)
  go_loopw [17] (fun v wr => ∃ k : Nat, k ≤ N ∧ v = .int .i64 k ∧ wr = w) (fun v _ => N - (intOf v).toNat)
  case atStart => exact ⟨0, by omega, rfl, rfl⟩
  case round =>
    obtain ⟨k, hk, rfl, rfl⟩ := hrel
    by_cases hlt : k < N
    · have ck := h.m k hlt
      go_wp2
      go_roundw
      case rel => exact ⟨k + 1, by omega, by go_num, by simp⟩
      case measure => simp [intOf]; omega
    · go_wp2
      go_ret
      exact ⟨by simp, rfl⟩
set_option maxHeartbeats 1000000 in
theorem checks_any {w : World} {M N : Nat} {A : Nat → Nat → A5} (h : MR w M N A) (h8 : N ≤ 8) (hc : ∀ x y, x < N → y < N → (A x y).chk = true) : Calls Try.prog 51 #[mv M N] w fun e w' => e = .returned (.int .i64 0) ∧ Below w.heap.size w w' := by
  go_enter Try.func51, Try.ntmps51
  go_upto_region 2 with (fail)
  go_loopw [10] (fun v wr => ∃ k : Nat, k ≤ N ∧ v = .int .i64 k ∧ Hid (Below w.heap.size w wr)) (fun v _ => N - (intOf v).toNat)
  case atStart => exact ⟨0, by omega, rfl, Below.refl _ _⟩
  case round =>
    obtain ⟨x, hx, rfl, hH⟩ := hrel
    have hB := hH.out
    by_cases hlt : x < N
    · have ck := (h.on hB).m x hlt
      go_upto_region 5 with (fail)
      go_loopw [16] (fun v wr => ∃ k : Nat, k ≤ N ∧ v = .int .i64 k ∧ Hid (Below w.heap.size w wr)) (fun v _ => N - (intOf v).toNat)
      case atStart => exact ⟨0, by omega, rfl, hB⟩
      case round =>
        clear hH hB ck
        obtain ⟨y, hy, rfl, hH⟩ := hrel
        have hB := hH.out
        by_cases hly : y < N
        · have c0 := (h.on hB).c0 x y hlt hly
          have c1 := (h.on hB).c1 x y hlt hly
          have c2 := (h.on hB).c2 x y hlt hly
          have C := fun w => acheck (A x y) (hc x y hlt hly) w
          generalize A x y = a at *
          go_wp2_with (go_at_call 54; (with_reducible refine (C _).mono ?_); rintro e w2 ⟨rfl, hN⟩; replace hB := btr (bal hB _) hN)
          go_roundw
          case rel => exact ⟨y + 1, by omega, by go_num, hB⟩
          case measure => simp [intOf]; omega
        · go_wp2
          go_roundw
          case rel => exact ⟨x + 1, by omega, by go_num, hB⟩
          case measure => simp [intOf]; omega
    · go_wp2
      go_ret
      exact ⟨by simp, hB⟩
end Go.Proofs.Ytjmgcgjmaemgdaa
