/-
  The reference's Matrix at every gate; same, of the code's and the reference's.
-/
import Derived.Test.YtjmgcgjmaemgdaaH5
import Derived.Test.YtjmgcgjmaemgdaaD0
import Derived.Test.YtjmgcgjmaemgdaaV1
namespace Go.Proofs.Ytjmgcgjmaemgdaa
open Go.RowKit Go.Sort

theorem gm_of (i x y : Nat) (hi : i < 25) (hx : x < 2 ^ qOf i) (hy : y < 2 ^ qOf i) : (∃ m' h' : Nat, reP i x y = m' ∧ reH i x y = h' ∧ m' < 8 ∧ h' ≤ 1 ∧ eA i x y = ⟨⟨tA m' 1 0 0 0, tB m' 1 0 0 0, tC m' 1 0 0 0, tD m' 1 0 0 0⟩, h'⟩) ∨ (reP i x y = -1 ∧ eA i x y = a0) := by
  rcases ((gate_ok i hi).cell y x hy hx).2 with ⟨m, h, e, s⟩ | ⟨e, s⟩
  · have h0 := s.h0
    have h1 := s.h1
    refine .inl ⟨m, h.toNat, ?_, ?_, s.m8, by omega, ?_⟩
    · show (rO (ec i x y)).1 = _
      rw [e]; rfl
    · show (rO (ec i x y)).2 = _
      rw [e]
      show h = _
      omega
    · show eO (ec i x y) = _
      rw [e]; rfl
  · refine .inr ⟨?_, ?_⟩
    · show (rO (ec i x y)).1 = _
      rw [e]; rfl
    · show eO (ec i x y) = _
      rw [e]; rfl
/-- A matrix whose rows lie anywhere. -/
def MG (W : World) (N : Nat) (A : Nat → Nat → A5) (v : Value) : Prop := ∃ (g c : Nat) (B : Nat → Nat), v = .slice (some ⟨g, 0, none⟩) N c ∧ (∀ x, x < N → W.cell? ⟨g, x, none⟩ = some (.slice (some ⟨B x, 0, none⟩) N N)) ∧ (∀ x, x < N → RowC W (B x) N (A x)) ∧ g < W.heap.size
theorem MG.on {W W2 : World} {N : Nat} {A : Nat → Nat → A5} {v : Value} (h : MG W N A v) (hb : Below W.heap.size W W2) : MG W2 N A v := by
  obtain ⟨g, c, B, rfl, h1, h2, h3⟩ := h
  exact ⟨g, c, B, rfl, fun x hx => (hb.cell (p := ⟨g, x, none⟩) h3).trans (h1 x hx), fun x hx => (h2 x hx).on hb, Nat.lt_of_lt_of_le h3 hb.size⟩
theorem MO.mg {w W : World} {v : Value} {N : Nat} {B : Nat → Nat} {A : Nat → Nat → A5} (h : MO w W v N N B A) (hN : 0 < N) : MG W N A v := by
  obtain ⟨g, c, rfl, _, _, l1, c1⟩ := own_at h.own hN
  exact ⟨g, c, B, rfl, fun x hx => c1 x _ (by simp [sl, List.getElem?_range hx]), h.row, l1⟩
theorem rmatrix_all (i : Nat) (hi : i < 25) (w : World) : Calls Try.prog 19 #[.string (nm i)] w fun e w' => ∃ v, e = .returned (.tuple #[v, .int .i64 0]) ∧ Below w.heap.size w w' ∧ MG w' (2 ^ qOf i) (eA i) v := by
  have A := fun w => rarity_all i hi w
  have EN : ∀ x y, x < 2 ^ qOf i → y < 2 ^ qOf i → ∀ w, Calls Try.prog 34 #[.string (nm i), .int .i64 (x : Nat), .int .i64 (y : Nat)] w fun e w' => e = .returned (.tuple #[.int .i64 (reP i x y), .int .i64 (reH i x y)]) ∧ w' = w := fun x y hx hy w => rentry_all i x y hi hx hy w
  have GX := fun x y hx hy => gm_of i x y hi hx hy
  rcases (gate_ok i hi).q with e | e | e
  · rw [e] at A EN GX ⊢
    exact (rmatrix_1 (eA i) (reP i) (reH i) w A EN GX).mono fun _ _ ⟨v, B, he, h⟩ => ⟨v, he, h.below, h.mg (by decide)⟩
  · rw [e] at A EN GX ⊢
    exact (rmatrix_2 (eA i) (reP i) (reH i) w A EN GX).mono fun _ _ ⟨v, B, he, h⟩ => ⟨v, he, h.below, h.mg (by decide)⟩
  · rw [e] at A EN GX ⊢
    exact (rmatrix_3 (eA i) (reP i) (reH i) w A EN GX).mono fun _ _ ⟨v, B, he, h⟩ => ⟨v, he, h.below, h.mg (by decide)⟩
set_option maxHeartbeats 1000000 in
theorem same2_any {w : World} {M N : Nat} {A : Nat → Nat → A5} {v : Value} (h : MR w M N A) (h' : MG w N A v) (h8 : N ≤ 8) (hc : ∀ x y, x < N → y < N → (A x y).chk = true) : Calls Try.prog 20 #[mv M N, v] w fun e w' => e = .returned (.bool true) ∧ Below w.heap.size w w' := by
  obtain ⟨g, c, B, rfl, m1, m2, m3⟩ := h'
  have HG : Hid (∀ W, Below w.heap.size w W → ∀ x, x < N → W.cell? ⟨g, x, none⟩ = some (.slice (some ⟨B x, 0, none⟩) N N) ∧ RowC W (B x) N (A x)) := fun W hb x hx => ⟨(hb.cell (p := ⟨g, x, none⟩) m3).trans (m1 x hx), (m2 x hx).on hb⟩
  clear m1 m2 m3
  go_enter Try.func20, Try.ntmps20
  go_upto_region 4 with (fail)
  go_loopw [5] (fun v wr => ∃ k : Nat, k ≤ N ∧ v = .int .i64 k ∧ Hid (Below w.heap.size w wr)) (fun v _ => N - (intOf v).toNat)
  case atStart => exact ⟨0, by omega, rfl, Below.refl _ _⟩
  case round =>
    obtain ⟨x, hx, rfl, hH⟩ := hrel
    have hB := hH.out
    by_cases hlt : x < N
    · have c0 := (h.on hB).m x hlt
      have c1 := (HG.out _ hB x hlt).1
      go_upto_region 6 with (fail)
      go_quiet (fail)
      go_upto_region 9 with (fail)
      go_loopw [6] (fun v wr => ∃ k : Nat, k ≤ N ∧ v = .int .i64 k ∧ Hid (Below w.heap.size w wr)) (fun v _ => N - (intOf v).toNat)
      case atStart => exact ⟨0, by omega, rfl, bdn hB _⟩
      case round =>
        clear hH hB c0 c1
        obtain ⟨y, hy, rfl, hH⟩ := hrel
        have hB := hH.out
        have c0 := (h.on hB).m x hlt
        by_cases hly : y < N
        · obtain ⟨c1, rc⟩ := HG.out _ hB x hlt
          have d0 := (h.on hB).c0 x y hlt hly
          have d1 := (h.on hB).c1 x y hlt hly
          have d2 := (h.on hB).c2 x y hlt hly
          have e0 := rc.c0 y hly
          have e1 := rc.c1 y hly
          have e2 := rc.c2 y hly
          clear rc
          have RS := run_self (A x y) (hc x y hlt hly)
          generalize A x y = a at *
          generalize B x = b at *
          go_upto_region 11 with (fail)
          go_quiet (fail)
          go_wp2
          go_roundw
          case rel => exact ⟨y + 1, by omega, by go_num, bdn hB _⟩
          case measure => simp [intOf]; omega
        · go_wp2
          go_roundw
          case rel => exact ⟨x + 1, by omega, by go_num, hB⟩
          case measure => simp [intOf]; omega
    · go_wp2
      go_ret
      exact ⟨by simp, hB⟩
theorem same_nil (w : World) : Calls Try.prog 20 #[.slice none 0 0, .slice none 0 0] w fun e w' => e = .returned (.bool true) ∧ Below w.heap.size w w' := by
  go_enter Try.func20, Try.ntmps20
  go_upto_region 4 with (fail)
  refine wp_loop_rounds 1 ?_
  rw [rounds_succ]
  go_wp2
  go_ret
  exact ⟨by simp, Below.refl _ _⟩
end Go.Proofs.Ytjmgcgjmaemgdaa
