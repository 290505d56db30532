/-
  The statement's own look at an entry: is it a power of w?
-/
import Derived.Test.YtjmgcgjmaemgdaaQ1
namespace Go.Proofs.Ytjmgcgjmaemgdaa
open Go.RowKit Go.Sort

theorem hidG' {p : Prop} (h : p) : Hid p := h
theorem sm_un : ∀ m : Fin 8, (-4 ≤ tA m 1 0 0 0 ∧ tA m 1 0 0 0 ≤ 4) ∧ (-4 ≤ tB m 1 0 0 0 ∧ tB m 1 0 0 0 ≤ 4) ∧ (-4 ≤ tC m 1 0 0 0 ∧ tC m 1 0 0 0 ≤ 4) ∧ (-4 ≤ tD m 1 0 0 0 ∧ tD m 1 0 0 0 ≤ 4) := by decide
theorem smA_un (m : Nat) (h : m < 8) : smA (tA m 1 0 0 0) (tB m 1 0 0 0) (tC m 1 0 0 0) (tD m 1 0 0 0) := by
  have := sm_un ⟨m, h⟩
  exact ⟨this.1, this.2.1, this.2.2.1, this.2.2.2⟩
theorem smA_zero : smA 0 0 0 0 := ⟨sm0, sm0, sm0, sm0⟩
theorem un_inj : ∀ k m : Fin 8, (tA k 1 0 0 0 = tA m 1 0 0 0 ∧ tB k 1 0 0 0 = tB m 1 0 0 0 ∧ tC k 1 0 0 0 = tC m 1 0 0 0 ∧ tD k 1 0 0 0 = tD m 1 0 0 0) ↔ k = m := by decide
theorem un_pos : ∀ m : Fin 8, ¬ (tA m 1 0 0 0 = 0 ∧ tB m 1 0 0 0 = 0 ∧ tC m 1 0 0 0 = 0 ∧ tD m 1 0 0 0 = 0) := by decide
/-- Two powers of w are equal where they are the same. -/
theorem run_un (k m : Nat) (hk : k < 8) (hm : m < 8) (h h' : Int) (w : World) : (binOp .eql 46 (un k h) (un m h')).run Try.prog w = .ok (.bool (decide (k = m ∧ h = h'))) w := by
  rw [show (binOp .eql 46 (un k h) (un m h')).run Try.prog w = _ from run_aeq (smA_un k hk) (smA_un m hm) w]
  congr 2
  have := un_inj ⟨k, hk⟩ ⟨m, hm⟩
  simp only [Fin.mk.injEq] at this
  rw [decide_eq_decide]
  constructor
  · rintro ⟨a, b, c, d, e⟩; exact ⟨this.1 ⟨a, b, c, d⟩, e⟩
  · rintro ⟨rfl, e⟩; exact ⟨rfl, rfl, rfl, rfl, e⟩
theorem run_un_ne (k m : Nat) (hk : k < 8) (hm : m < 8) (h h' : Int) (w : World) : (binOp .neq 46 (un k h) (un m h')).run Try.prog w = .ok (.bool (!decide (k = m ∧ h = h'))) w := by
  rw [show (binOp .neq 46 (un k h) (un m h')).run Try.prog w = _ from run_ane (smA_un k hk) (smA_un m hm) w]
  congr 3
  have := un_inj ⟨k, hk⟩ ⟨m, hm⟩
  simp only [Fin.mk.injEq] at this
  rw [decide_eq_decide]
  constructor
  · rintro ⟨a, b, c, d, e⟩; exact ⟨this.1 ⟨a, b, c, d⟩, e⟩
  · rintro ⟨rfl, e⟩; exact ⟨rfl, rfl, rfl, rfl, e⟩
/-- The nought of an amplitude. -/
abbrev zv : Value := .agg #[.complex .f64 0 0, .complex .f64 0 0, .int .i64 0]
theorem zv_is : zv = av 0 0 0 0 0 := by
  have : fb 0 = 0 := by decide
  unfold zv av cx
  rw [this]
theorem run_un_same (k : Nat) (hk : k < 8) (h : Int) (w : World) : (binOp .eql 46 (un k h) (un k h)).run Try.prog w = .ok (.bool true) w := by rw [run_un k k hk hk h h w]; simp
theorem run_un_diff (k m : Nat) (hk : k < 8) (hm : m < 8) (h h' : Int) (e : k ≠ m) (w : World) : (binOp .eql 46 (un k h) (un m h')).run Try.prog w = .ok (.bool false) w := by rw [run_un k m hk hm h h' w]; simp [e]
theorem run_un_nne (k : Nat) (hk : k < 8) (h : Int) (w : World) : (binOp .neq 46 (un k h) (un k h)).run Try.prog w = .ok (.bool false) w := by rw [run_un_ne k k hk hk h h w]; simp
theorem run_un_zero (m : Nat) (hm : m < 8) (h : Int) (w : World) : (binOp .eql 46 (un m h) zv).run Try.prog w = .ok (.bool false) w := by
  rw [zv_is, show (binOp .eql 46 (un m h) (av 0 0 0 0 0)).run Try.prog w = _ from run_aeq (smA_un m hm) smA_zero w]
  congr 2
  rw [decide_eq_false_iff_not]
  rintro ⟨a, b, c, d, _⟩
  exact un_pos ⟨m, hm⟩ ⟨a, b, c, d⟩
theorem run_zero (w : World) : (binOp .eql 46 zv zv).run Try.prog w = .ok (.bool true) w := by kernel_rfl
theorem and7 : ∀ k : Fin 8, bits .and .i64 ((k : Nat) : Int) 7 = ((k : Nat) : Int) := by decide
set_option maxRecDepth 100000 in
set_option maxHeartbeats 2000000 in
theorem unit_any (m : Nat) (hm : m < 8) (h : Int) (w : World) : Calls Try.prog 29 #[un m h] w fun e w' => e = .returned (.bool true) ∧ Below w.heap.size w w' := by
  have T : ∀ (k : Nat), k < 8 → ∀ w, Calls Try.prog 41 #[.agg #[.complex .f64 4607182418800017408 0, .complex .f64 0 0, .int .i64 0], .int .i64 (k : Int)] w fun e w' => e = .returned (.tuple #[un k 0, .int .i64 0]) ∧ Below w.heap.size w w' := fun k hk w =>
    aturn 1 0 0 0 0 (k : Int) k w sm1 sm0 sm0 sm0 (.inl od10) (by decide) (by decide) (and7 ⟨k, hk⟩) hk
  have HT := hidG' T
  clear T
  have hB : Hid (Below w.heap.size w ((w.alloc (.cells #[cx (tA m 1 0 0 0) (tB m 1 0 0 0), cx (tC m 1 0 0 0) (tD m 1 0 0 0), .int .i64 0] 46)).alloc (.cells #[.complex .f64 4607182418800017408 0, .complex .f64 0 0, .int .i64 0] 46)) ∧
      Bx ((w.alloc (.cells #[cx (tA m 1 0 0 0) (tB m 1 0 0 0), cx (tC m 1 0 0 0) (tD m 1 0 0 0), .int .i64 0] 46)).alloc (.cells #[.complex .f64 4607182418800017408 0, .complex .f64 0 0, .int .i64 0] 46)) w.heap.size [cx (tA m 1 0 0 0) (tB m 1 0 0 0), cx (tC m 1 0 0 0) (tD m 1 0 0 0), .int .i64 0] ∧
      Bx ((w.alloc (.cells #[cx (tA m 1 0 0 0) (tB m 1 0 0 0), cx (tC m 1 0 0 0) (tD m 1 0 0 0), .int .i64 0] 46)).alloc (.cells #[.complex .f64 4607182418800017408 0, .complex .f64 0 0, .int .i64 0] 46)) (w.heap.size + 1) [.complex .f64 4607182418800017408 0, .complex .f64 0 0, .int .i64 0]) := by
    refine ⟨bal (bal (Below.refl _ _) _) _, (Bx.new w [cx (tA m 1 0 0 0) (tB m 1 0 0 0), cx (tC m 1 0 0 0) (tD m 1 0 0 0), .int .i64 0] 46).alloc _, ?_⟩
    have := Bx.new (w.alloc (.cells #[cx (tA m 1 0 0 0) (tB m 1 0 0 0), cx (tC m 1 0 0 0) (tD m 1 0 0 0), .int .i64 0] 46)) [.complex .f64 4607182418800017408 0, .complex .f64 0 0, .int .i64 0] 46
    simpa [go_sem] using this
  go_enter Try.func29, Try.ntmps29
  go_upto_region 4 with (fail)
  go_loopw [4] (fun v wr => ∃ k : Nat, k ≤ m ∧ v = .int .i64 k ∧ Hid (Below w.heap.size w wr ∧ Bx wr w.heap.size [cx (tA m 1 0 0 0) (tB m 1 0 0 0), cx (tC m 1 0 0 0) (tD m 1 0 0 0), .int .i64 0] ∧ Bx wr (w.heap.size + 1) [.complex .f64 4607182418800017408 0, .complex .f64 0 0, .int .i64 0])) (fun v _ => 8 - (intOf v).toNat)
  case atStart => exact ⟨0, by omega, rfl, hB⟩
  case round =>
    clear hB
    obtain ⟨k, hk, rfl, hH⟩ := hrel
    obtain ⟨hW, hX, hO⟩ := hH.out
    have TK := HT.out k (by omega)
    have o0 := hO.c 0 _ rfl
    have o1 := hO.c 1 _ rfl
    have o2 := hO.c 2 _ rfl
    by_cases hkm : k = m
    · subst hkm
      have QK := run_un_same k hm 0
      go_wp2_with (go_at_call 41; (with_reducible refine (TK _).mono ?_); rintro e w2 ⟨rfl, hN2⟩; have x0 := fun o => ((hX.below hN2).alloc o).c 0 _ rfl; have x1 := fun o => ((hX.below hN2).alloc o).c 1 _ rfl; have x2 := fun o => ((hX.below hN2).alloc o).c 2 _ rfl)
      go_ret
      exact ⟨rfl, bal (btr hW hN2) _⟩
    · have QK := run_un_diff k m (by omega) hm 0 0 hkm
      go_wp2_with (go_at_call 41; (with_reducible refine (TK _).mono ?_); rintro e w2 ⟨rfl, hN2⟩; have x0 := fun o => ((hX.below hN2).alloc o).c 0 _ rfl; have x1 := fun o => ((hX.below hN2).alloc o).c 1 _ rfl; have x2 := fun o => ((hX.below hN2).alloc o).c 2 _ rfl)
      go_roundw
      case rel => exact ⟨k + 1, by omega, by go_num, bal (btr hW hN2) _, (hX.below hN2).alloc _, (hO.below hN2).alloc _⟩
      case measure => simp [intOf]; omega
end Go.Proofs.Ytjmgcgjmaemgdaa
