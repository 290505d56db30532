/-
  strings.IndexRune of the two signs: it ends, whatever the rune.
-/
import Derived.Test.YtalaacfoaelipaaDoorV12
import Derived.Test.YtalaacfoaelipaaDoorShelf2
import Derived.Deep.LoopGhost
import Derived.WalkMore
import Derived.Laws.RangeString
namespace Go.Proofs.YtalaacfoaelipaaDoor
open Go.RowKit Go.Sort

set_option maxHeartbeats 2000000 in
set_option maxRecDepth 100000 in
theorem rune_err (w : World) : Calls Tryd.prog 98 #[.string ⟨#[43, 45]⟩, .int .i32 65533] w fun e w' => e = .returned (.int .i64 (-1)) ∧ Below w.heap.size w w' := by
  have R0 := run_next_ascii (P := Tryd.prog) w ⟨#[43, 45]⟩ 0 0 (by decide) (by decide)
  have R1 := run_next_ascii (P := Tryd.prog) w ⟨#[43, 45]⟩ 1 0 (by decide) (by decide)
  have R2 := run_next_end (P := Tryd.prog) w ⟨#[43, 45]⟩ 2 0 (by decide)
  go_enter Tryd.func98, Tryd.ntmps98
  go_wp2
  refine wp_loop_rounds 3 ?_
  rw [rounds_succ]
  go_wp2
  rw [rounds_succ]
  go_wp2
  rw [rounds_succ]
  go_wp2
  go_ret
  exact ⟨rfl, bal (Below.refl _ _) _⟩

theorem enc_size (r : Nat) (h : 128 ≤ r) : (∃ a b : UInt8, Utf8.encode (r : Int) = ⟨#[a, b]⟩ ∧ 128 ≤ b.toNat) ∨ (3 ≤ (Utf8.encode (r : Int)).size ∧ (Utf8.encode (r : Int)).size ≤ 4) := by
  unfold Utf8.encode
  generalize hc : (if Utf8.valid (r : Int) = true then (r : Int).toNat else Utf8.runeError) = c
  have hc8 : 128 ≤ c := by
    rw [← hc]
    split
    · omega
    · decide
  simp only
  rw [if_neg (by omega)]
  by_cases h2 : c < 0x800
  · rw [if_pos h2]
    refine .inl ⟨_, _, rfl, ?_⟩
    have : (UInt8.ofNat (128 + c % 64)).toNat = (128 + c % 64) % 256 := by simp
    omega
  · rw [if_neg h2]
    right
    split
    · exact ⟨Nat.le_refl 3, Nat.le_succ 3⟩
    · exact ⟨Nat.le_succ 3, Nat.le_refl 4⟩

set_option maxHeartbeats 2000000 in
set_option maxRecDepth 100000 in
theorem rune_big (r : Nat) (w : World) (h : 128 ≤ r) (h2 : r ≤ 1114111) (h3 : r ≠ 65533) : Calls Tryd.prog 98 #[.string ⟨#[43, 45]⟩, .int .i32 (r : Int)] w fun e w' => (∃ i : Int, e = .returned (.int .i64 i) ∧ -1 ≤ i ∧ i ≤ 1) ∧ Below w.heap.size w w' := by
  have VR := fun w => Tryd.utf8_ValidRune (r : Int) w
  generalize Lib.validRune (r : Int) = vr at *
  have g1 : ¬ (r : Int) < 128 := by omega
  have g2 : ((r : Int) == 65533) = false := beq_false_of_ne (by omega)
  have IB : ∀ (c : Int) w, Calls Tryd.prog 111 #[.string ⟨#[]⟩, .int .u8 c] w fun e w' => e = .returned (.int .i64 (-1)) ∧ w' = w := fun c w => Tryd.strings_IndexByte ⟨#[]⟩ c w
  have CV : ∀ w, (convert 21 9 (.int .i32 (r : Int))).run Tryd.prog w = .ok (.string (Utf8.encode (r : Int))) w := fun w => run_convert_int_string w 21 9 .i32 r (by kernel_rfl) Tryd.underlying9
  have hE := enc_size r h
  generalize Utf8.encode (r : Int) = rs at *
  clear h h3
  cases vr with
  | false =>
    go_enter Tryd.func98, Tryd.ntmps98
    go_wp2_with (go_at_call 112; (with_reducible refine (VR _).mono ?_); rintro e w1 ⟨rfl, rfl⟩)
    go_ret
    exact ⟨⟨-1, rfl, by omega, by omega⟩, Below.refl _ _⟩
  | true =>
    rcases hE with ⟨a, b, rfl, hb⟩ | ⟨hz3, hz4⟩
    · go_enter Tryd.func98, Tryd.ntmps98
      go_wp2_with (go_at_call 112; (with_reducible refine (VR _).mono ?_); rintro e w1 ⟨rfl, rfl⟩)
      go_step3
      go_wp2
      refine wp_loop_rounds 1 ?_
      rw [rounds_succ]
      have hne : (((⟨#[43, 45]⟩ : ByteArray)[1].toNat : Int) == (((⟨#[a, b]⟩ : ByteArray)[1]'(Nat.lt_succ_self 1)).toNat : Int)) = false := beq_false_of_ne (by show ((45 : Nat) : Int) ≠ ((b.toNat : Nat) : Int); omega)
      go_wp2
      go_step3
      go_upto_region 6 with fail
      go_quiet (fail)
      have hB1 := below_drewN (Below.refl w1.heap.size w1) nq
      generalize w1.drewN nq = W2 at *
      have SL2 : ∀ w, (Instr.slice 9 (.string ⟨#[43, 45]⟩) (some (.int .i64 2)) none none).run Tryd.prog w = .ok (.string ⟨#[]⟩) w := fr_app [43, 45] [] (n := 2) rfl
      have hw2 : IntKind.i64.wrap 2 = 2 := by decide
      go_upto_region 7 with fail
      go_quiet ((go_at_call 111; exact Calls.quiet_of_same (IB _ _)))
      go_wp2
      rw [Exit.noGoto_ret]
      go_wp2
      try rw [Exit.noGoto_ret]
      go_wp2
      go_ret
      exact ⟨⟨-1, rfl, by omega, by omega⟩, below_drewN hB1 _⟩
    · go_enter Tryd.func98, Tryd.ntmps98
      go_wp2_with (go_at_call 112; (with_reducible refine (VR _).mono ?_); rintro e w1 ⟨rfl, rfl⟩)
      go_step3
      go_wp2
      refine wp_loop_rounds 1 ?_
      rw [rounds_succ]
      have hi : ¬ (rs.size : Int) - 1 < 2 := by omega
      go_wp2
      try rw [Exit.noGoto_ret]
      go_ret
      exact ⟨⟨-1, rfl, by omega, by omega⟩, Below.refl _ _⟩
end Go.Proofs.YtalaacfoaelipaaDoor
