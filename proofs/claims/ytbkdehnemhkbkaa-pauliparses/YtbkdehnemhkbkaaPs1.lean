/-
  The law PauliParses answers true, whatever the list of texts.
-/
import Derived.Test.YtbkdehnemhkbkaaQ4
namespace Go.Proofs.Ytbkdehnemhkbkaa
open Go.RowKit Go.Sort

/-- Both Parses tell the same of every text. -/
theorem both_parse (s : ByteArray) (hs : s.size ≤ 9223372036854775807) : ∃ (n : Int) (x z : Nat) (f e : Int),
    (∀ w, Calls Try.prog 25 #[.string s] w fun r w' => r = .returned (.tuple #[pv n x z f, .int .i64 e]) ∧ Below w.heap.size w w') ∧
    (∀ w, Calls Try.prog 26 #[.string s] w fun r w' => r = .returned (.tuple #[pv n x z f, .int .i64 e]) ∧ Below w.heap.size w w') := by
  have hl : s.data.toList.length ≤ 9223372036854775807 := hs
  have es : (⟨s.data.toList.toArray⟩ : ByteArray) = s := rfl
  by_cases ha : AllLet (cutS s.data.toList).2
  · have R := fun w => rparse_let s w hs ha
    by_cases h : 64 < (cutS s.data.toList).2.length
    · rw [if_pos h, if_pos h] at R
      have P := fun w => parse_long s.data.toList w hl ha h
      rw [es] at P
      exact ⟨0, 0, 0, 0, 1, R, P⟩
    · rw [if_neg h, if_neg h] at R
      have P := fun w => parse_good s.data.toList w hl ha (by omega)
      rw [es] at P
      exact ⟨_, _, _, _, 0, R, P⟩
  · have P := fun w => parse_bad s.data.toList w hl ha
    rw [es] at P
    exact ⟨0, 0, 0, 0, 70, fun w => rparse_bad s w hs ha, P⟩

/-- A list of texts. -/
structure SRow (a : Option Addr) (S : Nat → ByteArray) (n : Nat) (w : World) : Prop where
  at_ : ∀ i, i < n → ∃ b off, a = some ⟨b, off, none⟩ ∧ w.cell? ⟨b, off + i, none⟩ = some (.string (S i)) ∧ (S i).size ≤ 9223372036854775807
theorem SRow.below {a : Option Addr} {S : Nat → ByteArray} {n : Nat} {w w' : World} (h : SRow a S n w) (hb : Below w.heap.size w w') : SRow a S n w' := ⟨fun i hi => by
  obtain ⟨b, off, e, hc, hs⟩ := h.at_ i hi
  exact ⟨b, off, e, by rw [hb.cell (p := ⟨b, off + i, none⟩) (block_lt_of_cell hc)]; exact hc, hs⟩⟩

set_option maxHeartbeats 2000000 in
theorem parses_any (a : Option Addr) (S : Nat → ByteArray) (n cap : Nat) (w : World) (hn : n ≤ 9223372036854775807) (hr : SRow a S n w) :
    Calls Try.prog 5 #[.slice a n cap] w fun e w' => e = .returned (.bool true) ∧ Below w.heap.size w w' := by
  have AW := awake_any w
  have HR : Hid (SRow a S n w) := hr
  clear hr
  go_enter Try.func5, Try.ntmps5
  go_upto_region 4 with (go_at_call 8; (with_reducible refine AW.mono ?_); rintro e w1 ⟨rfl, hN⟩)
  clear AW
  go_loopw [13] (fun i wr => ∃ k : Nat, k ≤ n ∧ i = .int .i64 k ∧ Hid (Below w.heap.size w wr)) (fun i _ => n - (intOf i).toNat)
  case atStart => exact ⟨0, by omega, rfl, hN⟩
  case round =>
    clear hN
    obtain ⟨k, hk, rfl, hw⟩ := hrel
    by_cases hlt : k < n
    · obtain ⟨b, off, rfl, hc, hs⟩ := (HR.out.below hw.out).at_ k hlt
      obtain ⟨N, X, Z, F, E, CR, CC⟩ := both_parse (S k) hs
      clear hs
      generalize S k = s at *
      go_wp2_with (first
        | (go_at_call 25; (with_reducible refine (CR _).mono ?_); rintro e w1 ⟨rfl, hN1⟩; have hb1 := PB.new w1 N X Z F)
        | (go_at_call 26; (with_reducible refine (CC _).mono ?_); rintro e w2 ⟨rfl, hN2⟩; have q0 := fun o => ((hb1.below hN2).alloc o).c0; have q1 := fun o => ((hb1.below hN2).alloc o).c1; have q2 := fun o => ((hb1.below hN2).alloc o).c2; have q3 := fun o => ((hb1.below hN2).alloc o).c3))
      go_roundw
      case rel => exact ⟨k + 1, by omega, by go_num, bal (btr (bal (btr hw.out hN1) _) hN2) _⟩
      case measure => simp [intOf]; omega
    · go_wp2
      go_ret
      exact ⟨rfl, hw.out⟩
end Go.Proofs.Ytbkdehnemhkbkaa
