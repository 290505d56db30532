/-
  The law LinearSynth.
-/
import Derived.Test.YtinkdonaedoojaaM6
import Derived.Test.YtinkdonaedoojaaF3
import Derived.Test.YtinkdonaedoojaaL1
import Derived.BigQuiet
namespace Go.Proofs.Ytinkdonaedoojaa
open Go.RowKit

theorem cr_box {w w' : World} {e : Ending} {M : Int} {l : List (Nat × Nat)} {E : Int} (h : CR w w' e M l E) : ∃ a c, e = .returned (.tuple #[.agg #[.int .i64 M, .int .i64 0, .slice a l.length c], .int .i64 E]) ∧ OZ w' w.heap.size (.slice a l.length c) l ∧ Below w.heap.size w w' := by
  obtain ⟨v, rfl, hO, hB⟩ := h
  obtain ⟨a, c, A, C, rfl, _⟩ := hO.ex
  exact ⟨a, c, rfl, hO, hB⟩
theorem lr_box2 {w w' : World} {e : Ending} {M : Int} {m : Nat} {F : Nat → Nat} {E : Int} (h : LR w w' e M m F E) : ∃ b d, e = .returned (.tuple #[.agg #[.int .i64 M, .slice b m d], .int .i64 E]) ∧ Below w.heap.size w w' := by
  obtain ⟨v, rfl, hO, hB⟩ := h
  obtain ⟨b, d, rfl⟩ := os_shape hO
  exact ⟨b, d, rfl, hB⟩
abbrev ccs (M : Int) (a : Option Addr) (n c : Nat) : Array Value := #[.int .i64 M, .int .i64 0, .slice a n c]
set_option maxHeartbeats 4000000 in
set_option maxRecDepth 100000 in
theorem lsynth_bad (N : Int) (n : Nat) (a : Option Addr) (c : Nat) (f : Nat → Nat) (w : World) (H : RR w a n f) (hg : ¬ Gd N n f) :
    Calls Try.prog 5 #[lv N a n c] w fun e w' => e = .returned (.bool true) ∧ Below w.heap.size w w' := by
  have P1 := fun w' (h : Below w.heap.size w w') => synth_bad N n a c f w' (H.below h) hg
  have P2 := fun w' (h : Below w.heap.size w w') => check_bad N n a c f w' (H.below h) hg
  have HB := hid (bal (Below.refl w.heap.size w) (.cells (lcs N a n c) 24))
  have K0 := hid (bk_new w (lcs N a n c) 24)
  have AL := alive_any
  clear H hg
  go_enter Try.func5, Try.ntmps5
  go_upto_region 3 with (go_at_call 8; (with_reducible refine (AL _).mono ?_); rintro e w1 ⟨rfl, hN⟩)
  replace HB := hid (btr HB.out hN)
  replace K0 := hid (bk_on K0.out hN)
  clear hN AL
  have d0 := K0.out.cell
  have l0 := K0.out.lt
  go_upto_region 4 with (go_at_call 24; (with_reducible refine (P1 _ HB.out).mono ?_); rintro e wa hC; obtain ⟨aw, cw, rfl, hO, hN⟩ := cr_box hC)
  replace HB := hid (bal (btr HB.out hN) (.cells (ccs 0 aw 0 cw) 50))
  replace K0 := hid ((bk_on K0.out hN).alloc (.cells (ccs 0 aw 0 cw) 50))
  clear hN hO d0 l0 P1 hC
  generalize hV : wa.alloc (.cells (ccs 0 aw 0 cw) 50) = V at *
  clear hV
  have d0 := K0.out.cell
  have l0 := K0.out.lt
  go_wp2_with (go_at_call 9; (with_reducible refine (P2 _ HB.out).mono ?_); rintro e wb ⟨rfl, hN⟩)
  go_ret
  exact ⟨rfl, btr HB.out hN⟩
set_option maxHeartbeats 4000000 in
set_option maxRecDepth 100000 in
theorem lsynth_no (n : Nat) (a : Option Addr) (c : Nat) (f : Nat → Nat) (w : World) (H : RR w a n f) (hg : Gd n n f) (hb : syB n f n = false) :
    Calls Try.prog 5 #[lv n a n c] w fun e w' => e = .returned (.bool true) ∧ Below w.heap.size w w' := by
  have hn : n ≤ 64 := by have := hg.2.1; omega
  have hr := sy_short hg.2.2.2 hb
  have P1 : ∀ w', Below w.heap.size w w' → Calls Try.prog 24 #[lv n a n c] w' fun e w2 => CR w' w2 e 0 [] 200 := fun w' h => by
    refine (synth_good n a c f w' (H.below h) hg).mono ?_
    rintro e w2 (⟨h1, _⟩ | ⟨_, h2⟩)
    · rw [hb] at h1; cases h1
    · exact h2
  have P2 := fun w' (h : Below w.heap.size w w') => check_good n a c f w' (H.below h) hn hg.2.2.2
  have P3 : ∀ w', Below w.heap.size w w' → Calls Try.prog 20 #[lv n a n c] w' fun e w2 => LR w' w2 e 0 0 (iv n f) 200 := fun w' h => by
    refine (inverse_good n a c f w' (H.below h) hg).mono ?_
    rintro e w2 (⟨h1, _⟩ | ⟨_, h2⟩)
    · omega
    · exact h2
  have HB := hid (bal (Below.refl w.heap.size w) (.cells (lcs n a n c) 24))
  have K0 := hid (bk_new w (lcs n a n c) 24)
  have AL := alive_any
  clear H hg hb hr
  go_enter Try.func5, Try.ntmps5
  go_upto_region 3 with (go_at_call 8; (with_reducible refine (AL _).mono ?_); rintro e w1 ⟨rfl, hN⟩)
  replace HB := hid (btr HB.out hN)
  replace K0 := hid (bk_on K0.out hN)
  clear hN AL
  have d0 := K0.out.cell
  have l0 := K0.out.lt
  go_upto_region 4 with (go_at_call 24; (with_reducible refine (P1 _ HB.out).mono ?_); rintro e wa hC; obtain ⟨aw, cw, rfl, hO, hN⟩ := cr_box hC)
  replace HB := hid (bal (btr HB.out hN) (.cells (ccs 0 aw 0 cw) 50))
  replace K0 := hid ((bk_on K0.out hN).alloc (.cells (ccs 0 aw 0 cw) 50))
  have K3 := hid (bk_new wa (ccs 0 aw 0 cw) 50)
  clear hN hO d0 l0 P1 hC
  generalize hV : wa.alloc (.cells (ccs 0 aw 0 cw) 50) = V at *
  clear hV
  generalize wa.heap.size = b3 at *
  have d0 := K0.out.cell
  have l0 := K0.out.lt
  go_upto_region 7 with (go_at_call 9; (with_reducible refine (P2 _ HB.out).mono ?_); rintro e wb ⟨rfl, hN⟩)
  replace HB := hid (btr HB.out hN)
  replace K0 := hid (bk_on K0.out hN)
  replace K3 := hid (bk_on K3.out hN)
  clear hN d0 l0 P2
  have d0 := K0.out.cell
  have l0 := K0.out.lt
  go_upto_region 8 with (go_at_call 20; (with_reducible refine (P3 _ HB.out).mono ?_); rintro e wc hC; obtain ⟨ax, cx, rfl, hN⟩ := lr_box2 hC)
  replace HB := hid (bal (btr HB.out hN) (.cells #[.int .i64 0, .slice ax 0 cx] 24))
  replace K3 := hid ((bk_on K3.out hN).alloc (.cells #[.int .i64 0, .slice ax 0 cx] 24))
  clear hN d0 l0 P3 hC K0
  generalize wc.alloc (.cells #[.int .i64 0, .slice ax 0 cx] 24) = V2 at *
  have d3 := K3.out.cell
  have l3 := K3.out.lt
  go_wp2
  go_ret
  exact ⟨rfl, HB.out⟩
end Go.Proofs.Ytinkdonaedoojaa
