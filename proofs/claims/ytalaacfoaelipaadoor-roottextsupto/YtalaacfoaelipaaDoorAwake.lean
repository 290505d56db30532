/-
  The laws' own waking test ('awake') answers true.
-/
import Derived.Test.YtalaacfoaelipaaDoorG4
namespace Go.Proofs.YtalaacfoaelipaaDoor
open Go.RowKit Go.Sort

theorem below_grow (w : World) (k : Nat) (os : Array Obj) : Below w.heap.size w (grow (w.drewN k) os) :=
  ⟨rfl, rfl, rfl, by simp [grow], fun i hi => by simp [grow, Array.getElem?_append, hi]⟩
theorem format_any (n : Int) (w : World) (h0 : -9223372036854775808 ≤ n) (h1 : n ≤ 9223372036854775807) (hT : Tab w) :
    Calls Tryd.prog 52 #[.int .i64 n, .int .i64 10] w fun e w' => e = .returned (.string ⟨(Lib.itoa n).toArray⟩) ∧ Below w.heap.size w w' :=
  (Tryd.strconv_FormatInt_10 n h0 h1 w hT.pow).mono fun e w' ⟨he, k, os, hw⟩ => ⟨he, by rw [hw]; exact below_grow w k os⟩
theorem itoa_any (n : Int) (w : World) (h0 : -9223372036854775808 ≤ n) (h1 : n ≤ 9223372036854775807) (hT : Tab w) :
    Calls Tryd.prog 53 #[.int .i64 n] w fun e w' => e = .returned (.string ⟨(Lib.itoa n).toArray⟩) ∧ Below w.heap.size w w' :=
  (Tryd.strconv_Itoa n h0 h1 w hT.pow).mono fun e w' ⟨he, k, os, hw⟩ => ⟨he, by rw [hw]; exact below_grow w k os⟩

theorem mul_aw : mulR 1 1 1 (-1) 1 1 = ⟨1, 0, 2, 0⟩ := by
  unfold mulR
  rw [if_pos ⟨by unfold isRoot; omega, by unfold isRoot; omega⟩]
  rfl
theorem itoa5 : (Lib.itoa 5).toArray = #[53] := by decide +kernel
theorem itoa_1 : (Lib.itoa (-1)).toArray = #[45, 49] := by decide +kernel
theorem itoa7 : (Lib.itoa 7).toArray = #[55] := by decide +kernel
theorem sign_aw : signS 3 (-2) = 1 := by decide
set_option maxHeartbeats 1000000 in
theorem text_aw (w : World) (hT : Tab w) : Calls Tryd.prog 27 #[rv 5 (-1) 7] w fun e w' => e = .returned (.tuple #[.string ⟨#[53, 45, 49, 114, 47, 50, 94, 55]⟩, .int .i64 0]) ∧ Below w.heap.size w w' := by
  have C := fun w => check_yes 5 (-1) 7 w (by unfold isRoot; omega)
  have HT := hT.alloc (.cells #[.int .i64 5, .int .i64 (-1), .int .i64 7] 23)
  have F1 : ∀ w, Tab w → Calls Tryd.prog 52 #[.int .i64 5, .int .i64 10] w fun e w' => e = .returned (.string ⟨#[53]⟩) ∧ Below w.heap.size w w' := fun w hT => by have := format_any 5 w (by omega) (by omega) hT; rwa [itoa5] at this
  have F2 : ∀ w, Tab w → Calls Tryd.prog 52 #[.int .i64 (-1), .int .i64 10] w fun e w' => e = .returned (.string ⟨#[45, 49]⟩) ∧ Below w.heap.size w w' := fun w hT => by have := format_any (-1) w (by omega) (by omega) hT; rwa [itoa_1] at this
  have F3 : ∀ w, Tab w → Calls Tryd.prog 53 #[.int .i64 7] w fun e w' => e = .returned (.string ⟨#[55]⟩) ∧ Below w.heap.size w w' := fun w hT => by have := itoa_any 7 w (by omega) (by omega) hT; rwa [itoa7] at this
  go_enter Tryd.func27, Tryd.ntmps27
  go_wp2_with (first
    | (go_at_call 12; (with_reducible refine (C _).mono ?_); rintro e w1 ⟨rfl, hB⟩; obtain ⟨hc, hf⟩ := bcell hB)
    | (go_at_call 52; (with_reducible refine (F1 _ (HT.below hB)).mono ?_); rintro e w1 ⟨rfl, hN⟩; replace hB := btr hB hN; obtain ⟨hc, hf⟩ := bcell hB)
    | (go_at_call 52; (with_reducible refine (F2 _ (HT.below hB)).mono ?_); rintro e w1 ⟨rfl, hN⟩; replace hB := btr hB hN; obtain ⟨hc, hf⟩ := bcell hB)
    | (go_at_call 53; (with_reducible refine (F3 _ (HT.below hB)).mono ?_); rintro e w1 ⟨rfl, hN⟩; replace hB := btr hB hN; obtain ⟨hc, hf⟩ := bcell hB))
  go_ret2
  exact ⟨rfl, btr (bal (Below.refl w.heap.size w) _) hB⟩
set_option maxHeartbeats 1000000 in
theorem awake_any (w : World) (hT : Tab w) : Calls Tryd.prog 9 #[] w fun e w' => e = .returned (.bool true) ∧ Below w.heap.size w w' := by
  have M : Calls Tryd.prog 19 #[rv 1 1 1, rv (-1) 1 1] w fun r w' => r = .returned (rtV ⟨1, 0, 2, 0⟩) ∧ Below w.heap.size w w' := by
    have := mul_any 1 1 1 (-1) 1 1 w hT
    rwa [mul_aw] at this
  have S : ∀ w, Calls Tryd.prog 22 #[rv 3 (-2) 0] w fun e w' => e = .returned (.tuple #[.int .i64 1, .int .i64 0]) ∧ Below w.heap.size w w' := fun w => by
    have := sign_yes 3 (-2) 0 w (by unfold isRoot; omega)
    rwa [sign_aw] at this
  go_enter Tryd.func9, Tryd.ntmps9
  go_wp2_with (first
    | (go_at_call 19; (with_reducible refine M.mono ?_); rintro e w1 ⟨rfl, hB⟩; unfold rtV)
    | (go_at_call 22; (with_reducible refine (S _).mono ?_); rintro e w2 ⟨rfl, hB2⟩; have hT2 := ((hT.below hB).alloc _).below hB2)
    | (go_at_call 27; (refine (text_aw _ hT2).mono ?_); rintro e w3 ⟨rfl, hN3⟩; have hB3 := btr hB2 hN3; obtain ⟨hc, hf⟩ := bcell hB3))
  go_ret
  exact ⟨rfl, btr (bal hB _) hB3⟩
end Go.Proofs.YtalaacfoaelipaaDoor
