/-
  The law RootOrder where the second or the third isn't a root.
-/
import Derived.Test.YtalaacfoaelipaaDoorG6
namespace Go.Proofs.YtalaacfoaelipaaDoor
open Go.RowKit Go.Sort

set_option maxHeartbeats 2000000 in
set_option maxRecDepth 100000 in
theorem order_no2 (a1 a2 a3 b1 b2 b3 c1 c2 c3 : Int) (w : World) (hT : Tab w) (ha : isRoot a1 a2 a3) (hb : ¬ isRoot b1 b2 b3) :
    Calls Tryd.prog 8 #[rv a1 a2 a3, rv b1 b2 b3, rv c1 c2 c3] w fun x w' => x = .returned (.bool true) ∧ Below w.heap.size w w' := by
  have HT := ((hT.alloc (.cells #[.int .i64 a1, .int .i64 a2, .int .i64 a3] 23)).alloc (.cells #[.int .i64 b1, .int .i64 b2, .int .i64 b3] 23)).alloc (.cells #[.int .i64 c1, .int .i64 c2, .int .i64 c3] 23)
  have AW := awake_any _ HT
  have l2 : ∀ n : Nat, n < n + 1 + 1 := fun n => by omega
  have l3 : ∀ n : Nat, n < n + 1 + 1 + 1 := fun n => by omega
  have X1 := fun w => compare_no a1 a2 a3 b1 b2 b3 w (fun h => hb h.2)
  have X2 := fun w => compare_no b1 b2 b3 a1 a2 a3 w (fun h => hb h.1)
  have K1 := fun w => check_yes a1 a2 a3 w ha
  have K2 := fun w => check_no b1 b2 b3 w hb
  clear ha hb
  go_enter Tryd.func8, Tryd.ntmps8
  go_wp2_with (first
    | (go_at_call 9; (with_reducible refine AW.mono ?_); rintro e w1 ⟨rfl, hB⟩; obtain ⟨hc, hf⟩ := bcell hB)
    | (go_at_call 23; (with_reducible refine (X1 _).mono ?_); rintro e w1 ⟨rfl, hN⟩; replace hB := btr hB hN; obtain ⟨hc, hf⟩ := bcell hB)
    | (go_at_call 23; (with_reducible refine (X2 _).mono ?_); rintro e w1 ⟨rfl, hN⟩; replace hB := btr hB hN; obtain ⟨hc, hf⟩ := bcell hB)
    | (go_at_call 12; (with_reducible refine (K1 _).mono ?_); rintro e w1 ⟨rfl, hN⟩; replace hB := btr hB hN; obtain ⟨hc, hf⟩ := bcell hB)
    | (go_at_call 12; (with_reducible refine (K2 _).mono ?_); rintro e w1 ⟨rfl, hN⟩; replace hB := btr hB hN; obtain ⟨hc, hf⟩ := bcell hB))
  go_ret
  exact ⟨rfl, btr (bal (bal (bal (Below.refl w.heap.size w) _) _) _) hB⟩

set_option maxHeartbeats 2000000 in
set_option maxRecDepth 100000 in
theorem order_no3_eq (a1 a2 a3 c1 c2 c3 : Int) (w : World) (hT : Tab w) (X1 : (∀ w, Calls Tryd.prog 23 #[rv a1 a2 a3, rv a1 a2 a3] w fun z w' => z = .returned (.tuple #[.int .i64 0, .int .i64 0]) ∧ Below w.heap.size w w')) (K1 : (∀ w, Calls Tryd.prog 12 #[rv a1 a2 a3] w fun z w' => z = .returned (.int .i64 0) ∧ Below w.heap.size w w')) (K3 : (∀ w, Calls Tryd.prog 12 #[rv c1 c2 c3] w fun z w' => z = .returned (.int .i64 2) ∧ Below w.heap.size w w')) :
    Calls Tryd.prog 8 #[rv a1 a2 a3, rv a1 a2 a3, rv c1 c2 c3] w fun x w' => x = .returned (.bool true) ∧ Below w.heap.size w w' := by
  have HT := ((hT.alloc (.cells #[.int .i64 a1, .int .i64 a2, .int .i64 a3] 23)).alloc (.cells #[.int .i64 a1, .int .i64 a2, .int .i64 a3] 23)).alloc (.cells #[.int .i64 c1, .int .i64 c2, .int .i64 c3] 23)
  have AW := awake_any _ HT
  have l2 : ∀ n : Nat, n < n + 1 + 1 := fun n => by omega
  have l3 : ∀ n : Nat, n < n + 1 + 1 + 1 := fun n => by omega
  go_enter Tryd.func8, Tryd.ntmps8
  go_wp2_with (first
    | (go_at_call 9; (with_reducible refine AW.mono ?_); rintro e w1 ⟨rfl, hB⟩; obtain ⟨hc, hf⟩ := bcell hB)
    | (go_at_call 23; (with_reducible refine (X1 _).mono ?_); rintro e w1 ⟨rfl, hN⟩; replace hB := btr hB hN; obtain ⟨hc, hf⟩ := bcell hB)
    | (go_at_call 12; (with_reducible refine (K1 _).mono ?_); rintro e w1 ⟨rfl, hN⟩; replace hB := btr hB hN; obtain ⟨hc, hf⟩ := bcell hB)
    | (go_at_call 12; (with_reducible refine (K3 _).mono ?_); rintro e w1 ⟨rfl, hN⟩; replace hB := btr hB hN; obtain ⟨hc, hf⟩ := bcell hB))
  go_ret
  exact ⟨rfl, btr (bal (bal (bal (Below.refl w.heap.size w) _) _) _) hB⟩

set_option maxHeartbeats 2000000 in
set_option maxRecDepth 100000 in
theorem order_no3_ne (a1 a2 a3 b1 b2 b3 c1 c2 c3 x y : Int) (w : World) (hT : Tab w) (hx : ¬ x = 0) (hne : ¬ a1 = b1 ∨ (a1 = b1 ∧ ¬ a2 = b2) ∨ (a1 = b1 ∧ a2 = b2 ∧ ¬ a3 = b3))
    (X1 : (∀ w, Calls Tryd.prog 23 #[rv a1 a2 a3, rv b1 b2 b3] w fun z w' => z = .returned (.tuple #[.int .i64 x, .int .i64 0]) ∧ Below w.heap.size w w')) (X2 : (∀ w, Calls Tryd.prog 23 #[rv b1 b2 b3, rv a1 a2 a3] w fun z w' => z = .returned (.tuple #[.int .i64 y, .int .i64 0]) ∧ Below w.heap.size w w')) (K1 : (∀ w, Calls Tryd.prog 12 #[rv a1 a2 a3] w fun z w' => z = .returned (.int .i64 0) ∧ Below w.heap.size w w')) (K2 : (∀ w, Calls Tryd.prog 12 #[rv b1 b2 b3] w fun z w' => z = .returned (.int .i64 0) ∧ Below w.heap.size w w')) (K3 : (∀ w, Calls Tryd.prog 12 #[rv c1 c2 c3] w fun z w' => z = .returned (.int .i64 2) ∧ Below w.heap.size w w')) :
    Calls Tryd.prog 8 #[rv a1 a2 a3, rv b1 b2 b3, rv c1 c2 c3] w fun x w' => x = .returned (.bool true) ∧ Below w.heap.size w w' := by
  have HT := ((hT.alloc (.cells #[.int .i64 a1, .int .i64 a2, .int .i64 a3] 23)).alloc (.cells #[.int .i64 b1, .int .i64 b2, .int .i64 b3] 23)).alloc (.cells #[.int .i64 c1, .int .i64 c2, .int .i64 c3] 23)
  have AW := awake_any _ HT
  have l2 : ∀ n : Nat, n < n + 1 + 1 := fun n => by omega
  have l3 : ∀ n : Nat, n < n + 1 + 1 + 1 := fun n => by omega
  rcases hne with h | ⟨rfl, h⟩ | ⟨rfl, rfl, h⟩
  all_goals
    go_enter Tryd.func8, Tryd.ntmps8
    go_wp2_with (first
      | (go_at_call 9; (with_reducible refine AW.mono ?_); rintro e w1 ⟨rfl, hB⟩; obtain ⟨hc, hf⟩ := bcell hB)
      | (go_at_call 23; (with_reducible refine (X1 _).mono ?_); rintro e w1 ⟨rfl, hN⟩; replace hB := btr hB hN; obtain ⟨hc, hf⟩ := bcell hB)
      | (go_at_call 23; (with_reducible refine (X2 _).mono ?_); rintro e w1 ⟨rfl, hN⟩; replace hB := btr hB hN; obtain ⟨hc, hf⟩ := bcell hB)
      | (go_at_call 12; (with_reducible refine (K1 _).mono ?_); rintro e w1 ⟨rfl, hN⟩; replace hB := btr hB hN; obtain ⟨hc, hf⟩ := bcell hB)
      | (go_at_call 12; (with_reducible refine (K2 _).mono ?_); rintro e w1 ⟨rfl, hN⟩; replace hB := btr hB hN; obtain ⟨hc, hf⟩ := bcell hB)
      | (go_at_call 12; (with_reducible refine (K3 _).mono ?_); rintro e w1 ⟨rfl, hN⟩; replace hB := btr hB hN; obtain ⟨hc, hf⟩ := bcell hB))
    go_ret
    exact ⟨rfl, btr (bal (bal (bal (Below.refl w.heap.size w) _) _) _) hB⟩

end Go.Proofs.YtalaacfoaelipaaDoor
