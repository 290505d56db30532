/-
  Matrix and Column where there is no gate of the name; Column where there is no such column.
-/
import Derived.Test.YtjmgcgjmaemgdaaH1
namespace Go.Proofs.Ytjmgcgjmaemgdaa
open Go.RowKit Go.Sort

set_option maxRecDepth 100000 in
set_option maxHeartbeats 400000 in
theorem matrix_miss {s : ByteArray} (H : Miss s) (w : World) : Calls Try.prog 18 #[.string s] w fun e w' => e = .returned (.tuple #[.slice none 0 0, .int .i64 80]) ∧ Below w.heap.size w w' := by
  have K := kinds_any w
  have L := run_miss s (miss_find H) true
  have hW := below_map w
  clear H
  generalize KA 25 = ka at *
  go_enter Try.func18, Try.ntmps18
  go_wp2_with (go_at_call 30; (with_reducible refine K.mono ?_); rintro e w1 ⟨rfl, rfl⟩)
  go_ret2
  exact ⟨rfl, bal hW _⟩
set_option maxRecDepth 100000 in
set_option maxHeartbeats 400000 in
theorem column_miss {s : ByteArray} (H : Miss s) (y : Int) (w : World) : Calls Try.prog 21 #[.string s, .int .i64 y] w fun e w' => e = .returned (.tuple #[.slice none 0 0, .slice none 0 0, .int .i64 80]) ∧ Below w.heap.size w w' := by
  have K := kinds_any w
  have L := run_miss s (miss_find H) true
  have hW := below_map w
  clear H
  generalize KA 25 = ka at *
  go_enter Try.func21, Try.ntmps21
  go_wp2_with (go_at_call 30; (with_reducible refine K.mono ?_); rintro e w1 ⟨rfl, rfl⟩)
  go_ret3
  exact ⟨rfl, bal hW _⟩
set_option maxRecDepth 100000 in
set_option maxHeartbeats 400000 in
theorem rmatrix_miss {s : ByteArray} (H : Miss s) (w : World) : Calls Try.prog 19 #[.string s] w fun e w' => e = .returned (.tuple #[.slice none 0 0, .int .i64 80]) ∧ w' = w := by
  have A := fun w => rarity_miss H w
  clear H
  go_enter Try.func19, Try.ntmps19
  go_wp2_with (go_at_call 9; (with_reducible refine (A _).mono ?_); rintro e w1 ⟨rfl, rfl⟩)
  go_ret2
  exact ⟨rfl, rfl⟩
set_option maxRecDepth 100000 in
set_option maxHeartbeats 400000 in
theorem rcolumn_miss {s : ByteArray} (H : Miss s) (y : Int) (w : World) : Calls Try.prog 22 #[.string s, .int .i64 y] w fun e w' => e = .returned (.tuple #[.slice none 0 0, .slice none 0 0, .int .i64 80]) ∧ w' = w := by
  have A := fun w => rarity_miss H w
  clear H
  go_enter Try.func22, Try.ntmps22
  go_wp2_with (go_at_call 9; (with_reducible refine (A _).mono ?_); rintro e w1 ⟨rfl, rfl⟩)
  go_ret3
  exact ⟨rfl, rfl⟩
set_option maxRecDepth 100000 in
set_option maxHeartbeats 1000000 in
theorem column_out {s : ByteArray} {i : Nat} {q c : Int} {f : Nat} {p h : Int} {cl di : Bool} {inv : ByteArray} (H : Hit s i q c f p h cl di inv) (hq : q = 1 ∨ q = 2 ∨ q = 3) (y : Int) (hy : y < 0 ∨ (2 : Int) ^ q.toNat ≤ y) (w : World) :
    Calls Try.prog 21 #[.string s, .int .i64 y] w fun e w' => e = .returned (.tuple #[.slice none 0 0, .slice none 0 0, .int .i64 2]) ∧ Below w.heap.size w w' := by
  have K := kinds_any w
  have L := run_look s i _ H true
  have hW := below_map w
  clear H
  generalize KA 25 = ka at *
  rcases hq with rfl | rfl | rfl
  all_goals
    simp at hy
    rcases hy with hy | hy
    all_goals
      first
        | (have hy0 : ¬ y < 0 := by omega)
        | skip
      go_enter Try.func21, Try.ntmps21
      go_wp2_with (go_at_call 30; (with_reducible refine K.mono ?_); rintro e w1 ⟨rfl, rfl⟩)
      go_ret3
      exact ⟨rfl, bal hW _⟩
set_option maxRecDepth 100000 in
set_option maxHeartbeats 1000000 in
theorem rcolumn_out {s : ByteArray} (q : Int) (A : ∀ w, Calls Try.prog 9 #[.string s] w fun e w' => e = .returned (.int .i64 q) ∧ w' = w) (hq : q = 1 ∨ q = 2 ∨ q = 3) (y : Int) (hy : y < 0 ∨ (2 : Int) ^ q.toNat ≤ y) (w : World) :
    Calls Try.prog 22 #[.string s, .int .i64 y] w fun e w' => e = .returned (.tuple #[.slice none 0 0, .slice none 0 0, .int .i64 2]) ∧ w' = w := by
  rcases hq with rfl | rfl | rfl
  all_goals
    simp at hy
    rcases hy with hy | hy
    all_goals
      first
        | (have hy0 : ¬ y < 0 := by omega)
        | skip
      go_enter Try.func22, Try.ntmps22
      go_wp2_with (go_at_call 9; (with_reducible refine (A _).mono ?_); rintro e w1 ⟨rfl, rfl⟩)
      go_ret3
      exact ⟨rfl, rfl⟩
end Go.Proofs.Ytjmgcgjmaemgdaa
