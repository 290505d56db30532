/-
  Put together of: PP4.
-/
import Derived.Test.YtoddbaljnlhhaabXC
namespace Go.Proofs.Ytoddbaljnlhhaab.PL
open Go.RowKit Go.Sort

theorem one_x1 (w : World) : Calls Try.prog 24 #[.int .i64 1, .int .i64 0, .int .u8 88] w fun e w' => e = .returned (.tuple #[.agg #[.int .i64 1, .int .u64 1, .int .u64 0, .int .i64 0], .int .i64 0]) ∧ Below w.heap.size w w' :=
  one_x 1 0 w (by omega) (by omega)
theorem one_y1 (w : World) : Calls Try.prog 24 #[.int .i64 1, .int .i64 0, .int .u8 89] w fun e w' => e = .returned (.tuple #[.agg #[.int .i64 1, .int .u64 1, .int .u64 1, .int .i64 0], .int .i64 0]) ∧ Below w.heap.size w w' :=
  one_y 1 0 w (by omega) (by omega)
theorem mul_xy : PS.mul ⟨1, 1, 0, 0⟩ ⟨1, 1, 1, 0⟩ = ⟨1, 0, 1, 1⟩ := by
  have : mulF 1 0 0 1 1 0 = 1 := by decide +kernel
  unfold PS.mul
  simp only [this]
  rfl
theorem mul_x1 (w : World) : Calls Try.prog 48 #[.agg #[.int .i64 1, .int .u64 1, .int .u64 0, .int .i64 0], .agg #[.int .i64 1, .int .u64 1, .int .u64 1, .int .i64 0]] w fun e w' => e = .returned (.tuple #[.agg #[.int .i64 1, .int .u64 0, .int .u64 1, .int .i64 1], .int .i64 0]) ∧ Below w.heap.size w w' := by
  have := mul_yes ⟨1, 1, 0, 0⟩ ⟨1, 1, 1, 0⟩ w ⟨by decide, by decide, by decide, by decide⟩ ⟨by decide, by decide, by decide, by decide⟩ rfl
  rw [mul_xy] at this
  exact this
theorem reye_yes (n : Nat) (w : World) (hn : n ≤ 64) : Calls Try.prog 67 #[.int .i64 n] w fun e w' => e = .returned (.tuple #[pv n 0 0 0, .int .i64 0]) ∧ Below w.heap.size w w' := by
  have h2 : ¬ 64 < n := by omega
  go_enter Try.func67, Try.ntmps67
  go_wp2
  exact bodyPost_ret (v := .tuple #[pv n 0 0 0, .int .i64 0]) (by simp [results, Try.results67, go_sem]) rfl ⟨rfl, (bal (Below.refl _ _) _)⟩
theorem reye_no (n : Int) (w : World) (hn : n < 0 ∨ 64 < n) : Calls Try.prog 67 #[.int .i64 n] w fun e w' => e = .returned (.tuple #[pv 0 0 0 0, .int .i64 2]) ∧ Below w.heap.size w w' := by
  rcases hn with hn | hn
  · go_enter Try.func67, Try.ntmps67
    go_wp2
    exact bodyPost_ret (v := .tuple #[pv 0 0 0 0, .int .i64 2]) (by simp [results, Try.results67, go_sem]) rfl ⟨rfl, (bal (Below.refl _ _) _)⟩
  · have h2 : ¬ n < 0 := by omega
    go_enter Try.func67, Try.ntmps67
    go_wp2
    exact bodyPost_ret (v := .tuple #[pv 0 0 0 0, .int .i64 2]) (by simp [results, Try.results67, go_sem]) rfl ⟨rfl, (bal (Below.refl _ _) _)⟩

/-- What set puts. -/
def setX (x j k : Nat) : Nat := if k = 1 ∨ k = 2 then x ||| 2 ^ j else x
def setZ (z j k : Nat) : Nat := if k = 2 ∨ k = 3 then z ||| 2 ^ j else z
theorem or_w (x j : Nat) (hx : x < 18446744073709551616) (hj : j < 64) : bits .or .u64 (x : Int) (IntKind.u64.wrap (2 ^ j)) = ((x ||| 2 ^ j : Nat) : Int) := by
  rw [i_pow j hj]; exact i_or x (2 ^ j) hx (pow_lt hj)
theorem set_any (n : Int) (x z : Nat) (f : Int) (j k : Nat) (w : World) (hx : x < 18446744073709551616) (hz : z < 18446744073709551616) (hj : j < 64) (hk : k ≤ 3) :
    Calls Try.prog 66 #[pv n x z f, .int .i64 j, .int .i64 k] w fun e w' => e = .returned (pv n (setX x j k) (setZ z j k) f) ∧ Below w.heap.size w w' := by
  have e1 := or_w x j hx hj
  have e2 := or_w z j hz hj
  have : k = 0 ∨ k = 1 ∨ k = 2 ∨ k = 3 := by omega
  rcases this with rfl | rfl | rfl | rfl
  · show Calls Try.prog 66 #[pv n x z f, .int .i64 j, .int .i64 0] w fun e w' => e = .returned (pv n x z f) ∧ Below w.heap.size w w'
    go_enter Try.func66, Try.ntmps66
    go_wp2
    exact bodyPost_ret (v := pv n x z f) (by simp [results, Try.results66, go_sem]) rfl ⟨rfl, bal (bal (Below.refl _ _) _) _⟩
  · show Calls Try.prog 66 #[pv n x z f, .int .i64 j, .int .i64 1] w fun e w' => e = .returned (pv n (x ||| 2 ^ j) z f) ∧ Below w.heap.size w w'
    generalize x ||| 2 ^ j = X at *
    go_enter Try.func66, Try.ntmps66
    go_wp2
    go_region
    go_wp2
    exact bodyPost_ret (v := pv n X z f) (by simp [results, Try.results66, go_sem]) rfl ⟨rfl, by repeat (first | exact Below.refl w.heap.size w | refine below_drew ?_ | refine bal ?_ _)⟩
  · show Calls Try.prog 66 #[pv n x z f, .int .i64 j, .int .i64 2] w fun e w' => e = .returned (pv n (x ||| 2 ^ j) (z ||| 2 ^ j) f) ∧ Below w.heap.size w w'
    generalize x ||| 2 ^ j = X at *
    generalize z ||| 2 ^ j = Z at *
    go_enter Try.func66, Try.ntmps66
    go_wp2
    go_region
    go_wp2
    go_region
    go_wp2
    exact bodyPost_ret (v := pv n X Z f) (by simp [results, Try.results66, go_sem]) rfl ⟨rfl, by repeat (first | exact Below.refl w.heap.size w | refine below_drew ?_ | refine bal ?_ _)⟩
  · show Calls Try.prog 66 #[pv n x z f, .int .i64 j, .int .i64 3] w fun e w' => e = .returned (pv n x (z ||| 2 ^ j) f) ∧ Below w.heap.size w w'
    generalize z ||| 2 ^ j = Z at *
    go_enter Try.func66, Try.ntmps66
    go_wp2
    go_region
    go_wp2
    exact bodyPost_ret (v := pv n x Z f) (by simp [results, Try.results66, go_sem]) rfl ⟨rfl, by repeat (first | exact Below.refl w.heap.size w | refine below_drew ?_ | refine bal ?_ _)⟩

end Go.Proofs.Ytoddbaljnlhhaab.PL
