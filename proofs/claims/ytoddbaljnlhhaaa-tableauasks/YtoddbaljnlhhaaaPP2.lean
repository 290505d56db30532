/-
  What Eye, One, Adjoint, Weight, Commute and Mul of package pauli answer.
-/
import Derived.Test.YtoddbaljnlhhaaaPP1
namespace Go.Proofs.Ytoddbaljnlhhaaa.PL
open Go.RowKit Go.Sort

/-- The kind of a letter. -/
def kd (c : Nat) : Int := if c = 73 then 0 else if c = 88 then 1 else if c = 90 then 2 else if c = 89 then 3 else -1
theorem kd_is : ∀ c : Fin 256, Lib.indexByte [73, 88, 90, 89] ((c.val : Nat) : Int).toNat.toUInt8 = kd c.val := by decide +kernel
theorem kind_any (c : Nat) (w : World) (hc : c < 256) : Calls Try.prog 62 #[.int .u8 (c : Int)] w fun e w' => e = .returned (.int .i64 (kd c)) ∧ w' = w := by
  have h := kd_is ⟨c, hc⟩
  go_enter Try.func62, Try.ntmps62
  go_wp2_with (go_at_call 88; refine (Try.strings_IndexByte _ _ _).mono ?_; rintro e w' ⟨rfl, rfl⟩)
  go_ret
  exact ⟨ret_int h, rfl⟩

theorem eye_yes (n : Nat) (w : World) (hn : n ≤ 64) : Calls Try.prog 66 #[.int .i64 n] w fun e w' => e = .returned (.tuple #[pv n 0 0 0, .int .i64 0]) ∧ Below w.heap.size w w' := by
  go_enter Try.func66, Try.ntmps66
  go_wp2_with (go_at_call 63; refine (rows_yes _ _ (by omega) (by omega)).mono ?_; rintro e w' ⟨rfl, rfl⟩)
  exact bodyPost_ret (v := .tuple #[pv n 0 0 0, .int .i64 0]) (by simp [results, Try.results66, go_sem]) rfl ⟨rfl, (bal (Below.refl _ _) _)⟩
theorem eye_no (n : Int) (w : World) (hn : n < 0 ∨ 64 < n) : Calls Try.prog 66 #[.int .i64 n] w fun e w' => e = .returned (.tuple #[pv 0 0 0 0, .int .i64 2]) ∧ Below w.heap.size w w' := by
  go_enter Try.func66, Try.ntmps66
  go_wp2_with (go_at_call 63; refine (rows_no _ _ hn).mono ?_; rintro e w' ⟨rfl, rfl⟩)
  exact bodyPost_ret (v := .tuple #[pv 0 0 0 0, .int .i64 2]) (by simp [results, Try.results66, go_sem]) rfl ⟨rfl, (bal (Below.refl _ _) _)⟩

theorem kd_x : kd 88 = 1 := rfl
theorem kd_y : kd 89 = 3 := rfl
theorem kd_z : kd 90 = 2 := rfl
theorem ba1 : bits .and .i64 1 1 = 1 := rfl
theorem ba2 : bits .and .i64 2 1 = 0 := rfl
theorem ba3 : bits .and .i64 3 1 = 1 := rfl
theorem w1 : IntKind.u64.wrap 1 = 1 := rfl
theorem w0 : IntKind.u64.wrap 0 = 0 := rfl
theorem w_pow (q : Nat) (hq : q < 64) : IntKind.u64.wrap (2 ^ q) = 2 ^ q := by rw [i_pow q hq]; simp
theorem one_x (n q : Nat) (w : World) (hn : n ≤ 64) (hq : q < n) : Calls Try.prog 41 #[.int .i64 n, .int .i64 q, .int .u8 88] w fun e w' => e = .returned (.tuple #[pv n (2 ^ q) 0 0, .int .i64 0]) ∧ Below w.heap.size w w' := by
  have hp := w_pow q (by omega)
  go_enter Try.func41, Try.ntmps41
  go_wp2_with (first
    | (go_at_call 62; refine (kind_any 88 _ (by omega)).mono ?_; rintro e w' ⟨rfl, rfl⟩; rw [kd_x])
    | (go_at_call 63; refine (rows_yes _ _ (by omega) (by omega)).mono ?_; rintro e w' ⟨rfl, rfl⟩))
  go_region
  go_wp2
  exact bodyPost_ret (v := .tuple #[pv n (2 ^ q) 0 0, .int .i64 0]) (by simp [results, Try.results41, go_sem, ba1, w1, hp]) rfl ⟨rfl, below_drew (bal (Below.refl _ _) _)⟩
theorem one_y (n q : Nat) (w : World) (hn : n ≤ 64) (hq : q < n) : Calls Try.prog 41 #[.int .i64 n, .int .i64 q, .int .u8 89] w fun e w' => e = .returned (.tuple #[pv n (2 ^ q) (2 ^ q) 0, .int .i64 0]) ∧ Below w.heap.size w w' := by
  have hp := w_pow q (by omega)
  go_enter Try.func41, Try.ntmps41
  go_wp2_with (first
    | (go_at_call 62; refine (kind_any 89 _ (by omega)).mono ?_; rintro e w' ⟨rfl, rfl⟩; rw [kd_y])
    | (go_at_call 63; refine (rows_yes _ _ (by omega) (by omega)).mono ?_; rintro e w' ⟨rfl, rfl⟩))
  go_region
  go_wp2
  exact bodyPost_ret (v := .tuple #[pv n (2 ^ q) (2 ^ q) 0, .int .i64 0]) (by simp [results, Try.results41, go_sem, ba3, w1, hp]) rfl ⟨rfl, below_drew (bal (Below.refl _ _) _)⟩
theorem one_z (n q : Nat) (w : World) (hn : n ≤ 64) (hq : q < n) : Calls Try.prog 41 #[.int .i64 n, .int .i64 q, .int .u8 90] w fun e w' => e = .returned (.tuple #[pv n 0 (2 ^ q) 0, .int .i64 0]) ∧ Below w.heap.size w w' := by
  have hp := w_pow q (by omega)
  go_enter Try.func41, Try.ntmps41
  go_wp2_with (first
    | (go_at_call 62; refine (kind_any 90 _ (by omega)).mono ?_; rintro e w' ⟨rfl, rfl⟩; rw [kd_z])
    | (go_at_call 63; refine (rows_yes _ _ (by omega) (by omega)).mono ?_; rintro e w' ⟨rfl, rfl⟩))
  go_region
  go_wp2
  exact bodyPost_ret (v := .tuple #[pv n 0 (2 ^ q) 0, .int .i64 0]) (by simp [results, Try.results41, go_sem, ba2, w0]) rfl ⟨rfl, below_drew (bal (Below.refl _ _) _)⟩

theorem kd_le {c : Nat} (h : c ≠ 88 ∧ c ≠ 89 ∧ c ≠ 90) : kd c ≤ 0 := by unfold kd; simp only [h, if_false]; split <;> omega
theorem kd_pos {c : Nat} (h : c = 88 ∨ c = 89 ∨ c = 90) : ¬ kd c ≤ 0 := by rcases h with rfl | rfl | rfl <;> decide
theorem one_no (n q : Int) (c : Nat) (w : World) (hc : c < 256) (h : (n < 0 ∨ 64 < n) ∨ (0 ≤ n ∧ n ≤ 64) ∧ (q < 0 ∨ 0 ≤ q ∧ (n ≤ q ∨ q < n ∧ c ≠ 88 ∧ c ≠ 89 ∧ c ≠ 90))) :
    Calls Try.prog 41 #[.int .i64 n, .int .i64 q, .int .u8 (c : Int)] w fun e w' => e = .returned (.tuple #[pv 0 0 0 0, .int .i64 2]) ∧ Below w.heap.size w w' := by
  generalize hk : kd c = k
  rcases h with h | ⟨⟨h0, h1⟩, h | ⟨g, h | ⟨g', h⟩⟩⟩
  · go_enter Try.func41, Try.ntmps41
    go_wp2_with (first
      | (go_at_call 62; refine (kind_any c _ hc).mono ?_; rintro e w' ⟨rfl, rfl⟩; rw [hk])
      | (go_at_call 63; refine (rows_no _ _ h).mono ?_; rintro e w' ⟨rfl, rfl⟩))
    exact bodyPost_ret (v := .tuple #[pv 0 0 0 0, .int .i64 2]) (by simp [results, Try.results41, go_sem]) rfl ⟨rfl, bal (Below.refl _ _) _⟩
  · go_enter Try.func41, Try.ntmps41
    go_wp2_with (first
      | (go_at_call 62; refine (kind_any c _ hc).mono ?_; rintro e w' ⟨rfl, rfl⟩; rw [hk])
      | (go_at_call 63; refine (rows_yes _ _ h0 h1).mono ?_; rintro e w' ⟨rfl, rfl⟩))
    exact bodyPost_ret (v := .tuple #[pv 0 0 0 0, .int .i64 2]) (by simp [results, Try.results41, go_sem]) rfl ⟨rfl, bal (Below.refl _ _) _⟩
  · have g2 : ¬ q < 0 := by omega
    go_enter Try.func41, Try.ntmps41
    go_wp2_with (first
      | (go_at_call 62; refine (kind_any c _ hc).mono ?_; rintro e w' ⟨rfl, rfl⟩; rw [hk])
      | (go_at_call 63; refine (rows_yes _ _ h0 h1).mono ?_; rintro e w' ⟨rfl, rfl⟩))
    exact bodyPost_ret (v := .tuple #[pv 0 0 0 0, .int .i64 2]) (by simp [results, Try.results41, go_sem]) rfl ⟨rfl, bal (Below.refl _ _) _⟩
  · have g2 : ¬ q < 0 := by omega
    have g3 : ¬ n ≤ q := by omega
    have g4 : k ≤ 0 := hk ▸ kd_le h
    go_enter Try.func41, Try.ntmps41
    go_wp2_with (first
      | (go_at_call 62; refine (kind_any c _ hc).mono ?_; rintro e w' ⟨rfl, rfl⟩; rw [hk])
      | (go_at_call 63; refine (rows_yes _ _ h0 h1).mono ?_; rintro e w' ⟨rfl, rfl⟩))
    exact bodyPost_ret (v := .tuple #[pv 0 0 0 0, .int .i64 2]) (by simp [results, Try.results41, go_sem]) rfl ⟨rfl, bal (Below.refl _ _) _⟩

/-- What takes a string back. -/
def PS.adj (p : PS) : PS := ⟨p.n, p.x, p.z, (4 - p.f) % 4⟩
theorem PS.ok.adj {p : PS} (h : p.ok) : p.adj.ok := ⟨h.n1, h.x1, h.z1, Nat.mod_lt _ (by decide)⟩
end Go.Proofs.Ytoddbaljnlhhaaa.PL
