/-
  Which gates make which: the rows, and all their products by reckoning.
-/
import Derived.Test.YtjmgcgjmaemgdabC4
import Derived.Test.YtjmgcgjmaemgdabV0
namespace Go.Proofs.Ytjmgcgjmaemgdab
open Go.RowKit Go.Sort

/-- An entry as a number. -/
def eO : Option (Nat × Int) → A5
  | none => a0
  | some (m, h) => ⟨⟨tA m 1 0 0 0, tB m 1 0 0 0, tC m 1 0 0 0, tD m 1 0 0 0⟩, h.toNat⟩
def eA (i : Nat) : Nat → Nat → A5 := fun x y => eO (ec i x y)
theorem eA_cells (i : Nat) (hi : i < 25) (x y : Nat) (hx : x < 2 ^ qOf i) (hy : y < 2 ^ qOf i) : matA (ens i) (2 ^ qOf i) x y = (eA i x y).cells := by
  rw [mat_c]
  show cellsO (ec i x y) = (eO (ec i x y)).cells
  rcases ((gate_ok i hi).cell y x hy hx).2 with ⟨m, h, e, s⟩ | ⟨e, _⟩
  · rw [e]
    have := s.h0
    show unL m h = [_, _, .int .i64 ((h.toNat : Nat) : Int)]
    rw [Int.toNat_of_nonneg this]
    rfl
  · rw [e]; rfl
def eqA (x y : A5) : Bool := decide (x.q.a = y.q.a) && decide (x.q.b = y.q.b) && decide (x.q.c = y.q.c) && decide (x.q.d = y.q.d) && decide (x.k = y.k)
theorem eqA_eq {x y : A5} (h : eqA x y = true) : x = y := by
  unfold eqA at h
  simp only [Bool.and_eq_true, decide_eq_true_eq] at h
  obtain ⟨⟨a, b, c, d⟩, k⟩ := x
  obtain ⟨⟨a', b', c', d'⟩, k'⟩ := y
  simp only at h
  obtain ⟨⟨⟨⟨rfl, rfl⟩, rfl⟩, rfl⟩, rfl⟩ := h
  rfl
/-- The rows: a gate, and the gates that make it. -/
def rws : List (List Nat) := [[3, 5, 5], [5, 7, 7], [1, 9, 9], [3, 4, 1, 4], [1, 4, 3, 4], [2, 5, 1, 6], [0, 11, 11, 11, 11, 11, 11, 11, 11], [0, 4, 4], [15, 17, 17], [19, 20, 21, 19]]
def rw_ (r : Nat) : List Nat := rws.getD r []
def ix (r j : Nat) : Nat := (rw_ r).getD j 0
/-- How many gates make it. -/
def ln (r : Nat) : Nat := (rw_ r).length - 1
def nOf (r : Nat) : Nat := 2 ^ qOf (ix r 0)
def wD (m : Nat) : Nat → Nat → A5 := fun x y => if x = y then eO (some (m % 8, 0)) else a0
/-- The product of the first gates. -/
def chn (r : Nat) : Nat → Nat → Nat → A5
  | 0 => eA (ix r 1)
  | j + 1 => if r = 6 then wD (j + 2) else mulP (chn r j) (eA (ix r (j + 2))) (nOf r)
def okS (r j x y : Nat) : Bool := (chn r j x y).chk && dotOk (chn r j) (eA (ix r (j + 2))) x y (nOf r) && eqA (dotP (chn r j) (eA (ix r (j + 2))) x y (nOf r)) (chn r (j + 1) x y)
def okRow (r : Nat) : Bool := decide (1 ≤ ln r) && decide (ln r ≤ 8) && decide ((rw_ r).length = ln r + 1) && decide (nOf r = 2 ∨ nOf r = 4 ∨ nOf r = 8) && ((List.range (ln r + 1)).all fun j => decide (ix r j < 25) && decide (2 ^ qOf (ix r j) = nOf r))
  && (List.range (nOf r)).all fun x => (List.range (nOf r)).all fun y => (eqA (chn r (ln r - 1) x y) (eA (ix r 0) x y) && (eA (ix r 0) x y).chk) && (List.range (ln r - 1)).all fun j => okS r j x y && (eA (ix r (j + 2)) x y).chk
set_option maxRecDepth 1000000 in
theorem mk_all : ∀ r : Fin 10, okRow r = true := by decide +kernel
structure MkOk (r : Nat) : Prop where
  l1 : 1 ≤ ln r
  l8 : ln r ≤ 8
  len : (rw_ r).length = ln r + 1
  n : nOf r = 2 ∨ nOf r = 4 ∨ nOf r = 8
  i : ∀ j, j < ln r + 1 → ix r j < 25 ∧ 2 ^ qOf (ix r j) = nOf r
  fin : ∀ x y, x < nOf r → y < nOf r → chn r (ln r - 1) x y = eA (ix r 0) x y
  chk0 : ∀ x y, x < nOf r → y < nOf r → (eA (ix r 0) x y).chk = true
  chk : ∀ j x y, j < ln r - 1 → x < nOf r → y < nOf r → (chn r j x y).chk = true
  dot : ∀ j x y, j < ln r - 1 → x < nOf r → y < nOf r → dotOk (chn r j) (eA (ix r (j + 2))) x y (nOf r) = true
  step : ∀ j x y, j < ln r - 1 → x < nOf r → y < nOf r → mulP (chn r j) (eA (ix r (j + 2))) (nOf r) x y = chn r (j + 1) x y
  chk' : ∀ j x y, j < ln r - 1 → x < nOf r → y < nOf r → (eA (ix r (j + 2)) x y).chk = true
theorem mk_ok (r : Nat) (hr : r < 10) : MkOk r := by
  have h := mk_all ⟨r, hr⟩
  simp only [okRow, okS, Bool.and_eq_true, List.all_eq_true, List.mem_range, decide_eq_true_eq] at h
  obtain ⟨⟨⟨⟨⟨h1, h2⟩, h3⟩, h4⟩, h5⟩, h6⟩ := h
  exact ⟨h1, h2, h3, h4, fun j hj => h5 j hj, fun x y hx hy => eqA_eq (h6 x hx y hy).1.1, fun x y hx hy => (h6 x hx y hy).1.2, fun j x y hj hx hy => ((h6 x hx y hy).2 j hj).1.1.1, fun j x y hj hx hy => ((h6 x hx y hy).2 j hj).1.1.2, fun j x y hj hx hy => eqA_eq ((h6 x hx y hy).2 j hj).1.2, fun j x y hj hx hy => ((h6 x hx y hy).2 j hj).2⟩
theorem matrix_num (i : Nat) (hi : i < 25) (w : World) : Calls Try.prog 5 #[.string (nm i)] w fun e w' => ∃ M, e = .returned (.tuple #[mv M (2 ^ qOf i), .int .i64 0]) ∧ Below w.heap.size w w' ∧ MR w' M (2 ^ qOf i) (eA i) :=
  (matrix_all i hi w).mono fun _ _ ⟨M, he, hM⟩ => ⟨M, he, hM.below, MX.mr (hM.same (fun _ _ => rfl) (fun x y hx hy => eA_cells i hi x y hx hy))⟩
theorem MR.same {W : World} {M N : Nat} {A A' : Nat → Nat → A5} (h : MR W M N A) (e : ∀ x y, x < N → y < N → A x y = A' x y) : MR W M N A' :=
  ⟨h.m, fun x y hx hy => by rw [← e x y hx hy]; exact h.c0 x y hx hy, fun x y hx hy => by rw [← e x y hx hy]; exact h.c1 x y hx hy, fun x y hx hy => by rw [← e x y hx hy]; exact h.c2 x y hx hy, h.lt⟩
set_option maxRecDepth 100000 in
set_option maxHeartbeats 2000000 in
theorem product_any {w : World} (r : Nat) (R : MkOk r) (B c : Nat) (hc : ∀ j, j < ln r → w.cell? ⟨B, 1 + j, none⟩ = some (.string (nm (ix r (j + 1))))) (hB : B < w.heap.size) :
    Calls Try.prog 7 #[.slice (some ⟨B, 1, none⟩) (ln r) c] w fun e w' => ∃ P, e = .returned (mv P (nOf r)) ∧ Below w.heap.size w w' ∧ MR w' P (nOf r) (eA (ix r 0)) := by
  have l1 := R.l1
  have l8 := R.l8
  have c0 : w.cell? ⟨B, 1, none⟩ = some (.string (nm (ix r 1))) := hc 0 (by omega)
  have MA : ∀ j, j < ln r + 1 → ∀ w, Calls Try.prog 5 #[.string (nm (ix r j))] w fun e w' => ∃ M, e = .returned (.tuple #[mv M (nOf r), .int .i64 0]) ∧ Below w.heap.size w w' ∧ MR w' M (nOf r) (eA (ix r j)) := fun j hj w => by
    have := matrix_num (ix r j) (R.i j hj).1 w
    rwa [(R.i j hj).2] at this
  have MU : ∀ j, j < ln r - 1 → ∀ V M M', MR V M (nOf r) (chn r j) → MR V M' (nOf r) (eA (ix r (j + 2))) → Calls Try.prog 16 #[mv M (nOf r), mv M' (nOf r)] V fun e w' => ∃ P, e = .returned (.tuple #[mv P (nOf r), .int .i64 0]) ∧ Below V.heap.size V w' ∧ MR w' P (nOf r) (chn r (j + 1)) := fun j hj V M M' hM hM' =>
    (mul_any hM hM' R.n (fun x y hx hy => R.chk j x y hj hx hy) (fun x y hx hy => R.chk' j x y hj hx hy) (fun x y hx hy => R.dot j x y hj hx hy)).mono fun _ _ ⟨P, he, hP⟩ => ⟨P, he, hP.below, hP.mr.same fun x y hx hy => R.step j x y hj hx hy⟩
  have FI : ∀ W P, MR W P (nOf r) (chn r (ln r - 1)) → MR W P (nOf r) (eA (ix r 0)) := fun W P h => h.same R.fin
  have H0 : chn r 0 = eA (ix r 1) := rfl
  clear R
  have M1 := MA 1 (by omega)
  rw [← H0] at M1
  have HU := hidG MU
  have HA := hidG MA
  have HF := hidG FI
  have HC := hidG hc
  clear MU MA FI hc H0
  generalize nOf r = N at *
  generalize ln r = n at *
  go_enter Try.func7, Try.ntmps7
  go_upto_region 3 with (go_at_call 5; (with_reducible refine (M1 _).mono ?_); rintro e w1 ⟨P0, rfl, hN, hM⟩)
  have hI : Hid (Below w.heap.size w w1 ∧ MR w1 P0 N (chn r 0)) := ⟨hN, hM⟩
  clear hN hM M1 c0
  go_loopw [3, 5] (fun v3 v5 wr => ∃ (j P : Nat), j + 1 ≤ n ∧ v5 = .int .i64 ((j : Int) + 1) ∧ v3 = mv P N ∧ Hid (Below w.heap.size w wr ∧ MR wr P N (chn r j))) (fun _ v5 _ => n - (intOf v5).toNat)
  case atStart => exact ⟨0, P0, by omega, rfl, rfl, hI⟩
  case round =>
    clear hI
    obtain ⟨j, P, hj, rfl, rfl, hH⟩ := hrel
    by_cases hlt : j + 1 < n
    · have cj := (hH.out.1.cell (p := ⟨B, 1 + (j + 1), none⟩) hB).trans (HC.out (j + 1) hlt)
      have hli : (j : Int) + 1 < (n : Int) := by omega
      have M2 := HA.out (j + 2) (by omega)
      have MU := HU.out j (by omega)
      go_wp2_with (first
        | (go_at_call 5; (with_reducible refine (M2 _).mono ?_); rintro e w2 ⟨P2, rfl, hN, hM⟩; have hB2 := btr hH.out.1 hN)
        | (go_at_call 16; (with_reducible refine (MU _ _ _ (hH.out.2.on hN) hM).mono ?_); rintro e w3 ⟨P3, rfl, hN3, hM3⟩))
      go_roundw
      case rel => exact ⟨j + 1, P3, by omega, by go_num, rfl, btr hB2 hN3, hM3⟩
      case measure => simp [intOf]; omega
    · obtain rfl : n = j + 1 := by omega
      have hli : ¬ (j : Int) + 1 < ((j + 1 : Nat) : Int) := by omega
      go_wp2
      go_ret
      exact ⟨P, rfl, hH.out.1, HF.out _ _ hH.out.2⟩
end Go.Proofs.Ytjmgcgjmaemgdab
