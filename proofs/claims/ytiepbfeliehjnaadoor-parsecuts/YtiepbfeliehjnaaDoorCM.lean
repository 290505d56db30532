/-
  Plain mathematics: the rows that are kept when one statement is left out, one by one. Of no program of Go.
-/
import Derived.Test.YtiepbfeliehjnaaDoorNB
import Derived.Test.YtiepbfeliehjnaaDoorQ1
namespace Go.Proofs.YtiepbfeliehjnaaDoor

/-- The numbers below k that are kept. -/
def keepN (i m k : Nat) : List Nat := (List.range k).filter fun j => decide (j < i) || decide (i + m ≤ j)
theorem keepN_in {i m k : Nat} (h1 : i ≤ k) (h2 : k < i + m) : keepN i m (k + 1) = keepN i m k := by
  unfold keepN
  rw [List.range_succ, List.filter_append]
  have e : (decide (k < i) || decide (i + m ≤ k)) = false := by simp; omega
  simp [e]
theorem keepN_out {i m k : Nat} (h : k < i ∨ i + m ≤ k) : keepN i m (k + 1) = keepN i m k ++ [k] := by
  unfold keepN
  rw [List.range_succ, List.filter_append]
  have e : (decide (k < i) || decide (i + m ≤ k)) = true := by simpa using h
  simp [e]
theorem keepN_len (i m k : Nat) : (keepN i m k).length ≤ k := by
  have := List.length_filter_le (fun j => decide (j < i) || decide (i + m ≤ j)) (List.range k)
  rw [List.length_range] at this
  exact this
theorem keepN_lt {i m k j : Nat} (h : j ∈ keepN i m k) : j < k := by
  unfold keepN at h
  exact List.mem_range.1 (List.mem_filter.1 h).1
abbrev noRow : Rw := ⟨⟨#[]⟩, ⟨#[]⟩, [], 0, 0, 0⟩
/-- A row that is kept: those that hold what is left out tell so many less. -/
def adjR (i m : Nat) (rs : List Rw) (j : Nat) : Rw := if j < i ∧ (i : Int) ≤ j + (rs.getD j noRow).rows then ⟨(rs.getD j noRow).kind, (rs.getD j noRow).name, (rs.getD j noRow).args, (rs.getD j noRow).num, (rs.getD j noRow).rows - m, (rs.getD j noRow).place⟩ else rs.getD j noRow
theorem adjR_args {i m : Nat} {rs : List Rw} {j : Nat} (h : j < rs.length) : (adjR i m rs j).args = rs[j].args := by
  unfold adjR
  rw [List.getD_eq_getElem?_getD, List.getElem?_eq_getElem h]
  split <;> rfl
theorem keepN_succ (i m n : Nat) : keepN (i + 1) m (n + 1) = 0 :: (keepN i m n).map (· + 1) := by
  unfold keepN
  rw [List.range_succ_eq_map, List.filter_cons, if_pos (by simp), List.filter_map]
  have e : ((fun j => decide (j < i + 1) || decide (i + 1 + m ≤ j)) ∘ Nat.succ) = fun j => decide (j < i) || decide (i + m ≤ j) := by
    funext j
    simp only [Function.comp, Nat.succ_eq_add_one]
    congr 1
    · simp
    · simp; omega
  rw [e]
theorem keepN_zero (m n : Nat) : keepN 0 (m + 1) (n + 1) = (keepN 0 m n).map (· + 1) := by
  unfold keepN
  rw [List.range_succ_eq_map, List.filter_cons, if_neg (by simp), List.filter_map]
  have e : ((fun j => decide (j < 0) || decide (0 + (m + 1) ≤ j)) ∘ Nat.succ) = fun j => decide (j < 0) || decide (0 + m ≤ j) := by
    funext j
    simp only [Function.comp, Nat.succ_eq_add_one]
    simp
  rw [e]
theorem keepN_all (n : Nat) : keepN 0 0 n = List.range n := by
  unfold keepN
  rw [List.filter_eq_self]
  intro a _
  simp
theorem keep_drop : ∀ (rs : List Rw) (m : Nat), (keepN 0 m rs.length).map (adjR 0 m rs) = rs.drop m := by
  have e0 : ∀ (m : Nat) (rs : List Rw) (j : Nat), adjR 0 m rs j = rs.getD j noRow := fun m rs j => by unfold adjR; rw [if_neg (by omega)]
  intro rs
  induction rs with
  | nil => intro m; simp [keepN]
  | cons r rs ih =>
    intro m
    cases m with
    | zero =>
      rw [keepN_all, List.drop_zero]
      apply List.ext_getElem
      · simp
      · intro k h1 h2
        simp only [List.getElem_map, List.getElem_range, e0]
        rw [List.getD_eq_getElem?_getD, List.getElem?_eq_getElem h2]
        rfl
    | succ m =>
      rw [List.length_cons, keepN_zero, List.map_map, List.drop_succ_cons, ← ih m]
      apply List.map_congr_left
      intro j _
      simp only [Function.comp, e0]
      rfl
theorem keep_cut : ∀ (i : Nat) (rs : List Rw) (m : Nat), (keepN i m rs.length).map (adjR i m rs) = cutR i m rs := by
  intro i
  induction i with
  | zero => intro rs m; exact keep_drop rs m
  | succ i ih =>
    intro rs m
    cases rs with
    | nil => simp [keepN, cutR]
    | cons r rs =>
      rw [List.length_cons, keepN_succ, List.map_cons, List.map_map]
      show _ = (if ((i + 1 : Nat) : Int) ≤ r.rows then _ else r) :: cutR i m rs
      rw [← ih rs m]
      congr 1
      · unfold adjR
        have e : (r :: rs).getD 0 noRow = r := rfl
        rw [e]
        by_cases h : ((i + 1 : Nat) : Int) ≤ r.rows
        · rw [if_pos h, if_pos ⟨by omega, by omega⟩]
        · rw [if_neg h, if_neg (by omega)]
      · apply List.map_congr_left
        intro j _
        show adjR (i + 1) m (r :: rs) (j + 1) = adjR i m rs j
        unfold adjR
        have e : (r :: rs).getD (j + 1) noRow = rs.getD j noRow := rfl
        rw [e]
        by_cases h : j < i ∧ (i : Int) ≤ j + (rs.getD j noRow).rows
        · rw [if_pos h, if_pos ⟨by omega, by omega⟩]
        · rw [if_neg h, if_neg (by omega)]
/-- The same rows but for their places. -/
theorem same_of_rl {a b : List Rw} (h : RL a b) : SameP false b a := by
  refine ⟨h.len.symm, fun k h1 h2 => ?_⟩
  have e : (b.map rk)[k]'(by simpa using h1) = (a.map rk)[k]'(by simpa using h2) := by
    have e := h
    unfold RL at e
    simp only [e]
  rw [List.getElem_map, List.getElem_map] at e
  unfold rk at e
  injection e with e1 e2 e3 e4 e5
  exact ⟨e1, e2, e4, e5, (fun h => by cases h), e3⟩
end Go.Proofs.YtiepbfeliehjnaaDoor
