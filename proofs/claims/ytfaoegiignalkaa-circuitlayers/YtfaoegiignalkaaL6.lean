/-
  Rows of numbers: cells written one behind the other, a row cut short.
-/
import Derived.Test.YtfaoegiignalkaaL2
namespace Go.Proofs.Ytfaoegiignalkaa
open Go.RowKit Go.Shelf

theorem own_cut {W : World} {B T g n cap m : Nat} {xs : List Value} (h : W.ownsRow B T 1 (.slice (some ⟨g, 0, none⟩) n cap) n xs) (hm : m ≤ n) : W.ownsRow B T 1 (.slice (some ⟨g, 0, none⟩) m cap) m (xs.take m) := by
  refine ⟨by rw [List.length_take, h.1]; omega, ?_⟩
  rcases h.2 with ⟨e, _⟩ | ⟨g', cap', cur, e, hb, hg, hn, hm', hs, ht⟩
  · cases e
  · cases e
    refine .inr ⟨g, cap, cur, rfl, hb, hg, by omega, hm', hs, ?_⟩
    rw [← ht, List.take_take, Nat.mul_one, Nat.mul_one, Nat.min_eq_left hm]
theorem own_sets {B T g n cap : Nat} : ∀ (us : List Value) (k : Nat) (W : World) (xs : List Value), W.ownsRow B T 1 (.slice (some ⟨g, 0, none⟩) n cap) n xs → k + us.length ≤ n → (W.setCells g k us).ownsRow B T 1 (.slice (some ⟨g, 0, none⟩) n cap) n (xs.take k ++ us ++ xs.drop (k + us.length))
  | [], k, W, xs, h, _ => by
    show W.ownsRow _ _ _ _ _ _
    rw [List.append_nil, List.length_nil, Nat.add_zero, List.take_append_drop]
    exact h
  | u :: us, k, W, xs, h, hk => by
    rw [List.length_cons] at hk
    have hl : xs.length = n := by have := h.1; omega
    have h1 := own_setc h (k := k) (by omega) u
    have h2 := own_sets us (k + 1) _ _ h1 (by omega)
    have e : (xs.set k u).take (k + 1) ++ us ++ (xs.set k u).drop (k + 1 + us.length) = xs.take k ++ (u :: us) ++ xs.drop (k + (u :: us).length) := by
      rw [List.set_eq_take_append_cons_drop, if_pos (by omega)]
      have e1 : (xs.take k ++ u :: xs.drop (k + 1)).take (k + 1) = xs.take k ++ [u] := by
        rw [List.take_append, List.take_of_length_le (by rw [List.length_take]; omega), List.length_take, Nat.min_eq_left (by omega), Nat.add_sub_cancel_left]
        rfl
      have e2 : (xs.take k ++ u :: xs.drop (k + 1)).drop (k + 1 + us.length) = xs.drop (k + (u :: us).length) := by
        rw [List.drop_append, List.drop_of_length_le (by rw [List.length_take]; omega), List.length_take, Nat.min_eq_left (by omega), List.nil_append, show k + 1 + us.length - k = us.length + 1 by omega, List.drop_succ_cons, List.drop_drop, List.length_cons]
        congr 1
        omega
      rw [e1, e2, List.append_assoc, List.append_assoc, List.append_assoc]
      rfl
    rw [← e]
    exact h2
theorem gb_sets (g : Nat) : ∀ (us : List Value) (k : Nat) (W : World), GB W (W.setCells g k us) g
  | [], _, W => gb_refl W g
  | u :: us, k, W => gb_trans (gb_set (gb_refl W g) g k u (.inl rfl)) (gb_sets g us (k + 1) _)
/-- A number taken out of a row. -/
theorem own_out {W : World} {B g n cap k : Nat} {l : List Nat} (h : W.ownsRow B 3 1 (.slice (some ⟨g, 0, none⟩) n cap) n (il l)) (hk : k < l.length) : (W.setCells g k (il (l.drop (k + 1)))).ownsRow B 3 1 (.slice (some ⟨g, 0, none⟩) (n - 1) cap) (n - 1) (il (l.eraseIdx k)) := by
  have hl : l.length = n := by have := h.1; simpa [il] using this
  have h1 := own_sets (il (l.drop (k + 1))) k W _ h (by simp [il]; omega)
  have h2 := own_cut h1 (m := n - 1) (by omega)
  have e : ((il l).take k ++ il (l.drop (k + 1)) ++ (il l).drop (k + (il (l.drop (k + 1))).length)).take (n - 1) = il (l.eraseIdx k) := by
    rw [List.take_append_of_le_length (by simp [il]; omega), List.take_of_length_le (by simp [il]; omega), List.eraseIdx_eq_take_drop_succ]
    simp [il]
  rwa [e] at h2
theorem LW2.gb {V W W' : World} {gs n g : Nat} {F : Nat → Bool} {v : Value} {od : List Nat} (h : LW2 V W gs n F v od) (hg : GB W W' g) (h1 : gs < g) (h2 : V.heap.size ≤ g) (h3 : v.ownBlock ≠ some g) : LW2 V W' gs n F v od :=
  ⟨h.below.grown hg h.below.size (fun k e => by cases e; exact h2), h.seen.of_block (hg.block _ h.seen.lt (fun e => by cases e; omega)), own_kept h.row hg (fun x hx e => by cases e; exact h3 hx)⟩
end Go.Proofs.Ytfaoegiignalkaa
