/-
  The reference's Parse of what is no root's text.
-/
import Derived.Test.YtalaacfoaelipaaDoorV8
namespace Go.Proofs.YtalaacfoaelipaaDoor
open Go.RowKit Go.Sort

theorem ext_empty (t : ByteArray) (n : Nat) : (t.extract n t.size).toList.isEmpty = decide (t.size ≤ n) := by
  rw [Go.ByteArray.toList_eq]
  by_cases h : t.size ≤ n
  · rw [decide_eq_true h]
    have : (t.extract n t.size).data.toList.length = 0 := by
      have := ByteArray.size_extract (a := t) (b := n) (e := t.size)
      rw [Array.length_toList]
      show (t.extract n t.size).size = 0
      omega
    rw [List.isEmpty_iff, ← List.length_eq_zero_iff]; exact this
  · rw [decide_eq_false h]
    have : (t.extract n t.size).data.toList.length = t.size - n := by
      have := ByteArray.size_extract (a := t) (b := n) (e := t.size)
      rw [Array.length_toList]
      show (t.extract n t.size).size = _
      omega
    rw [Bool.eq_false_iff]
    intro c
    rw [List.isEmpty_iff, ← List.length_eq_zero_iff] at c
    omega

theorem NumR.le {s : ByteArray} {v : Int} {n m : Nat} (h : NumR s v n m) : n ≤ s.size := by
  by_cases c : m = sgf s
  · rw [(h.none c).2]; omega
  · have := h.lo
    rw [(h.some (by omega)).1]
    rcases h.sz with a | a <;> omega

theorem numeral_some (t : ByteArray) (w : World) (hs : t.size ≤ 9223372036854775807) :
    Calls Tryd.prog 54 #[.string t] w fun e w' => (∃ (v : Int) (n : Nat), e = .returned (.tuple #[.int .i64 v, .int .i64 n]) ∧ n ≤ t.size ∧ (t.extract n t.size).toList.isEmpty = decide (t.size ≤ n)) ∧ w' = w :=
  (numeral_any t w hs).mono fun _ _ ⟨⟨v, n, he, _, hm⟩, hw⟩ => ⟨⟨v, n, he, hm.le, ext_empty t n⟩, hw⟩

set_option maxHeartbeats 4000000 in
theorem rparse_bad (s : ByteArray) (w : World) (hs : s.size ≤ 4294967280)
    (T : ∀ p q k w, Calls Tryd.prog 26 #[.agg #[.int .i64 p, .int .i64 q, .int .i64 k]] w fun e w' => (∃ t er, e = .returned (.tuple #[.string t, .int .i64 er]) ∧ (er = 2 ∨ (er = 0 ∧ (t.toList == s.toList) = false))) ∧ Below w.heap.size w w') :
    Calls Tryd.prog 28 #[.string s] w fun e w' => e = .returned (.tuple #[rv 0 0 0, .int .i64 22]) ∧ Below w.heap.size w w' := by
  go_enter Tryd.func28, Tryd.ntmps28
  go_wp2_with (first
    | (go_at_call 54; (with_reducible refine (numeral_some _ _ ?_).mono ?_); (first | omega | (simp only [ByteArray.size_extract]; omega)); rintro e w1 ⟨⟨v, n, rfl, hn, hE⟩, rfl⟩; try simp only [ByteArray.size_extract] at hn)
    | (go_at_call 26; (with_reducible refine (T _ _ _ _).mono ?_); rintro e w2 ⟨⟨t, er, rfl, ht⟩, hB⟩; obtain ⟨hc, hf⟩ := bcell hB; rcases ht with rfl | ⟨rfl, ht⟩))
  all_goals (first
    | exact bodyPost_ret (v := .tuple #[rv 0 0 0, .int .i64 22]) (by simp [results, Tryd.results28, go_sem]; done) rfl ⟨rfl, bal (bal (Below.refl _ _) _) _⟩
    | (have c0 := hc w.heap.size 0 (by simp; omega)
       have c1 := hc w.heap.size 1 (by simp; omega)
       have c2 := hc w.heap.size 2 (by simp; omega)
       simp [go_sem] at c0 c1 c2
       exact bodyPost_ret (v := .tuple #[rv 0 0 0, .int .i64 22]) (by simp [results, Tryd.results28, go_sem, c0, c1, c2]; rfl) rfl ⟨rfl, (((btr (bal (bal (Below.refl _ _) _) _) hB).setCell (by simp) _).setCell (by simp) _).setCell (by simp) _⟩)
    | (have c0 := hc w.heap.size 0 (by simp; omega)
       have c1 := hc w.heap.size 1 (by simp; omega)
       have c2 := hc w.heap.size 2 (by simp; omega)
       simp [go_sem] at c0 c1 c2
       exact bodyPost_ret (v := .tuple #[rv 0 0 0, .int .i64 22]) (by simp [results, Tryd.results28, go_sem, c0, c1, c2]) rfl ⟨rfl, (((btr (bal (bal (Below.refl _ _) _) _) hB).setCell (by simp) _).setCell (by simp) _).setCell (by simp) _⟩))

end Go.Proofs.YtalaacfoaelipaaDoor
