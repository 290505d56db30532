/-
  A copy of a list, made by append.
-/
import Derived.Test.YtpheplcmooljhaaDoorList
import Derived.OwnWalk
import Derived.WalkSmall
namespace Go.Proofs.YtpheplcmooljhaaDoor
open Go.RowKit

theorem Tryd.info3 : (Tryd.prog.info? 3).map (fun i => (i.zero, i.size, i.bytes)) = some (some (.int .i64 0), 1, 8) := by kernel_rfl
/-- The first n of p, as values. -/
def vals (p : Nat → Int) (n : Nat) : List Value := (List.range n).map fun i => .int .i64 (p i)
theorem vals_len (p : Nat → Int) (n : Nat) : (vals p n).length = n := by simp [vals]
theorem vals_at (p : Nat → Int) (n j : Nat) (hj : j < n) : (vals p n)[j]? = some (.int .i64 (p j)) := by simp [vals, hj]
theorem vals_one (p : Nat → Int) (n : Nat) : ∀ u ∈ vals p n, u.oneCell' = true := by
  intro u hu
  obtain ⟨i, _, rfl⟩ := List.mem_map.1 hu
  rfl
theorem Row.cells {a : Addr} {p : Nat → Int} {n : Nat} {w : World} (h : Row (some a) p n w) : ∀ j u, (vals p n)[j]? = some u → w.cell? (a.add j) = some u := by
  intro j u hu
  have hj : j < n := by
    have := (List.getElem?_eq_some_iff.1 hu).1
    simpa [vals_len] using this
  rw [vals_at p n j hj] at hu
  obtain ⟨b, off, e, hc⟩ := h.at_ j hj
  cases e
  rw [Go.WideShapes.add_plain, hc, hu]

theorem wpList_append_row {ops : Array Oper} {rest : List Oper} {o : Oper} {act : Act} {Q : Exit → Act → World → Prop} (w : World) (hgd : o.guard = none) (s x : Operand)
    (ho : o.op = .call { callee := .builtin .append, args := #[s, x], argTypes := #[36, 36] })
    (base g : Nat) (hs : act.eval s = .slice (some ⟨g, 0, none⟩) 0 0) (hown : w.ownsRow base 3 1 (.slice (some ⟨g, 0, none⟩) 0 0) 0 [])
    (a : Option Addr) (p : Nat → Int) (n cap : Nat) (hx : act.eval x = .slice a n cap) (hrow : Row a p n w) (hnone : a = none → n = 0 ∧ cap = 0) (hb : n * 8 ≤ 140737488355328) (hbase : base ≤ w.heap.size)
    (h : ∀ v' w', w'.ownsRow base 3 1 v' n (vals p n) → w.grownBy w' (some g) → (∃ g' c', v' = .slice (some ⟨g', 0, none⟩) n c') → wpList Tryd.prog ops Q rest (act.put o.dst v') w') : wpList Tryd.prog ops Q (o :: rest) act w := by
  obtain ⟨i, hi, hz0, hz1, hz2⟩ := info_parts Tryd.info3
  by_cases hn : n = 0
  · subst hn
    refine wpList_append_fits_any w hgd s x 36 ho base 3 i 1 Tryd.underlying36 hi hz1 g 0 0 [] hs hown a 0 cap [] hx rfl hnone (fun _ _ j u hu => by simp at hu) (fun u hu => by simp at hu) (by omega) ?_
    intro w' h1 h2
    exact h _ w' h1 h2 ⟨g, 0, rfl⟩
  · obtain ⟨b, off, rfl, _⟩ := hrow.at_ 0 (by omega)
    refine wpList_append_own w hgd s x 36 ho base 3 i (.int .i64 0) 1 8 Tryd.underlying36 hi hz0 hz1 hz2 rfl (by decide) _ 0 [] hs hown ⟨b, off, none⟩ n cap (vals p n) hx (by simp [vals_len]) hrow.cells (vals_one p n) (by unfold maxLen; omega) (by omega) hbase ?_
    intro v' w' h1 h2 h3
    rw [Nat.zero_add, List.nil_append] at h1
    refine h v' w' h1 h2 ?_
    rcases h1.2 with ⟨_, e⟩ | ⟨g', c', _, e, _⟩
    · omega
    · exact ⟨g', c', e⟩

theorem Row.of_owns {base : Nat} {g c n m : Nat} {p : Nat → Int} {w : World} {ys : List Value} (h : w.ownsRow base 3 1 (.slice (some ⟨g, 0, none⟩) m c) m (vals p n ++ ys)) (hm : n ≤ m) : Row (some ⟨g, 0, none⟩) p n w := ⟨fun i hi => by
  refine ⟨g, 0, rfl, ?_⟩
  rw [Nat.zero_add, h.cellAt i (by omega), List.getElem?_append_left (by rw [vals_len]; exact hi), vals_at p n i hi]⟩
theorem Row.kept {a : Option Addr} {p : Nat → Int} {n : Nat} {w w' : World} (h : Row a p n w) (hb : Below w.heap.size w w') : Row a p n w' := ⟨fun i hi => by
  obtain ⟨b, off, e, hc⟩ := h.at_ i hi
  exact ⟨b, off, e, (hb.cell (p := ⟨b, off + i, none⟩) (block_lt_of_cell hc)).trans hc⟩⟩
theorem owns_shape {base : Nat} {e : TypeId} {v : Value} {m : Nat} {xs : List Value} {w : World} (h : w.ownsRow base e 1 v m xs) (hm : 0 < m) : ∃ g c, v = .slice (some ⟨g, 0, none⟩) m c ∧ base ≤ g ∧ m ≤ c ∧ c ≤ 9223372036854775807 := by
  rcases h.2 with ⟨_, e⟩ | ⟨g, c, _, e, hb, _, h1, h2, _⟩
  · omega
  · unfold maxLen at h2
    exact ⟨g, c, e, hb, h1, by omega⟩
/-- What the law has behind its two appends. -/
structure Room (a : Option Addr) (p : Nat → Int) (n : Nat) (w w3 : World) (g : Nat) : Prop where
  below : Below w.heap.size w w3
  old : Row a p n w3
  new : Row (some ⟨g, 0, none⟩) p n w3
  c77 : w3.cell? ⟨g, n, none⟩ = some (.int .i64 77)
  c78 : w3.cell? ⟨g, n + 1, none⟩ = some (.int .i64 78)
theorem room_of {a : Option Addr} {p : Nat → Int} {n : Nat} {w w1 w2 w3 : World} {g1 c1 g c : Nat} (hr : Row a p n w) (hB : Below w.heap.size w (w1.alloc (.cells #[] 3)))
    (hw1 : w.heap.size ≤ w1.heap.size) (hgr1 : (w1.alloc (.cells #[] 3)).grownBy w2 (some w1.heap.size)) (hown1 : w2.ownsRow w.heap.size 3 1 (.slice (some ⟨g1, 0, none⟩) n c1) n (vals p n))
    (hown2 : w3.ownsRow w.heap.size 3 1 (.slice (some ⟨g, 0, none⟩) (n + 2) c) (n + 2) (vals p n ++ [.int .i64 77, .int .i64 78])) (hgr2 : (w2.alloc (.cells #[.int .i64 77, .int .i64 78] 3)).grownBy w3 (some g1)) : Room a p n w w3 g := by
  have s1 := hgr1.size
  have hB2 : Below w.heap.size w w2 := hB.grown hgr1 (by simp; omega) (fun k e => by cases e; exact hw1)
  have hg1 : w.heap.size ≤ g1 := (hown1.lt g1 rfl).1
  have hB3 : Below w.heap.size w w3 := (hB2.alloc hB2.size _).grown hgr2 (by have := hB2.size; simp; omega) (fun k e => by cases e; exact hg1)
  refine ⟨hB3, hr.kept hB3, Row.of_owns hown2 (by omega), ?_, ?_⟩
  · rw [hown2.cellAt n (by omega), List.getElem?_append_right (by rw [vals_len]; exact Nat.le_refl _), vals_len]; simp
  · rw [hown2.cellAt (n + 1) (by omega), List.getElem?_append_right (by rw [vals_len]; omega), vals_len]; simp
end Go.Proofs.YtpheplcmooljhaaDoor
