/-
  A row of operations in which one after the other is put in memory of its own.
-/
import Derived.Test.YtfaoegiignalkaaJ6
namespace Go.Proofs.Ytfaoegiignalkaa
open Go.RowKit Go.Shelf

theorem os_of_own {W : World} {B : Nat} {v : Value} {os : List Oq} {vs : List (Option Addr × Nat)} (hl : os.length = vs.length) (ho : W.ownsRow B 57 7 v os.length (opw os vs)) (hq : ∀ k (h : k < os.length), QS W (vA vs k) (vC vs k) os[k].qs) (hf : ∀ k (h : k < os.length), Fit os[k]) :
    ∃ a c, v = .slice a os.length c ∧ OS W a c os (vA vs) (vC vs) := by
  have hlen := own_len2 ho
  rcases Nat.eq_zero_or_pos os.length with h0 | h0
  · obtain ⟨a, c, rfl⟩ := own_shape ho
    exact ⟨a, c, rfl, by omega, hq, fun k hk => by omega, hf, hlen⟩
  · obtain ⟨g, cap, rfl, hc, _, hcell, _, hgl⟩ := own_at ho h0
    have hwl := opw_length os vs hl
    have get : ∀ (i : Nat) (x : Value), i < os.length * 7 → (opw os vs)[i]? = some x → W.cell? ⟨g, 0 + i, none⟩ = some x := fun i x hi e => by
      rw [List.getElem?_eq_getElem (by omega)] at e
      rw [Nat.zero_add, hcell i (by omega), Option.some.inj e]
    refine ⟨_, cap, rfl, hc, hq, fun _ _ => ⟨g, 0, rfl, ?_, ?_, ?_, ?_, ?_, ?_, ?_, hgl⟩, hf, hlen⟩
    · intro j hj; exact get _ _ (by omega) (opw_at os vs hl j hj (by omega)).1
    · intro j hj; exact get _ _ (by omega) (opw_at os vs hl j hj (by omega)).2.1
    · intro j hj; have := (opw_at os vs hl j hj (by omega)).2.2.1; rw [vs_at vs j (by omega)] at this; exact get _ _ (by omega) this
    · intro j hj; exact get _ _ (by omega) (opw_at os vs hl j hj (by omega)).2.2.2.1
    · intro j hj; exact get _ _ (by omega) (opw_at os vs hl j hj (by omega)).2.2.2.2.1
    · intro j hj; exact get _ _ (by omega) (opw_at os vs hl j hj (by omega)).2.2.2.2.2.1
    · intro j hj; exact get _ _ (by omega) (opw_at os vs hl j hj (by omega)).2.2.2.2.2.2
/-- Seven cells set. -/
abbrev set7 (xs : List Value) (i : Nat) (o : Oq) (a : Option Addr) (c : Nat) : List Value := ((((((xs.set i (.int .i64 o.k)).set (i + 1) (.string o.n)).set (i + 2) (.slice a o.qs.length c)).set (i + 3) (.int .i64 o.b)).set (i + 4) (.bool o.f)).set (i + 5) (.int .u64 o.m)).set (i + 6) (.int .u64 o.v)
theorem set7_far (x0 x1 x2 x3 x4 x5 x6 : Value) (xs : List Value) (i : Nat) (o : Oq) (a : Option Addr) (c : Nat) : set7 (x0 :: x1 :: x2 :: x3 :: x4 :: x5 :: x6 :: xs) (i + 7) o a c = x0 :: x1 :: x2 :: x3 :: x4 :: x5 :: x6 :: set7 xs i o a c := rfl
theorem opw_set : ∀ (os : List Oq) (vs : List (Option Addr × Nat)) (j : Nat) (hj : j < os.length) (a : Option Addr) (c : Nat), os.length = vs.length → set7 (opw os vs) (j * 7) os[j] a c = opw os (vs.set j (a, c))
  | [], _, j, hj, _, _, _ => absurd hj (Nat.not_lt_zero _)
  | _ :: _, [], _, _, _, _, h => by cases h
  | r0 :: rs, v0 :: vs, 0, _, a, c, _ => rfl
  | r0 :: rs, v0 :: vs, j + 1, hj, a, c, h => by
    have hj' : j < rs.length := by simpa using hj
    have ih := opw_set rs vs j hj' a c (by simpa using h)
    rw [show (j + 1) * 7 = j * 7 + 7 by omega]
    show set7 (opc r0 v0.1 v0.2 ++ opw rs vs) (j * 7 + 7) rs[j] a c = opc r0 v0.1 v0.2 ++ opw rs (vs.set j (a, c))
    rw [← ih]
    rfl
/-- The first k of the operations in the row v have qubits of their own; the others' lie where they were handed in. -/
structure MX (w W : World) (q b : Int) (X : Nat) (os : List Oq) (v : Value) (vs : List (Option Addr × Nat)) (k : Nat) : Prop where
  below : Below w.heap.size w W
  b3 : BK W (w.heap.size + 1 + 1) #[.int .i64 0, .int .i64 0, .slice none 0 0] 24
  bx : BK W X #[.int .i64 q, .int .i64 b, v] 24
  len : os.length = vs.length
  own : W.ownsRow w.heap.size 57 7 v os.length (opw os vs)
  qs : ∀ j, j < k → ∀ (h : j < os.length) (h' : j < vs.length), W.ownsRow w.heap.size 3 1 (.slice vs[j].1 os[j].qs.length vs[j].2) os[j].qs.length (zl os[j].qs)
  rest : ∀ j, k ≤ j → ∀ (h : j < os.length), QS w (vA vs j) (vC vs j) os[j].qs
  fit : ∀ j (h : j < os.length), Fit os[j]
section
variable {w W W2 : World} {q b : Int} {X : Nat} {os : List Oq} {v : Value} {vs : List (Option Addr × Nat)} {k : Nat}
theorem MX.blw (h : MX w W q b X os v vs k) (hB : Below W.heap.size W W2) : MX w W2 q b X os v vs k :=
  ⟨btr h.below hB, (hB.block _ h.b3.lt).trans h.b3, (hB.block _ h.bx.lt).trans h.bx, h.len, own_below h.own hB, fun j h1 h2 h3 => own_below (h.qs j h1 h2 h3) hB, h.rest, h.fit⟩
theorem MX.done (h : MX w W q b X os v vs os.length) : OO W w.heap.size v os vs := ⟨h.len, h.own, fun k h1 h2 => h.qs k h1 h1 h2, h.fit⟩
abbrev setw (W : World) (g i : Nat) (o : Oq) (a : Option Addr) (c : Nat) : World := ((((((W.setCell ⟨g, i, none⟩ (.int .i64 o.k)).setCell ⟨g, i + 1, none⟩ (.string o.n)).setCell ⟨g, i + 2, none⟩ (.slice a o.qs.length c)).setCell ⟨g, i + 3, none⟩ (.int .i64 o.b)).setCell ⟨g, i + 4, none⟩ (.bool o.f)).setCell ⟨g, i + 5, none⟩ (.int .u64 o.m)).setCell ⟨g, i + 6, none⟩ (.int .u64 o.v)
theorem MX.next {g cap : Nat} {a : Option Addr} {c : Nat} (h : MX w W q b X os (.slice (some ⟨g, 0, none⟩) os.length cap) vs k) (hk : k < os.length) (hq : W.ownsRow w.heap.size 3 1 (.slice a os[k].qs.length c) os[k].qs.length (zl os[k].qs)) :
    MX w (setw W g (k * 7) os[k] a c) q b X os (.slice (some ⟨g, 0, none⟩) os.length cap) (vs.set k (a, c)) (k + 1) := by
  have hg : GB W (setw W g (k * 7) os[k] a c) g := gb_set (gb_set (gb_set (gb_set (gb_set (gb_set (gb_set (gb_refl W g) _ _ _ (.inl rfl)) _ _ _ (.inl rfl)) _ _ _ (.inl rfl)) _ _ _ (.inl rfl)) _ _ _ (.inl rfl)) _ _ _ (.inl rfl)) _ _ _ (.inl rfl)
  obtain ⟨cs, hcs⟩ := own_ty h.own (g := g) rfl
  have key : ∀ {b cs' T}, BK W b cs' T → 57 ≠ T → BK (setw W g (k * 7) os[k] a c) b cs' T := fun hb ht => gb_bk hg hb (fun e => own_ne h.own hb ht g rfl (by rw [e]))
  have k3 : ∀ {x n xs}, W.ownsRow w.heap.size 3 1 x n xs → (setw W g (k * 7) os[k] a c).ownsRow w.heap.size 3 1 x n xs := fun hx => own_kept hx hg (own_ne hx (b := g) hcs (by decide))
  have hb : w.heap.size ≤ g := (h.own.lt g rfl).1
  refine ⟨h.below.grown hg h.below.size (fun j e => by cases e; exact hb), key h.b3 (by decide), key h.bx (by decide), by rw [List.length_set]; exact h.len, ?_, fun j hj h1 h2 => ?_, fun j hj h1 => ?_, h.fit⟩
  · rw [← opw_set os vs k hk a c h.len]
    exact own_setc (own_setc (own_setc (own_setc (own_setc (own_setc (own_setc h.own (by omega) _) (by omega) _) (by omega) _) (by omega) _) (by omega) _) (by omega) _) (by omega) _
  · by_cases e : j = k
    · subst e
      rw [List.getElem_set_self]
      exact k3 hq
    · rw [List.getElem_set_ne (fun e2 => e e2.symm)]
      exact k3 (h.qs j (by omega) h1 (by rw [List.length_set] at h2; exact h2))
  · have e : vA (vs.set k (a, c)) j = vA vs j ∧ vC (vs.set k (a, c)) j = vC vs j := by
      unfold vA vC
      rw [List.getD_eq_getElem?_getD, List.getElem?_set_ne (by omega), ← List.getD_eq_getElem?_getD]
      exact ⟨rfl, rfl⟩
    rw [e.1, e.2]
    exact h.rest j (by omega) h1
end
end Go.Proofs.Ytfaoegiignalkaa
