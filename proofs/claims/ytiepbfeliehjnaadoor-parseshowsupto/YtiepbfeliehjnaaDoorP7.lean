/-
  The reader's call statement: what it tells by what its calls tell; rows put and turned.
-/
import Derived.Test.YtiepbfeliehjnaaDoorP6
namespace Go.Proofs.YtiepbfeliehjnaaDoor
open Go.RowKit Go.Sort

section
variable {n : Int} {sh : Sh} {l l1 l2 l3 l4 : List Tk} {nm : ByteArray} {aa : List Ar} {x : Nat} {u : Tk} {q : Fa} {rec : Nat → List Tk → Except Fa (List Rw × List Tk)} {d : Nat} {t : Tk} {r : List Tk}
theorem mid_e1 (h1 : optName n sh.name l = .error q) : midP n sh l = .error q := by unfold midP; rw [h1]
theorem mid_e2 (h1 : optName n sh.name l = .ok (nm, l1)) (h2 : argsP n sh (l1.length + 1) [] l1 = .error q) : midP n sh l = .error q := by unfold midP; rw [h1]; simp only [h2]
theorem mid_e3 (h1 : optName n sh.name l = .ok (nm, l1)) (h2 : argsP n sh (l1.length + 1) [] l1 = .ok (aa, l2)) (h3 : optNum n sh.num l2 = .error q) : midP n sh l = .error q := by unfold midP; rw [h1]; simp only [h2, h3]
theorem mid_e4 (h1 : optName n sh.name l = .ok (nm, l1)) (h2 : argsP n sh (l1.length + 1) [] l1 = .ok (aa, l2)) (h3 : optNum n sh.num l2 = .ok (x, l3)) (h4 : signP n (lastS sh) l3 = .error q) : midP n sh l = .error q := by unfold midP; rw [h1]; simp only [h2, h3, h4]
theorem mid_ok (h1 : optName n sh.name l = .ok (nm, l1)) (h2 : argsP n sh (l1.length + 1) [] l1 = .ok (aa, l2)) (h3 : optNum n sh.num l2 = .ok (x, l3)) (h4 : signP n (lastS sh) l3 = .ok (u, l4)) : midP n sh l = .ok ((nm, aa, x, u.p), l4) := by unfold midP; rw [h1]; simp only [h2, h3, h4]
theorem stmt_mid (h : midP n (shK t) (restK t r) = .error q) : stmtP n rec d (t :: r) = .error q := by unfold stmtP; simp only [h]
theorem stmt_flat {p : Int} (h : midP n (shK t) (restK t r) = .ok ((nm, aa, x, p), l4)) (hb : (shK t).body = false) : stmtP n rec d (t :: r) = .ok ([⟨kindK t, nm, aa, x, 0, t.p⟩], l4) := by unfold stmtP; simp only [h, hb]; rfl
theorem stmt_be {p : Int} (h : midP n (shK t) (restK t r) = .ok ((nm, aa, x, p), l4)) (hb : (shK t).body = true) (h5 : bodyP rec d p l4 = .error q) : stmtP n rec d (t :: r) = .error q := by
  unfold stmtP
  unfold bodyP at h5
  simp only [h, hb, if_true]
  by_cases hd : 32 ≤ d
  · rw [if_pos hd] at h5 ⊢; cases h5; rfl
  · rw [if_neg hd] at h5 ⊢
    cases hr : rec (d + 1) l4 with
    | error e => rw [hr] at h5; cases h5; rfl
    | ok y => rw [hr] at h5; cases h5
theorem stmt_bo {p : Int} {rs : List Rw} {l5 : List Tk} (h : midP n (shK t) (restK t r) = .ok ((nm, aa, x, p), l4)) (hb : (shK t).body = true) (h5 : bodyP rec d p l4 = .ok (rs, l5)) : stmtP n rec d (t :: r) = .ok (⟨kindK t, nm, aa, x, rs.length, t.p⟩ :: rs, l5) := by
  unfold stmtP
  unfold bodyP at h5
  simp only [h, hb, if_true]
  by_cases hd : 32 ≤ d
  · rw [if_pos hd] at h5; cases h5
  · rw [if_neg hd] at h5 ⊢
    cases hr : rec (d + 1) l4 with
    | error e => rw [hr] at h5; cases h5
    | ok y => rw [hr] at h5; cases h5; rfl
end
theorem own_mono {W : World} {B B' T c n : Nat} {v : Value} {xs : List Value} (h : W.ownsRow B T c v n xs) (hb : B' ≤ B) : W.ownsRow B' T c v n xs := by
  refine ⟨h.1, ?_⟩
  rcases h.2 with h | ⟨g, cap, cur, e, h1, r⟩
  · exact .inl h
  · exact .inr ⟨g, cap, cur, e, Nat.le_trans hb h1, r⟩
theorem own_setc {W : World} {B T c g n cap k : Nat} {xs : List Value} (h : W.ownsRow B T c (.slice (some ⟨g, 0, none⟩) n cap) n xs) (_hk : k < n * c) (u : Value) : (W.setCell ⟨g, k, none⟩ u).ownsRow B T c (.slice (some ⟨g, 0, none⟩) n cap) n (xs.set k u) := by
  refine ⟨by rw [List.length_set]; exact h.1, ?_⟩
  rcases h.2 with ⟨e, _⟩ | ⟨g', cap', cur, e, hb, hg, hn, hm, hs, ht⟩
  · cases e
  · cases e
    refine .inr ⟨g, cap, cur.setIfInBounds k u, rfl, hb, ?_, hn, hm, by rw [Array.size_setIfInBounds]; exact hs, ?_⟩
    · simp [World.setCell, Array.getElem?_modify, hg]
    · rw [Array.toList_setIfInBounds, ← ht, List.take_set]
theorem own_at {W : World} {B T c n : Nat} {v : Value} {xs : List Value} (h : W.ownsRow B T c v n xs) (hn : 0 < n) : ∃ g cap, v = .slice (some ⟨g, 0, none⟩) n cap ∧ n ≤ cap ∧ (∀ k, W.frozen? ⟨g, k, none⟩ = false) ∧ (∀ k (hk : k < xs.length), W.cell? ⟨g, k, none⟩ = some xs[k]) ∧ B ≤ g ∧ g < W.heap.size := by
  rcases h.2 with ⟨_, e⟩ | ⟨g, cap, cur, e, hb, hg, hnc, hm, hs, ht⟩
  · omega
  · subst e
    refine ⟨g, cap, rfl, hnc, fun k => by simp [World.frozen?, hg], fun k hk => ?_, hb, (Array.getElem?_eq_some_iff.1 hg).1⟩
    have := h.cells (g := g) rfl k xs[k] (List.getElem?_eq_getElem hk)
    rw [WideShapes.add_plain, Nat.zero_add] at this
    exact this
/-- A row's number of rows is written. -/
theorem OR.rows {W : World} {B : Nat} {v : Value} {rs : List Rw} (h : OR W B v rs) (k : Nat) (hk : k < rs.length) : ∃ g cap, v = .slice (some ⟨g, 0, none⟩) rs.length cap ∧ rs.length ≤ cap ∧ (∀ o, W.frozen? ⟨g, o, none⟩ = false) ∧ W.cell? ⟨g, k * 6 + 4, none⟩ = some (.int .i64 rs[k].rows) ∧ B ≤ g ∧ g < W.heap.size ∧ (∃ cs, W.heap[g]? = some (.cells cs 45 (0, 0))) ∧
    ∀ x : Int, OR (W.setCell ⟨g, k * 6 + 4, none⟩ (.int .i64 x)) B v (rs.set k (rs[k].set x)) := by
  obtain ⟨vs, h1, h2, h3⟩ := h
  obtain ⟨g, cap, rfl, hc, hf, hcell, hb, hl⟩ := own_at h2 (by omega)
  obtain ⟨cs, hcs⟩ := own_ty h2 (g := g) rfl
  have hlen := rws_length rs vs h1
  have hc4 := hcell (k * 6 + 4) (by omega)
  have e4 := (rws_at rs vs h1 k hk (by omega)).2.2.2.2.1
  rw [List.getElem?_eq_getElem (by omega)] at e4
  refine ⟨g, cap, rfl, hc, hf, by rw [hc4, Option.some.inj e4], hb, hl, ⟨cs, hcs⟩, fun x => ⟨vs, by rw [List.length_set]; exact h1, ?_, fun j hj hj' => ?_⟩⟩
  · rw [List.length_set, ← rws_set rs vs h1 k hk x]
    exact own_setc h2 (by omega) _
  · have hj2 : j < rs.length := by rw [List.length_set] at hj; exact hj
    have ea : (rs.set k (rs[k].set x))[j].args = rs[j].args := by
      by_cases e : k = j
      · subst e; rw [List.getElem_set_self]
      · rw [List.getElem_set_ne e]
    rw [ea]
    exact own_kept (h3 j hj2 hj') (grown_set W g _ _) (own_ne (h3 j hj2 hj') (b := g) hcs (by decide))
theorem set_mid {rs rs2 : List Rw} {r r' : Rw} : (rs ++ [r] ++ rs2).set rs.length r' = rs ++ (r' :: rs2) := by
  rw [List.append_assoc, List.set_append_right _ _ (Nat.le_refl _), Nat.sub_self]
  rfl
theorem at_mid {rs rs2 : List Rw} {r : Rw} (h : rs.length < (rs ++ [r] ++ rs2).length) : (rs ++ [r] ++ rs2)[rs.length] = r := by
  simp
/-- The start: the two boxes are made. -/
theorem sq_start {w W w1 : World} {rb : Nat} {ts : Value} {l : List Tk} {n : Int} {i : Nat} {v : Value} {rs : List Rw} (hR : RS0 w W rb ts l n i v) (hO : OR W w.heap.size v rs) (hG : GB W w1 rb) (hR1 : RS0 w w1 rb ts l n (i + 1) v) (T : Obj) (row : Array Value) :
    SQ w ((w1.alloc T).alloc (.cells row 45)) rb ts l n (i + 1) v rs (w1.heap.size + 1) row := by
  have e : (w1.alloc T).heap.size = w1.heap.size + 1 := by simp
  have hO1 := ((hO.gb hG hR.blk).below (bal (Below.refl _ _) T)).below (bal (Below.refl _ _) (.cells row 45))
  have hb := bk_new (w1.alloc T) row 45
  rw [e] at hb
  refine ⟨(hR1.on (bal (Below.refl _ _) _)).on (bal (Below.refl _ _) _), hO1, hb, fun g hg => ?_, ?_, ?_⟩
  · obtain ⟨vs, _, h2, _⟩ := hO
    have := (h2.lt g hg).2
    have := hG.size
    omega
  · have := hR1.blk.lt; omega
  · have := hR1.below.size; omega
theorem first_box {w1 w2 : World} {cs : Array Value} {T : TypeId} {o : Obj} (h : Below ((w1.alloc (.cells cs T)).alloc o).heap.size ((w1.alloc (.cells cs T)).alloc o) w2) : BK w2 w1.heap.size cs T := by
  have e := (bk_new w1 cs T).alloc o
  exact (h.block w1.heap.size e.lt).trans e
end Go.Proofs.YtiepbfeliehjnaaDoor
