/-
  Tokens in memory: a row that a call owns and lets grow; tokens that can be read.
-/
import Derived.Test.YtiepbfeliehjnaaDoorA2
import Derived.Test.YtiepbfeliehjnaaDoorShelf
import Derived.Carry
namespace Go.Proofs.YtiepbfeliehjnaaDoor
open Go.RowKit Go.Sort

theorem bal {a w : World} (h : Below a.heap.size a w) (o : Obj) : Below a.heap.size a (w.alloc o) := h.alloc h.size o
theorem btr {a w w1 : World} (h : Below a.heap.size a w) (g : Below w.heap.size w w1) : Below a.heap.size a w1 := h.trans (g.mono h.size)
theorem bset {a w : World} (h : Below a.heap.size a w) (b o : Nat) (v : Value) (hb : a.heap.size ≤ b) : Below a.heap.size a (w.setCell ⟨b, o, none⟩ v) := h.setCell hb v
theorem below_drewN {B : Nat} {a w : World} (h : Below B a w) (n : Nat) : Below B a (w.drewN n) := ⟨h.os, h.tape, h.output, h.size, h.block⟩
theorem below_drew {B : Nat} {a w : World} (h : Below B a w) : Below B a w.drew := ⟨h.os, h.tape, h.output, h.size, h.block⟩
theorem grown_of {W W' : World} (h : Below W.heap.size W W') : W.grownBy W' none := ⟨h.os, h.tape, h.output, h.size, fun k hk _ => h.block k hk⟩
theorem info_parts {t : TypeId} {z : Value} {n b : Nat} (h : (Tryd.prog.info? t).map (fun i => (i.zero, i.size, i.bytes)) = some (some z, n, b)) : ∃ i, Tryd.prog.info? t = some i ∧ i.zero = some z ∧ i.size = n ∧ i.bytes = b := by
  cases e : Tryd.prog.info? t with
  | none => rw [e] at h; cases h
  | some i =>
    rw [e] at h
    injection h with h
    injection h with h1 h2
    injection h2 with h2 h3
    exact ⟨i, rfl, h1, h2, h3⟩
abbrev zTok : Value := .agg #[.int .i64 0, .string ⟨#[]⟩, .int .i64 0]
theorem Tryd.info47 : (Tryd.prog.info? 47).map (fun i => (i.zero, i.size, i.bytes)) = some (some zTok, 3, 32) := by kernel_rfl

/-- The cells of a token. -/
abbrev tkc (t : Tk) : List Value := [.int .i64 t.k, .string t.t, .int .i64 t.p]
def tks (l : List Tk) : List Value := l.flatMap tkc
theorem tks_put (l : List Tk) (t : Tk) : tks (l ++ [t]) = tks l ++ tkc t := by simp [tks, List.flatMap_append]
theorem tks_length (l : List Tk) : (tks l).length = l.length * 3 := by
  induction l with
  | nil => rfl
  | cons t l ih => show (tkc t ++ tks l).length = _; rw [List.length_append, ih]; show 3 + _ = (l.length + 1) * 3; omega
theorem tks_at (l : List Tk) : ∀ (j : Nat) (h : j < l.length), (tks l)[j * 3]? = some (.int .i64 l[j].k) ∧ (tks l)[j * 3 + 1]? = some (.string l[j].t) ∧ (tks l)[j * 3 + 2]? = some (.int .i64 l[j].p) := by
  induction l with
  | nil => intro j h; exact absurd h (Nat.not_lt_zero _)
  | cons t l ih =>
    intro j h
    have e : tks (t :: l) = tkc t ++ tks l := rfl
    cases j with
    | zero => rw [e]; exact ⟨rfl, rfl, rfl⟩
    | succ j =>
      have := ih j (by simpa using h)
      rw [e, show (j + 1) * 3 = j * 3 + 3 by omega]
      exact this

/-- Tokens that can be read, from address a on. -/
structure RT (W : World) (b o : Nat) (l : List Tk) : Prop where
  c0 : ∀ j (h : j < l.length), W.cell? ⟨b, o + j * 3, none⟩ = some (.int .i64 l[j].k)
  c1 : ∀ j (h : j < l.length), W.cell? ⟨b, o + j * 3 + 1, none⟩ = some (.string l[j].t)
  c2 : ∀ j (h : j < l.length), W.cell? ⟨b, o + j * 3 + 2, none⟩ = some (.int .i64 l[j].p)
  lt : b < W.heap.size
/-- A slice of tokens. -/
def SL (W : World) (v : Value) (l : List Tk) : Prop := (v = .slice none 0 0 ∧ l = []) ∨ ∃ b o c, v = .slice (some ⟨b, o, none⟩) l.length c ∧ l.length ≤ c ∧ RT W b o l
theorem RT.below {W W' : World} {b o : Nat} {l : List Tk} (h : RT W b o l) (hb : Below W.heap.size W W') : RT W' b o l :=
  ⟨fun j hj => (hb.cell (p := ⟨b, o + j * 3, none⟩) h.lt).trans (h.c0 j hj), fun j hj => (hb.cell (p := ⟨b, o + j * 3 + 1, none⟩) h.lt).trans (h.c1 j hj), fun j hj => (hb.cell (p := ⟨b, o + j * 3 + 2, none⟩) h.lt).trans (h.c2 j hj), Nat.lt_of_lt_of_le h.lt hb.size⟩
theorem SL.below {W W' : World} {v : Value} {l : List Tk} (h : SL W v l) (hb : Below W.heap.size W W') : SL W' v l := by
  rcases h with h | ⟨b, o, c, e, hc, h⟩
  · exact .inl h
  · exact .inr ⟨b, o, c, e, hc, h.below hb⟩
theorem own_sl {W : World} {B : Nat} {v : Value} {l : List Tk} (h : W.ownsRow B 47 3 v l.length (tks l)) : SL W v l := by
  have hh := h
  rcases h.2 with ⟨rfl, e⟩ | ⟨g, cap, cur, rfl, hb, hg, hn, hm, hs, ht⟩
  · exact .inl ⟨rfl, List.eq_nil_of_length_eq_zero e⟩
  · have hc := hh.cells (g := g) rfl
    have ad : ∀ k, (⟨g, 0, none⟩ : Addr).add k = ⟨g, k, none⟩ := fun k => by rw [WideShapes.add_plain, Nat.zero_add]
    refine .inr ⟨g, 0, cap, rfl, hn, ⟨fun j hj => ?_, fun j hj => ?_, fun j hj => ?_, (Array.getElem?_eq_some_iff.1 hg).1⟩⟩
    · have := hc _ _ (tks_at l j hj).1; rw [ad] at this; rw [Nat.zero_add]; exact this
    · have := hc _ _ (tks_at l j hj).2.1; rw [ad] at this; rw [Nat.zero_add]; exact this
    · have := hc _ _ (tks_at l j hj).2.2; rw [ad] at this; rw [Nat.zero_add]; exact this

/-- Within Scan: the tokens l are told, in a row of the call's own. -/
structure SI (w W : World) (v : Value) (l : List Tk) : Prop where
  below : Below w.heap.size w W
  own : W.ownsRow w.heap.size 47 3 v l.length (tks l)
theorem SI.nil (w : World) : SI w w (.slice none 0 0) [] := ⟨Below.refl _ _, World.ownsRow_nil _ _ _ _⟩
theorem SI.on {w W W2 : World} {v : Value} {l : List Tk} (H : SI w W v l) (hb : Below W.heap.size W W2) : SI w W2 v l :=
  ⟨btr H.below hb, H.own.kept (grown_of hb) (by cases v.ownBlock <;> simp)⟩
theorem SI.alloc {w W : World} {v : Value} {l : List Tk} (H : SI w W v l) (o : Obj) : SI w (W.alloc o) v l := H.on (bal (Below.refl _ _) _)
theorem SI.put {w W W2 : World} {v v' : Value} {l : List Tk} {t : Tk} (H : SI w W v l) (hg : W.grownBy W2 v.ownBlock) (hown : W2.ownsRow w.heap.size 47 3 v' (l.length + 1) (tks l ++ tkc t)) : SI w W2 v' (l ++ [t]) where
  below := H.below.grown hg H.below.size (fun j e => (H.own.lt j e).1)
  own := by rw [tks_put, List.length_append]; exact hown
theorem SI.shape {w W : World} {v : Value} {l : List Tk} (H : SI w W v l) : ∃ a c, v = .slice a l.length c := by
  rcases H.own.2 with ⟨rfl, e⟩ | ⟨g, cap, cur, rfl, _⟩
  · exact ⟨_, _, by rw [e]⟩
  · exact ⟨_, _, rfl⟩
theorem new_tok (w4 : World) (t : Tk) : ∀ j u, (tkc t)[j]? = some u → (w4.alloc (.cells (tkc t).toArray 47)).cell? ((⟨w4.heap.size, 0, none⟩ : Addr).add j) = some u := by
  intro j u hj
  rw [WideShapes.add_plain, Nat.zero_add]
  match j, hj with
  | 0, hj => simp at hj; subst hj; simp [go_sem]
  | 1, hj => simp at hj; subst hj; simp [go_sem]
  | 2, hj => simp at hj; subst hj; simp [go_sem]
theorem one_tok (t : Tk) : ∀ u ∈ tkc t, u.oneCell' = true := fun u hu => by
  simp at hu
  rcases hu with rfl | rfl | rfl <;> rfl
theorem clone_any (s : ByteArray) (w : World) (hs : s.size ≤ 281474976710656) :
    Calls Tryd.prog 34 #[.string s] w fun e w' => e = .returned (.string s) ∧ Below w.heap.size w w' := by
  go_enter Tryd.func34, Tryd.ntmps34
  go_wp2_with (go_at_call 56; (with_reducible refine (Tryd.stringslite_Clone s w hs).mono ?_); rintro e w1 ⟨rfl, hN⟩)
  go_ret
  exact ⟨rfl, hN⟩
end Go.Proofs.YtiepbfeliehjnaaDoor
