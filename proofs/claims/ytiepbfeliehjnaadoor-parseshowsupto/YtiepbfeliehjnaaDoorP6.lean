/-
  The reader's call statement: its state.
-/
import Derived.Test.YtiepbfeliehjnaaDoorP5
namespace Go.Proofs.YtiepbfeliehjnaaDoor
open Go.RowKit Go.Sort

/-- The reader with its rows. -/
def RS (w W : World) (rb : Nat) (ts : Value) (l : List Tk) (n : Int) (i : Nat) (rs : List Rw) : Prop :=
  ∃ v, RS0 w W rb ts l n i v ∧ OR W w.heap.size v rs ∧ rs.length ≤ i
/-- What a call tells that reads statements. -/
def Did (w : World) (rb : Nat) (ts : Value) (l : List Tk) (n : Int) (rs : List Rw) (r : Except Fa (List Rw × List Tk)) (e : Ending) (W' : World) : Prop :=
  Below w.heap.size w W' ∧ ((∃ q, r = .error q ∧ e = .panicked [flt q]) ∨ ∃ rs2 j, r = .ok (rs2, l.drop j) ∧ e = .returned (.tuple #[]) ∧ RS w W' rb ts l n j (rs ++ rs2))
/-- A body behind its opening sign, which stands at p, of a statement at depth d. -/
def bodyP (rec : Nat → List Tk → Except Fa (List Rw × List Tk)) (d : Nat) (p : Int) (l : List Tk) : Except Fa (List Rw × List Tk) :=
  if 32 ≤ d then .error (p, 102) else match rec (d + 1) l with | .error e => .error e | .ok (rs, l5) => .ok (rs, l5.tail)
def BodyOk (n : Int) (rec : Nat → List Tk → Except Fa (List Rw × List Tk)) (N : Nat) : Prop :=
  ∀ (w W : World) (rb : Nat) (ts : Value) (l : List Tk) (i : Nat) (rs : List Rw) (d : Nat) (t : Tk), RS w W rb ts l n i rs → (l.drop i).length < N → d ≤ 32 →
    Calls Tryd.prog 66 #[.pointer (some ⟨rb, 0, none⟩), tv t, .int .i64 d] W (Did w rb ts l n rs (bodyP rec d t.p (l.drop i)))
theorem did_err {w W : World} {rb : Nat} {ts : Value} {l : List Tk} {n : Int} {rs : List Rw} {k : FuncId} {a : Array Value} {q : Fa} (h : Calls Tryd.prog k a W (Did w rb ts l n rs (.error q))) :
    Calls Tryd.prog k a W fun e W' => e = .panicked [flt q] ∧ Below w.heap.size w W' := h.mono fun e W' ⟨hg, h⟩ => by
  rcases h with ⟨q', e1, e2⟩ | ⟨x, j, e1, _⟩
  · cases e1; exact ⟨e2, hg⟩
  · cases e1
theorem did_ok {w W : World} {rb : Nat} {ts : Value} {l : List Tk} {n : Int} {rs : List Rw} {k : FuncId} {a : Array Value} {rs2 : List Rw} {r : List Tk} (h : Calls Tryd.prog k a W (Did w rb ts l n rs (.ok (rs2, r)))) :
    Calls Tryd.prog k a W fun e W' => e = .returned (.tuple #[]) ∧ Below w.heap.size w W' ∧ ∃ j, r = l.drop j ∧ RS w W' rb ts l n j (rs ++ rs2) := h.mono fun e W' ⟨hg, h⟩ => by
  rcases h with ⟨q', e1, e2⟩ | ⟨x, j, e1, e2, hr⟩
  · cases e1
  · cases e1; exact ⟨e2, hg, j, rfl, hr⟩
/-- Within statement: the row in its box qb so far. -/
structure SQ (w W : World) (rb : Nat) (ts : Value) (l : List Tk) (n : Int) (i : Nat) (v : Value) (rs : List Rw) (qb : Nat) (row : Array Value) : Prop where
  r : RS0 w W rb ts l n i v
  o : OR W w.heap.size v rs
  q : BK W qb row 45
  lo : ∀ g, v.ownBlock = some g → g < qb
  nq : qb ≠ rb
  ge : w.heap.size ≤ qb
section
variable {w W W' : World} {rb : Nat} {ts : Value} {l : List Tk} {n : Int} {i j : Nat} {v : Value} {rs : List Rw} {qb : Nat} {row : Array Value}
theorem SQ.on (h : SQ w W rb ts l n i v rs qb row) (g : Below W.heap.size W W') : SQ w W' rb ts l n i v rs qb row :=
  ⟨h.r.on g, h.o.below g, (g.block qb h.q.lt).trans h.q, h.lo, h.nq, h.ge⟩
theorem SQ.alloc (h : SQ w W rb ts l n i v rs qb row) (o : Obj) : SQ w (W.alloc o) rb ts l n i v rs qb row := h.on (bal (Below.refl _ _) _)
theorem SQ.gb (h : SQ w W rb ts l n i v rs qb row) (g : GB W W' rb) (r : RS0 w W' rb ts l n j v) : SQ w W' rb ts l n j v rs qb row :=
  ⟨r, h.o.gb g h.r.blk, gb_bk g h.q h.nq, h.lo, h.nq, h.ge⟩
theorem SQ.set (h : SQ w W rb ts l n i v rs qb row) (k : Nat) (y : Value) : SQ w (W.setCell ⟨qb, k, none⟩ y) rb ts l n i v rs qb (row.setIfInBounds k y) :=
  ⟨h.r.own (grown_set W qb k y) (fun m e => by cases e; exact ⟨h.ge, h.nq⟩), h.o.far (S := W) h.lo (by decide) h.q (grown_set W qb k y) rfl, h.q.set k y, h.lo, h.nq, h.ge⟩
theorem SQ.back (h : SQ w W rb ts l n i v rs qb row) (j : Nat) (hj : j ≤ l.length) (y : Value) (hy : y = .int .i64 j) : SQ w (W.setCell ⟨rb, 1, none⟩ y) rb ts l n j v rs qb row := by
  subst hy
  exact h.gb (gb_set (gb_refl _ _) rb 1 _ (.inl rfl)) (h.r.go (gb_set (gb_refl _ _) rb 1 _ (.inl rfl)) (h.r.blk.set 1 _) hj)
end
/-- With its form fb. -/
structure ST (w W : World) (rb : Nat) (ts : Value) (l : List Tk) (n : Int) (i : Nat) (v : Value) (rs : List Rw) (qb : Nat) (K nm : ByteArray) (av : Value) (x p : Int) (fb : Nat) (sa : Bool) (sb : Int) (sc sd se : Bool) : Prop where
  s : SQ w W rb ts l n i v rs qb #[.string K, .string nm, av, .int .i64 x, .int .i64 0, .int .i64 p]
  f : BK W fb #[.bool sa, .int .i64 sb, .bool sc, .bool sd, .bool se] 82
  nf : fb ≠ rb
  nn : fb ≠ qb
section
variable {w W W' : World} {rb : Nat} {ts : Value} {l : List Tk} {n : Int} {i j : Nat} {v : Value} {rs : List Rw} {qb : Nat} {K nm : ByteArray} {av : Value} {x p : Int} {fb : Nat} {sa : Bool} {sb : Int} {sc sd se : Bool}
theorem SQ.form (h : SQ w W rb ts l n i v rs qb #[.string K, .string nm, av, .int .i64 x, .int .i64 0, .int .i64 p]) (sa : Bool) (sb : Int) (sc sd se : Bool) : ST w (W.alloc (.cells #[.bool sa, .int .i64 sb, .bool sc, .bool sd, .bool se] 82)) rb ts l n i v rs qb K nm av x p W.heap.size sa sb sc sd se :=
  ⟨h.alloc _, bk_new _ _ _, Nat.ne_of_gt h.r.blk.lt, Nat.ne_of_gt h.q.lt⟩
theorem ST.gb (h : ST w W rb ts l n i v rs qb K nm av x p fb sa sb sc sd se) (g : GB W W' rb) (r : RS0 w W' rb ts l n j v) : ST w W' rb ts l n j v rs qb K nm av x p fb sa sb sc sd se :=
  ⟨h.s.gb g r, gb_bk g h.f h.nf, h.nf, h.nn⟩
theorem ST.on (h : ST w W rb ts l n i v rs qb K nm av x p fb sa sb sc sd se) (g : Below W.heap.size W W') : ST w W' rb ts l n i v rs qb K nm av x p fb sa sb sc sd se :=
  ⟨h.s.on g, (g.block fb h.f.lt).trans h.f, h.nf, h.nn⟩
theorem ST.setName (h : ST w W rb ts l n i v rs qb K nm av x p fb sa sb sc sd se) (y : ByteArray) : ST w (W.setCell ⟨qb, 1, none⟩ (.string y)) rb ts l n i v rs qb K y av x p fb sa sb sc sd se :=
  ⟨h.s.set 1 (.string y), h.f.far (Ne.symm h.nn) 1 _, h.nf, h.nn⟩
theorem ST.setArgs (h : ST w W rb ts l n i v rs qb K nm av x p fb sa sb sc sd se) (y : Value) : ST w (W.setCell ⟨qb, 2, none⟩ y) rb ts l n i v rs qb K nm y x p fb sa sb sc sd se :=
  ⟨h.s.set 2 y, h.f.far (Ne.symm h.nn) 2 _, h.nf, h.nn⟩
theorem ST.setNum (h : ST w W rb ts l n i v rs qb K nm av x p fb sa sb sc sd se) (y : Int) : ST w (W.setCell ⟨qb, 3, none⟩ (.int .i64 y)) rb ts l n i v rs qb K nm av y p fb sa sb sc sd se :=
  ⟨h.s.set 3 (.int .i64 y), h.f.far (Ne.symm h.nn) 3 _, h.nf, h.nn⟩
theorem ST.cells (h : ST w W rb ts l n i v rs qb K nm av x p fb sa sb sc sd se) : (W.cell? ⟨fb, 0, none⟩ = some (.bool sa) ∧ W.cell? ⟨fb, 1, none⟩ = some (.int .i64 sb) ∧ W.cell? ⟨fb, 2, none⟩ = some (.bool sc) ∧ W.cell? ⟨fb, 3, none⟩ = some (.bool sd) ∧ W.cell? ⟨fb, 4, none⟩ = some (.bool se)) ∧
    (W.cell? ⟨qb, 0, none⟩ = some (.string K) ∧ W.cell? ⟨qb, 1, none⟩ = some (.string nm) ∧ W.cell? ⟨qb, 2, none⟩ = some av ∧ W.cell? ⟨qb, 3, none⟩ = some (.int .i64 x) ∧ W.cell? ⟨qb, 4, none⟩ = some (.int .i64 0) ∧ W.cell? ⟨qb, 5, none⟩ = some (.int .i64 p)) ∧
    (∀ k, W.frozen? ⟨qb, k, none⟩ = false) ∧ (W.cell? ⟨rb, 3, none⟩ = some v ∧ W.frozen? ⟨rb, 3, none⟩ = false) :=
  ⟨⟨h.f.cell 0, h.f.cell 1, h.f.cell 2, h.f.cell 3, h.f.cell 4⟩, ⟨h.s.q.cell 0, h.s.q.cell 1, h.s.q.cell 2, h.s.q.cell 3, h.s.q.cell 4, h.s.q.cell 5⟩, fun k => h.s.q.free k, h.s.r.blk.cell 3, h.s.r.blk.free 3⟩
end
theorem args_any (w W : World) (rb : Nat) (ts : Value) (l : List Tk) (n : Int) (i : Nat) (v : Value) (sa : Bool) (sb : Int) (sc sd se : Bool) (H : RS0 w W rb ts l n i v) (hs : sb = -1 ∨ (0 ≤ sb ∧ sb ≤ 2)) :
    Calls Tryd.prog 62 #[.pointer (some ⟨rb, 0, none⟩), .agg #[.bool sa, .int .i64 sb, .bool sc, .bool sd, .bool se]] W fun e W' => GB W W' rb ∧
      ((∃ q, argsP n ⟨sa, sb, sc, sd, se⟩ ((l.drop i).length + 1) [] (l.drop i) = .error q ∧ e = .panicked [flt q]) ∨
        ∃ av aa j, argsP n ⟨sa, sb, sc, sd, se⟩ ((l.drop i).length + 1) [] (l.drop i) = .ok (aa, l.drop j) ∧ e = .returned av ∧ RS0 w W' rb ts l n j v ∧ W'.ownsRow W.heap.size 61 2 av aa.length (ars aa)) := by
  rcases hs with rfl | ⟨h1, h2⟩
  · exact args_any_n w W rb ts l n i v sa sc sd se H
  · exact args_count w W rb ts l n i v sa sb sc sd se H h1 h2
theorem args_err {w W : World} {rb : Nat} {ts : Value} {l : List Tk} {n : Int} {i : Nat} {v : Value} {sa : Bool} {sb : Int} {sc sd se : Bool} (H : RS0 w W rb ts l n i v) (hs : sb = -1 ∨ (0 ≤ sb ∧ sb ≤ 2)) {q : Fa} {r : List Tk} (hr : r = l.drop i) (h : argsP n ⟨sa, sb, sc, sd, se⟩ (r.length + 1) [] r = .error q) :
    Calls Tryd.prog 62 #[.pointer (some ⟨rb, 0, none⟩), .agg #[.bool sa, .int .i64 sb, .bool sc, .bool sd, .bool se]] W fun e W' => e = .panicked [flt q] ∧ GB W W' rb :=
  (args_any w W rb ts l n i v sa sb sc sd se H hs).mono fun e W' ⟨g, h2⟩ => by
    subst hr
    rcases h2 with ⟨q', e1, e2⟩ | ⟨av, aa, j, e1, _⟩
    · rw [h] at e1; cases e1; exact ⟨e2, g⟩
    · rw [h] at e1; cases e1
theorem args_ok {w W : World} {rb : Nat} {ts : Value} {l : List Tk} {n : Int} {i : Nat} {v : Value} {sa : Bool} {sb : Int} {sc sd se : Bool} (H : RS0 w W rb ts l n i v) (hs : sb = -1 ∨ (0 ≤ sb ∧ sb ≤ 2)) {aa : List Ar} {r r2 : List Tk} (hr : r = l.drop i) (h : argsP n ⟨sa, sb, sc, sd, se⟩ (r.length + 1) [] r = .ok (aa, r2)) :
    Calls Tryd.prog 62 #[.pointer (some ⟨rb, 0, none⟩), .agg #[.bool sa, .int .i64 sb, .bool sc, .bool sd, .bool se]] W fun e W' => ∃ a0 c0, e = .returned (.slice a0 aa.length c0) ∧ GB W W' rb ∧ ∃ j, r2 = l.drop j ∧ RS0 w W' rb ts l n j v ∧ W'.ownsRow W.heap.size 61 2 (.slice a0 aa.length c0) aa.length (ars aa) :=
  (args_any w W rb ts l n i v sa sb sc sd se H hs).mono fun e W' ⟨g, h2⟩ => by
    subst hr
    rcases h2 with ⟨q', e1, e2⟩ | ⟨av, aa', j, e1, e2, hR, ho⟩
    · rw [h] at e1; cases e1
    · rw [h] at e1
      cases e1
      obtain ⟨a0, c0, rfl⟩ := own_shape ho
      exact ⟨a0, c0, e2, g, j, rfl, hR, ho⟩
end Go.Proofs.YtiepbfeliehjnaaDoor
