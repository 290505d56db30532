/-
  Put together of: LP5 LP6 LP7.
-/
import Derived.Test.YtdjfpghgklkejaaGreatDoorXF
import Derived.Deep.RegionHeldLaw
import Derived.Deep.RegionLaw
namespace Go.Proofs.YtdjfpghgklkejaaGreatDoor
open Go.RowKit Go.Sort
abbrev rwc (r : Rw) (v : Value) : List Value := [.string r.kind, .string r.name, v, .int .i64 r.num, .int .i64 r.rows, .int .i64 r.place]
def rws : List Rw → List Value → List Value
 | r :: rs, v :: vs => rwc r v ++ rws rs vs
 | _, _ => []
theorem rws_put : ∀ (rs : List Rw) (vs : List Value) (r : Rw) (v : Value), rs.length = vs.length → rws (rs ++ [r]) (vs ++ [v]) = rws rs vs ++ rwc r v
 | [], [], _, _, _ => rfl
 | [], _ :: _, _, _, h => by cases h
 | _ :: _, [], _, _, h => by cases h
 | r0 :: rs, v0 :: vs, r, v, h => by
  show rwc r0 v0 ++ rws (rs ++ [r]) (vs ++ [v]) = rwc r0 v0 ++ rws rs vs ++ rwc r v
  rw [rws_put rs vs r v (by simpa using h), List.append_assoc]
theorem rws_length : ∀ (rs : List Rw) (vs : List Value), rs.length = vs.length → (rws rs vs).length = rs.length * 6
 | [], [], _ => rfl
 | [], _ :: _, h => by cases h
 | _ :: _, [], h => by cases h
 | r0 :: rs, v0 :: vs, h => by
  show (rwc r0 v0 ++ rws rs vs).length = _
  rw [List.length_append, rws_length rs vs (by simpa using h)]
  show 6 + _ = (rs.length + 1) * 6
  omega
theorem rws_at : ∀ (rs : List Rw) (vs : List Value), rs.length = vs.length → ∀ (j : Nat) (h : j < rs.length) (h' : j < vs.length),
  (rws rs vs)[j * 6]? = some (.string rs[j].kind) ∧ (rws rs vs)[j * 6 + 1]? = some (.string rs[j].name) ∧ (rws rs vs)[j * 6 + 2]? = some vs[j] ∧
  (rws rs vs)[j * 6 + 3]? = some (.int .i64 rs[j].num) ∧ (rws rs vs)[j * 6 + 4]? = some (.int .i64 rs[j].rows) ∧ (rws rs vs)[j * 6 + 5]? = some (.int .i64 rs[j].place)
 | [], _, _, j, h, _ => absurd h (Nat.not_lt_zero _)
 | _ :: _, [], h, _, _, _ => by cases h
 | r0 :: rs, v0 :: vs, h, j, hj, hj' => by
  have e : rws (r0 :: rs) (v0 :: vs) = rwc r0 v0 ++ rws rs vs := rfl
  cases j with
  | zero => rw [e]; exact ⟨rfl, rfl, rfl, rfl, rfl, rfl⟩
  | succ j =>
   have := rws_at rs vs (by simpa using h) j (by simpa using hj) (by simpa using hj')
   rw [e, show (j + 1) * 6 = j * 6 + 6 by omega]
   exact this
abbrev Rw.set (r : Rw) (x : Int) : Rw := ⟨r.kind, r.name, r.args, r.num, x, r.place⟩
theorem rws_set : ∀ (rs : List Rw) (vs : List Value), rs.length = vs.length → ∀ (j : Nat) (h : j < rs.length) (x : Int), (rws rs vs).set (j * 6 + 4) (.int .i64 x) = rws (rs.set j (rs[j].set x)) vs
 | [], _, _, j, h, _ => absurd h (Nat.not_lt_zero _)
 | _ :: _, [], h, _, _, _ => by cases h
 | r0 :: rs, v0 :: vs, h, j, hj, x => by
  cases j with
  | zero => rfl
  | succ j =>
   have hj2 : j < rs.length := by simpa using hj
   have := rws_set rs vs (by simpa using h) j hj2 x
   show (rwc r0 v0 ++ rws rs vs).set ((j + 1) * 6 + 4) _ = rwc r0 v0 ++ rws (rs.set j (rs[j].set x)) vs
   rw [← this, show (j + 1) * 6 + 4 = 6 + (j * 6 + 4) by omega]
   exact List.set_append_right (s := rwc r0 v0) (t := rws rs vs) (6 + (j * 6 + 4)) _ (by show 6 ≤ _; omega) |>.trans (by rw [show (rwc r0 v0).length = 6 from rfl, Nat.add_sub_cancel_left])
abbrev zRow : Value := .agg #[.string ⟨#[]⟩, .string ⟨#[]⟩, .slice none 0 0, .int .i64 0, .int .i64 0, .int .i64 0]
theorem Tryz.info79 : (Tryz.prog.info? 79).map (fun i => (i.zero, i.size, i.bytes)) = some (some zRow, 6, 80) := by kernel_rfl
def OR (W : World) (B : Nat) (v : Value) (rs : List Rw) : Prop :=
 ∃ vs : List Value, rs.length = vs.length ∧ W.ownsRow B 79 6 v rs.length (rws rs vs) ∧ ∀ k (h : k < rs.length) (h' : k < vs.length), W.ownsRow B 100 2 vs[k] rs[k].args.length (ars rs[k].args)
theorem OR.nil (W : World) (B : Nat) : OR W B (.slice none 0 0) [] := ⟨[], rfl, World.ownsRow_nil _ _ _ _, fun _ h => absurd h (Nat.not_lt_zero _)⟩
section
variable {W W' : World} {B : Nat} {v v' : Value} {rs : List Rw}
theorem OR.below (h : OR W B v rs) (hb : Below W.heap.size W W') : OR W' B v rs := by
 obtain ⟨vs, h1, h2, h3⟩ := h
 exact ⟨vs, h1, own_below h2 hb, fun k hk hk' => own_below (h3 k hk hk') hb⟩
theorem OR.gb {rb : Nat} {cs : Array Value} (h : OR W B v rs) (g : GB W W' rb) (hb : BK W rb cs 132) : OR W' B v rs := by
 obtain ⟨vs, h1, h2, h3⟩ := h
 exact ⟨vs, h1, own_kept h2 g (own_ne h2 hb (by decide)), fun k hk hk' => own_kept (h3 k hk hk') g (own_ne (h3 k hk hk') hb (by decide))⟩
theorem OR.far {b : Nat} (h : OR W B v rs) {S : World} (hS : ∀ g, v.ownBlock = some g → g < b) {cs : Array Value} {T : TypeId} (hT : T ≠ 100) (hb : BK W b cs T) (g : W.grownBy W' (some b)) (_ : S = W) : OR W' B v rs := by
 obtain ⟨vs, h1, h2, h3⟩ := h
 exact ⟨vs, h1, own_kept h2 g (fun k e e2 => by have := hS k e; cases e2; omega), fun k hk hk' => own_kept (h3 k hk hk') g (own_ne (h3 k hk hk') hb (fun e => hT e.symm))⟩
theorem OR.shape (h : OR W B v rs) : ∃ a c, v = .slice a rs.length c := by
 obtain ⟨vs, _, h2, _⟩ := h
 exact own_shape h2
end
theorem new_row (w4 : World) (b : Nat) (hb : b = w4.heap.size) (r : Rw) (v : Value) : ∀ j u, (rwc r v)[j]? = some u → (w4.alloc (.cells (rwc r v).toArray 79)).cell? ((⟨b, 0, none⟩ : Addr).add j) = some u := by
 intro j u hj
 subst hb
 rw [WideShapes.add_plain, Nat.zero_add]
 match j, hj with
 | 0, hj => simp at hj; subst hj; simp [go_sem]
 | 1, hj => simp at hj; subst hj; simp [go_sem]
 | 2, hj => simp at hj; subst hj; simp [go_sem]
 | 3, hj => simp at hj; subst hj; simp [go_sem]
 | 4, hj => simp at hj; subst hj; simp [go_sem]
 | 5, hj => simp at hj; subst hj; simp [go_sem]
theorem one_row (r : Rw) (a : Option Addr) (m c : Nat) : ∀ u ∈ rwc r (.slice a m c), u.oneCell' = true := fun u hu => by
 simp at hu
 rcases hu with rfl | rfl | rfl | rfl | rfl | rfl <;> rfl
theorem OR.put {W W' : World} {B : Nat} {v v' av : Value} {rs vs} {r : Rw} (h1 : rs.length = vs.length) (h3 : ∀ k (h : k < rs.length) (h' : k < vs.length), W.ownsRow B 100 2 vs[k] rs[k].args.length (ars rs[k].args)) (hv : ∀ g, v.ownBlock = some g → ∃ cs, W.heap[g]? = some (.cells cs 79 (0, 0)))
  (ha : W.ownsRow B 100 2 av r.args.length (ars r.args)) (hg : W.grownBy W' v.ownBlock) (ho : W'.ownsRow B 79 6 v' (rs.length + 1) (rws rs vs ++ rwc r av)) : OR W' B v' (rs ++ [r]) := by
 have key : ∀ {x : Value} {n xs}, W.ownsRow B 100 2 x n xs → W'.ownsRow B 100 2 x n xs := fun hx => own_kept hx hg (fun g e e2 => by
  obtain ⟨cs, h⟩ := hv g e2.symm
  exact own_ne hx (b := g) h (by decide) g e rfl)
 refine ⟨vs ++ [av], by simp [h1], by rw [rws_put _ _ _ _ h1, List.length_append]; exact ho, fun k hk hk' => ?_⟩
 by_cases e : k < rs.length
 ·rw [List.getElem_append_left (by omega), List.getElem_append_left e]
  exact key (h3 k e (by omega))
 ·have e1 : k = rs.length := by rw [List.length_append] at hk; simp at hk; omega
  subst e1
  have e2 : (rs ++ [r])[rs.length]'hk = r := by simp
  have e3 : (vs ++ [av])[rs.length]'hk' = av := by simp [h1]
  rw [e2, e3]
  exact key ha
end Go.Proofs.YtdjfpghgklkejaaGreatDoor
namespace Go.Proofs.YtdjfpghgklkejaaGreatDoor
open Go.RowKit Go.Sort
def RS (w W : World) (rb : Nat) (ts : Value) (l : List Tk) (n : Int) (i : Nat) (rs : List Rw) : Prop :=
 ∃ v, RS0 w W rb ts l n i v ∧ OR W w.heap.size v rs ∧ rs.length ≤ i
def Did (w : World) (rb : Nat) (ts : Value) (l : List Tk) (n : Int) (rs : List Rw) (r : Except Fa (List Rw × List Tk)) (e : Ending) (W' : World) : Prop :=
 Below w.heap.size w W' ∧ ((∃ q, r = .error q ∧ e = .panicked [flt q]) ∨ ∃ rs2 j, r = .ok (rs2, l.drop j) ∧ e = .returned (.tuple #[]) ∧ RS w W' rb ts l n j (rs ++ rs2))
def bodyP (rec : Nat → List Tk → Except Fa (List Rw × List Tk)) (d : Nat) (p : Int) (l : List Tk) : Except Fa (List Rw × List Tk) :=
 if 32 ≤ d then .error (p, 102) else match rec (d + 1) l with | .error e => .error e | .ok (rs, l5) => .ok (rs, l5.tail)
def BodyOk (n : Int) (rec : Nat → List Tk → Except Fa (List Rw × List Tk)) (N : Nat) : Prop :=
 ∀ (w W : World) (rb : Nat) (ts : Value) (l : List Tk) (i : Nat) (rs : List Rw) (d : Nat) (t : Tk), RS w W rb ts l n i rs → (l.drop i).length < N → d ≤ 32 →
  Calls Tryz.prog 152 #[.pointer (some ⟨rb, 0, none⟩), tv t, .int .i64 d] W (Did w rb ts l n rs (bodyP rec d t.p (l.drop i)))
theorem did_err {w W : World} {rb : Nat} {ts : Value} {l : List Tk} {n : Int} {rs : List Rw} {k : FuncId} {a : Array Value} {q : Fa} (h : Calls Tryz.prog k a W (Did w rb ts l n rs (.error q))) :
  Calls Tryz.prog k a W fun e W' => e = .panicked [flt q] ∧ Below w.heap.size w W' := h.mono fun e W' ⟨hg, h⟩ => by
 rcases h with ⟨q', e1, e2⟩ | ⟨x, j, e1, _⟩
 ·cases e1; exact ⟨e2, hg⟩
 ·cases e1
theorem did_ok {w W : World} {rb : Nat} {ts : Value} {l : List Tk} {n : Int} {rs : List Rw} {k : FuncId} {a : Array Value} {rs2 : List Rw} {r : List Tk} (h : Calls Tryz.prog k a W (Did w rb ts l n rs (.ok (rs2, r)))) :
  Calls Tryz.prog k a W fun e W' => e = .returned (.tuple #[]) ∧ Below w.heap.size w W' ∧ ∃ j, r = l.drop j ∧ RS w W' rb ts l n j (rs ++ rs2) := h.mono fun e W' ⟨hg, h⟩ => by
 rcases h with ⟨q', e1, e2⟩ | ⟨x, j, e1, e2, hr⟩
 ·cases e1
 ·cases e1; exact ⟨e2, hg, j, rfl, hr⟩
structure SQ (w W : World) (rb : Nat) (ts : Value) (l : List Tk) (n : Int) (i : Nat) (v : Value) (rs : List Rw) (qb : Nat) (row : Array Value) : Prop where
 r : RS0 w W rb ts l n i v
 o : OR W w.heap.size v rs
 q : BK W qb row 79
 lo : ∀ g, v.ownBlock = some g → g < qb
 nq : qb ≠ rb
 ge : w.heap.size ≤ qb
section
variable {w W W' : World} {rb : Nat} {ts : Value} {l : List Tk} {n : Int} {i j : Nat} {v : Value} {rs : List Rw} {qb : Nat} {row : Array Value}
theorem SQ.on (h : SQ w W rb ts l n i v rs qb row) (g : Below W.heap.size W W') : SQ w W' rb ts l n i v rs qb row :=
 ⟨h.r.on g, h.o.below g, (g.block qb h.q.lt).trans h.q, h.lo, h.nq, h.ge⟩
theorem SQ.alloc (h : SQ w W rb ts l n i v rs qb row) (o : Obj) : SQ w (W.alloc o) rb ts l n i v rs qb row := h.on (bal (Below.refl _ _) _)
theorem SQ.gb (h : SQ w W rb ts l n i v rs qb row) (g : GB W W' rb) (r : RS0 w W' rb ts l n j v) : SQ w W' rb ts l n j v rs qb row :=
 ⟨r, h.o.gb g h.r.blk, gb_bk g h.q h.nq, h.lo, h.nq, h.ge⟩
theorem SQ.set (h : SQ w W rb ts l n i v rs qb row) (k : Nat) (y : Value) : SQ w (W.setCell ⟨qb, k, none⟩ y) rb ts l n i v rs qb (row.setIfInBounds k y) :=
 ⟨h.r.own (grown_set W qb k y) (fun m e => by cases e; exact ⟨h.ge, h.nq⟩), h.o.far (S := W) h.lo (by decide) h.q (grown_set W qb k y) rfl, h.q.set k y, h.lo, h.nq, h.ge⟩
theorem SQ.back (h : SQ w W rb ts l n i v rs qb row) (j : Nat) (hj : j ≤ l.length) (y : Value) (hy : y = .int .i64 j) : SQ w (W.setCell ⟨rb, 1, none⟩ y) rb ts l n j v rs qb row := by
 subst hy
 exact h.gb (gb_set (gb_refl _ _) rb 1 _ (.inl rfl)) (h.r.go (gb_set (gb_refl _ _) rb 1 _ (.inl rfl)) (h.r.blk.set 1 _) hj)
end
structure ST (w W : World) (rb : Nat) (ts : Value) (l : List Tk) (n : Int) (i : Nat) (v : Value) (rs : List Rw) (qb : Nat) (K nm : ByteArray) (av : Value) (x p : Int) (fb : Nat) (sa : Bool) (sb : Int) (sc sd se : Bool) : Prop where
 s : SQ w W rb ts l n i v rs qb #[.string K, .string nm, av, .int .i64 x, .int .i64 0, .int .i64 p]
 f : BK W fb #[.bool sa, .int .i64 sb, .bool sc, .bool sd, .bool se] 187
 nf : fb ≠ rb
 nn : fb ≠ qb
section
variable {w W W' : World} {rb : Nat} {ts : Value} {l : List Tk} {n : Int} {i j : Nat} {v : Value} {rs : List Rw} {qb : Nat} {K nm : ByteArray} {av : Value} {x p : Int} {fb : Nat} {sa : Bool} {sb : Int} {sc sd se : Bool}
theorem SQ.form (h : SQ w W rb ts l n i v rs qb #[.string K, .string nm, av, .int .i64 x, .int .i64 0, .int .i64 p]) (sa : Bool) (sb : Int) (sc sd se : Bool) : ST w (W.alloc (.cells #[.bool sa, .int .i64 sb, .bool sc, .bool sd, .bool se] 187)) rb ts l n i v rs qb K nm av x p W.heap.size sa sb sc sd se :=
 ⟨h.alloc _, bk_new _ _ _, Nat.ne_of_gt h.r.blk.lt, Nat.ne_of_gt h.q.lt⟩
theorem ST.gb (h : ST w W rb ts l n i v rs qb K nm av x p fb sa sb sc sd se) (g : GB W W' rb) (r : RS0 w W' rb ts l n j v) : ST w W' rb ts l n j v rs qb K nm av x p fb sa sb sc sd se :=
 ⟨h.s.gb g r, gb_bk g h.f h.nf, h.nf, h.nn⟩
theorem ST.setName (h : ST w W rb ts l n i v rs qb K nm av x p fb sa sb sc sd se) (y : ByteArray) : ST w (W.setCell ⟨qb, 1, none⟩ (.string y)) rb ts l n i v rs qb K y av x p fb sa sb sc sd se :=
 ⟨h.s.set 1 (.string y), h.f.far (Ne.symm h.nn) 1 _, h.nf, h.nn⟩
theorem ST.setArgs (h : ST w W rb ts l n i v rs qb K nm av x p fb sa sb sc sd se) (y : Value) : ST w (W.setCell ⟨qb, 2, none⟩ y) rb ts l n i v rs qb K nm y x p fb sa sb sc sd se :=
 ⟨h.s.set 2 y, h.f.far (Ne.symm h.nn) 2 _, h.nf, h.nn⟩
theorem ST.setNum (h : ST w W rb ts l n i v rs qb K nm av x p fb sa sb sc sd se) (y : Int) : ST w (W.setCell ⟨qb, 3, none⟩ (.int .i64 y)) rb ts l n i v rs qb K nm av y p fb sa sb sc sd se :=
 ⟨h.s.set 3 (.int .i64 y), h.f.far (Ne.symm h.nn) 3 _, h.nf, h.nn⟩
theorem ST.cells (h : ST w W rb ts l n i v rs qb K nm av x p fb sa sb sc sd se) : (W.cell? ⟨fb, 0, none⟩ = some (.bool sa) ∧ W.cell? ⟨fb, 1, none⟩ = some (.int .i64 sb) ∧ W.cell? ⟨fb, 2, none⟩ = some (.bool sc) ∧ W.cell? ⟨fb, 3, none⟩ = some (.bool sd) ∧ W.cell? ⟨fb, 4, none⟩ = some (.bool se)) ∧
  (W.cell? ⟨qb, 0, none⟩ = some (.string K) ∧ W.cell? ⟨qb, 1, none⟩ = some (.string nm) ∧ W.cell? ⟨qb, 2, none⟩ = some av ∧ W.cell? ⟨qb, 3, none⟩ = some (.int .i64 x) ∧ W.cell? ⟨qb, 4, none⟩ = some (.int .i64 0) ∧ W.cell? ⟨qb, 5, none⟩ = some (.int .i64 p)) ∧
  (∀ k, W.frozen? ⟨qb, k, none⟩ = false) ∧ (W.cell? ⟨rb, 3, none⟩ = some v ∧ W.frozen? ⟨rb, 3, none⟩ = false) :=
 ⟨⟨h.f.cell 0, h.f.cell 1, h.f.cell 2, h.f.cell 3, h.f.cell 4⟩, ⟨h.s.q.cell 0, h.s.q.cell 1, h.s.q.cell 2, h.s.q.cell 3, h.s.q.cell 4, h.s.q.cell 5⟩, fun k => h.s.q.free k, h.s.r.blk.cell 3, h.s.r.blk.free 3⟩
end
theorem args_any (w W : World) (rb : Nat) (ts : Value) (l : List Tk) (n : Int) (i : Nat) (v : Value) (sa : Bool) (sb : Int) (sc sd se : Bool) (H : RS0 w W rb ts l n i v) (hs : sb = -1 ∨ (0 ≤ sb ∧ sb ≤ 2)) :
  Calls Tryz.prog 148 #[.pointer (some ⟨rb, 0, none⟩), .agg #[.bool sa, .int .i64 sb, .bool sc, .bool sd, .bool se]] W fun e W' => GB W W' rb ∧
   ((∃ q, argsP n ⟨sa, sb, sc, sd, se⟩ ((l.drop i).length + 1) [] (l.drop i) = .error q ∧ e = .panicked [flt q]) ∨
    ∃ av aa j, argsP n ⟨sa, sb, sc, sd, se⟩ ((l.drop i).length + 1) [] (l.drop i) = .ok (aa, l.drop j) ∧ e = .returned av ∧ RS0 w W' rb ts l n j v ∧ W'.ownsRow W.heap.size 100 2 av aa.length (ars aa)) := by
 rcases hs with rfl | ⟨h1, h2⟩
 ·exact args_any_n w W rb ts l n i v sa sc sd se H
 ·exact args_count w W rb ts l n i v sa sb sc sd se H h1 h2
theorem args_err {w W : World} {rb : Nat} {ts : Value} {l : List Tk} {n : Int} {i : Nat} {v : Value} {sa : Bool} {sb : Int} {sc sd se : Bool} (H : RS0 w W rb ts l n i v) (hs : sb = -1 ∨ (0 ≤ sb ∧ sb ≤ 2)) {q : Fa} {r : List Tk} (hr : r = l.drop i) (h : argsP n ⟨sa, sb, sc, sd, se⟩ (r.length + 1) [] r = .error q) :
  Calls Tryz.prog 148 #[.pointer (some ⟨rb, 0, none⟩), .agg #[.bool sa, .int .i64 sb, .bool sc, .bool sd, .bool se]] W fun e W' => e = .panicked [flt q] ∧ GB W W' rb :=
 (args_any w W rb ts l n i v sa sb sc sd se H hs).mono fun e W' ⟨g, h2⟩ => by
  subst hr
  rcases h2 with ⟨q', e1, e2⟩ | ⟨av, aa, j, e1, _⟩
  ·rw [h] at e1; cases e1; exact ⟨e2, g⟩
  ·rw [h] at e1; cases e1
theorem args_ok {w W : World} {rb : Nat} {ts : Value} {l : List Tk} {n : Int} {i : Nat} {v : Value} {sa : Bool} {sb : Int} {sc sd se : Bool} (H : RS0 w W rb ts l n i v) (hs : sb = -1 ∨ (0 ≤ sb ∧ sb ≤ 2)) {aa : List Ar} {r r2 : List Tk} (hr : r = l.drop i) (h : argsP n ⟨sa, sb, sc, sd, se⟩ (r.length + 1) [] r = .ok (aa, r2)) :
  Calls Tryz.prog 148 #[.pointer (some ⟨rb, 0, none⟩), .agg #[.bool sa, .int .i64 sb, .bool sc, .bool sd, .bool se]] W fun e W' => ∃ a0 c0, e = .returned (.slice a0 aa.length c0) ∧ GB W W' rb ∧ ∃ j, r2 = l.drop j ∧ RS0 w W' rb ts l n j v ∧ W'.ownsRow W.heap.size 100 2 (.slice a0 aa.length c0) aa.length (ars aa) :=
 (args_any w W rb ts l n i v sa sb sc sd se H hs).mono fun e W' ⟨g, h2⟩ => by
  subst hr
  rcases h2 with ⟨q', e1, e2⟩ | ⟨av, aa', j, e1, e2, hR, ho⟩
  ·rw [h] at e1; cases e1
  ·rw [h] at e1
   cases e1
   obtain ⟨a0, c0, rfl⟩ := own_shape ho
   exact ⟨a0, c0, e2, g, j, rfl, hR, ho⟩
end Go.Proofs.YtdjfpghgklkejaaGreatDoor
namespace Go.Proofs.YtdjfpghgklkejaaGreatDoor
open Go.RowKit Go.Sort
section
variable {n : Int} {sh : Sh} {l l1 l2 l3 l4 : List Tk} {nm : ByteArray} {aa : List Ar} {x : Nat} {u : Tk} {q : Fa} {rec : Nat → List Tk → Except Fa (List Rw × List Tk)} {d : Nat} {t : Tk} {r : List Tk}
theorem mid_e1 (h1 : optName n sh.name l = .error q) : midP n sh l = .error q := by unfold midP; rw [h1]
theorem mid_e2 (h1 : optName n sh.name l = .ok (nm, l1)) (h2 : argsP n sh (l1.length + 1) [] l1 = .error q) : midP n sh l = .error q := by unfold midP; rw [h1]; simp only [h2]
theorem mid_e3 (h1 : optName n sh.name l = .ok (nm, l1)) (h2 : argsP n sh (l1.length + 1) [] l1 = .ok (aa, l2)) (h3 : optNum n sh.num l2 = .error q) : midP n sh l = .error q := by unfold midP; rw [h1]; simp only [h2, h3]
theorem mid_e4 (h1 : optName n sh.name l = .ok (nm, l1)) (h2 : argsP n sh (l1.length + 1) [] l1 = .ok (aa, l2)) (h3 : optNum n sh.num l2 = .ok (x, l3)) (h4 : signP n (lastS sh) l3 = .error q) : midP n sh l = .error q := by unfold midP; rw [h1]; simp only [h2, h3, h4]
theorem mid_ok (h1 : optName n sh.name l = .ok (nm, l1)) (h2 : argsP n sh (l1.length + 1) [] l1 = .ok (aa, l2)) (h3 : optNum n sh.num l2 = .ok (x, l3)) (h4 : signP n (lastS sh) l3 = .ok (u, l4)) : midP n sh l = .ok ((nm, aa, x, u.p), l4) := by unfold midP; rw [h1]; simp only [h2, h3, h4]
theorem stmt_mid (h : midP n (shK t) (restK t r) = .error q) : stmtP n rec d (t :: r) = .error q := by unfold stmtP; simp only [h]
theorem stmt_flat {p : Int} (h : midP n (shK t) (restK t r) = .ok ((nm, aa, x, p), l4)) (hb : (shK t).body = false) : stmtP n rec d (t :: r) = .ok ([⟨kindK t, nm, aa, x, 0, t.p⟩], l4) := by unfold stmtP; simp only [h, hb]; rfl
theorem stmt_be {p : Int} (h : midP n (shK t) (restK t r) = .ok ((nm, aa, x, p), l4)) (hb : (shK t).body = true) (h5 : bodyP rec d p l4 = .error q) : stmtP n rec d (t :: r) = .error q := by
 unfold stmtP
 unfold bodyP at h5
 simp only [h, hb, if_true]
 by_cases hd : 32 ≤ d
 ·rw [if_pos hd] at h5 ⊢; cases h5; rfl
 ·rw [if_neg hd] at h5 ⊢
  cases hr : rec (d + 1) l4 with
  | error e => rw [hr] at h5; cases h5; rfl
  | ok y => rw [hr] at h5; cases h5
theorem stmt_bo {p : Int} {rs : List Rw} {l5 : List Tk} (h : midP n (shK t) (restK t r) = .ok ((nm, aa, x, p), l4)) (hb : (shK t).body = true) (h5 : bodyP rec d p l4 = .ok (rs, l5)) : stmtP n rec d (t :: r) = .ok (⟨kindK t, nm, aa, x, rs.length, t.p⟩ :: rs, l5) := by
 unfold stmtP
 unfold bodyP at h5
 simp only [h, hb, if_true]
 by_cases hd : 32 ≤ d
 ·rw [if_pos hd] at h5; cases h5
 ·rw [if_neg hd] at h5 ⊢
  cases hr : rec (d + 1) l4 with
  | error e => rw [hr] at h5; cases h5
  | ok y => rw [hr] at h5; cases h5; rfl
end
theorem OR.rows {W : World} {B : Nat} {v : Value} {rs : List Rw} (h : OR W B v rs) (k : Nat) (hk : k < rs.length) : ∃ g cap, v = .slice (some ⟨g, 0, none⟩) rs.length cap ∧ rs.length ≤ cap ∧ (∀ o, W.frozen? ⟨g, o, none⟩ = false) ∧ W.cell? ⟨g, k * 6 + 4, none⟩ = some (.int .i64 rs[k].rows) ∧ B ≤ g ∧ g < W.heap.size ∧ (∃ cs, W.heap[g]? = some (.cells cs 79 (0, 0))) ∧
  ∀ x : Int, OR (W.setCell ⟨g, k * 6 + 4, none⟩ (.int .i64 x)) B v (rs.set k (rs[k].set x)) := by
 obtain ⟨vs, h1, h2, h3⟩ := h
 obtain ⟨g, cap, rfl, hc, hf, hcell, hb, hl⟩ := own_at h2 (by omega)
 obtain ⟨cs, hcs⟩ := own_ty h2 (g := g) rfl
 have hlen := rws_length rs vs h1
 have hc4 := hcell (k * 6 + 4) (by omega)
 have e4 := (rws_at rs vs h1 k hk (by omega)).2.2.2.2.1
 rw [List.getElem?_eq_getElem (by omega)] at e4
 refine ⟨g, cap, rfl, hc, hf, by rw [hc4, Option.some.inj e4], hb, hl, ⟨cs, hcs⟩, fun x => ⟨vs, by rw [List.length_set]; exact h1, ?_, fun j hj hj' => ?_⟩⟩
 ·rw [List.length_set, ← rws_set rs vs h1 k hk x]
  exact own_setc h2 (by omega) _
 ·have hj2 : j < rs.length := by rw [List.length_set] at hj; exact hj
  have ea : (rs.set k (rs[k].set x))[j].args = rs[j].args := by
   by_cases e : k = j
   ·subst e; rw [List.getElem_set_self]
   ·rw [List.getElem_set_ne e]
  rw [ea]
  exact own_kept (h3 j hj2 hj') (grown_set W g _ _) (own_ne (h3 j hj2 hj') (b := g) hcs (by decide))
theorem set_mid {rs rs2 : List Rw} {r r' : Rw} : (rs ++ [r] ++ rs2).set rs.length r' = rs ++ (r' :: rs2) := by
 rw [List.append_assoc, List.set_append_right _ _ (Nat.le_refl _), Nat.sub_self]
 rfl
theorem at_mid {rs rs2 : List Rw} {r : Rw} (h : rs.length < (rs ++ [r] ++ rs2).length) : (rs ++ [r] ++ rs2)[rs.length] = r := by
 simp
theorem sq_start {w W w1 : World} {rb : Nat} {ts : Value} {l : List Tk} {n : Int} {i : Nat} {v : Value} {rs : List Rw} (hR : RS0 w W rb ts l n i v) (hO : OR W w.heap.size v rs) (hG : GB W w1 rb) (hR1 : RS0 w w1 rb ts l n (i + 1) v) (T : Obj) (row : Array Value) :
  SQ w ((w1.alloc T).alloc (.cells row 79)) rb ts l n (i + 1) v rs (w1.heap.size + 1) row := by
 have e : (w1.alloc T).heap.size = w1.heap.size + 1 := by simp
 have hO1 := ((hO.gb hG hR.blk).below (bal (Below.refl _ _) T)).below (bal (Below.refl _ _) (.cells row 79))
 have hb := bk_new (w1.alloc T) row 79
 rw [e] at hb
 refine ⟨(hR1.on (bal (Below.refl _ _) _)).on (bal (Below.refl _ _) _), hO1, hb, fun g hg => ?_, ?_, ?_⟩
 ·obtain ⟨vs, _, h2, _⟩ := hO
  have := (h2.lt g hg).2
  have := hG.size
  omega
 ·have := hR1.blk.lt; omega
 ·have := hR1.below.size; omega
theorem first_box {w1 w2 : World} {cs : Array Value} {T : TypeId} {o : Obj} (h : Below ((w1.alloc (.cells cs T)).alloc o).heap.size ((w1.alloc (.cells cs T)).alloc o) w2) : BK w2 w1.heap.size cs T := by
 have e := (bk_new w1 cs T).alloc o
 exact (h.block w1.heap.size e.lt).trans e
end Go.Proofs.YtdjfpghgklkejaaGreatDoor
