/-
  Rows in memory: a row that the reader owns and lets grow.
-/
import Derived.Test.YtiepbfeliehjnaaDoorP4
import Derived.Deep.RegionHeldLaw
import Derived.Deep.RegionLaw
namespace Go.Proofs.YtiepbfeliehjnaaDoor
open Go.RowKit Go.Sort

/-- The cells of a row, its Args at v. -/
abbrev rwc (r : Rw) (v : Value) : List Value := [.string r.kind, .string r.name, v, .int .i64 r.num, .int .i64 r.rows, .int .i64 r.place]
def rws : List Rw → List Value → List Value
  | r :: rs, v :: vs => rwc r v ++ rws rs vs
  | _, _ => []
theorem rws_put : ∀ (rs : List Rw) (vs : List Value) (r : Rw) (v : Value), rs.length = vs.length → rws (rs ++ [r]) (vs ++ [v]) = rws rs vs ++ rwc r v
  | [], [], _, _, _ => rfl
  | [], _ :: _, _, _, h => by cases h
  | _ :: _, [], _, _, h => by cases h
  | r0 :: rs, v0 :: vs, r, v, h => by
    show rwc r0 v0 ++ rws (rs ++ [r]) (vs ++ [v]) = rwc r0 v0 ++ rws rs vs ++ rwc r v
    rw [rws_put rs vs r v (by simpa using h), List.append_assoc]
theorem rws_length : ∀ (rs : List Rw) (vs : List Value), rs.length = vs.length → (rws rs vs).length = rs.length * 6
  | [], [], _ => rfl
  | [], _ :: _, h => by cases h
  | _ :: _, [], h => by cases h
  | r0 :: rs, v0 :: vs, h => by
    show (rwc r0 v0 ++ rws rs vs).length = _
    rw [List.length_append, rws_length rs vs (by simpa using h)]
    show 6 + _ = (rs.length + 1) * 6
    omega
theorem rws_at : ∀ (rs : List Rw) (vs : List Value), rs.length = vs.length → ∀ (j : Nat) (h : j < rs.length) (h' : j < vs.length),
    (rws rs vs)[j * 6]? = some (.string rs[j].kind) ∧ (rws rs vs)[j * 6 + 1]? = some (.string rs[j].name) ∧ (rws rs vs)[j * 6 + 2]? = some vs[j] ∧
    (rws rs vs)[j * 6 + 3]? = some (.int .i64 rs[j].num) ∧ (rws rs vs)[j * 6 + 4]? = some (.int .i64 rs[j].rows) ∧ (rws rs vs)[j * 6 + 5]? = some (.int .i64 rs[j].place)
  | [], _, _, j, h, _ => absurd h (Nat.not_lt_zero _)
  | _ :: _, [], h, _, _, _ => by cases h
  | r0 :: rs, v0 :: vs, h, j, hj, hj' => by
    have e : rws (r0 :: rs) (v0 :: vs) = rwc r0 v0 ++ rws rs vs := rfl
    cases j with
    | zero => rw [e]; exact ⟨rfl, rfl, rfl, rfl, rfl, rfl⟩
    | succ j =>
      have := rws_at rs vs (by simpa using h) j (by simpa using hj) (by simpa using hj')
      rw [e, show (j + 1) * 6 = j * 6 + 6 by omega]
      exact this
/-- A row with another number of rows in it. -/
abbrev Rw.set (r : Rw) (x : Int) : Rw := ⟨r.kind, r.name, r.args, r.num, x, r.place⟩
theorem rws_set : ∀ (rs : List Rw) (vs : List Value), rs.length = vs.length → ∀ (j : Nat) (h : j < rs.length) (x : Int), (rws rs vs).set (j * 6 + 4) (.int .i64 x) = rws (rs.set j (rs[j].set x)) vs
  | [], _, _, j, h, _ => absurd h (Nat.not_lt_zero _)
  | _ :: _, [], h, _, _, _ => by cases h
  | r0 :: rs, v0 :: vs, h, j, hj, x => by
    cases j with
    | zero => rfl
    | succ j =>
      have hj2 : j < rs.length := by simpa using hj
      have := rws_set rs vs (by simpa using h) j hj2 x
      show (rwc r0 v0 ++ rws rs vs).set ((j + 1) * 6 + 4) _ = rwc r0 v0 ++ rws (rs.set j (rs[j].set x)) vs
      rw [← this, show (j + 1) * 6 + 4 = 6 + (j * 6 + 4) by omega]
      exact List.set_append_right (s := rwc r0 v0) (t := rws rs vs) (6 + (j * 6 + 4)) _ (by show 6 ≤ _; omega) |>.trans (by rw [show (rwc r0 v0).length = 6 from rfl, Nat.add_sub_cancel_left])
abbrev zRow : Value := .agg #[.string ⟨#[]⟩, .string ⟨#[]⟩, .slice none 0 0, .int .i64 0, .int .i64 0, .int .i64 0]
theorem Tryd.info45 : (Tryd.prog.info? 45).map (fun i => (i.zero, i.size, i.bytes)) = some (some zRow, 6, 80) := by kernel_rfl
theorem own_ty {W : World} {B T c n g : Nat} {v : Value} {xs : List Value} (h : W.ownsRow B T c v n xs) (hg : v.ownBlock = some g) : ∃ cs, W.heap[g]? = some (.cells cs T (0, 0)) := by
  rcases h.2 with ⟨rfl, _⟩ | ⟨g', cap, cur, rfl, _, hh, _⟩
  · cases hg
  · cases hg; exact ⟨_, hh⟩
theorem own_ne {W : World} {B T T' c n b : Nat} {v : Value} {xs : List Value} {cs : Array Value} (h : W.ownsRow B T c v n xs) (hb : BK W b cs T') (ht : T ≠ T') : ∀ g, v.ownBlock = some g → some g ≠ some b := fun g hg e => by
  obtain ⟨cs', h1⟩ := own_ty h hg
  rw [Option.some.inj e] at h1
  have h2 : W.heap[b]? = some (.cells cs T' (0, 0)) := hb
  rw [h2] at h1
  cases h1
  exact ht rfl
/-- The rows rs, in memory of the reader's own. -/
def OR (W : World) (B : Nat) (v : Value) (rs : List Rw) : Prop :=
  ∃ vs : List Value, rs.length = vs.length ∧ W.ownsRow B 45 6 v rs.length (rws rs vs) ∧ ∀ k (h : k < rs.length) (h' : k < vs.length), W.ownsRow B 61 2 vs[k] rs[k].args.length (ars rs[k].args)
theorem OR.nil (W : World) (B : Nat) : OR W B (.slice none 0 0) [] := ⟨[], rfl, World.ownsRow_nil _ _ _ _, fun _ h => absurd h (Nat.not_lt_zero _)⟩
section
variable {W W' : World} {B : Nat} {v v' : Value} {rs : List Rw}
theorem OR.below (h : OR W B v rs) (hb : Below W.heap.size W W') : OR W' B v rs := by
  obtain ⟨vs, h1, h2, h3⟩ := h
  exact ⟨vs, h1, own_below h2 hb, fun k hk hk' => own_below (h3 k hk hk') hb⟩
theorem OR.gb {rb : Nat} {cs : Array Value} (h : OR W B v rs) (g : GB W W' rb) (hb : BK W rb cs 59) : OR W' B v rs := by
  obtain ⟨vs, h1, h2, h3⟩ := h
  exact ⟨vs, h1, own_kept h2 g (own_ne h2 hb (by decide)), fun k hk hk' => own_kept (h3 k hk hk') g (own_ne (h3 k hk hk') hb (by decide))⟩
/-- A store into a block that lies behind all of them. -/
theorem OR.far {b : Nat} (h : OR W B v rs) {S : World} (hS : ∀ g, v.ownBlock = some g → g < b) {cs : Array Value} {T : TypeId} (hT : T ≠ 61) (hb : BK W b cs T) (g : W.grownBy W' (some b)) (_ : S = W) : OR W' B v rs := by
  obtain ⟨vs, h1, h2, h3⟩ := h
  exact ⟨vs, h1, own_kept h2 g (fun k e e2 => by have := hS k e; cases e2; omega), fun k hk hk' => own_kept (h3 k hk hk') g (own_ne (h3 k hk hk') hb (fun e => hT e.symm))⟩
theorem OR.shape (h : OR W B v rs) : ∃ a c, v = .slice a rs.length c := by
  obtain ⟨vs, _, h2, _⟩ := h
  exact own_shape h2
end
/-- append at a row that is owned, in a region that draws its order. -/
theorem step_own {P : Program} {w : World} {ops : Array Oper} {o : Oper} {a : Act} {K : Act → World → Prop} {Q : Exit → Act → World → Prop} {E : Prop} (hgd : o.guard = none) (s x : Operand) (t : TypeId)
    (ho : o.op = .call { callee := .builtin .append, args := #[s, x], argTypes := #[t, t] })
    (base : Nat) (e : TypeId) (i : TypeInfo) (z : Value) (size bytes : Nat) (ht : P.underlying t = some (.slice e)) (hi : P.info? e = some i) (hz : i.zero = some z)
    (hsize : i.size = size) (hby : i.bytes = bytes) (hzs : z.cells.size = size) (hsz : 0 < size)
    (v : Value) (n : Nat) (xs : List Value) (hs : a.eval s = v) (hown : w.ownsRow base e size v n xs)
    (ad : Addr) (m c : Nat) (news : List Value) (hx : a.eval x = .slice (some ad) m c) (hl : news.length = m * size) (hnews : ∀ j u, news[j]? = some u → w.cell? (ad.add j) = some u) (h1 : ∀ u ∈ news, u.oneCell' = true)
    (h63 : n + m ≤ maxLen) (hbytes : (n + m) * bytes ≤ 140737488355328) (hbase : base ≤ w.heap.size)
    (h : ∀ v' w', w'.ownsRow base e size v' (n + m) (xs ++ news) → w.grownBy w' v.ownBlock → (v'.ownBlock = v.ownBlock ∨ v'.ownBlock = some w.heap.size) → K (a.put o.dst v') w') :
    if Region.wanted o (yielded ops a.tmps) = true then Oper.wp P o a w K Q else E := by
  have hw : Region.wanted o (yielded ops a.tmps) = true := by simp [Region.wanted, hgd]
  rw [if_pos hw]
  obtain ⟨v', w', hr, h2, h3, h4, h5⟩ := run_append_own_at (P := P) w base t o.type e i z size bytes ht hi hz hsize hby hzs hsz v n xs hown ad m c news hl hnews h1 h63 hbytes hbase
  unfold Oper.wp execOp
  simp only [ho, resolve, invoke, builtin, Sem.run_bind, Sem.run_pure, Result.andThen_ok, List.map_toArray, List.map_cons, List.map_nil, hs, hx, hr]
  exact h v' w' h2 h3 h5
theorem new_row (w4 : World) (b : Nat) (hb : b = w4.heap.size) (r : Rw) (v : Value) : ∀ j u, (rwc r v)[j]? = some u → (w4.alloc (.cells (rwc r v).toArray 45)).cell? ((⟨b, 0, none⟩ : Addr).add j) = some u := by
  intro j u hj
  subst hb
  rw [WideShapes.add_plain, Nat.zero_add]
  match j, hj with
  | 0, hj => simp at hj; subst hj; simp [go_sem]
  | 1, hj => simp at hj; subst hj; simp [go_sem]
  | 2, hj => simp at hj; subst hj; simp [go_sem]
  | 3, hj => simp at hj; subst hj; simp [go_sem]
  | 4, hj => simp at hj; subst hj; simp [go_sem]
  | 5, hj => simp at hj; subst hj; simp [go_sem]
theorem one_row (r : Rw) (a : Option Addr) (m c : Nat) : ∀ u ∈ rwc r (.slice a m c), u.oneCell' = true := fun u hu => by
  simp at hu
  rcases hu with rfl | rfl | rfl | rfl | rfl | rfl <;> rfl
theorem OR.put {W W' : World} {B : Nat} {v v' av : Value} {rs vs} {r : Rw} (h1 : rs.length = vs.length) (h3 : ∀ k (h : k < rs.length) (h' : k < vs.length), W.ownsRow B 61 2 vs[k] rs[k].args.length (ars rs[k].args)) (hv : ∀ g, v.ownBlock = some g → ∃ cs, W.heap[g]? = some (.cells cs 45 (0, 0)))
    (ha : W.ownsRow B 61 2 av r.args.length (ars r.args)) (hg : W.grownBy W' v.ownBlock) (ho : W'.ownsRow B 45 6 v' (rs.length + 1) (rws rs vs ++ rwc r av)) : OR W' B v' (rs ++ [r]) := by
  have key : ∀ {x : Value} {n xs}, W.ownsRow B 61 2 x n xs → W'.ownsRow B 61 2 x n xs := fun hx => own_kept hx hg (fun g e e2 => by
    obtain ⟨cs, h⟩ := hv g e2.symm
    exact own_ne hx (b := g) h (by decide) g e rfl)
  refine ⟨vs ++ [av], by simp [h1], by rw [rws_put _ _ _ _ h1, List.length_append]; exact ho, fun k hk hk' => ?_⟩
  by_cases e : k < rs.length
  · rw [List.getElem_append_left (by omega), List.getElem_append_left e]
    exact key (h3 k e (by omega))
  · have e1 : k = rs.length := by rw [List.length_append] at hk; simp at hk; omega
    subst e1
    have e2 : (rs ++ [r])[rs.length]'hk = r := by simp
    have e3 : (vs ++ [av])[rs.length]'hk' = av := by simp [h1]
    rw [e2, e3]
    exact key ha
end Go.Proofs.YtiepbfeliehjnaaDoor
