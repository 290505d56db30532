/-
  Operations in memory of a call's own.
-/
import Derived.Test.YtinkdonaedoojaaCB1
namespace Go.Proofs.Ytinkdonaedoojaa.CL
open Go.RowKit Go.Sort

def zl (l : List Int) : List Value := l.map fun n => .int .i64 n
theorem zl_one (l : List Int) : ∀ u ∈ zl l, u.oneCell' = true := fun u hu => by
  unfold zl at hu
  obtain ⟨x, _, rfl⟩ := List.mem_map.1 hu
  rfl
theorem own_qs {W : World} {B : Nat} {v : Value} {l : List Int} (h : W.ownsRow B 3 1 v l.length (zl l)) : ∃ a c, v = .slice a l.length c ∧ QS W a c l := by
  rcases Nat.eq_zero_or_pos l.length with h0 | h0
  · obtain ⟨a, c, rfl⟩ := own_shape h
    exact ⟨a, c, rfl, by omega, fun k hk => by omega⟩
  · obtain ⟨g, cap, rfl, hc, _, hcell, _, hl⟩ := own_at h h0
    refine ⟨_, cap, rfl, hc, fun _ _ => ⟨g, 0, rfl, fun j hj => ?_, hl⟩⟩
    have hz : j < (zl l).length := by simpa [zl] using hj
    rw [Nat.zero_add, hcell j hz]
    simp [zl]
def opw : List Oq → List (Option Addr × Nat) → List Value
  | o :: os, v :: vs => opc o v.1 v.2 ++ opw os vs
  | _, _ => []
theorem opw_put : ∀ (os : List Oq) (vs : List (Option Addr × Nat)) (o : Oq) (v : Option Addr × Nat), os.length = vs.length → opw (os ++ [o]) (vs ++ [v]) = opw os vs ++ opc o v.1 v.2
  | [], [], _, _, _ => rfl
  | [], _ :: _, _, _, h => by cases h
  | _ :: _, [], _, _, h => by cases h
  | r0 :: rs, v0 :: vs, r, v, h => by
    show opc r0 v0.1 v0.2 ++ opw (rs ++ [r]) (vs ++ [v]) = opc r0 v0.1 v0.2 ++ opw rs vs ++ opc r v.1 v.2
    rw [opw_put rs vs r v (by simpa using h), List.append_assoc]
theorem opw_length : ∀ (rs : List Oq) (vs : List (Option Addr × Nat)), rs.length = vs.length → (opw rs vs).length = rs.length * 7
  | [], [], _ => rfl
  | [], _ :: _, h => by cases h
  | _ :: _, [], h => by cases h
  | r0 :: rs, v0 :: vs, h => by
    show (opc r0 v0.1 v0.2 ++ opw rs vs).length = _
    rw [List.length_append, opw_length rs vs (by simpa using h)]
    show 7 + _ = (rs.length + 1) * 7
    omega
theorem opw_at : ∀ (rs : List Oq) (vs : List (Option Addr × Nat)), rs.length = vs.length → ∀ (j : Nat) (h : j < rs.length) (h' : j < vs.length),
    (opw rs vs)[j * 7]? = some (.int .i64 rs[j].k) ∧ (opw rs vs)[j * 7 + 1]? = some (.string rs[j].n) ∧ (opw rs vs)[j * 7 + 2]? = some (.slice vs[j].1 rs[j].qs.length vs[j].2) ∧
    (opw rs vs)[j * 7 + 3]? = some (.int .i64 rs[j].b) ∧ (opw rs vs)[j * 7 + 4]? = some (.bool rs[j].f) ∧ (opw rs vs)[j * 7 + 5]? = some (.int .u64 rs[j].m) ∧ (opw rs vs)[j * 7 + 6]? = some (.int .u64 rs[j].v)
  | [], _, _, j, h, _ => absurd h (Nat.not_lt_zero _)
  | _ :: _, [], h, _, _, _ => by cases h
  | r0 :: rs, v0 :: vs, h, j, hj, hj' => by
    have e : opw (r0 :: rs) (v0 :: vs) = opc r0 v0.1 v0.2 ++ opw rs vs := rfl
    cases j with
    | zero => rw [e]; exact ⟨rfl, rfl, rfl, rfl, rfl, rfl, rfl⟩
    | succ j =>
      have := opw_at rs vs (by simpa using h) j (by simpa using hj) (by simpa using hj')
      rw [e, show (j + 1) * 7 = j * 7 + 7 by omega]
      exact this
/-- Operations, in memory of one's own. -/
structure OO (W : World) (B : Nat) (v : Value) (os : List Oq) (vs : List (Option Addr × Nat)) : Prop where
  len : os.length = vs.length
  own : W.ownsRow B 58 7 v os.length (opw os vs)
  qs : ∀ k (h : k < os.length) (h' : k < vs.length), W.ownsRow B 3 1 (.slice vs[k].1 os[k].qs.length vs[k].2) os[k].qs.length (zl os[k].qs)
  fit : ∀ k (h : k < os.length), Fit os[k]
section
variable {W W' : World} {B : Nat} {v v' : Value} {os : List Oq} {vs : List (Option Addr × Nat)}
theorem OO.shape (h : OO W B v os vs) : ∃ a c, v = .slice a os.length c := own_shape h.own
theorem OO.below (h : OO W B v os vs) (hb : Below W.heap.size W W') : OO W' B v os vs :=
  ⟨h.len, own_below h.own hb, fun k hk hk' => own_below (h.qs k hk hk') hb, h.fit⟩
/-- Some block of another kind has turned. -/
theorem OO.kept {row : Option Nat} (h : OO W B v os vs) (hg : W.grownBy W' row) (hr : ∀ g, row = some g → ∀ cs, W.heap[g]? ≠ some (.cells cs 58 (0, 0)) ∧ W.heap[g]? ≠ some (.cells cs 3 (0, 0))) : OO W' B v os vs :=
  ⟨h.len, own_kept h.own hg (fun g hg' e => by obtain ⟨cs, hc⟩ := own_ty h.own hg'; exact (hr g e.symm cs).1 hc), fun k hk hk' => own_kept (h.qs k hk hk') hg (fun g hg' e => by obtain ⟨cs, hc⟩ := own_ty (h.qs k hk hk') hg'; exact (hr g e.symm cs).2 hc), h.fit⟩
theorem OO.put {o : Oq} {a : Option Addr} {c : Nat} (h : OO W B v os vs) (hq : W.ownsRow B 3 1 (.slice a o.qs.length c) o.qs.length (zl o.qs)) (hf : Fit o) (hg : W.grownBy W' v.ownBlock) (ho : W'.ownsRow B 58 7 v' (os.length + 1) (opw os vs ++ opc o a c)) : OO W' B v' (os ++ [o]) (vs ++ [(a, c)]) := by
  have key : ∀ {x : Value} {n xs}, W.ownsRow B 3 1 x n xs → W'.ownsRow B 3 1 x n xs := fun hx => own_kept hx hg (fun g e e2 => by
    obtain ⟨cs, h⟩ := own_ty h.own e2.symm
    exact own_ne hx (b := g) h (by decide) g e rfl)
  have hl := h.len
  refine ⟨by simp [hl], by rw [opw_put _ _ _ _ hl, List.length_append]; exact ho, fun k hk hk' => ?_, fun k hk => ?_⟩
  · by_cases e : k < os.length
    · rw [List.getElem_append_left (by omega), List.getElem_append_left e]
      exact key (h.qs k e (by omega))
    · have e1 : k = os.length := by rw [List.length_append] at hk; simp at hk; omega
      subst e1
      have e2 : (os ++ [o])[os.length]'hk = o := by simp
      have e3 : (vs ++ [(a, c)])[os.length]'hk' = (a, c) := by simp [hl]
      rw [e2, e3]
      exact key hq
  · by_cases e : k < os.length
    · rw [List.getElem_append_left e]; exact h.fit k e
    · have e1 : k = os.length := by rw [List.length_append] at hk; simp at hk; omega
      subst e1
      have e2 : (os ++ [o])[os.length]'hk = o := by simp
      rw [e2]
      exact hf
def vA (vs : List (Option Addr × Nat)) (k : Nat) : Option Addr := (vs.getD k (none, 0)).1
def vC (vs : List (Option Addr × Nat)) (k : Nat) : Nat := (vs.getD k (none, 0)).2
theorem vs_at (vs : List (Option Addr × Nat)) (k : Nat) (h : k < vs.length) : vs[k] = (vA vs k, vC vs k) := by
  unfold vA vC
  rw [List.getD_eq_getElem?_getD, List.getElem?_eq_getElem h]
  rfl
theorem OO.read (h : OO W B v os vs) : ∃ a c, v = .slice a os.length c ∧ OS W a c os (vA vs) (vC vs) := by
  have hl := h.len
  have hq : ∀ k (h : k < os.length), QS W (vA vs k) (vC vs k) os[k].qs := fun k hk => by
    have hr := h.qs k hk (by omega)
    rw [vs_at vs k (by omega)] at hr
    obtain ⟨a, c, e, q⟩ := own_qs hr
    cases e
    exact q
  have hlen := own_len2 h.own
  rcases Nat.eq_zero_or_pos os.length with h0 | h0
  · obtain ⟨a, c, rfl⟩ := own_shape h.own
    exact ⟨a, c, rfl, by omega, hq, fun k hk => by omega, h.fit, hlen⟩
  · obtain ⟨g, cap, rfl, hc, _, hcell, _, hgl⟩ := own_at h.own h0
    have hwl := opw_length os vs hl
    have get : ∀ (i : Nat) (x : Value), i < os.length * 7 → (opw os vs)[i]? = some x → W.cell? ⟨g, 0 + i, none⟩ = some x := fun i x hi e => by
      rw [List.getElem?_eq_getElem (by omega)] at e
      rw [Nat.zero_add, hcell i (by omega), Option.some.inj e]
    refine ⟨_, cap, rfl, hc, hq, fun _ _ => ⟨g, 0, rfl, ?_, ?_, ?_, ?_, ?_, ?_, ?_, hgl⟩, h.fit, hlen⟩
    · intro j hj; exact get _ _ (by omega) (opw_at os vs hl j hj (by omega)).1
    · intro j hj; exact get _ _ (by omega) (opw_at os vs hl j hj (by omega)).2.1
    · intro j hj; have := (opw_at os vs hl j hj (by omega)).2.2.1; rw [vs_at vs j (by omega)] at this; exact get _ _ (by omega) this
    · intro j hj; exact get _ _ (by omega) (opw_at os vs hl j hj (by omega)).2.2.2.1
    · intro j hj; exact get _ _ (by omega) (opw_at os vs hl j hj (by omega)).2.2.2.2.1
    · intro j hj; exact get _ _ (by omega) (opw_at os vs hl j hj (by omega)).2.2.2.2.2.1
    · intro j hj; exact get _ _ (by omega) (opw_at os vs hl j hj (by omega)).2.2.2.2.2.2
end
theorem Try.info58 : (Try.prog.info? 58).map (fun i => (i.zero, i.size, i.bytes)) = some (some (.agg #[.int .i64 0, .string ⟨#[]⟩, .slice none 0 0, .int .i64 0, .bool false, .int .u64 0, .int .u64 0]), 7, 80) := by kernel_rfl
theorem new_op (w4 : World) (b : Nat) (hb : b = w4.heap.size) (o : Oq) (a : Option Addr) (c : Nat) : ∀ j u, (opc o a c)[j]? = some u → (w4.alloc (.cells (opc o a c).toArray 58)).cell? ((⟨b, 0, none⟩ : Addr).add j) = some u := by
  intro j u hj
  subst hb
  rw [WideShapes.add_plain, Nat.zero_add]
  match j, hj with
  | 0, hj => simp at hj; subst hj; simp [go_sem]
  | 1, hj => simp at hj; subst hj; simp [go_sem]
  | 2, hj => simp at hj; subst hj; simp [go_sem]
  | 3, hj => simp at hj; subst hj; simp [go_sem]
  | 4, hj => simp at hj; subst hj; simp [go_sem]
  | 5, hj => simp at hj; subst hj; simp [go_sem]
  | 6, hj => simp at hj; subst hj; simp [go_sem]
theorem one_op (o : Oq) (a : Option Addr) (c : Nat) : ∀ u ∈ opc o a c, u.oneCell' = true := fun u hu => by
  simp at hu
  rcases hu with rfl | rfl | rfl | rfl | rfl | rfl | rfl <;> rfl
end Go.Proofs.Ytinkdonaedoojaa.CL
