/-
  Lists of lists of numbers in memory of a call's own; which layers there are.
-/
import Derived.Test.YtfaoegiignalkaaE2
namespace Go.Proofs.Ytfaoegiignalkaa
open Go.RowKit Go.Sort

def il (l : List Nat) : List Value := l.map fun n => .int .i64 (n : Nat)
theorem il_snoc (l : List Nat) (n : Nat) : il (l ++ [n]) = il l ++ [.int .i64 (n : Nat)] := by simp [il]
/-- Rows of numbers, in memory of one's own. -/
structure OL (W : World) (B : Nat) (v : Value) (ls : List (List Nat)) (vs : List Value) : Prop where
  len : ls.length = vs.length
  out : W.ownsRow B 43 1 v ls.length vs
  row : ∀ k (h : k < ls.length) (h' : k < vs.length), W.ownsRow B 3 1 vs[k] ls[k].length (il ls[k])
  ne : ∀ i j (hi : i < vs.length) (hj : j < vs.length), i ≠ j → ∀ g, vs[i].ownBlock = some g → vs[j].ownBlock ≠ some g
theorem OL.nil (W : World) (B : Nat) : OL W B (.slice none 0 0) [] [] := ⟨rfl, World.ownsRow_nil _ _ _ _, fun _ h => absurd h (Nat.not_lt_zero _), fun _ _ hi => absurd hi (Nat.not_lt_zero _)⟩
section
variable {W W' : World} {B : Nat} {v v' : Value} {ls : List (List Nat)} {vs : List Value}
theorem OL.shape (h : OL W B v ls vs) : ∃ a c, v = .slice a ls.length c := own_shape h.out
theorem OL.below (h : OL W B v ls vs) (hb : Below W.heap.size W W') : OL W' B v ls vs :=
  ⟨h.len, own_below h.out hb, fun k hk hk' => own_below (h.row k hk hk') hb, h.ne⟩
/-- But for one block of another kind nothing has turned. -/
theorem OL.gb {b : Nat} {cs : Array Value} {T : TypeId} (h : OL W B v ls vs) (g : GB W W' b) (hb : BK W b cs T) (h1 : 43 ≠ T) (h2 : 3 ≠ T) : OL W' B v ls vs :=
  ⟨h.len, own_kept h.out g (own_ne h.out hb h1), fun k hk hk' => own_kept (h.row k hk hk') g (own_ne (h.row k hk hk') hb h2), h.ne⟩
theorem OL.apart (h : OL W B v ls vs) (k : Nat) (hk : k < ls.length) (hk' : k < vs.length) : ∀ g, vs[k].ownBlock = some g → some g ≠ v.ownBlock := fun g hg e => by
  obtain ⟨cs, hc⟩ := own_ty h.out e.symm
  exact own_ne (h.row k hk hk') (b := g) hc (by decide) g hg rfl
/-- One more row, of nothing. -/
theorem OL.push (h : OL W B v ls vs) (hg : W.grownBy W' v.ownBlock) (ho : W'.ownsRow B 43 1 v' (ls.length + 1) (vs ++ [.slice none 0 0])) : OL W' B v' (ls ++ [[]]) (vs ++ [.slice none 0 0]) := by
  have hl := h.len
  refine ⟨by simp [hl], by rw [List.length_append]; exact ho, fun k hk hk' => ?_, fun i j hi hj hij g hg' => ?_⟩
  · by_cases e : k < ls.length
    · rw [List.getElem_append_left e, List.getElem_append_left (by omega)]
      exact own_kept (h.row k e (by omega)) hg (h.apart k e (by omega))
    · have e1 : k = ls.length := by rw [List.length_append] at hk; simp at hk; omega
      subst e1
      have e2 : (ls ++ [[]])[ls.length]'hk = [] := by simp
      have e3 : (vs ++ [Value.slice none 0 0])[ls.length]'hk' = .slice none 0 0 := by simp [hl]
      rw [e2, e3]
      exact World.ownsRow_nil _ _ _ _
  · have key : ∀ x (hx : x < (vs ++ [Value.slice none 0 0]).length) y, (vs ++ [Value.slice none 0 0])[x].ownBlock = some y → x < vs.length := fun x hx y e => by
      rcases Nat.lt_or_ge x vs.length with h1 | h1
      · exact h1
      · have e1 : x = vs.length := by rw [List.length_append] at hx; simp at hx; omega
        subst e1
        simp [Value.ownBlock] at e
    intro e
    have h1 := key i hi g hg'
    have h2 := key j hj g e
    rw [List.getElem_append_left h1] at hg'
    rw [List.getElem_append_left h2] at e
    exact h.ne i j h1 h2 hij g hg' e
/-- A number put behind row k. -/
theorem OL.put {g cap k n : Nat} (h : OL W B (.slice (some ⟨g, 0, none⟩) ls.length cap) ls vs) (hk : k < ls.length) (hk' : k < vs.length) (hg : W.grownBy W' vs[k].ownBlock)
    (ho : W'.ownsRow B 3 1 v' (ls[k].length + 1) (il ls[k] ++ [.int .i64 (n : Nat)])) (hloc : v'.ownBlock = vs[k].ownBlock ∨ v'.ownBlock = some W.heap.size) :
    OL (W'.setCell ⟨g, k, none⟩ v') B (.slice (some ⟨g, 0, none⟩) ls.length cap) (ls.set k (ls[k] ++ [n])) (vs.set k v') := by
  have hl := h.len
  have hout : W'.ownsRow B 43 1 (.slice (some ⟨g, 0, none⟩) ls.length cap) ls.length vs := own_kept h.out hg (fun x hx e => h.apart k hk hk' x (e.symm) hx.symm)
  obtain ⟨cs, hcs⟩ := own_ty hout (g := g) rfl
  have kept : ∀ {x : Value} {m : Nat} {xs : List Value}, W'.ownsRow B 3 1 x m xs → (W'.setCell ⟨g, k, none⟩ v').ownsRow B 3 1 x m xs := fun hx => own_kept hx (gb_set (gb_refl W' g) g k v' (.inl rfl)) (own_ne hx (b := g) hcs (by decide))
  refine ⟨by simp [hl], by rw [List.length_set]; exact own_setc hout (by omega) v', fun i hi hi' => ?_, fun i j hi hj hij x hx => ?_⟩
  · have hi2 : i < ls.length := by rw [List.length_set] at hi; exact hi
    by_cases e : k = i
    · subst e
      rw [List.getElem_set_self, List.getElem_set_self, List.length_append, il_snoc]
      exact kept ho
    · rw [List.getElem_set_ne e, List.getElem_set_ne e]
      exact kept (own_kept (h.row i hi2 (by omega)) hg (fun y hy e2 => h.ne i k (by omega) hk' (fun e3 => e e3.symm) y hy e2.symm))
  · have hi2 : i < vs.length := by rw [List.length_set] at hi; exact hi
    have hj2 : j < vs.length := by rw [List.length_set] at hj; exact hj
    by_cases e1 : k = i
    · subst e1
      rw [List.getElem_set_self] at hx
      rw [List.getElem_set_ne hij]
      rcases hloc with hloc | hloc
      · rw [hloc] at hx; exact h.ne k j hi2 hj2 hij x hx
      · rw [hloc] at hx
        intro e
        have := ((h.row j (by omega) hj2).lt x e).2
        have hx := Option.some.inj hx
        omega
    · rw [List.getElem_set_ne e1] at hx
      by_cases e2 : k = j
      · subst e2
        rw [List.getElem_set_self]
        rcases hloc with hloc | hloc
        · rw [hloc]; exact h.ne i k hi2 hj2 hij x hx
        · rw [hloc]
          intro e
          have := ((h.row i (by omega) hi2).lt x hx).2
          have e := Option.some.inj e
          omega
      · rw [List.getElem_set_ne e2]
        exact h.ne i j hi2 hj2 hij x hx
end
/-- The number j put into row s; a new row, if s is their number. -/
def addL (ls : List (List Nat)) (s j : Nat) : List (List Nat) := if s = ls.length then ls ++ [[j]] else ls.set s (ls.getD s [] ++ [j])
/-- The layers, operation by operation. -/
def lyF : List Oq → Nat → (Nat → Nat) → List (List Nat) → List (List Nat)
  | [], _, _, ls => ls
  | o :: l, j, f, ls => lyF l (j + 1) (putM f o (lst f o)) (addL ls (lst f o) j)
def layers (c : Ci) : List (List Nat) := if (lk c).2.2 = 0 then lyF c.ops 0 (fun _ => 0) [] else []
theorem lstQ_le {f : Nat → Nat} {M : Nat} (h : ∀ i, f i ≤ M) : ∀ (l : List Int) (a : Nat), a ≤ M → lstQ f l a ≤ M
  | [], _, ha => ha
  | q :: l, _, ha => lstQ_le h l _ (by have := h q.toNat; omega)
theorem lstR_le {f : Nat → Nat} {M : Nat} (h : ∀ i, f i ≤ M) (m : Int) : ∀ (k a : Nat), a ≤ M → lstR f m k a ≤ M
  | 0, _, ha => ha
  | k + 1, a, ha => by
    unfold lstR
    have := lstR_le h m k a ha
    have := h (64 + k)
    split <;> omega
theorem lst_le {f : Nat → Nat} {M : Nat} (h : ∀ i, f i ≤ M) (o : Oq) : lst f o ≤ M := by
  have h1 := lstR_le h o.m 64 _ (lstQ_le h o.qs 0 (Nat.zero_le _))
  have h2 := h (64 + o.b.toNat)
  have h3 := h (128 + o.b.toNat)
  have h4 := h 192
  unfold lst lstC lstB
  split <;> split <;> omega
theorem addL_len {ls : List (List Nat)} {s j : Nat} (hs : s ≤ ls.length) : ls.length ≤ (addL ls s j).length ∧ s + 1 ≤ (addL ls s j).length ∧ (addL ls s j).length ≤ ls.length + 1 := by
  unfold addL
  by_cases e : s = ls.length
  · rw [if_pos e, List.length_append]
    simp
    omega
  · rw [if_neg e, List.length_set]
    omega
/-- All operations of a circuit are right. -/
theorem lkF_all {q : Int} {b : Nat} : ∀ (l : List Oq) (k h : Nat), (lkF q b l k h).2.2 = 0 → ∀ j (hj : j < l.length), opE l[j] q b (opN l[j]) = 0
  | [], _, _, _, j, hj => absurd hj (Nat.not_lt_zero _)
  | o :: l, k, h, e, j, hj => by
    unfold lkF at e
    by_cases h1 : opE o q b (opN o) ≠ 0
    · rw [if_pos h1] at e; exact absurd e h1
    · rw [if_neg h1] at e
      by_cases h2 : 36 < h + opH o
      · rw [if_pos h2] at e; cases e
      · rw [if_neg h2] at e
        cases j with
        | zero => exact Decidable.not_not.1 h1
        | succ j => exact lkF_all l _ _ e j (by simpa using hj)
theorem opE_ok {o : Oq} {q : Int} {b n : Nat} (h : opE o q b n = 0) : rfB o = true ∧ rcB o b = true ∧ n ≠ 0 ∧ o.qs.length = n ∧ rnB o q b = true ∧ dupB o.qs = false := by
  unfold opE at h
  by_cases h1 : rfB o = false ∨ rcB o b = false
  · rw [if_pos h1] at h; cases h
  rw [if_neg h1] at h
  by_cases h2 : n = 0
  · rw [if_pos h2] at h; cases h
  rw [if_neg h2] at h
  by_cases h3 : o.qs.length ≠ n
  · rw [if_pos h3] at h; cases h
  rw [if_neg h3] at h
  by_cases h4 : rnB o q b = false
  · rw [if_pos h4] at h; cases h
  rw [if_neg h4] at h
  by_cases h5 : dupB o.qs = true
  · rw [if_pos h5] at h; cases h
  simp only [not_or, Bool.not_eq_false] at h1
  exact ⟨h1.1, h1.2, h2, Decidable.not_not.1 h3, by simpa using h4, by simpa using h5⟩
theorem okay_of {o : Oq} {q : Int} {b n : Nat} (h : opE o q b n = 0) (hq : q ≤ 64) (hb : b ≤ 64) (hf : Fit o) : Okay o := by
  obtain ⟨_, _, _, _, h5, _⟩ := opE_ok h
  unfold rnB at h5
  rw [Bool.and_eq_true] at h5
  refine ⟨hf, fun j hj => ?_, fun hk => ?_⟩
  · have := h5.1
    unfold inB at this
    rw [List.all_eq_true] at this
    have := this _ (List.getElem_mem hj)
    simp at this
    omega
  · have := h5.2
    simp [hk] at this
    omega
theorem lk_okay {c : Ci} (h : (lk c).2.2 = 0) (hf : ∀ k (h : k < c.ops.length), Fit c.ops[k]) : ∀ k (hk : k < c.ops.length), Okay c.ops[k] ∧ opE c.ops[k] c.q c.b.toNat (opN c.ops[k]) = 0 := by
  intro k hk
  obtain ⟨h1, h2, _, _⟩ := lk_ok h
  have hnb : ¬ badC c := by rw [h1]; exact id
  have h3 : (lkF c.q c.b.toNat c.ops 0 0).2.2 = 0 := by
    unfold lk at h
    rw [if_neg (by rw [bad_iff]; exact hnb), if_neg (by omega)] at h
    exact h
  have h4 := lkF_all _ _ _ h3 k hk
  unfold badC at hnb
  exact ⟨okay_of h4 (by omega) (by omega) (hf k hk), h4⟩
end Go.Proofs.Ytfaoegiignalkaa
