/-
  Plain mathematics: what is read of a text from which a statement is cut. Of no program of Go.
-/
import Derived.Test.YtiepbfeliehjnaaDoorN9
import Derived.Test.YtiepbfeliehjnaaDoorNA
import Derived.Test.YtiepbfeliehjnaaDoorN4
namespace Go.Proofs.YtiepbfeliehjnaaDoor

/-- As much fuel as there are tokens is enough. -/
theorem stmt_less {n : Int} {f g d : Nat} {l r : List Tk} {rs : List Rw} (ih : ∀ (d : Nat) (l : List Tk) (x : List Rw × List Tk), stmtsP n f d l = .ok x → ∀ g, l.length < g → stmtsP n g d l = .ok x) (hg : l.length ≤ g) (h : stmtP n (stmtsP n f) d l = .ok (rs, r)) : stmtP n (stmtsP n g) d l = .ok (rs, r) ∧ r.length < l.length := by
  obtain ⟨t, u, nm, aa, y, p, l4, rfl, hm, hc⟩ := stmt_cases h
  have hl4 := midP_len hm
  have hr := restK_len t u
  have hz : (t :: u).length = u.length + 1 := rfl
  rcases hc with ⟨hb, rfl, rfl⟩ | ⟨hb, hd, rs3, l5, hr', rfl, rfl⟩
  · exact ⟨stmt_flat hm hb, by omega⟩
  · have h5 := (stmts_short _ _ _ _ _ hr').1
    refine ⟨stmt_bo hm hb (by unfold bodyP; rw [if_neg hd, ih _ _ _ hr' g (by omega)]), ?_⟩
    rw [List.length_tail]
    omega
theorem stmts_less {n : Int} : ∀ (f d : Nat) (l : List Tk) (x : List Rw × List Tk), stmtsP n f d l = .ok x → ∀ g, l.length < g → stmtsP n g d l = .ok x := by
  intro f
  induction f with
  | zero => intro d l x h; cases h
  | succ f ih =>
    intro d l x h g hg
    obtain ⟨rs, r⟩ := x
    obtain ⟨g, rfl⟩ : ∃ g', g = g' + 1 := ⟨g - 1, by omega⟩
    rcases stmts_cases h with ⟨h1, rfl, rfl⟩ | ⟨h1, rs1, r1, rs2, h2, h3, rfl⟩
    · unfold stmtsP; rw [if_pos h1]
    · obtain ⟨h4, h5⟩ := stmt_less (g := g) ih (by omega) h2
      have h6 : stmtsP n g d r1 = .ok (rs2, r) := ih _ _ _ h3 g (by omega)
      unfold stmtsP
      rw [if_neg (by rw [h1]; decide), h4]
      show (match stmtsP n g d r1 with | .error e => _ | .ok (rs2, r2) => _) = _
      rw [h6]
theorem prog_less {n : Int} : ∀ (f : Nat) (l : List Tk) (rs : List Rw), progP n f l = .ok rs → ∀ g, l.length < g → progP n g l = .ok rs := by
  intro f
  induction f with
  | zero => intro l rs h; cases h
  | succ f ih =>
    intro l rs h g hg
    obtain ⟨g, rfl⟩ : ∃ g', g = g' + 1 := ⟨g - 1, by omega⟩
    rcases prog_cases h with ⟨rfl, rfl⟩ | ⟨hne, rs1, r1, rs2, h2, h3, rfl⟩
    · rfl
    · obtain ⟨h4, h5⟩ := stmt_less (g := g) (stmts_less f) (by omega) h2
      exact prog_step h4 (ih _ _ h3 g (by omega))
theorem take_eq {α : Type} {x y : List α} (m : Nat) (h : ∀ k, k < m → x[k]? = y[k]?) : x.take m = y.take m := by
  apply List.ext_getElem?
  intro k
  rw [List.getElem?_take, List.getElem?_take]
  by_cases e : k < m
  · rw [if_pos e, if_pos e]; exact h k e
  · rw [if_neg e, if_neg e]
theorem ext_data (s : ByteArray) (i j : Nat) : (s.extract i j).data.toList = (s.data.toList.drop i).take (j - i) := by
  rw [ByteArray.data_extract, Array.toList_extract, List.extract_eq_take_drop]
theorem cut_mk {s s' : ByteArray} {a e : Nat} (hae : a < e) (he : e ≤ s.size) (h : s'.data.toList = s.data.toList.take a ++ [32] ++ s.data.toList.drop e) : Cut s s' a e := by
  have hz : s.data.toList.length = s.size := rfl
  have h1 : (s.data.toList.take a).length = a := by rw [List.length_take]; omega
  have gLo : ∀ j, j < a → s'.data.toList[j]? = s.data.toList[j]? := fun j hj => by
    rw [h, List.append_assoc, List.getElem?_append_left (by omega), List.getElem?_take, if_pos hj]
  have gHi : ∀ j, e ≤ j → s'.data.toList[a + 1 + (j - e)]? = s.data.toList[j]? := fun j hj => by
    rw [h, List.getElem?_append_right (by rw [List.length_append, h1]; simp), List.length_append, h1, List.getElem?_drop]
    congr 1
    simp only [List.length_cons, List.length_nil]
    omega
  refine ⟨hae, he, ?_, fun j hj => by rw [cb_list, cb_list, gLo j hj], ?_, fun j hj => by rw [cb_list, cb_list, gHi j hj], fun i j hj => ?_, fun i j hi hij => ?_⟩
  · show s'.data.toList.length + e = _
    rw [h, List.length_append, List.length_append, h1, List.length_drop, hz]
    simp only [List.length_cons, List.length_nil]
    omega
  · rw [cb_list, h, List.append_assoc, List.getElem?_append_right (by omega), h1, Nat.sub_self]
    rfl
  · apply ByteArray.ext
    apply Array.ext'
    rw [ext_data, ext_data]
    exact take_eq _ fun k hk => by rw [List.getElem?_drop, List.getElem?_drop]; exact gLo _ (by omega)
  · apply ByteArray.ext
    apply Array.ext'
    rw [ext_data, ext_data, show a + 1 + (j - e) - (a + 1 + (i - e)) = j - i by omega]
    exact take_eq _ fun k hk => by
      rw [List.getElem?_drop, List.getElem?_drop, show a + 1 + (i - e) + k = a + 1 + (i + k - e) by omega]
      exact gHi _ (by omega)
/-- Reading came to each token's place with the tokens ahead of it. -/
theorem Pre.starts {s : ByteArray} {i : Nat} {l : List Tk} (h : Pre s i l) : ∀ k (hk : k < l.length), ∃ p kk j, l[k] = tok s kk p j ∧ Pre s p (l.take k) ∧ TokAt s kk p j :=
  ((Pre.ind (R := fun i l => Pre s i l ∧ ∀ k (hk : k < l.length), ∃ p kk j, l[k] = tok s kk p j ∧ Pre s p (l.take k) ∧ TokAt s kk p j)
    ⟨Pre.zero s, fun k hk => absurd hk (Nat.not_lt_zero _)⟩ (fun i l hb h => ⟨h.1.blank hb, h.2⟩) (fun i j l hc he h => ⟨h.1.remark hc he, h.2⟩)
    (fun i j l kk ht h => ⟨h.1.put ht, fun k hk => by
      rw [List.length_append] at hk
      simp only [List.length_cons, List.length_nil] at hk
      by_cases e : k < l.length
      · obtain ⟨p, k2, j2, g1, g2, g3⟩ := h.2 k e
        exact ⟨p, k2, j2, by rw [List.getElem_append_left e]; exact g1, by rw [List.take_append_of_le_length (by omega)]; exact g2, g3⟩
      · obtain rfl : k = l.length := by omega
        exact ⟨i, kk, j, by simp, by rw [List.take_append_of_le_length (Nat.le_refl _), List.take_length]; exact h.1, ht⟩⟩) h).2).2
/-- Reading came to a token's place with what stands ahead of it. -/
theorem Pre.ahead {s : ByteArray} {i : Nat} {A B : List Tk} {t : Tk} (h : Pre s i (A ++ t :: B)) : ∃ p : Nat, t.p = p ∧ Pre s p A ∧ cb s p ≠ 10 ∧ p < s.size := by
  obtain ⟨p, kk, j, e, h1, ht⟩ := h.starts A.length (by simp)
  have e1 : (A ++ t :: B)[A.length]'(by simp) = t := by simp
  rw [e1] at e
  rw [List.take_left] at h1
  have hij := ht.lt
  have hjs := ht.sz
  refine ⟨p, by rw [e]; rfl, h1, ?_, by omega⟩
  intro e
  rcases ht with ⟨_, h, _⟩ | ⟨_, h, _⟩ | ⟨_, h, _⟩ <;> rw [e] at h <;> exact absurd h (by decide)
theorem mov_lk (d : Int) (l : List Tk) : Lk l (l.map (mov d)) := by
  unfold Lk
  rw [List.map_map]
  rfl
/-- The text without a statement is read as the rows without it. -/
theorem cut_pout {s s' : ByteArray} {l : List Tk} {rs : List Rw} (hs6 : s.size ≤ 65536) (hp : Pre s s.size l) (hpr : progP s.size (l.length + 1) l = .ok rs) {i m a e : Nat} (hi : i < rs.length) (hm : (m : Int) = rs[i].rows + 1) (ha : rs[i].place = a)
    (he : (e = s.size ∧ i + m = rs.length) ∨ ∃ h : i + m < rs.length, rs[i + m].place = e) (hj : ∀ j rj, j < i → rs[j]? = some rj → (i : Int) ≤ j + rj.rows → (j : Int) + rj.rows + 1 ≠ i + m)
    (hd : s'.data.toList = s.data.toList.take a ++ [32] ++ s.data.toList.drop e) : ∃ rs', POut s' rs' 0 0 ∧ RL (cutR i m rs) rs' := by
  obtain ⟨A, t, S, B, el, htp, hB, L⟩ := prog_cut _ _ _ hpr i m rs[i] (List.getElem?_eq_getElem hi) hm hj
  subst el
  obtain ⟨p, ep, h1, hno, hpz⟩ := hp.ahead (t := t)
  obtain rfl : p = a := by omega
  obtain ⟨l2, h2, hl2, hpe, hez⟩ : ∃ l2, Pre s e l2 ∧ A ++ (t :: S ++ B) = l2 ++ B ∧ p < e ∧ e ≤ s.size := by
    rcases hB with ⟨rfl, hk⟩ | ⟨b, B0, rn, rfl, hk, hb⟩
    · rcases he with ⟨rfl, _⟩ | ⟨h, _⟩
      · exact ⟨_, hp, by simp, hpz, Nat.le_refl _⟩
      · omega
    · have hlt := (List.getElem?_eq_some_iff.1 hk).1
      rcases he with ⟨_, h⟩ | ⟨h, e9⟩
      · omega
      · have e10 : A ++ (t :: S ++ b :: B0) = (A ++ t :: S) ++ b :: B0 := by simp
        have hp2 := hp
        rw [e10] at hp2
        obtain ⟨q, eq, g1, _, hqz⟩ := hp2.ahead (t := b)
        rw [List.getElem?_eq_getElem hlt] at hk
        have hk := Option.some.inj hk
        rw [← hk, e9] at hb
        obtain rfl : q = e := by omega
        refine ⟨_, g1, e10, ?_, by omega⟩
        have := (List.pairwise_append.1 hp2.rise.1).2.2 t (by simp) b (by simp)
        omega
  have hsz := (cut_mk hpe hez hd).sz
  obtain ⟨x, ex, ho⟩ := (cut_mk hpe hez hd).out hno h1 h2 hp (by omega)
  have ex : x = B := by rw [hl2] at ex; exact (List.append_cancel_left ex).symm
  subst ex
  obtain ⟨rs', k1, k2⟩ := L s'.size A (x.map (mov ((p : Int) + 1 - e))) rfl (mov_lk _ _)
  exact ⟨rs', ⟨_, 0, 0, ho, .inr ⟨rfl, .inr ⟨prog_less _ _ _ k1 _ (Nat.lt_succ_self _), rfl, rfl⟩⟩⟩, k2⟩
end Go.Proofs.YtiepbfeliehjnaaDoor
