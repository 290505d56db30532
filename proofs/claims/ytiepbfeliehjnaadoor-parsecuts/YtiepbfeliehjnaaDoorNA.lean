/-
  Plain mathematics: a text from which a piece is cut that begins where a token begins and ends where one begins, or at the end; a blank in its place. Of no program.
-/
import Derived.Test.YtiepbfeliehjnaaDoorM1
namespace Go.Proofs.YtiepbfeliehjnaaDoor

theorem is10' {s : ByteArray} {i j : Nat} (he : End isR s i j) (hj : j < s.size) : cb s j = 10 := by
  have h1 := he.no
  have h2 := cb_lt hj
  by_cases e : cb s j = 10
  · exact e
  · exact absurd (isR_p.2 ⟨e, h2⟩) (by rw [h1]; decide)
/-- s' is s without the bytes from a to e, a blank in their place. -/
structure Cut (s s' : ByteArray) (a e : Nat) : Prop where
  le : a < e
  es : e ≤ s.size
  sz : s'.size + e = a + 1 + s.size
  lo : ∀ j, j < a → cb s' j = cb s j
  mid : cb s' a = 32
  hi : ∀ j, e ≤ j → cb s' (a + 1 + (j - e)) = cb s j
  exlo : ∀ i j, j ≤ a → s'.extract i j = s.extract i j
  exhi : ∀ i j, e ≤ i → i ≤ j → s'.extract (a + 1 + (i - e)) (a + 1 + (j - e)) = s.extract i j
section
variable {s s' : ByteArray} {a e : Nat}
theorem Cut.pre_lo (I : Cut s s' a e) (hno : cb s a ≠ 10) {i : Nat} {l : List Tk} (h : Pre s i l) : i ≤ a → Pre s' i l := by
  have hes := I.es
  have hae := I.le
  have hsz := I.sz
  have key : ∀ j, j ≤ a → ∀ p : Nat → Bool, p (cb s j) = false → p 32 = false → p (cb s' j) = false := fun j hj p h1 h2 => by
    by_cases e : j < a
    · rw [I.lo j e]; exact h1
    · obtain rfl : j = a := by omega
      rw [I.mid]; exact h2
  refine (Pre.ind (R := fun i l => i ≤ a → Pre s' i l) (fun _ => Pre.zero s') (fun i l hb h hi => ?_) (fun i j l hc he h hi => ?_) (fun i j l k ht h hi => ?_) h).2
  · exact (h (by omega)).blank (by rw [I.lo i (by omega)]; exact hb)
  · have hij := remark_lt hc he
    have h10 := is10' he (by omega)
    have hja : j < a := by
      rcases Nat.lt_or_ge j a with g | g
      · exact g
      · obtain rfl : j = a := by omega
        exact absurd h10 hno
    refine (h (by omega)).remark (by rw [I.lo i (by omega)]; exact hc) ⟨he.le, by omega, fun k h1 h2 => ?_, ?_⟩
    · rw [I.lo k (by omega)]; exact he.all k h1 h2
    · rw [I.lo j hja]; exact he.no
  · have hij := ht.lt
    have e : tok s' k i j = tok s k i j := by unfold tok; rw [I.exlo i j hi]
    rw [← e]
    refine (h (by omega)).put ?_
    rcases ht with ⟨rfl, h1, he⟩ | ⟨rfl, h1, he, hn⟩ | ⟨rfl, h1, rfl⟩
    · exact .inl ⟨rfl, by rw [I.lo i (by omega)]; exact h1, he.le, by omega, fun m h2 h3 => by rw [I.lo m (by omega)]; exact he.all m h2 h3, key j hi isN he.no (by decide)⟩
    · exact .inr (.inl ⟨rfl, by rw [I.lo i (by omega)]; exact h1, ⟨he.le, by omega, fun m h2 h3 => by rw [I.lo m (by omega)]; exact he.all m h2 h3, key j hi isD he.no (by decide)⟩, key j hi isL hn (by decide)⟩)
    · exact .inr (.inr ⟨rfl, by rw [I.lo i (by omega)]; exact h1, rfl⟩)
/-- A token at another place. -/
def mov (d : Int) (t : Tk) : Tk := ⟨t.k, t.t, t.p + d⟩
theorem Cut.end_hi (I : Cut s s' a e) {p : Nat → Bool} {i j : Nat} (hi : e ≤ i) (he : End p s i j) : End p s' (a + 1 + (i - e)) (a + 1 + (j - e)) := by
  have h1 := he.le
  have h2 := he.sz
  have hsz := I.sz
  have hes := I.es
  refine ⟨by omega, by omega, fun k h1 h2 => ?_, by rw [I.hi j (by omega)]; exact he.no⟩
  have e1 := I.hi (k + e - (a + 1)) (by omega)
  rw [show a + 1 + (k + e - (a + 1) - e) = k by omega] at e1
  rw [e1]
  exact he.all _ (by omega) (by omega)
theorem Cut.tok_hi (I : Cut s s' a e) {k i j : Nat} (hi : e ≤ i) (ht : TokAt s k i j) : TokAt s' k (a + 1 + (i - e)) (a + 1 + (j - e)) ∧ tok s' k (a + 1 + (i - e)) (a + 1 + (j - e)) = mov ((a : Int) + 1 - e) (tok s k i j) := by
  have hij := ht.lt
  constructor
  · rcases ht with ⟨rfl, h1, he⟩ | ⟨rfl, h1, he, hn⟩ | ⟨rfl, h1, rfl⟩
    · exact .inl ⟨rfl, by rw [I.hi i hi]; exact h1, I.end_hi hi he⟩
    · exact .inr (.inl ⟨rfl, by rw [I.hi i hi]; exact h1, I.end_hi hi he, by rw [I.hi j (by omega)]; exact hn⟩)
    · exact .inr (.inr ⟨rfl, by rw [I.hi i hi]; exact h1, by omega⟩)
  · unfold tok mov
    rw [I.exhi i j hi (by omega)]
    simp
    omega
theorem Cut.pre_hi (I : Cut s s' a e) {l0 l1 : List Tk} {n0 : Nat} (h0 : it s n0 = (e, l0)) (h0' : Pre s' (a + 1) l1) : ∀ n, ∃ i x, it s (n0 + n) = (i, l0 ++ x) ∧ e ≤ i ∧ i ≤ s.size ∧ Pre s' (a + 1 + (i - e)) (l1 ++ x.map (mov ((a : Int) + 1 - e))) := by
  intro n
  induction n with
  | zero => exact ⟨e, [], by rw [List.append_nil]; exact h0, Nat.le_refl _, I.es, by simpa using h0'⟩
  | succ n ih =>
    obtain ⟨i, x, h1, h2, h3, h4⟩ := ih
    have hs : it s (n0 + (n + 1)) = step s (i, l0 ++ x) := by rw [← h1]; rfl
    by_cases hi : i < s.size
    · rcases ways s i hi with hb | ⟨hc, he⟩ | ⟨k, j, ht⟩ | ⟨j, hj⟩
      · refine ⟨i + 1, x, by rw [hs, step_blank hb], by omega, by omega, ?_⟩
        have := h4.blank (by rw [I.hi i h2]; exact hb)
        rw [show a + 1 + (i - e) + 1 = a + 1 + (i + 1 - e) by omega] at this
        exact this
      · have := remark_lt hc he
        exact ⟨_, x, by rw [hs, step_remark hc he], by omega, he.sz, h4.remark (by rw [I.hi i h2]; exact hc) (I.end_hi h2 he)⟩
      · have := ht.lt
        obtain ⟨g1, g2⟩ := I.tok_hi h2 ht
        refine ⟨j, x ++ [tok s k i j], by rw [hs, step_tok ht, List.append_assoc], by omega, ht.sz, ?_⟩
        have h5 := h4.put g1
        rw [g2, List.append_assoc] at h5
        rw [List.map_append]
        exact h5
      · exact ⟨i, x, by rw [hs, step_bad hj], h2, h3, h4⟩
    · obtain rfl : i = s.size := by omega
      exact ⟨s.size, x, by rw [hs, step_end], h2, h3, h4⟩
/-- What is read of the text that is left: l0 ahead of the piece, x behind it. -/
theorem Cut.out (I : Cut s s' a e) {l0 l2 l : List Tk} (hno : cb s a ≠ 10) (h0 : Pre s a l0) (h2 : Pre s e l2) (h : Pre s s.size l) (hb : s'.size ≤ 65536) : ∃ x, l = l2 ++ x ∧ Out s' (l0 ++ x.map (mov ((a : Int) + 1 - e))) 0 0 := by
  have h3 := (I.pre_lo hno h0 (Nat.le_refl _)).blank (by rw [I.mid]; decide)
  obtain ⟨n0, h4⟩ := h2
  obtain ⟨N, hN⟩ := h
  obtain ⟨i, x, g1, g2, g3, g4⟩ := I.pre_hi h4 h3 N
  have g5 := it_stays hN step_end n0
  rw [Nat.add_comm, g1] at g5
  injection g5 with g5 g6
  subst g5
  have hsz := I.sz
  have hes := I.es
  rw [show a + 1 + (s.size - e) = s'.size by omega] at g4
  exact ⟨x, g6.symm, .inr (.inl ⟨hb, g4, rfl, rfl⟩)⟩
end
end Go.Proofs.YtiepbfeliehjnaaDoor
