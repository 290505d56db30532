/-
  Plain mathematics of places: where the tokens stand, and what stands between them. Of no program.
-/
import Derived.Test.YtfjpdekegbnbaaaM1
namespace Go.Proofs.Ytfjpdekegbnbaaa

theorem size_ext (s : ByteArray) (a j : Nat) (hj : j ≤ s.size) : (s.extract a j).size = j - a := by
  rw [ByteArray.size_extract]; omega
theorem cb_ext {s : ByteArray} {a j m : Nat} (hj : j ≤ s.size) (hm : a + m < j) : cb (s.extract a j) m = cb s (a + m) := by
  rw [cb_at (show m < (s.extract a j).size by rw [size_ext s a j hj]; omega), cb_at (show a + m < s.size by omega)]
  rw [ByteArray.getElem_extract]
/-- What idle answers, from place i on. -/
def idF (s : ByteArray) (last : Bool) : Nat → Nat → Bool
  | 0, _ => true
  | n + 1, i => if s.size ≤ i then true else if cb s i = 35 then (if run isR s i = s.size then last else idF s last n (run isR s i + 1)) else if isB (cb s i) = true then idF s last n (i + 1) else false
def idW (s : ByteArray) (last : Bool) (i : Nat) : Prop := ∃ n, s.size - i ≤ n ∧ idF s last n i = true
theorem idW_end {s : ByteArray} {last : Bool} {i : Nat} (h : s.size ≤ i) : idW s last i := ⟨0, by omega, rfl⟩
theorem idW_blank {s : ByteArray} {last : Bool} {i : Nat} (hi : i < s.size) (hb : isB (cb s i) = true) : idW s last i ↔ idW s last (i + 1) := by
  have h35 : ¬ cb s i = 35 := by intro e; rw [e] at hb; exact absurd hb (by decide)
  constructor
  · rintro ⟨n, hn, h⟩
    cases n with
    | zero => omega
    | succ n =>
      unfold idF at h
      rw [if_neg (by omega), if_neg h35, if_pos hb] at h
      exact ⟨n, by omega, h⟩
  · rintro ⟨n, hn, h⟩
    refine ⟨n + 1, by omega, ?_⟩
    unfold idF
    rw [if_neg (by omega), if_neg h35, if_pos hb]
    exact h
theorem idW_remark {s : ByteArray} {last : Bool} {i k : Nat} (hi : i < s.size) (hc : cb s i = 35) (he : End isR s i k) (hk : k < s.size) (h : idW s last (k + 1)) : idW s last i := by
  obtain ⟨n, hn, h⟩ := h
  have := remark_lt hc he
  refine ⟨n + s.size, by omega, ?_⟩
  have hm : ∀ m i, s.size - i ≤ m → ∀ q, idF s last m i = true → s.size - i ≤ q → idF s last q i = true := by
    intro m
    induction m with
    | zero =>
      intro i hi q _ _
      cases q with
      | zero => rfl
      | succ q => unfold idF; rw [if_pos (by omega)]
    | succ m ih =>
      intro i hi q h hq
      cases q with
      | zero => rfl
      | succ q =>
        unfold idF at h ⊢
        by_cases h1 : s.size ≤ i
        · rw [if_pos h1]
        rw [if_neg h1] at h ⊢
        by_cases h2 : cb s i = 35
        · rw [if_pos h2] at h ⊢
          by_cases h3 : run isR s i = s.size
          · rw [if_pos h3] at h ⊢; exact h
          · rw [if_neg h3] at h ⊢
            have := remark_lt h2 (run_end isR6 (by omega))
            exact ih _ (by omega) _ h (by omega)
        · rw [if_neg h2] at h ⊢
          by_cases h3 : isB (cb s i) = true
          · rw [if_pos h3] at h ⊢
            exact ih _ (by omega) _ h (by omega)
          · rw [if_neg h3] at h
            exact absurd h (by decide)
  obtain ⟨q, hq⟩ : ∃ q, n + s.size = q + 1 := ⟨n + s.size - 1, by omega⟩
  rw [hq]
  unfold idF
  rw [if_neg (by omega), if_pos hc, he.run isR6, if_neg (by omega)]
  exact hm n _ hn q h (by omega)
theorem idW_last {s : ByteArray} {i : Nat} (hi : i < s.size) (hc : cb s i = 35) (he : End isR s i s.size) : idW s true i := by
  refine ⟨s.size - i - 1 + 1, by omega, ?_⟩
  unfold idF
  rw [if_neg (by omega), if_pos hc, he.run isR6, if_pos rfl]

/-- Blanks and remarks alone from a to i: whatever is cut behind i. -/
def GapT (s : ByteArray) (a i : Nat) : Prop := a ≤ i ∧ ∀ j, i ≤ j → j ≤ s.size → idW (s.extract a j) true (i - a) → idW (s.extract a j) true 0
def GapF (s : ByteArray) (a i : Nat) : Prop := i < s.size → ∀ j, i ≤ j → j ≤ s.size → (j = i → cb s i ≠ 10) → idW (s.extract a j) false (i - a) → idW (s.extract a j) false 0
theorem gap_new (s : ByteArray) (a : Nat) : GapT s a a ∧ GapF s a a :=
  ⟨⟨Nat.le_refl _, fun j _ _ h => by rwa [Nat.sub_self] at h⟩, fun _ j _ _ _ h => by rwa [Nat.sub_self] at h⟩
theorem gap_blank {s : ByteArray} {a i : Nat} (hi : i < s.size) (hb : isB (cb s i) = true) (hT : GapT s a i) (hF : GapF s a i) : GapT s a (i + 1) ∧ GapF s a (i + 1) := by
  have ha := hT.1
  have key : ∀ j last, i + 1 ≤ j → j ≤ s.size → idW (s.extract a j) last (i + 1 - a) → idW (s.extract a j) last (i - a) := by
    intro j last h1 h2 h
    have e : i + 1 - a = i - a + 1 := by omega
    rw [e] at h
    refine (idW_blank ?_ ?_).2 h
    · rw [size_ext _ _ _ h2]; omega
    · rw [cb_ext h2 (by omega), show a + (i - a) = i by omega]; exact hb
  exact ⟨⟨by omega, fun j h1 h2 h => hT.2 j (by omega) h2 (key j true h1 h2 h)⟩, fun _ j h1 h2 _ h => hF hi j (by omega) h2 (fun e => by omega) (key j false h1 h2 h)⟩
theorem end_ext {s : ByteArray} {a i k j : Nat} (ha : a ≤ i) (hj : j ≤ s.size) (hk : k < j) (he : End isR s i k) : End isR (s.extract a j) (i - a) (k - a) := by
  have := he.le
  refine ⟨by omega, by rw [size_ext _ _ _ hj]; omega, fun m h1 h2 => ?_, ?_⟩
  · rw [cb_ext hj (by omega)]
    exact he.all _ (by omega) (by omega)
  · rw [cb_ext hj (by omega), show a + (k - a) = k by omega]
    exact he.no
theorem end_ext2 {s : ByteArray} {a i k : Nat} (ha : a ≤ i) (hk : k ≤ s.size) (he : End isR s i k) : End isR (s.extract a k) (i - a) (k - a) := by
  have := he.le
  refine ⟨by omega, by rw [size_ext _ _ _ hk]; omega, fun m h1 h2 => ?_, ?_⟩
  · rw [cb_ext hk (by omega)]
    exact he.all _ (by omega) (by omega)
  · rw [cb_out (by rw [size_ext _ _ _ hk]; omega)]
    decide
theorem is10 {s : ByteArray} {i k : Nat} (he : End isR s i k) (hk : k < s.size) : cb s k = 10 := by
  have h := he.no
  have h2 := cb_lt hk
  by_cases e : cb s k = 10
  · exact e
  · exact absurd (isR_p.2 ⟨e, h2⟩) (by rw [h]; decide)
theorem gap_remark {s : ByteArray} {a i k : Nat} (hc : cb s i = 35) (he : End isR s i k) (hT : GapT s a i) (hF : GapF s a i) : GapT s a k ∧ GapF s a k := by
  have ha := hT.1
  have hik := remark_lt hc he
  have hks := he.sz
  have key : ∀ j last, k < j → j ≤ s.size → idW (s.extract a j) last (k - a) → idW (s.extract a j) last (i - a) := by
    intro j last h1 h2 h
    have z := size_ext s a j h2
    have h10 : isB (cb (s.extract a j) (k - a)) = true := by
      rw [cb_ext h2 (by omega), show a + (k - a) = k by omega, is10 he (by omega)]
      decide
    refine idW_remark (k := k - a) (by rw [z]; omega) (by rw [cb_ext h2 (by omega), show a + (i - a) = i by omega]; exact hc) (end_ext ha h2 h1 he) (by rw [z]; omega) ?_
    exact (idW_blank (by rw [z]; omega) h10).1 h
  refine ⟨⟨by omega, fun j h1 h2 h => hT.2 j (by omega) h2 ?_⟩, fun hk j h1 h2 h3 h => hF (by omega) j (by omega) h2 (fun e => by omega) (key j false ?_ h2 h)⟩
  · by_cases e : k < j
    · exact key j true e h2 h
    · obtain rfl : k = j := by omega
      have z := size_ext s a k h2
      refine idW_last (by rw [z]; omega) (by rw [cb_ext h2 (by omega), show a + (i - a) = i by omega]; exact hc) ?_
      rw [z]
      exact end_ext2 ha h2 he
  · rcases Nat.lt_or_ge k j with g | g
    · exact g
    · exact absurd (is10 he hk) (h3 (by omega))

/-- The tokens stand at their places, blanks and remarks alone between; f i: where the i ahead end. -/
structure PL (s : ByteArray) (l : List Tk) (f : Nat → Nat) : Prop where
  z : f 0 = 0
  t : ∀ i (h : i < l.length), ∃ p : Nat, l[i].p = (p : Int) ∧ f i ≤ p ∧ p < f (i + 1) ∧ f (i + 1) ≤ s.size ∧ l[i].t = s.extract p (f (i + 1)) ∧ idW (s.extract (f i) p) false 0
theorem PL.put {s : ByteArray} {l : List Tk} {f : Nat → Nat} (h : PL s l f) {k i j : Nat} (ht : TokAt s k i j) (hT : GapT s (f l.length) i) (hF : GapF s (f l.length) i) :
    PL s (l ++ [tok s k i j]) (fun n => if n ≤ l.length then f n else j) := by
  have hij := ht.lt
  have hjs := ht.sz
  have hno : cb s i ≠ 10 := by
    intro e
    rcases ht with ⟨_, h, _⟩ | ⟨_, h, _⟩ | ⟨_, h, _⟩ <;> rw [e] at h <;> exact absurd h (by decide)
  refine ⟨by simpa using h.z, fun m hm => ?_⟩
  rw [List.length_append] at hm
  simp only [List.length_cons, List.length_nil] at hm
  by_cases e : m < l.length
  · obtain ⟨p, h1, h2, h3, h4, h5, h6⟩ := h.t m e
    refine ⟨p, ?_, ?_, ?_, ?_, ?_, ?_⟩
    · rw [List.getElem_append_left e]; exact h1
    · simpa [show m ≤ l.length by omega] using h2
    · simpa [show m + 1 ≤ l.length by omega] using h3
    · simpa [show m + 1 ≤ l.length by omega] using h4
    · rw [List.getElem_append_left e]; simpa [show m + 1 ≤ l.length by omega] using h5
    · simpa [show m ≤ l.length by omega] using h6
  · obtain rfl : m = l.length := by omega
    have e1 : (l ++ [tok s k i j])[l.length]'(by simp) = tok s k i j := by simp
    have e9 : ¬ l.length + 1 ≤ l.length := by omega
    refine ⟨i, ?_, ?_, ?_, ?_, ?_, ?_⟩
    · rw [e1]; rfl
    · simpa using hT.1
    · simpa [e9] using hij
    · simpa [e9] using hjs
    · rw [e1]; simp [tok, e9]
    · have := hF (by omega) i (Nat.le_refl _) (by omega) (fun _ => hno) (idW_end (by rw [size_ext _ _ _ (by omega)]; exact Nat.le_refl _))
      simpa using this
theorem Pre.places {s : ByteArray} {i : Nat} {l : List Tk} (h : Pre s i l) : ∃ f, PL s l f ∧ GapT s (f l.length) i ∧ GapF s (f l.length) i :=
  (Pre.ind (R := fun i l => ∃ f, PL s l f ∧ GapT s (f l.length) i ∧ GapF s (f l.length) i)
    ⟨fun _ => 0, ⟨rfl, fun i h => absurd h (Nat.not_lt_zero _)⟩, gap_new s 0⟩
    (fun i l hb ⟨f, h1, h2, h3⟩ => ⟨f, h1, gap_blank (in_of (p := isB) (by decide) hb) hb h2 h3⟩)
    (fun i j l hc he ⟨f, h1, h2, h3⟩ => ⟨f, h1, gap_remark hc he h2 h3⟩)
    (fun i j l k ht ⟨f, h1, h2, h3⟩ => ⟨_, h1.put ht h2 h3, by
      have e9 : ¬ (l ++ [tok s k i j]).length ≤ l.length := by rw [List.length_append]; simp
      simp only [if_neg e9]
      exact gap_new s j⟩) h).2
theorem Pre.end_idle {s : ByteArray} {l : List Tk} {f : Nat → Nat} (hT : GapT s (f l.length) s.size) : idW (s.extract (f l.length) s.size) true 0 :=
  hT.2 s.size (Nat.le_refl _) (Nat.le_refl _) (idW_end (by rw [size_ext _ _ _ (Nat.le_refl _)]; exact Nat.le_refl _))
end Go.Proofs.Ytfjpdekegbnbaaa
