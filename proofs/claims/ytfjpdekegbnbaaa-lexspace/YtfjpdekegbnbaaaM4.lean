/-
  Plain mathematics of blanks and remarks put in where a token begins. Of no program.
-/
import Derived.Test.YtfjpdekegbnbaaaM3
namespace Go.Proofs.Ytfjpdekegbnbaaa

/-- s' is s with M put in at place a. -/
structure Ins (s s' M : ByteArray) (a : Nat) : Prop where
  le : a ≤ s.size
  sz : s'.size = s.size + M.size
  lo : ∀ j, j < a → cb s' j = cb s j
  mid : ∀ j, j < M.size → cb s' (a + j) = cb M j
  hi : ∀ j, a ≤ j → cb s' (j + M.size) = cb s j
  exlo : ∀ i j, j ≤ a → s'.extract i j = s.extract i j
  exhi : ∀ i j, a ≤ i → s'.extract (i + M.size) (j + M.size) = s.extract i j
theorem take_eq {α : Type} {x y : List α} (m : Nat) (h : ∀ k, k < m → x[k]? = y[k]?) : x.take m = y.take m := by
  apply List.ext_getElem?
  intro k
  rw [List.getElem?_take, List.getElem?_take]
  by_cases e : k < m
  · rw [if_pos e, if_pos e]; exact h k e
  · rw [if_neg e, if_neg e]
theorem ext_data (s : ByteArray) (i j : Nat) : (s.extract i j).data.toList = (s.data.toList.drop i).take (j - i) := by
  rw [ByteArray.data_extract, Array.toList_extract, List.extract_eq_take_drop]
theorem ins_mk {s s' M : ByteArray} {a : Nat} (ha : a ≤ s.size) (h : s'.data.toList = s.data.toList.take a ++ M.data.toList ++ s.data.toList.drop a) : Ins s s' M a := by
  have hz : s.data.toList.length = s.size := rfl
  have hM : M.data.toList.length = M.size := rfl
  have h1 : (s.data.toList.take a).length = a := by rw [List.length_take]; omega
  have gLo : ∀ j, j < a → s'.data.toList[j]? = s.data.toList[j]? := fun j hj => by
    rw [h, List.append_assoc, List.getElem?_append_left (by omega), List.getElem?_take, if_pos hj]
  have gHi : ∀ j, a ≤ j → s'.data.toList[j + M.size]? = s.data.toList[j]? := fun j hj => by
    rw [h, List.getElem?_append_right (by rw [List.length_append]; omega), List.length_append, h1, hM, List.getElem?_drop]
    congr 1
    omega
  refine ⟨ha, ?_, fun j hj => by rw [cb_list, cb_list, gLo j hj], fun j hj => ?_, fun j hj => by rw [cb_list, cb_list, gHi j hj], fun i j hj => ?_, fun i j hi => ?_⟩
  · show s'.data.toList.length = _
    rw [h, List.length_append, List.length_append, h1, List.length_drop, hM, hz]
    omega
  · rw [cb_list, cb_list, h, List.append_assoc, List.getElem?_append_right (by omega), List.getElem?_append_left (by omega), h1]
    rw [show a + j - a = j by omega]
  · apply ByteArray.ext
    apply Array.ext'
    rw [ext_data, ext_data]
    exact take_eq _ fun k hk => by rw [List.getElem?_drop, List.getElem?_drop]; exact gLo _ (by omega)
  · apply ByteArray.ext
    apply Array.ext'
    rw [ext_data, ext_data, show j + M.size - (i + M.size) = j - i by omega]
    exact take_eq _ fun k hk => by
      rw [List.getElem?_drop, List.getElem?_drop, show i + M.size + k = i + k + M.size by omega]
      exact gHi _ (by omega)

/-- Bytes that are passed over: blanks, or blanks and then a remark with a line end. -/
def Pass (M : ByteArray) : Prop := (∀ m, m < M.size → isB (cb M m) = true) ∨
  ∃ b, b + 1 < M.size ∧ (∀ m, m < b → isB (cb M m) = true) ∧ cb M b = 35 ∧ (∀ m, b ≤ m → m + 1 < M.size → cb M m ≠ 10) ∧ cb M (M.size - 1) = 10
theorem Pass.first {M : ByteArray} (h : Pass M) (hz : 0 < M.size) : isN (cb M 0) = false ∧ isD (cb M 0) = false ∧ isL (cb M 0) = false := by
  have h0 : isB (cb M 0) = true ∨ cb M 0 = 35 := by
    rcases h with h | ⟨b, h1, h2, h3, _⟩
    · exact .inl (h 0 hz)
    · by_cases e : b = 0
      · rw [e] at h3; exact .inr h3
      · exact .inl (h2 0 (by omega))
  rcases h0 with h0 | h0
  · rcases isB_p.1 h0 with e | e | e | e <;> rw [e] <;> decide
  · rw [h0]; decide
section
variable {s s' M : ByteArray} {a : Nat}
theorem pass_blanks (I : Ins s s' M a) {l : List Tk} (h : Pre s' a l) (b : Nat) (hb : b ≤ M.size) (hB : ∀ m, m < b → isB (cb M m) = true) : Pre s' (a + b) l := by
  induction b with
  | zero => exact h
  | succ b ih =>
    have := ih (by omega) (fun m hm => hB m (by omega))
    refine this.blank ?_
    rw [I.mid b (by omega)]
    exact hB b (by omega)
theorem pass_all (I : Ins s s' M a) (hp : Pass M) {l : List Tk} (h : Pre s' a l) : Pre s' (a + M.size) l := by
  rcases hp with hp | ⟨b, h1, h2, h3, h4, h5⟩
  · exact pass_blanks I h _ (Nat.le_refl _) hp
  · have h6 := pass_blanks I h b (by omega) h2
    have h7 : Pre s' (a + (M.size - 1)) l := by
      refine h6.remark (by rw [I.mid b (by omega)]; exact h3) ⟨by omega, by rw [I.sz]; have := I.le; omega, fun k hk1 hk2 => ?_, ?_⟩
      · have e := I.mid (k - a) (by omega)
        rw [show a + (k - a) = k by omega] at e
        rw [e, isR_p]
        exact ⟨h4 _ (by omega) (by omega), cb_lt (by omega)⟩
      · rw [I.mid _ (by omega), h5]; decide
    have h8 := h7.blank (by rw [I.mid _ (by omega), h5]; decide)
    rw [show a + (M.size - 1) + 1 = a + M.size by omega] at h8
    exact h8
/-- Ahead of the place all is read as it was. -/
theorem pre_lo (I : Ins s s' M a) (hp : Pass M) (hsz : a < s.size) (hno : cb s a ≠ 10) {i : Nat} {l : List Tk} (h : Pre s i l) : i ≤ a → Pre s' i l := by
  have key : ∀ j, j ≤ a → ∀ p : Nat → Bool, p (cb s j) = false → (0 < M.size → p (cb M 0) = false) → p (cb s' j) = false := fun j hj p h1 h2 => by
    by_cases e : j < a
    · rw [I.lo j e]; exact h1
    · obtain rfl : j = a := by omega
      by_cases z : 0 < M.size
      · have := I.mid 0 z
        rw [Nat.add_zero] at this
        rw [this]; exact h2 z
      · have := I.hi j (Nat.le_refl _)
        rw [show M.size = 0 by omega, Nat.add_zero] at this
        rw [this]; exact h1
  have hz' : a ≤ s'.size := by rw [I.sz]; omega
  refine (Pre.ind (R := fun i l => i ≤ a → Pre s' i l) (fun _ => Pre.zero s') (fun i l hb h hi => ?_) (fun i j l hc he h hi => ?_) (fun i j l k ht h hi => ?_) h).2
  · exact (h (by omega)).blank (by rw [I.lo i (by omega)]; exact hb)
  · have hij := remark_lt hc he
    have h10 := is10 he (by omega)
    have hja : j < a := by
      rcases Nat.lt_or_ge j a with g | g
      · exact g
      · obtain rfl : j = a := by omega
        exact absurd h10 hno
    refine (h (by omega)).remark (by rw [I.lo i (by omega)]; exact hc) ⟨he.le, by omega, fun k h1 h2 => ?_, ?_⟩
    · rw [I.lo k (by omega)]; exact he.all k h1 h2
    · rw [I.lo j hja]; exact he.no
  · have hij := ht.lt
    have e : tok s' k i j = tok s k i j := by unfold tok; rw [I.exlo i j hi]
    rw [← e]
    refine (h (by omega)).put ?_
    rcases ht with ⟨rfl, h1, he⟩ | ⟨rfl, h1, he, hn⟩ | ⟨rfl, h1, rfl⟩
    · exact .inl ⟨rfl, by rw [I.lo i (by omega)]; exact h1, he.le, by omega, fun m h2 h3 => by rw [I.lo m (by omega)]; exact he.all m h2 h3, key j hi isN he.no fun z => (hp.first z).1⟩
    · exact .inr (.inl ⟨rfl, by rw [I.lo i (by omega)]; exact h1, ⟨he.le, by omega, fun m h2 h3 => by rw [I.lo m (by omega)]; exact he.all m h2 h3, key j hi isD he.no fun z => (hp.first z).2.1⟩, key j hi isL hn fun z => (hp.first z).2.2⟩)
    · exact .inr (.inr ⟨rfl, by rw [I.lo i (by omega)]; exact h1, rfl⟩)
/-- A token further behind. -/
def shf (d : Nat) (t : Tk) : Tk := ⟨t.k, t.t, t.p + (d : Int)⟩
theorem end_hi (I : Ins s s' M a) {p : Nat → Bool} {i j : Nat} (hi : a ≤ i) (he : End p s i j) : End p s' (i + M.size) (j + M.size) := by
  have := he.le
  refine ⟨by omega, by rw [I.sz]; have := he.sz; omega, fun k h1 h2 => ?_, by rw [I.hi j (by omega)]; exact he.no⟩
  have e := I.hi (k - M.size) (by omega)
  rw [show k - M.size + M.size = k by omega] at e
  rw [e]
  exact he.all _ (by omega) (by omega)
theorem tok_hi (I : Ins s s' M a) {k i j : Nat} (hi : a ≤ i) (ht : TokAt s k i j) : TokAt s' k (i + M.size) (j + M.size) ∧ tok s' k (i + M.size) (j + M.size) = shf M.size (tok s k i j) := by
  constructor
  · have hij := ht.lt
    rcases ht with ⟨rfl, h1, he⟩ | ⟨rfl, h1, he, hn⟩ | ⟨rfl, h1, rfl⟩
    · exact .inl ⟨rfl, by rw [I.hi i hi]; exact h1, end_hi I hi he⟩
    · exact .inr (.inl ⟨rfl, by rw [I.hi i hi]; exact h1, end_hi I hi he, by rw [I.hi j (by omega)]; exact hn⟩)
    · exact .inr (.inr ⟨rfl, by rw [I.hi i hi]; exact h1, by omega⟩)
  · unfold tok shf
    rw [I.exhi i j hi]
    simp
/-- Behind the place all is read as it was, so much further behind. -/
theorem pre_hi (I : Ins s s' M a) {l0 : List Tk} {n0 : Nat} (h0 : it s n0 = (a, l0)) (h0' : Pre s' (a + M.size) l0) : ∀ n, ∃ i x, it s (n0 + n) = (i, l0 ++ x) ∧ a ≤ i ∧ i ≤ s.size ∧ Pre s' (i + M.size) (l0 ++ x.map (shf M.size)) := by
  intro n
  induction n with
  | zero => exact ⟨a, [], by rw [List.append_nil]; exact h0, Nat.le_refl _, I.le, by simpa using h0'⟩
  | succ n ih =>
    obtain ⟨i, x, h1, h2, h3, h4⟩ := ih
    have hs : it s (n0 + (n + 1)) = step s (i, l0 ++ x) := by rw [← h1]; rfl
    by_cases hi : i < s.size
    · rcases ways s i hi with hb | ⟨hc, he⟩ | ⟨k, j, ht⟩ | ⟨j, hj⟩
      · refine ⟨i + 1, x, by rw [hs, step_blank hb], by omega, by omega, ?_⟩
        have := h4.blank (by rw [I.hi i h2]; exact hb)
        rw [show i + M.size + 1 = i + 1 + M.size by omega] at this
        exact this
      · have := remark_lt hc he
        exact ⟨_, x, by rw [hs, step_remark hc he], by omega, he.sz, h4.remark (by rw [I.hi i h2]; exact hc) (end_hi I h2 he)⟩
      · have := ht.lt
        obtain ⟨g1, g2⟩ := tok_hi I h2 ht
        refine ⟨j, x ++ [tok s k i j], by rw [hs, step_tok ht, List.append_assoc], by omega, ht.sz, ?_⟩
        have h5 := h4.put g1
        rw [g2, List.append_assoc] at h5
        rw [List.map_append]
        exact h5
      · exact ⟨i, x, by rw [hs, step_bad hj], h2, h3, h4⟩
    · obtain rfl : i = s.size := by omega
      exact ⟨s.size, x, by rw [hs, step_end], h2, h3, h4⟩
end
/-- Reading came to each token's place with the tokens ahead of it. -/
theorem Pre.starts {s : ByteArray} {i : Nat} {l : List Tk} (h : Pre s i l) : ∀ k (hk : k < l.length), ∃ p kk j, l[k] = tok s kk p j ∧ Pre s p (l.take k) ∧ TokAt s kk p j :=
  ((Pre.ind (R := fun i l => Pre s i l ∧ ∀ k (hk : k < l.length), ∃ p kk j, l[k] = tok s kk p j ∧ Pre s p (l.take k) ∧ TokAt s kk p j)
    ⟨Pre.zero s, fun k hk => absurd hk (Nat.not_lt_zero _)⟩ (fun i l hb h => ⟨h.1.blank hb, h.2⟩) (fun i j l hc he h => ⟨h.1.remark hc he, h.2⟩)
    (fun i j l kk ht h => ⟨h.1.put ht, fun k hk => by
      rw [List.length_append] at hk
      simp only [List.length_cons, List.length_nil] at hk
      by_cases e : k < l.length
      · obtain ⟨p, k2, j2, g1, g2, g3⟩ := h.2 k e
        exact ⟨p, k2, j2, by rw [List.getElem_append_left e]; exact g1, by rw [List.take_append_of_le_length (by omega)]; exact g2, g3⟩
      · obtain rfl : k = l.length := by omega
        exact ⟨i, kk, j, by simp, by rw [List.take_append_of_le_length (Nat.le_refl _), List.take_length]; exact h.1, ht⟩⟩) h).2).2
/-- The text with more put in at the place of token k. -/
theorem space_out {s s' M : ByteArray} {l : List Tk} (hp : Pre s s.size l) {k a : Nat} (hk : k < l.length) (ha : l[k].p = (a : Int)) (I : Ins s s' M a) (hM : Pass M) (hb : s'.size ≤ 65536) :
    Out s' (l.take k ++ (l.drop k).map (shf M.size)) 0 0 := by
  obtain ⟨p, kk, j, e, h1, ht⟩ := hp.starts k hk
  have hpa : p = a := by
    rw [e] at ha
    exact Int.ofNat.inj ha
  subst hpa
  have hij := ht.lt
  have hjs := ht.sz
  have hno : cb s p ≠ 10 := by
    intro e
    rcases ht with ⟨_, h, _⟩ | ⟨_, h, _⟩ | ⟨_, h, _⟩ <;> rw [e] at h <;> exact absurd h (by decide)
  have h2 := pass_all I hM (pre_lo I hM (by omega) hno h1 (Nat.le_refl _))
  obtain ⟨n0, h3⟩ := h1
  obtain ⟨N, hN⟩ := hp
  obtain ⟨i, x, g1, g2, g3, g4⟩ := pre_hi I h3 h2 N
  have g5 := it_stays hN step_end n0
  rw [Nat.add_comm, g1] at g5
  injection g5 with g5 g6
  subst g5
  have hx : x = l.drop k := by
    have := congrArg (List.drop k) g6
    rw [List.drop_append_of_le_length (by rw [List.length_take]; omega), List.drop_eq_nil_of_le (by rw [List.length_take]; omega), List.nil_append] at this
    exact this
  rw [hx, ← I.sz] at g4
  exact .inr (.inl ⟨hb, g4, rfl, rfl⟩)
/-- Token by token. -/
theorem space_at (l : List Tk) (k d : Nat) (hk : k < l.length) : (l.take k ++ (l.drop k).map (shf d)).length = l.length ∧ ∀ i (h : i < l.length) (h' : i < (l.take k ++ (l.drop k).map (shf d)).length), (l.take k ++ (l.drop k).map (shf d))[i] = if k ≤ i then shf d l[i] else l[i] := by
  constructor
  · rw [List.length_append, List.length_take, List.length_map, List.length_drop]; omega
  · intro i h h'
    by_cases e : k ≤ i
    · rw [if_pos e, List.getElem_append_right (by rw [List.length_take]; omega)]
      rw [List.getElem_map, List.getElem_drop]
      congr 2
      rw [List.length_take]
      omega
    · rw [if_neg e, List.getElem_append_left (by rw [List.length_take]; omega), List.getElem_take]
end Go.Proofs.Ytfjpdekegbnbaaa
