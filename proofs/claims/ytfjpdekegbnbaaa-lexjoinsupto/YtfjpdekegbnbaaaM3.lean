/-
  Plain mathematics of joining: tokens that are read are right; tokens that are right, joined, are read again. Of no program.
-/
import Derived.Test.YtfjpdekegbnbaaaJ3
namespace Go.Proofs.Ytfjpdekegbnbaaa

theorem cb_list (s : ByteArray) (m : Nat) : cb s m = (s.data.toList[m]?.map UInt8.toNat).getD 256 := by
  have hz : s.data.toList.length = s.size := rfl
  by_cases h : m < s.size
  · rw [cb_at h, List.getElem?_eq_getElem (by rw [hz]; exact h)]
    rfl
  · rw [cb_out h, List.getElem?_eq_none (by rw [hz]; omega)]
    rfl
theorem TokAt.right {s : ByteArray} {k i j : Nat} (h : TokAt s k i j) : rightB (tok s k i j) = true := by
  have hij := h.lt
  have hjs := h.sz
  have hz := size_ext s i j hjs
  have c0 : cb (s.extract i j) 0 = cb s i := by rw [cb_ext hjs (by omega), Nat.add_zero]
  have sub : ∀ p : Nat → Bool, p 256 = false → (∀ m, i ≤ m → m < j → p (cb s m) = true) → run p (s.extract i j) 0 = (s.extract i j).size := fun p h6 ha => by
    refine End.run ⟨Nat.zero_le _, Nat.le_refl _, fun m _ hm => ?_, ?_⟩ h6
    · rw [cb_ext hjs (by omega)]
      exact ha _ (by omega) (by omega)
    · rw [cb_out (Nat.lt_irrefl _)]
      exact h6
  rcases h with ⟨rfl, h, he⟩ | ⟨rfl, h, he, hn⟩ | ⟨rfl, h, rfl⟩
  · show nmB (s.extract i j) = true
    unfold nmB
    rw [c0, h, sub isN isN6 he.all]
    simp
  · show nuB (s.extract i j) = true
    unfold nuB
    rw [sub isD isD6 he.all]
    simp
    omega
  · show sgB (s.extract i (i + 1)) = true
    unfold sgB
    rw [c0, h, hz]
    simp
theorem Pre.right {s : ByteArray} {i : Nat} {l : List Tk} (h : Pre s i l) : AllR l :=
  (Pre.ind (R := fun _ l => AllR l) (fun k h => absurd h (Nat.not_lt_zero _)) (fun _ _ _ h => h) (fun _ _ _ _ _ h => h) (fun i j l k ht h m hm => by
    rw [List.length_append] at hm
    simp only [List.length_cons, List.length_nil] at hm
    by_cases e : m < l.length
    · rw [List.getElem_append_left e]; exact h m e
    · obtain rfl : m = l.length := by omega
      have e1 : (l ++ [tok s k i j])[l.length]'(by simp) = tok s k i j := by simp
      rw [e1]
      exact ht.right) h).2

/-- Tokens of the same kinds and bytes. -/
structure Like (l m : List Tk) : Prop where
  len : l.length = m.length
  k : ∀ i (h : i < l.length) (h' : i < m.length), l[i].k = m[i].k
  t : ∀ i (h : i < l.length) (h' : i < m.length), l[i].t = m[i].t
theorem Like.sz {l m : List Tk} (h : Like l m) (k : Nat) : jl l k = jl m k := by
  induction k with
  | zero => rfl
  | succ k ih =>
    show jl l k + _ + _ = jl m k + _ + _
    rw [ih]
    congr 1
    by_cases hk : k < l.length
    · rw [List.getElem?_eq_getElem hk, List.getElem?_eq_getElem (by rw [← h.len]; exact hk)]
      show (l[k].t).size = _
      rw [h.t k hk (by rw [← h.len]; exact hk)]
      rfl
    · rw [List.getElem?_eq_none (by omega), List.getElem?_eq_none (by rw [← h.len]; omega)]
theorem Like.bs {l m : List Tk} (h : Like l m) (k : Nat) : jb l k = jb m k := by
  induction k with
  | zero => rfl
  | succ k ih =>
    show jb l k ++ _ ++ _ = jb m k ++ _ ++ _
    rw [ih]
    congr 1
    by_cases hk : k < l.length
    · rw [List.getElem?_eq_getElem hk, List.getElem?_eq_getElem (by rw [← h.len]; exact hk)]
      show (l[k].t).data.toList = _
      rw [h.t k hk (by rw [← h.len]; exact hk)]
      rfl
    · rw [List.getElem?_eq_none (by omega), List.getElem?_eq_none (by rw [← h.len]; omega)]
theorem Like.right {l m : List Tk} (h : Like l m) (hr : AllR l) : AllR m := fun k hk => by
  have hk' : k < l.length := by rw [h.len]; exact hk
  have := hr k hk'
  unfold rightB at this ⊢
  rw [h.k k hk' hk, h.t k hk' hk] at this
  exact this

/-- Behind the first k + 1 tokens a blank follows, or nothing. -/
theorem jb_rest (l : List Tk) (k : Nat) (hk : k < l.length) : ∃ r, jb l l.length = jb l (k + 1) ++ r ∧ (r = [] ∨ ∃ r', r = 32 :: r' ∧ k + 1 < l.length) := by
  have key : ∀ d, ∀ k, k + 1 + d = l.length → ∃ r, jb l l.length = jb l (k + 1) ++ r ∧ (r = [] ∨ ∃ r', r = 32 :: r' ∧ k + 1 < l.length) := by
    intro d
    induction d with
    | zero => intro k e; exact ⟨[], by rw [← e]; simp, .inl rfl⟩
    | succ d ih =>
      intro k e
      obtain ⟨r, h1, _⟩ := ih (k + 1) (by omega)
      rw [jb_at l (k + 1) (by omega), if_neg (by omega)] at h1
      refine ⟨_, by rw [h1, List.append_assoc, List.append_assoc], .inr ⟨l[k + 1].t.data.toList ++ r, by simp, by omega⟩⟩
  exact key (l.length - (k + 1)) k (by omega)
/-- The tokens as they are read again. -/
def rt (l : List Tk) : Nat → List Tk
  | 0 => []
  | k + 1 => rt l k ++ [⟨(l[k]?.map fun t => t.k).getD 0, (l[k]?.map fun t => t.t).getD ⟨#[]⟩, ((jl l k + (if k = 0 then 0 else 1) : Nat) : Int)⟩]
theorem rt_length (l : List Tk) (k : Nat) : (rt l k).length = k := by
  induction k with
  | zero => rfl
  | succ k ih => show (rt l k ++ _).length = _; rw [List.length_append, ih]; rfl
theorem rt_like (l : List Tk) : Like l (rt l l.length) := by
  have key : ∀ n, n ≤ l.length → ∀ i (h : i < n) (h' : i < (rt l n).length) (h'' : i < l.length), l[i].k = (rt l n)[i].k ∧ l[i].t = (rt l n)[i].t := by
    intro n
    induction n with
    | zero => intro _ i h; omega
    | succ n ih =>
      intro hn i hi h' h''
      have e : rt l (n + 1) = rt l n ++ [⟨(l[n]?.map fun t => t.k).getD 0, (l[n]?.map fun t => t.t).getD ⟨#[]⟩, ((jl l n + (if n = 0 then 0 else 1) : Nat) : Int)⟩] := rfl
      have hl := rt_length l n
      by_cases hin : i < n
      · have := ih (by omega) i hin (by omega) h''
        simp only [e, List.getElem_append_left (show i < (rt l n).length by omega)]
        exact this
      · obtain rfl : i = n := by omega
        simp only [e]
        rw [List.getElem_append_right (by omega)]
        simp [List.getElem?_eq_getElem h'', hl]
  exact ⟨(rt_length l _).symm, fun i h h' => (key _ (Nat.le_refl _) i h h' h).1, fun i h h' => (key _ (Nat.le_refl _) i h h' h).2⟩
section
variable {l : List Tk} {s : ByteArray}
theorem joined_size (hs : s.data.toList = jb l l.length) : s.size = jl l l.length := by
  show s.data.toList.length = _
  rw [hs, jb_length]
/-- A right token's bytes stand in the joined text. -/
theorem joined_tok (hs : s.data.toList = jb l l.length) (hr : AllR l) (k : Nat) (hk : k < l.length) :
    ∃ kk : Nat, l[k].k = (kk : Int) ∧ TokAt s kk (jl l k + (if k = 0 then 0 else 1)) (jl l (k + 1)) ∧ s.extract (jl l k + (if k = 0 then 0 else 1)) (jl l (k + 1)) = l[k].t := by
  obtain ⟨r, h1, h2⟩ := jb_rest l k hk
  have ej := jb_at l k hk
  have el := jl_at l k hk
  have hz := joined_size hs
  have hmo := jl_mono l (show k + 1 ≤ l.length by omega)
  -- the text in three pieces
  obtain ⟨A, hA, hAl⟩ : ∃ A : List UInt8, jb l k ++ (if k = 0 then [] else [32]) = A ∧ A.length = jl l k + (if k = 0 then 0 else 1) := by
    refine ⟨_, rfl, ?_⟩
    rw [List.length_append, jb_length]
    by_cases h : k = 0 <;> simp [h]
  rw [ej, hA] at h1
  generalize hp : jl l k + (if k = 0 then 0 else 1) = p at *
  have hq : jl l (k + 1) = p + l[k].t.size := by rw [el]
  generalize jl l (k + 1) = q at *
  have hzt : l[k].t.data.toList.length = l[k].t.size := rfl
  have inside : ∀ m, m < l[k].t.size → cb s (p + m) = cb l[k].t m := fun m hm => by
    rw [cb_list, cb_list, hs, h1, List.append_assoc, List.getElem?_append_right (by omega), List.getElem?_append_left (by omega)]
    rw [hAl, show p + m - p = m by omega]
  have behind : cb s q = 32 ∨ cb s q = 256 := by
    rw [cb_list, hs, h1, List.getElem?_append_right (by rw [List.length_append]; omega)]
    rw [List.length_append, hAl, hzt, show q - (p + l[k].t.size) = 0 by omega]
    rcases h2 with rfl | ⟨r', rfl, _⟩
    · exact .inr rfl
    · exact .inl rfl
  have hext : s.extract p q = l[k].t := by
    apply ByteArray.ext
    rw [ByteArray.data_extract]
    apply Array.ext'
    rw [Array.toList_extract, List.extract_eq_take_drop, hs, h1, List.append_assoc]
    rw [show p = A.length from hAl.symm, List.drop_left, hAl, show q - p = l[k].t.data.toList.length by omega, List.take_left]
  have hrk := hr k hk
  unfold rightB at hrk
  have runAll : ∀ (f : Nat → Bool), f 256 = false → run f l[k].t 0 = l[k].t.size → ∀ m, m < l[k].t.size → f (cb l[k].t m) = true := fun f h6 he m hm => by
    have := run_end h6 (s := l[k].t) (i := 0) (by omega)
    rw [he] at this
    exact this.all m (by omega) hm
  by_cases e1 : l[k].k = 1
  · rw [if_pos e1] at hrk
    unfold nmB at hrk
    obtain ⟨g1, g2⟩ : isL (cb l[k].t 0) = true ∧ run isN l[k].t 0 = l[k].t.size := by simpa using hrk
    have hpos := in_of (p := isL) (by decide) g1
    refine ⟨1, e1, .inl ⟨rfl, ?_, by omega, by omega, fun m h3 h4 => ?_, ?_⟩, hext⟩
    · have := inside 0 hpos
      rw [Nat.add_zero] at this
      rw [this]; exact g1
    · have := inside (m - p) (by omega)
      rw [show p + (m - p) = m by omega] at this
      rw [this]
      exact runAll isN isN6 g2 _ (by omega)
    · rcases behind with h | h <;> rw [h] <;> decide
  rw [if_neg e1] at hrk
  by_cases e2 : l[k].k = 2
  · rw [if_pos e2] at hrk
    unfold nuB at hrk
    obtain ⟨g1, g2⟩ : 0 < l[k].t.size ∧ run isD l[k].t 0 = l[k].t.size := by simpa using hrk
    refine ⟨2, e2, .inr (.inl ⟨rfl, ?_, ⟨by omega, by omega, fun m h3 h4 => ?_, ?_⟩, ?_⟩), hext⟩
    · have := inside 0 g1
      rw [Nat.add_zero] at this
      rw [this]; exact runAll isD isD6 g2 _ g1
    · have := inside (m - p) (by omega)
      rw [show p + (m - p) = m by omega] at this
      rw [this]
      exact runAll isD isD6 g2 _ (by omega)
    · rcases behind with h | h <;> rw [h] <;> decide
    · rcases behind with h | h <;> rw [h] <;> decide
  rw [if_neg e2] at hrk
  by_cases e3 : l[k].k = 3
  · rw [if_pos e3] at hrk
    unfold sgB at hrk
    obtain ⟨g1, g2⟩ : l[k].t.size = 1 ∧ isS (cb l[k].t 0) = true := by simpa using hrk
    refine ⟨3, e3, .inr (.inr ⟨rfl, ?_, by omega⟩), hext⟩
    have := inside 0 (by omega)
    rw [Nat.add_zero] at this
    rw [this]; exact g2
  · rw [if_neg e3] at hrk
    exact absurd hrk (by decide)
theorem joined_pre (hs : s.data.toList = jb l l.length) (hr : AllR l) : ∀ k, k ≤ l.length → Pre s (jl l k) (rt l k) := by
  intro k
  induction k with
  | zero => intro _; exact Pre.zero s
  | succ k ih =>
    intro hk
    have h := ih (by omega)
    obtain ⟨kk, h1, h2, h3⟩ := joined_tok hs hr k (by omega)
    have h4 : Pre s (jl l k + (if k = 0 then 0 else 1)) (rt l k) := by
      by_cases e : k = 0
      · rw [if_pos e]; exact h
      · rw [if_neg e]
        refine h.blank ?_
        have hk1 : k - 1 < l.length := by omega
        obtain ⟨r, g1, g2⟩ := jb_rest l (k - 1) hk1
        rw [show k - 1 + 1 = k by omega] at g1 g2
        rcases g2 with rfl | ⟨r', rfl, _⟩
        · have a1 := congrArg List.length g1
          rw [List.append_nil, jb_length, jb_length] at a1
          have := jl_mono l (show k + 1 ≤ l.length by omega)
          have := h2.lt
          omega
        · rw [cb_list, hs, g1, List.getElem?_append_right (by rw [jb_length]; exact Nat.le_refl _), jb_length, Nat.sub_self]
          show isB 32 = true
          decide
    have h5 := h4.put h2
    have e : rt l (k + 1) = rt l k ++ [tok s kk (jl l k + (if k = 0 then 0 else 1)) (jl l (k + 1))] := by
      show rt l k ++ [_] = _
      rw [List.getElem?_eq_getElem (show k < l.length by omega)]
      unfold tok
      rw [h3, ← h1]
      rfl
    rw [e]
    exact h5
/-- What is joined is read again. -/
theorem joined_out (hr : AllR l) (hb : jl l l.length ≤ 65536) : Out ⟨(jb l l.length).toArray⟩ (rt l l.length) 0 0 := by
  have hs : (⟨(jb l l.length).toArray⟩ : ByteArray).data.toList = jb l l.length := rfl
  have hz := joined_size hs
  have h := joined_pre hs hr l.length (Nat.le_refl _)
  rw [← hz] at h
  exact .inr (.inl ⟨by rw [hz]; exact hb, h, rfl, rfl⟩)
end
end Go.Proofs.Ytfjpdekegbnbaaa
