/-
  Plain mathematics of reading: bytes and their kinds, places where a run of them ends, the steps of reading, what is read. Of no program.
-/
import Derived.Test.YtiepbfeliehjnaaDoorRows
namespace Go.Proofs.YtiepbfeliehjnaaDoor

/-- Byte k of a text; 256 behind its end. -/
def cb (s : ByteArray) (k : Nat) : Nat := if h : k < s.size then s[k].toNat else 256
theorem cb_at {s : ByteArray} {k : Nat} (h : k < s.size) : cb s k = s[k].toNat := dif_pos h
theorem cb_lt {s : ByteArray} {k : Nat} (h : k < s.size) : cb s k < 256 := by rw [cb_at h]; exact UInt8.toNat_lt _
theorem cb_out {s : ByteArray} {k : Nat} (h : ¬ k < s.size) : cb s k = 256 := dif_neg h
def isL (c : Nat) : Bool := (decide (97 ≤ c) && decide (c ≤ 122)) || (decide (65 ≤ c) && decide (c ≤ 90)) || decide (c = 95)
def isD (c : Nat) : Bool := decide (48 ≤ c) && decide (c ≤ 57)
def isB (c : Nat) : Bool := decide (c = 9) || decide (c = 10) || decide (c = 13) || decide (c = 32)
def isS (c : Nat) : Bool := decide (c = 123) || decide (c = 125) || decide (c = 91) || decide (c = 93) || decide (c = 59) || decide (c = 44)
def isN (c : Nat) : Bool := isL c || isD c
def isR (c : Nat) : Bool := decide (c ≠ 10) && decide (c < 256)
theorem isL_p {c : Nat} : isL c = true ↔ (97 ≤ c ∧ c ≤ 122) ∨ (65 ≤ c ∧ c ≤ 90) ∨ c = 95 := by simp [isL, or_assoc]
theorem isD_p {c : Nat} : isD c = true ↔ 48 ≤ c ∧ c ≤ 57 := by simp [isD]
theorem isB_p {c : Nat} : isB c = true ↔ c = 9 ∨ c = 10 ∨ c = 13 ∨ c = 32 := by simp [isB, or_assoc]
theorem isS_p {c : Nat} : isS c = true ↔ c = 123 ∨ c = 125 ∨ c = 91 ∨ c = 93 ∨ c = 59 ∨ c = 44 := by simp [isS, or_assoc]
theorem isN_p {c : Nat} : isN c = true ↔ isL c = true ∨ isD c = true := by simp [isN]
theorem isR_p {c : Nat} : isR c = true ↔ c ≠ 10 ∧ c < 256 := by simp [isR]
theorem fls {b : Bool} (h : ¬ b = true) : b = false := by simpa using h

/-- A run of bytes of a kind from i on ends at j. -/
structure End (p : Nat → Bool) (s : ByteArray) (i j : Nat) : Prop where
  le : i ≤ j
  sz : j ≤ s.size
  all : ∀ k, i ≤ k → k < j → p (cb s k) = true
  no : p (cb s j) = false
theorem End.unique {p : Nat → Bool} {s : ByteArray} {i j j' : Nat} (h : End p s i j) (h' : End p s i j') : j = j' := by
  rcases Nat.lt_trichotomy j j' with g | g | g
  · have := h'.all j h.le g
    rw [h.no] at this
    exact absurd this (by decide)
  · exact g
  · have := h.all j' h'.le g
    rw [h'.no] at this
    exact absurd this (by decide)
def runF (p : Nat → Bool) (s : ByteArray) : Nat → Nat → Nat
  | 0, i => i
  | n + 1, i => if p (cb s i) = true then runF p s n (i + 1) else i
def run (p : Nat → Bool) (s : ByteArray) (i : Nat) : Nat := runF p s (s.size - i) i
theorem runF_end {p : Nat → Bool} (h6 : p 256 = false) (s : ByteArray) : ∀ n i, i ≤ s.size → n = s.size - i → End p s i (runF p s n i) := by
  intro n
  induction n with
  | zero => intro i hi hn; exact ⟨Nat.le_refl _, hi, fun k h1 h2 => absurd h2 (by show ¬ k < i; omega), by show p (cb s i) = false; rw [cb_out (by omega)]; exact h6⟩
  | succ n ih =>
    intro i hi hn
    unfold runF
    by_cases hp : p (cb s i) = true
    · rw [if_pos hp]
      have h := ih (i + 1) (by omega) (by omega)
      refine ⟨by have := h.le; omega, h.sz, fun k h1 h2 => ?_, h.no⟩
      by_cases e : k = i
      · rw [e]; exact hp
      · exact h.all k (by omega) h2
    · rw [if_neg hp]
      exact ⟨Nat.le_refl _, hi, fun k h1 h2 => absurd h2 (by omega), fls hp⟩
theorem run_end {p : Nat → Bool} (h6 : p 256 = false) {s : ByteArray} {i : Nat} (hi : i ≤ s.size) : End p s i (run p s i) := runF_end h6 s _ i hi rfl
theorem isR6 : isR 256 = false := by decide
theorem isN6 : isN 256 = false := by decide
theorem isD6 : isD 256 = false := by decide
theorem End.run {p : Nat → Bool} {s : ByteArray} {i j : Nat} (h : End p s i j) (h6 : p 256 = false) : run p s i = j := (run_end h6 (Nat.le_trans h.le h.sz)).unique h
theorem End.lt {p : Nat → Bool} {s : ByteArray} {i j : Nat} (h : End p s i j) (hp : p (cb s i) = true) : i < j := by
  rcases Nat.lt_or_ge i j with g | g
  · exact g
  · have e : i = j := Nat.le_antisymm h.le g
    rw [e, h.no] at hp
    exact absurd hp (by decide)
theorem in_of {p : Nat → Bool} {s : ByteArray} {i : Nat} (h6 : p 256 = false) (hp : p (cb s i) = true) : i < s.size := by
  by_cases h : i < s.size
  · exact h
  · rw [cb_out h, h6] at hp
    exact absurd hp (by decide)

/-- A token: its kind, its bytes, its place. -/
structure Tk where
  k : Int
  t : ByteArray
  p : Int
def tok (s : ByteArray) (k : Nat) (i j : Nat) : Tk := ⟨k, s.extract i j, i⟩
/-- A token of kind k stands from i to j. -/
def TokAt (s : ByteArray) (k i j : Nat) : Prop :=
  (k = 1 ∧ isL (cb s i) = true ∧ End isN s i j) ∨ (k = 2 ∧ isD (cb s i) = true ∧ End isD s i j ∧ isL (cb s j) = false) ∨ (k = 3 ∧ isS (cb s i) = true ∧ j = i + 1)
/-- One step of reading, at place x.1 with the tokens x.2 told. -/
def step (s : ByteArray) (x : Nat × List Tk) : Nat × List Tk :=
  if isB (cb s x.1) = true then (x.1 + 1, x.2)
  else if cb s x.1 = 35 then (run isR s x.1, x.2)
  else if isL (cb s x.1) = true then (run isN s x.1, x.2 ++ [tok s 1 x.1 (run isN s x.1)])
  else if isD (cb s x.1) = true then (if isL (cb s (run isD s x.1)) = true then x else (run isD s x.1, x.2 ++ [tok s 2 x.1 (run isD s x.1)]))
  else if isS (cb s x.1) = true then (x.1 + 1, x.2 ++ [tok s 3 x.1 (x.1 + 1)])
  else x
def it (s : ByteArray) : Nat → Nat × List Tk
  | 0 => (0, [])
  | n + 1 => step s (it s n)
/-- Reading from the front comes to place i, the tokens l told. -/
def Pre (s : ByteArray) (i : Nat) (l : List Tk) : Prop := ∃ n, it s n = (i, l)
theorem Pre.zero (s : ByteArray) : Pre s 0 [] := ⟨0, rfl⟩
theorem Pre.next {s : ByteArray} {i : Nat} {l : List Tk} (h : Pre s i l) {i' : Nat} {l' : List Tk} (e : step s (i, l) = (i', l')) : Pre s i' l' := by
  obtain ⟨n, hn⟩ := h
  exact ⟨n + 1, by rw [← e, ← hn]; rfl⟩
theorem nB_of_L {c : Nat} (h : isL c = true) : ¬ isB c = true ∧ ¬ c = 35 ∧ ¬ isD c = true ∧ ¬ isS c = true := by rw [isB_p, isD_p, isS_p]; rw [isL_p] at h; omega
theorem nB_of_D {c : Nat} (h : isD c = true) : ¬ isB c = true ∧ ¬ c = 35 ∧ ¬ isL c = true ∧ ¬ isS c = true := by rw [isB_p, isL_p, isS_p]; rw [isD_p] at h; omega
theorem nB_of_S {c : Nat} (h : isS c = true) : ¬ isB c = true ∧ ¬ c = 35 ∧ ¬ isL c = true ∧ ¬ isD c = true := by rw [isB_p, isL_p, isD_p]; rw [isS_p] at h; omega
section
variable {s : ByteArray} {i j : Nat} {l : List Tk}
theorem step_blank (hb : isB (cb s i) = true) : step s (i, l) = (i + 1, l) := by unfold step; rw [if_pos hb]
theorem step_remark (h : cb s i = 35) (he : End isR s i j) : step s (i, l) = (j, l) := by
  unfold step
  rw [if_neg (by rw [isB_p]; show ¬ (cb s i = 9 ∨ cb s i = 10 ∨ cb s i = 13 ∨ cb s i = 32); omega), if_pos h]
  show (run isR s i, l) = _
  rw [he.run isR6]
theorem step_tok {k : Nat} (h : TokAt s k i j) : step s (i, l) = (j, l ++ [tok s k i j]) := by
  unfold step
  rcases h with ⟨rfl, h, he⟩ | ⟨rfl, h, he, hn⟩ | ⟨rfl, h, rfl⟩
  · obtain ⟨h1, h2, h3, h4⟩ := nB_of_L h
    rw [if_neg h1, if_neg h2, if_pos h]
    show (run isN s i, l ++ [tok s 1 i (run isN s i)]) = _
    rw [he.run isN6]
  · obtain ⟨h1, h2, h3, h4⟩ := nB_of_D h
    rw [if_neg h1, if_neg h2, if_neg h3, if_pos h]
    show (if isL (cb s (run isD s i)) = true then (i, l) else (run isD s i, l ++ [tok s 2 i (run isD s i)])) = _
    rw [he.run isD6, if_neg (by rw [hn]; decide)]
  · obtain ⟨h1, h2, h3, h4⟩ := nB_of_S h
    rw [if_neg h1, if_neg h2, if_neg h3, if_neg h4, if_pos h]
/-- Place j is at fault, reading stands at i. -/
def Bad (s : ByteArray) (i j : Nat) : Prop :=
  (isD (cb s i) = true ∧ End isD s i j ∧ isL (cb s j) = true) ∨ (i < s.size ∧ j = i ∧ isB (cb s i) = false ∧ cb s i ≠ 35 ∧ isL (cb s i) = false ∧ isD (cb s i) = false ∧ isS (cb s i) = false)
theorem step_bad (h : Bad s i j) : step s (i, l) = (i, l) := by
  unfold step
  rcases h with ⟨h, he, hn⟩ | ⟨_, _, h1, h2, h3, h4, h5⟩
  · obtain ⟨h1, h2, h3, h4⟩ := nB_of_D h
    rw [if_neg h1, if_neg h2, if_neg h3, if_pos h]
    show (if isL (cb s (run isD s i)) = true then (i, l) else (run isD s i, l ++ [tok s 2 i (run isD s i)])) = _
    rw [he.run isD6, if_pos hn]
  · show (if isB (cb s i) = true then (i + 1, l) else if cb s i = 35 then (run isR s i, l) else if isL (cb s i) = true then (run isN s i, l ++ [tok s 1 i (run isN s i)]) else if isD (cb s i) = true then (if isL (cb s (run isD s i)) = true then (i, l) else (run isD s i, l ++ [tok s 2 i (run isD s i)])) else if isS (cb s i) = true then (i + 1, l ++ [tok s 3 i (i + 1)]) else (i, l)) = (i, l)
    rw [if_neg (by rw [h1]; decide), if_neg h2, if_neg (by rw [h3]; decide), if_neg (by rw [h4]; decide), if_neg (by rw [h5]; decide)]
theorem step_end : step s (s.size, l) = (s.size, l) := by
  unfold step
  show (if isB (cb s s.size) = true then (s.size + 1, l) else if cb s s.size = 35 then (run isR s s.size, l) else if isL (cb s s.size) = true then (run isN s s.size, l ++ [tok s 1 s.size (run isN s s.size)]) else if isD (cb s s.size) = true then (if isL (cb s (run isD s s.size)) = true then (s.size, l) else (run isD s s.size, l ++ [tok s 2 s.size (run isD s s.size)])) else if isS (cb s s.size) = true then (s.size + 1, l ++ [tok s 3 s.size (s.size + 1)]) else (s.size, l)) = (s.size, l)
  rw [cb_out (Nat.lt_irrefl _), if_neg (by decide), if_neg (by decide), if_neg (by decide), if_neg (by decide), if_neg (by decide)]
theorem Pre.blank (h : Pre s i l) (hb : isB (cb s i) = true) : Pre s (i + 1) l := h.next (step_blank hb)
theorem Pre.remark (h : Pre s i l) (h35 : cb s i = 35) (he : End isR s i j) : Pre s j l := h.next (step_remark h35 he)
theorem Pre.put {k : Nat} (h : Pre s i l) (ht : TokAt s k i j) : Pre s j (l ++ [tok s k i j]) := h.next (step_tok ht)
end
/-- What may stand at a place. -/
theorem ways (s : ByteArray) (i : Nat) (hi : i < s.size) : isB (cb s i) = true ∨ (cb s i = 35 ∧ End isR s i (run isR s i)) ∨ (∃ k j, TokAt s k i j) ∨ ∃ j, Bad s i j := by
  by_cases h1 : isB (cb s i) = true
  · exact .inl h1
  by_cases h2 : cb s i = 35
  · exact .inr (.inl ⟨h2, run_end isR6 (by omega)⟩)
  by_cases h3 : isL (cb s i) = true
  · exact .inr (.inr (.inl ⟨1, _, .inl ⟨rfl, h3, run_end isN6 (by omega)⟩⟩))
  by_cases h4 : isD (cb s i) = true
  · by_cases h5 : isL (cb s (run isD s i)) = true
    · exact .inr (.inr (.inr ⟨_, .inl ⟨h4, run_end isD6 (by omega), h5⟩⟩))
    · exact .inr (.inr (.inl ⟨2, _, .inr (.inl ⟨rfl, h4, run_end isD6 (by omega), fls h5⟩)⟩))
  by_cases h5 : isS (cb s i) = true
  · exact .inr (.inr (.inl ⟨3, _, .inr (.inr ⟨rfl, h5, rfl⟩)⟩))
  · exact .inr (.inr (.inr ⟨i, .inr ⟨hi, rfl, fls h1, h2, fls h3, fls h4, fls h5⟩⟩))
theorem TokAt.lt {s : ByteArray} {k i j : Nat} (h : TokAt s k i j) : i < j := by
  rcases h with ⟨rfl, h, he⟩ | ⟨rfl, h, he, hn⟩ | ⟨rfl, h, rfl⟩
  · exact he.lt (by unfold isN; rw [h]; rfl)
  · exact he.lt h
  · omega
theorem TokAt.sz {s : ByteArray} {k i j : Nat} (h : TokAt s k i j) : j ≤ s.size := by
  rcases h with ⟨rfl, h, he⟩ | ⟨rfl, h, he, hn⟩ | ⟨rfl, h, rfl⟩
  · exact he.sz
  · exact he.sz
  · exact in_of (p := isS) (by decide) h
theorem remark_lt {s : ByteArray} {i j : Nat} (h : cb s i = 35) (he : End isR s i j) : i < j := he.lt (by rw [h]; decide)
/-- Induction along reading. -/
theorem Pre.ind {s : ByteArray} {R : Nat → List Tk → Prop} (h0 : R 0 []) (hB : ∀ i l, isB (cb s i) = true → R i l → R (i + 1) l) (hR : ∀ i j l, cb s i = 35 → End isR s i j → R i l → R j l)
    (hT : ∀ i j l k, TokAt s k i j → R i l → R j (l ++ [tok s k i j])) : ∀ {i l}, Pre s i l → i ≤ s.size ∧ R i l := by
  intro i l ⟨n, hn⟩
  induction n generalizing i l with
  | zero => cases hn; exact ⟨Nat.zero_le _, h0⟩
  | succ n ih =>
    generalize hx : it s n = x at *
    obtain ⟨a, m⟩ := x
    obtain ⟨h1, h2⟩ := ih rfl
    have hs : step s (a, m) = (i, l) := by rw [← hn]; show _ = step s (it s n); rw [hx]
    by_cases ha : a < s.size
    · rcases ways s a ha with hb | ⟨hc, he⟩ | ⟨k, j, ht⟩ | ⟨j, hj⟩
      · rw [step_blank hb] at hs
        cases hs
        exact ⟨ha, hB _ _ hb h2⟩
      · rw [step_remark hc he] at hs
        cases hs
        exact ⟨he.sz, hR _ _ _ hc he h2⟩
      · rw [step_tok ht] at hs
        cases hs
        exact ⟨ht.sz, hT _ _ _ _ ht h2⟩
      · rw [step_bad hj] at hs
        cases hs
        exact ⟨h1, h2⟩
    · obtain rfl : a = s.size := by omega
      rw [step_end] at hs
      cases hs
      exact ⟨h1, h2⟩
theorem Pre.le {s : ByteArray} {i : Nat} {l : List Tk} (h : Pre s i l) : i ≤ s.size := (Pre.ind (R := fun _ _ => True) trivial (fun _ _ _ _ => trivial) (fun _ _ _ _ _ _ => trivial) (fun _ _ _ _ _ _ => trivial) h).1
theorem it_stays {s : ByteArray} {n : Nat} {x : Nat × List Tk} (h : it s n = x) (hx : step s x = x) : ∀ m, it s (n + m) = x := by
  intro m
  induction m with
  | zero => exact h
  | succ m ih => show step s (it s (n + m)) = x; rw [ih]; exact hx
theorem Pre.unique {s : ByteArray} {i i' : Nat} {l l' : List Tk} (h : Pre s i l) (h' : Pre s i' l') (e : step s (i, l) = (i, l)) (e' : step s (i', l') = (i', l')) : i = i' ∧ l = l' := by
  obtain ⟨n, hn⟩ := h
  obtain ⟨m, hm⟩ := h'
  have h1 := it_stays hn e m
  have h2 := it_stays hm e' n
  rw [Nat.add_comm m n, h1] at h2
  cases h2
  exact ⟨rfl, rfl⟩
theorem Bad.unique {s : ByteArray} {i j j' : Nat} (h : Bad s i j) (h' : Bad s i j') : j = j' := by
  rcases h with ⟨h, he, hn⟩ | ⟨_, e, _, _, _, h4, _⟩ <;> rcases h' with ⟨h', he', hn'⟩ | ⟨_, e', _, _, _, h4', _⟩
  · exact he.unique he'
  · rw [h] at h4'; exact absurd h4' (by decide)
  · rw [h'] at h4; exact absurd h4 (by decide)
  · rw [e, e']
theorem Bad.lt {s : ByteArray} {i j : Nat} (h : Bad s i j) : i < s.size := by
  rcases h with ⟨h, he, hn⟩ | ⟨h, _⟩
  · exact in_of isD6 h
  · exact h
theorem Bad.sz {s : ByteArray} {i j : Nat} (h : Bad s i j) : j < s.size := by
  rcases h with ⟨h, he, hn⟩ | ⟨h, rfl, _⟩
  · exact in_of (p := isL) (by decide) hn
  · exact h
/-- What Scan tells. -/
def Out (s : ByteArray) (l : List Tk) (a e : Nat) : Prop :=
  (65536 < s.size ∧ l = [] ∧ a = 0 ∧ e = 1) ∨ (s.size ≤ 65536 ∧ Pre s s.size l ∧ a = 0 ∧ e = 0) ∨ (s.size ≤ 65536 ∧ l = [] ∧ e = 90 ∧ ∃ i m, Pre s i m ∧ Bad s i a)
theorem Out.unique {s : ByteArray} {l l' : List Tk} {a a' e e' : Nat} (h : Out s l a e) (h' : Out s l' a' e') : l = l' ∧ a = a' ∧ e = e' := by
  rcases h with ⟨hs, rfl, rfl, rfl⟩ | ⟨hs, hp, rfl, rfl⟩ | ⟨hs, rfl, rfl, i, m, hp, hb⟩ <;> rcases h' with ⟨hs', rfl, rfl, rfl⟩ | ⟨hs', hp', rfl, rfl⟩ | ⟨hs', rfl, rfl, i', m', hp', hb'⟩
  · exact ⟨rfl, rfl, rfl⟩
  · omega
  · omega
  · omega
  · exact ⟨(hp.unique hp' step_end step_end).2, rfl, rfl⟩
  · have e := (hp.unique hp' step_end (step_bad hb')).1
    have := hb'.lt
    omega
  · omega
  · have e := (hp.unique hp' (step_bad hb) step_end).1
    have := hb.lt
    omega
  · have e := (hp.unique hp' (step_bad hb) (step_bad hb')).1
    subst e
    exact ⟨rfl, hb.unique hb', rfl⟩
theorem out_of {s : ByteArray} (hs : s.size ≤ 65536) : ∀ n i m, s.size - i ≤ n → Pre s i m → ∃ l a e, Out s l a e := by
  intro n
  induction n with
  | zero =>
    intro i m hn hp
    have := hp.le
    obtain rfl : i = s.size := by omega
    exact ⟨m, 0, 0, .inr (.inl ⟨hs, hp, rfl, rfl⟩)⟩
  | succ n ih =>
    intro i m hn hp
    by_cases hi : i < s.size
    · rcases ways s i hi with hb | ⟨hc, he⟩ | ⟨k, j, ht⟩ | ⟨j, hj⟩
      · exact ih _ _ (by omega) (hp.blank hb)
      · have := remark_lt hc he
        exact ih _ _ (by omega) (hp.remark hc he)
      · have := ht.lt
        exact ih _ _ (by omega) (hp.put ht)
      · exact ⟨[], j, 90, .inr (.inr ⟨hs, rfl, rfl, i, m, hp, hj⟩)⟩
    · have := hp.le
      obtain rfl : i = s.size := by omega
      exact ⟨m, 0, 0, .inr (.inl ⟨hs, hp, rfl, rfl⟩)⟩
theorem out_ex (s : ByteArray) : ∃ l a e, Out s l a e := by
  by_cases hs : 65536 < s.size
  · exact ⟨[], 0, 1, .inl ⟨hs, rfl, rfl, rfl⟩⟩
  · exact out_of (by omega) _ 0 [] (Nat.le_refl _) (Pre.zero s)
theorem Pre.count {s : ByteArray} {i : Nat} {l : List Tk} (h : Pre s i l) : l.length ≤ i :=
  (Pre.ind (R := fun i l => l.length ≤ i) (Nat.le_refl _) (fun _ _ _ h => by omega) (fun i j l hc he h => by have := remark_lt hc he; omega) (fun i j l k ht h => by have := ht.lt; rw [List.length_append]; show l.length + 1 ≤ j; omega) h).2

/-- The bytes are a name; a number; a sign. -/
def nmB (s : ByteArray) : Bool := isL (cb s 0) && decide (run isN s 0 = s.size)
def nuB (s : ByteArray) : Bool := decide (0 < s.size) && decide (run isD s 0 = s.size)
def sgB (s : ByteArray) : Bool := decide (s.size = 1) && isS (cb s 0)
def rightB (t : Tk) : Bool := if t.k = 1 then nmB t.t else if t.k = 2 then nuB t.t else if t.k = 3 then sgB t.t else false
/-- All tokens are right. -/
def AllR (l : List Tk) : Prop := ∀ k (h : k < l.length), rightB l[k] = true
theorem size_ext (s : ByteArray) (a j : Nat) (hj : j ≤ s.size) : (s.extract a j).size = j - a := by
  rw [ByteArray.size_extract]; omega
theorem cb_ext {s : ByteArray} {a j m : Nat} (hj : j ≤ s.size) (hm : a + m < j) : cb (s.extract a j) m = cb s (a + m) := by
  rw [cb_at (show m < (s.extract a j).size by rw [size_ext s a j hj]; omega), cb_at (show a + m < s.size by omega)]
  rw [ByteArray.getElem_extract]
theorem cb_list (s : ByteArray) (m : Nat) : cb s m = (s.data.toList[m]?.map UInt8.toNat).getD 256 := by
  have hz : s.data.toList.length = s.size := rfl
  by_cases h : m < s.size
  · rw [cb_at h, List.getElem?_eq_getElem (by rw [hz]; exact h)]
    rfl
  · rw [cb_out h, List.getElem?_eq_none (by rw [hz]; omega)]
    rfl
theorem TokAt.right {s : ByteArray} {k i j : Nat} (h : TokAt s k i j) : rightB (tok s k i j) = true := by
  have hij := h.lt
  have hjs := h.sz
  have hz := size_ext s i j hjs
  have c0 : cb (s.extract i j) 0 = cb s i := by rw [cb_ext hjs (by omega), Nat.add_zero]
  have sub : ∀ p : Nat → Bool, p 256 = false → (∀ m, i ≤ m → m < j → p (cb s m) = true) → run p (s.extract i j) 0 = (s.extract i j).size := fun p h6 ha => by
    refine End.run ⟨Nat.zero_le _, Nat.le_refl _, fun m _ hm => ?_, ?_⟩ h6
    · rw [cb_ext hjs (by omega)]
      exact ha _ (by omega) (by omega)
    · rw [cb_out (Nat.lt_irrefl _)]
      exact h6
  rcases h with ⟨rfl, h, he⟩ | ⟨rfl, h, he, hn⟩ | ⟨rfl, h, rfl⟩
  · show nmB (s.extract i j) = true
    unfold nmB
    rw [c0, h, sub isN isN6 he.all]
    simp
  · show nuB (s.extract i j) = true
    unfold nuB
    rw [sub isD isD6 he.all]
    simp
    omega
  · show sgB (s.extract i (i + 1)) = true
    unfold sgB
    rw [c0, h, hz]
    simp
theorem Pre.right {s : ByteArray} {i : Nat} {l : List Tk} (h : Pre s i l) : AllR l :=
  (Pre.ind (R := fun _ l => AllR l) (fun k h => absurd h (Nat.not_lt_zero _)) (fun _ _ _ h => h) (fun _ _ _ _ _ h => h) (fun i j l k ht h m hm => by
    rw [List.length_append] at hm
    simp only [List.length_cons, List.length_nil] at hm
    by_cases e : m < l.length
    · rw [List.getElem_append_left e]; exact h m e
    · obtain rfl : m = l.length := by omega
      have e1 : (l ++ [tok s k i j])[l.length]'(by simp) = tok s k i j := by simp
      rw [e1]
      exact ht.right) h).2

end Go.Proofs.YtiepbfeliehjnaaDoor
