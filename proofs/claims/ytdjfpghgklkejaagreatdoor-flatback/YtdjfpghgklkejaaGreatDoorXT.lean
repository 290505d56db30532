/-
  Put together of: LN3 LBN LB1 LB2 LB3 HA.
-/
import Derived.RowKit
import Derived.Test.YtdjfpghgklkejaaGreatDoorXM
import Derived.Test.YtdjfpghgklkejaaGreatDoorXE
namespace Go.Proofs.YtdjfpghgklkejaaGreatDoor
def regM (r : Nat × Nat) : Nat := (2 ^ r.2 - 1) * 2 ^ r.1
def inR (r : Nat × Nat) (i : Nat) : Bool := decide (r.1 ≤ i) && decide (i < r.1 + r.2)
theorem regM_bit (r : Nat × Nat) (i : Nat) : (regM r).testBit i = inR r i := by
 unfold regM inR
 rw [← Nat.shiftLeft_eq, Nat.testBit_shiftLeft, Nat.testBit_two_pow_sub_one]
 by_cases h : r.1 ≤ i
 ·rw [decide_eq_true h, Bool.true_and, Bool.true_and]
  exact decide_eq_decide.2 (by omega)
 ·rw [decide_eq_false h, Bool.false_and, Bool.false_and]
theorem inR_p {r : Nat × Nat} {i : Nat} : inR r i = true ↔ r.1 ≤ i ∧ i < r.1 + r.2 := by simp [inR]
theorem regM_lt (r : Nat × Nat) : regM r < 2 ^ (r.1 + r.2) := by
 unfold regM
 rw [Nat.pow_add, Nat.mul_comm (2 ^ r.1)]
 exact Nat.mul_lt_mul_of_pos_right (Nat.sub_lt (Nat.two_pow_pos _) (by decide)) (Nat.two_pow_pos _)
def Seg : Nat → List (Nat × Nat) → Nat → Prop
 | a, [], b => a = b
 | a, r :: l, b => r.1 = a ∧ 1 ≤ r.2 ∧ r.2 ≤ 32 ∧ Seg (a + r.2) l b
theorem seg_app : ∀ (l m : List (Nat × Nat)) (a b : Nat), Seg a (l ++ m) b ↔ ∃ c, Seg a l c ∧ Seg c m b
 | [], m, a, b => by
  constructor
  ·intro h; exact ⟨a, rfl, h⟩
  ·rintro ⟨c, e, h⟩
   have e : a = c := e
   subst e
   exact h
 | r :: l, m, a, b => by
  show (r.1 = a ∧ 1 ≤ r.2 ∧ r.2 ≤ 32 ∧ Seg (a + r.2) (l ++ m) b) ↔ ∃ c, (r.1 = a ∧ 1 ≤ r.2 ∧ r.2 ≤ 32 ∧ Seg (a + r.2) l c) ∧ Seg c m b
  rw [seg_app l m]
  constructor
  ·rintro ⟨h1, h2, h3, c, h4, h5⟩; exact ⟨c, ⟨h1, h2, h3, h4⟩, h5⟩
  ·rintro ⟨c, ⟨h1, h2, h3, h4⟩, h5⟩; exact ⟨h1, h2, h3, c, h4, h5⟩
theorem seg_le : ∀ (l : List (Nat × Nat)) (a b : Nat), Seg a l b → a ≤ b
 | [], a, b, h => Nat.le_of_eq h
 | r :: l, a, b, h => by have := seg_le l _ _ h.2.2.2; omega
theorem seg_mem : ∀ (l : List (Nat × Nat)) (a b : Nat), Seg a l b → ∀ r ∈ l, a ≤ r.1 ∧ 1 ≤ r.2 ∧ r.2 ≤ 32 ∧ r.1 + r.2 ≤ b
 | [], _, _, _, r, hr => by cases hr
 | t :: l, a, b, h, r, hr => by
  obtain ⟨h1, h2, h3, h4⟩ := h
  rcases List.mem_cons.1 hr with rfl | hr
  ·have := seg_le l _ _ h4; omega
  ·have := seg_mem l _ _ h4 r hr; omega
theorem seg_cover : ∀ (l : List (Nat × Nat)) (a b : Nat), Seg a l b → ∀ i, a ≤ i → i < b → ∃ r ∈ l, inR r i = true
 | [], a, b, h, i, h1, h2 => by have h : a = b := h; omega
 | t :: l, a, b, h, i, h1, h2 => by
  obtain ⟨e1, e2, e3, e4⟩ := h
  by_cases hi : i < a + t.2
  ·exact ⟨t, List.mem_cons_self, inR_p.2 (by omega)⟩
  ·obtain ⟨r, hr, h⟩ := seg_cover l _ _ e4 i (by omega) h2
   exact ⟨r, List.mem_cons_of_mem _ hr, h⟩
theorem seg_len : ∀ (l : List (Nat × Nat)) (a b : Nat), Seg a l b → a + l.length ≤ b
 | [], a, b, h => Nat.le_of_eq h
 | t :: l, a, b, h => by
  have := seg_len l _ _ h.2.2.2
  have := h.2.1
  rw [List.length_cons]; omega
def cutR (E : Nat → Bool) : Nat → List (Nat × Nat)
 | 0 => []
 | k + 1 => match (cutR E k).getLast? with
  | none => [(k, 1)]
  | some r => if (E k || decide (r.2 = 32)) = true then cutR E k ++ [(k, 1)] else (cutR E k).dropLast ++ [(r.1, r.2 + 1)]
theorem last_split {α : Type} {l : List α} {r : α} (h : l.getLast? = some r) : l = l.dropLast ++ [r] := by
 have hn : l ≠ [] := fun e => by subst e; cases h
 rw [List.getLast?_eq_some_getLast hn] at h
 have h := Option.some.inj h
 rw [← h, List.dropLast_concat_getLast hn]
theorem cut_ok (E : Nat → Bool) : ∀ k, Seg 0 (cutR E k) k ∧ (∀ r ∈ cutR E k, ∀ i, r.1 < i → i < r.1 + r.2 → E i = false) ∧ (0 < k → (cutR E k).getLast? ≠ none)
 | 0 => ⟨rfl, fun r hr => absurd (show r ∈ ([] : List (Nat × Nat)) from hr) List.not_mem_nil, fun h => absurd h (Nat.lt_irrefl _)⟩
 | k + 1 => by
  obtain ⟨h1, h2, h3⟩ := cut_ok E k
  unfold cutR
  split
  ·rename_i e
   have hk : k = 0 := by
    rcases Nat.eq_zero_or_pos k with h | h
    ·exact h
    ·exact absurd e (h3 h)
   subst hk
   refine ⟨⟨rfl, Nat.le_refl _, by decide, rfl⟩, fun r hr i g1 g2 => ?_, fun _ => by simp⟩
   rw [List.mem_singleton] at hr
   subst hr
   have g1 : 0 < i := g1
   have g2 : i < 0 + 1 := g2
   omega
  ·rename_i r e
   split
   ·refine ⟨(seg_app _ _ _ _).2 ⟨k, h1, rfl, Nat.le_refl _, (by decide : (1 : Nat) ≤ 32), rfl⟩, fun t ht i g1 g2 => ?_, fun _ => by simp⟩
    rcases List.mem_append.1 ht with ht | ht
    ·exact h2 t ht i g1 g2
    ·rw [List.mem_singleton] at ht
     subst ht
     have g1 : k < i := g1
     have g2 : i < k + 1 := g2
     omega
   ·rename_i hc
    have hsp := last_split e
    rw [hsp] at h1
    obtain ⟨c, g1, g2, g3, g4, g5⟩ := (seg_app _ _ _ _).1 h1
    have g5 : c + r.2 = k := g5
    rw [Bool.or_eq_true, decide_eq_true_eq, not_or] at hc
    have hE : E k = false := Bool.eq_false_iff.2 hc.1
    refine ⟨(seg_app _ _ _ _).2 ⟨c, g1, g2, Nat.le_add_left _ _, by have := hc.2; show r.2 + 1 ≤ 32; omega, by show c + (r.2 + 1) = k + 1; omega⟩, fun t ht i q1 q2 => ?_, fun _ => by simp⟩
    rcases List.mem_append.1 ht with ht | ht
    ·exact h2 t (by rw [hsp]; exact List.mem_append_left _ ht) i q1 q2
    ·rw [List.mem_singleton] at ht
     subst ht
     have q1 : r.1 < i := q1
     have q2 : i < r.1 + (r.2 + 1) := q2
     by_cases hi : i < r.1 + r.2
     ·exact h2 r (by rw [hsp]; exact List.mem_append_right _ (List.mem_singleton.2 rfl)) i q1 hi
     ·have : i = k := by omega
      rw [this, hE]
def Whl (m : Nat) (r : Nat × Nat) : Prop := ∀ i, inR r i = true → m.testBit i = m.testBit r.1
theorem whl_of {m : Nat} {r : Nat × Nat} (h : ∀ i, r.1 < i → i < r.1 + r.2 → m.testBit i = m.testBit (i - 1)) : Whl m r := by
 have step : ∀ j, j < r.2 → m.testBit (r.1 + j) = m.testBit r.1 := by
  intro j
  induction j with
  | zero => intro _; rfl
  | succ j ih =>
   intro hj
   have := h (r.1 + (j + 1)) (by omega) (by omega)
   rw [this, show r.1 + (j + 1) - 1 = r.1 + j by omega]
   exact ih (by omega)
 intro i hi
 have hi := inR_p.1 hi
 have := step (i - r.1) (by omega)
 rwa [show r.1 + (i - r.1) = i by omega] at this
theorem whl_and {m : Nat} {r : Nat × Nat} (h : Whl m r) (hz : 1 ≤ r.2) : m &&& regM r ≠ 0 ↔ m.testBit r.1 = true := by
 constructor
 ·intro hne
  obtain ⟨i, hi⟩ := Nat.exists_testBit_of_ne_zero hne
  rw [Nat.testBit_and, regM_bit, Bool.and_eq_true] at hi
  rw [← h i hi.2]
  exact hi.1
 ·intro hb e
  have : (m &&& regM r).testBit r.1 = true := by
   rw [Nat.testBit_and, regM_bit, hb, inR_p.2 (by omega)]; rfl
  rw [e, Nat.zero_testBit] at this
  cases this
def Srt : Nat → List (Nat × Nat) → Prop
 | _, [] => True
 | a, r :: l => a ≤ r.1 ∧ Srt (r.1 + r.2) l
theorem Srt.mono : ∀ {l : List (Nat × Nat)} {a b : Nat}, Srt a l → b ≤ a → Srt b l
 | [], _, _, _, _ => trivial
 | _ :: _, _, _, h, g => ⟨Nat.le_trans g h.1, h.2⟩
theorem srt_filter (p : Nat × Nat → Bool) : ∀ (l : List (Nat × Nat)) (a b : Nat), Seg a l b → Srt a (l.filter p)
 | [], _, _, _ => trivial
 | r :: l, a, b, h => by
  obtain ⟨h1, h2, h3, h4⟩ := h
  have ih := srt_filter p l _ _ h4
  rw [List.filter_cons]
  split
  ·exact ⟨Nat.le_of_eq h1.symm, by rw [h1]; exact ih⟩
  ·exact ih.mono (by omega)
def accM : Nat → List (Nat × Nat) → Nat
 | s, [] => s
 | s, r :: l => accM (s ||| regM r) l
def accV (x : Nat) : Nat → List (Nat × Nat) → Nat
 | s, [] => s
 | s, r :: l => accV x (s ||| ((x &&& regM r) >>> r.1) * 2 ^ r.1) l
theorem accM_bit : ∀ (l : List (Nat × Nat)) (s i : Nat), (accM s l).testBit i = (s.testBit i || l.any fun r => inR r i)
 | [], s, i => by show s.testBit i = _; rw [List.any_nil, Bool.or_false]
 | r :: l, s, i => by
  show (accM (s ||| regM r) l).testBit i = _
  rw [accM_bit l, Nat.testBit_or, regM_bit, List.any_cons, Bool.or_assoc]
theorem part_bit (x : Nat) (r : Nat × Nat) (i : Nat) : (((x &&& regM r) >>> r.1) * 2 ^ r.1).testBit i = (x.testBit i && inR r i) := by
 rw [← Nat.shiftLeft_eq, Nat.testBit_shiftLeft, Nat.testBit_shiftRight, Nat.testBit_and, regM_bit]
 by_cases h : r.1 ≤ i
 ·rw [decide_eq_true (show i ≥ r.1 from h), Bool.true_and, show r.1 + (i - r.1) = i by omega]
 ·rw [decide_eq_false (show ¬ i ≥ r.1 from h), Bool.false_and]
  have : inR r i = false := by
   cases e : inR r i
   ·rfl
   ·exact absurd (inR_p.1 e).1 h
  rw [this, Bool.and_false]
theorem accV_bit (x : Nat) : ∀ (l : List (Nat × Nat)) (s i : Nat), (accV x s l).testBit i = (s.testBit i || (x.testBit i && l.any fun r => inR r i))
 | [], s, i => by show s.testBit i = _; rw [List.any_nil, Bool.and_false, Bool.or_false]
 | r :: l, s, i => by
  show (accV x (s ||| ((x &&& regM r) >>> r.1) * 2 ^ r.1) l).testBit i = _
  rw [accV_bit x l, Nat.testBit_or, part_bit, List.any_cons, Bool.or_assoc]
  cases s.testBit i <;> cases x.testBit i <;> cases inR r i <;> simp
def askd (m : Nat) (l : List (Nat × Nat)) : List (Nat × Nat) := l.filter fun r => decide (m &&& regM r ≠ 0)
theorem askd_any {m n : Nat} {l : List (Nat × Nat)} (hs : Seg 0 l n) (hw : ∀ r ∈ l, Whl m r) (hm : m < 2 ^ n) (i : Nat) : (askd m l).any (fun r => inR r i) = m.testBit i := by
 cases e : m.testBit i with
 | true =>
  have hi : i < n := by
   rcases Nat.lt_or_ge i n with h | h
   ·exact h
   ·rw [Nat.testBit_lt_two_pow (Nat.lt_of_lt_of_le hm (Nat.pow_le_pow_right (by decide) h))] at e
    cases e
  obtain ⟨r, hr, hin⟩ := seg_cover l 0 n hs i (Nat.zero_le _) hi
  have hz := (seg_mem l 0 n hs r hr).2.1
  rw [List.any_eq_true]
  exact ⟨r, List.mem_filter.2 ⟨hr, decide_eq_true ((whl_and (hw r hr) hz).2 (by rw [← hw r hr i hin, e]))⟩, hin⟩
 | false =>
  rw [List.any_eq_false]
  intro r hr hin
  obtain ⟨hr, hp⟩ := List.mem_filter.1 hr
  have hz := (seg_mem l 0 n hs r hr).2.1
  have := (whl_and (hw r hr) hz).1 (of_decide_eq_true hp)
  rw [← hw r hr i hin, e] at this
  cases this
theorem askd_mask {m n : Nat} {l : List (Nat × Nat)} (hs : Seg 0 l n) (hw : ∀ r ∈ l, Whl m r) (hm : m < 2 ^ n) : accM 0 (askd m l) = m := by
 apply Nat.eq_of_testBit_eq
 intro i
 rw [accM_bit, Nat.zero_testBit, Bool.false_or, askd_any hs hw hm]
theorem askd_val {m n x : Nat} {l : List (Nat × Nat)} (hs : Seg 0 l n) (hw : ∀ r ∈ l, Whl m r) (hm : m < 2 ^ n) (hx : x &&& m = x) : accV x 0 (askd m l) = x := by
 apply Nat.eq_of_testBit_eq
 intro i
 rw [accV_bit, Nat.zero_testBit, Bool.false_or, askd_any hs hw hm, ← Nat.testBit_and, hx]
theorem and_far {s : Nat} {r : Nat × Nat} (h : s < 2 ^ r.1) : s &&& regM r = 0 := by
 apply Nat.eq_of_testBit_eq
 intro i
 rw [Nat.testBit_and, regM_bit, Nat.zero_testBit]
 by_cases hi : r.1 ≤ i
 ·rw [Nat.testBit_lt_two_pow (Nat.lt_of_lt_of_le h (Nat.pow_le_pow_right (by decide) hi)), Bool.false_and]
 ·have : inR r i = false := by
   cases e : inR r i
   ·rfl
   ·exact absurd (inR_p.1 e).1 hi
  rw [this, Bool.and_false]
theorem or_near {s : Nat} {r : Nat × Nat} (h : s < 2 ^ r.1) : s ||| regM r < 2 ^ (r.1 + r.2) :=
 Nat.or_lt_two_pow (Nat.lt_of_lt_of_le h (Nat.pow_le_pow_right (by decide) (Nat.le_add_right _ _))) (regM_lt r)
theorem part_lt (x : Nat) (r : Nat × Nat) : (x &&& regM r) >>> r.1 < 2 ^ r.2 := by
 rw [Nat.shiftRight_eq_div_pow]
 apply Nat.div_lt_of_lt_mul
 rw [← Nat.pow_add]
 exact Nat.lt_of_le_of_lt Nat.and_le_right (regM_lt r)
end Go.Proofs.YtdjfpghgklkejaaGreatDoor
namespace Go.Proofs.YtdjfpghgklkejaaGreatDoor
theorem nameP_suf {n : Int} {l r : List Tk} {a : ByteArray} (h : nameP n l = .ok (a, r)) : r <:+ l := by obtain ⟨t, rfl, _⟩ := nameP_len h; exact List.suffix_cons _ _
theorem numP_suf {n : Int} {l r : List Tk} {a : Nat} (h : numP n l = .ok (a, r)) : r <:+ l := by obtain ⟨t, rfl, _⟩ := numP_len h; exact List.suffix_cons _ _
theorem signP_suf {n : Int} {c : ByteArray} {l r : List Tk} {a : Tk} (h : signP n c l = .ok (a, r)) : r <:+ l := by obtain ⟨rfl, _⟩ := signP_len h; exact List.suffix_cons _ _
theorem argP_suf {n : Int} {ix : Bool} {l r : List Tk} {a : Ar} (h : argP n ix l = .ok (a, r)) : r <:+ l := by
  unfold argP at h
  cases hn : nameP n l with
  | error e => rw [hn] at h; cases h
  | ok y =>
    obtain ⟨b, r1⟩ := y
    have s1 := nameP_suf hn
    rw [hn] at h
    simp only at h
    by_cases hc : ix = true ∧ seesB wLeft r1 = true
    · rw [if_pos hc] at h
      cases hx : numP n r1.tail with
      | error e => rw [hx] at h; cases h
      | ok y =>
        obtain ⟨x, r3⟩ := y
        have s3 := numP_suf hx
        rw [hx] at h
        simp only at h
        cases hs : signP n wRight r3 with
        | error e => rw [hs] at h; cases h
        | ok y =>
          obtain ⟨z, r4⟩ := y
          have s4 := signP_suf hs
          rw [hs] at h
          cases h
          exact s4.trans (s3.trans ((List.tail_suffix _).trans s1))
    · rw [if_neg hc] at h
      cases h
      exact s1
theorem argsP_suf {n : Int} {sh : Sh} : ∀ (f : Nat) {acc aa : List Ar} {l r : List Tk}, argsP n sh f acc l = .ok (aa, r) → r <:+ l := by
  intro f
  induction f with
  | zero => intro acc aa l r h; cases h; exact List.suffix_refl _
  | succ f ih =>
    intro acc aa l r h
    unfold argsP at h
    by_cases hm : moreB sh acc.length l = true
    · rw [if_pos hm] at h
      cases ha : argP n sh.idx l with
      | error e => rw [ha] at h; cases h
      | ok y =>
        obtain ⟨a, r1⟩ := y
        rw [ha] at h
        exact (ih h).trans (argP_suf ha)
    · rw [if_neg hm] at h; cases h; exact List.suffix_refl _
theorem optName_suf {n : Int} {b : Bool} {l r : List Tk} {a : ByteArray} (h : optName n b l = .ok (a, r)) : r <:+ l := by
  unfold optName at h
  by_cases e : b = true
  · rw [if_pos e] at h; exact nameP_suf h
  · rw [if_neg e] at h; cases h; exact List.suffix_refl _
theorem optNum_suf {n : Int} {b : Bool} {l r : List Tk} {x : Nat} (h : optNum n b l = .ok (x, r)) : r <:+ l := by
  unfold optNum at h
  by_cases e : b = true
  · rw [if_pos e] at h; exact numP_suf h
  · rw [if_neg e] at h; cases h; exact List.suffix_refl _
theorem mid_cases {n : Int} {sh : Sh} {l r : List Tk} {nm : ByteArray} {aa : List Ar} {x : Nat} {p : Int} (h : midP n sh l = .ok ((nm, aa, x, p), r)) :
    ∃ l1 l2 l3 u, optName n sh.name l = .ok (nm, l1) ∧ argsP n sh (l1.length + 1) [] l1 = .ok (aa, l2) ∧ optNum n sh.num l2 = .ok (x, l3) ∧ signP n (lastS sh) l3 = .ok (u, r) ∧ u.p = p := by
  unfold midP at h
  cases h1 : optName n sh.name l with
  | error e => rw [h1] at h; cases h
  | ok y1 =>
    obtain ⟨nm', l1⟩ := y1
    rw [h1] at h
    simp only at h
    cases h2 : argsP n sh (l1.length + 1) [] l1 with
    | error e => rw [h2] at h; cases h
    | ok y2 =>
      obtain ⟨aa', l2⟩ := y2
      rw [h2] at h
      simp only at h
      cases h3 : optNum n sh.num l2 with
      | error e => rw [h3] at h; cases h
      | ok y3 =>
        obtain ⟨x', l3⟩ := y3
        rw [h3] at h
        simp only at h
        cases h4 : signP n (lastS sh) l3 with
        | error e => rw [h4] at h; cases h
        | ok y4 =>
          obtain ⟨u, l4⟩ := y4
          rw [h4] at h
          cases h
          exact ⟨l1, l2, l3, u, rfl, h2, h3, h4, rfl⟩
theorem midP_suf {n : Int} {sh : Sh} {l r : List Tk} {y : ByteArray × List Ar × Nat × Int} (h : midP n sh l = .ok (y, r)) : r <:+ l := by
  obtain ⟨nm, aa, x, p⟩ := y
  obtain ⟨l1, l2, l3, u, h1, h2, h3, h4, _⟩ := mid_cases h
  exact (signP_suf h4).trans ((optNum_suf h3).trans ((argsP_suf _ h2).trans (optName_suf h1)))
theorem stmt_cases {n : Int} {rec : Nat → List Tk → Except Fa (List Rw × List Tk)} {d : Nat} {l r : List Tk} {rs : List Rw} (h : stmtP n rec d l = .ok (rs, r)) :
    ∃ t u nm aa x p l4, l = t :: u ∧ midP n (shK t) (restK t u) = .ok ((nm, aa, x, p), l4) ∧
      (((shK t).body = false ∧ rs = [⟨kindK t, nm, aa, (x : Nat), 0, t.p⟩] ∧ r = l4) ∨
       ((shK t).body = true ∧ ¬ 32 ≤ d ∧ ∃ rs2 l5, rec (d + 1) l4 = .ok (rs2, l5) ∧ rs = ⟨kindK t, nm, aa, (x : Nat), rs2.length, t.p⟩ :: rs2 ∧ r = l5.tail)) := by
  cases l with
  | nil => cases h
  | cons t u =>
    cases hm : midP n (shK t) (restK t u) with
    | error q => rw [stmt_mid hm] at h; cases h
    | ok y =>
      obtain ⟨⟨nm, aa, x, p⟩, l4⟩ := y
      refine ⟨t, u, nm, aa, x, p, l4, rfl, hm, ?_⟩
      cases hb : (shK t).body with
      | false =>
        rw [stmt_flat hm hb] at h
        cases h
        exact .inl ⟨rfl, rfl, rfl⟩
      | true =>
        cases h5 : bodyP rec d p l4 with
        | error q => rw [stmt_be hm hb h5] at h; cases h
        | ok y =>
          obtain ⟨rs2, l5⟩ := y
          rw [stmt_bo hm hb h5] at h
          cases h
          unfold bodyP at h5
          by_cases hd : 32 ≤ d
          · rw [if_pos hd] at h5; cases h5
          · rw [if_neg hd] at h5
            cases hr : rec (d + 1) l4 with
            | error q => rw [hr] at h5; cases h5
            | ok y =>
              obtain ⟨rs3, l6⟩ := y
              rw [hr] at h5
              cases h5
              exact .inr ⟨rfl, hd, _, _, rfl, rfl, rfl⟩
theorem stmts_cases {n : Int} {f d : Nat} {l r : List Tk} {rs : List Rw} (h : stmtsP n (f + 1) d l = .ok (rs, r)) :
    (seesB wShut l = true ∧ rs = [] ∧ r = l) ∨ (seesB wShut l = false ∧ ∃ rs1 r1 rs2, stmtP n (stmtsP n f) d l = .ok (rs1, r1) ∧ stmtsP n f d r1 = .ok (rs2, r) ∧ rs = rs1 ++ rs2) := by
  unfold stmtsP at h
  by_cases hs : seesB wShut l = true
  · rw [if_pos hs] at h; cases h; exact .inl ⟨hs, rfl, rfl⟩
  · rw [if_neg hs] at h
    cases h1 : stmtP n (stmtsP n f) d l with
    | error q => rw [h1] at h; cases h
    | ok y =>
      obtain ⟨rs1, r1⟩ := y
      rw [h1] at h
      simp only at h
      cases h2 : stmtsP n f d r1 with
      | error q => rw [h2] at h; cases h
      | ok y =>
        obtain ⟨rs2, r2⟩ := y
        rw [h2] at h
        cases h
        exact .inr ⟨by simpa using hs, rs1, r1, rs2, rfl, h2, rfl⟩
theorem prog_cases {n : Int} {f : Nat} {l : List Tk} {rs : List Rw} (h : progP n (f + 1) l = .ok rs) :
    (l = [] ∧ rs = []) ∨ (l ≠ [] ∧ ∃ rs1 r1 rs2, stmtP n (stmtsP n f) 0 l = .ok (rs1, r1) ∧ progP n f r1 = .ok rs2 ∧ rs = rs1 ++ rs2) := by
  cases l with
  | nil => cases h; exact .inl ⟨rfl, rfl⟩
  | cons t u =>
    unfold progP at h
    cases h1 : stmtP n (stmtsP n f) 0 (t :: u) with
    | error q => rw [h1] at h; cases h
    | ok y =>
      obtain ⟨rs1, r1⟩ := y
      rw [h1] at h
      simp only at h
      cases h2 : progP n f r1 with
      | error q => rw [h2] at h; cases h
      | ok y =>
        rw [h2] at h
        cases h
        exact .inr ⟨by simp, rs1, r1, y, rfl, h2, rfl⟩
def hdT (r : Rw) : ByteArray := if r.kind = wUse then r.name else r.kind
def Marks (l : List Tk) (rs : List Rw) : Prop :=
  (∃ ms : List Tk, ms.Sublist l ∧ ms.length = rs.length ∧ ∀ k (h : k < ms.length) (h' : k < rs.length), ms[k].p = rs[k].place ∧ ms[k].t = hdT rs[k]) ∧ ∀ k (h : k < rs.length), 0 ≤ rs[k].rows ∧ rs[k].rows + k + 1 ≤ rs.length
theorem Marks.app {l1 l2 : List Tk} {a b : List Rw} (h1 : Marks l1 a) (h2 : Marks l2 b) : Marks (l1 ++ l2) (a ++ b) := by
  obtain ⟨⟨m1, s1, e1, f1⟩, g1⟩ := h1
  obtain ⟨⟨m2, s2, e2, f2⟩, g2⟩ := h2
  refine ⟨⟨m1 ++ m2, s1.append s2, by simp [e1, e2], fun k h h' => ?_⟩, fun k h => ?_⟩
  · by_cases hk : k < m1.length
    · rw [List.getElem_append_left hk, List.getElem_append_left (by omega)]
      exact f1 k hk (by omega)
    · rw [List.getElem_append_right (by omega), List.getElem_append_right (by omega)]
      simp only [e1]
      exact f2 _ (by rw [List.length_append] at h; omega) (by rw [List.length_append] at h'; omega)
  · rw [List.length_append] at h ⊢
    by_cases hk : k < a.length
    · rw [List.getElem_append_left hk]
      have := g1 k hk
      omega
    · rw [List.getElem_append_right (by omega)]
      have := g2 (k - a.length) (by omega)
      omega
theorem Marks.sub {l l' : List Tk} {rs : List Rw} (h : Marks l rs) (hs : l.Sublist l') : Marks l' rs := by
  obtain ⟨⟨m, s, e, f⟩, g⟩ := h
  exact ⟨⟨m, s.trans hs, e, f⟩, g⟩
theorem Marks.head {l : List Tk} {rs : List Rw} {t : Tk} {r : Rw} (h : Marks l rs) (hp : t.p = r.place) (ht : t.t = hdT r) (hr : r.rows = rs.length) : Marks (t :: l) (r :: rs) := by
  obtain ⟨⟨m, s, e, f⟩, g⟩ := h
  refine ⟨⟨t :: m, s.cons_cons t, by simp [e], fun k h h' => ?_⟩, fun k h => ?_⟩
  · cases k with
    | zero => exact ⟨hp, ht⟩
    | succ k => exact f k (by simpa using h) (by simpa using h')
  · cases k with
    | zero => simp only [List.getElem_cons_zero, List.length_cons]; omega
    | succ k =>
      have := g k (by simpa using h)
      simp only [List.getElem_cons_succ, List.length_cons]
      omega
theorem kind_head {n : Int} {t : Tk} {u l4 : List Tk} {nm : ByteArray} {aa : List Ar} {x : Nat} {p y z : Int} (h : midP n (shK t) (restK t u) = .ok ((nm, aa, x, p), l4)) : t.t = hdT ⟨kindK t, nm, aa, y, z, t.p⟩ := by
  unfold hdT
  simp only
  cases ho : ownB t.t with
  | true =>
    have hk : kindK t = t.t := by unfold kindK; rw [if_pos ho]
    rw [hk]
    by_cases e : t.t = wUse
    · rw [e] at ho; exact absurd ho (by decide)
    · rw [if_neg e]
  | false =>
    have hk : kindK t = wUse := by unfold kindK; rw [ho]; rfl
    rw [hk, if_pos rfl]
    obtain ⟨l1, _, _, _, h1, _⟩ := mid_cases h
    have hsh : (shK t).name = true := by unfold shK; rw [hk]; rfl
    have hr : restK t u = t :: u := by unfold restK; rw [ho]; rfl
    rw [hsh, hr] at h1
    unfold optName at h1
    rw [if_pos rfl] at h1
    obtain ⟨t', e1, e2, _⟩ := nameP_len h1
    cases e1
    exact e2
theorem mid_pre {n : Int} {t : Tk} {u l4 : List Tk} {y : ByteArray × List Ar × Nat × Int} (h : midP n (shK t) (restK t u) = .ok (y, l4)) : ∃ m, t :: u = t :: (m ++ l4) := by
  have hs := midP_suf h
  have hl := midP_len h
  unfold restK at hs hl
  by_cases ho : ownB t.t = true
  · rw [if_pos ho] at hs
    obtain ⟨m, e⟩ := hs
    exact ⟨m, by rw [e]⟩
  · rw [if_neg ho] at hs hl
    obtain ⟨m, e⟩ := hs
    cases m with
    | nil => rw [List.nil_append] at e; rw [e] at hl; omega
    | cons a m => cases e; exact ⟨m, rfl⟩
theorem stmts_marks {n : Int} : ∀ (f d : Nat) (l r : List Tk) (rs : List Rw), stmtsP n f d l = .ok (rs, r) → ∃ pre, l = pre ++ r ∧ Marks pre rs := by
  intro f
  induction f with
  | zero => intro d l r rs h; cases h
  | succ f ih =>
    intro d l r rs h
    rcases stmts_cases h with ⟨_, rfl, rfl⟩ | ⟨_, rs1, r1, rs2, h1, h2, rfl⟩
    · exact ⟨[], rfl, ⟨[], List.Sublist.slnil, rfl, fun k h => absurd h (Nat.not_lt_zero _)⟩, fun k h => absurd h (Nat.not_lt_zero _)⟩
    · obtain ⟨p2, e2, m2⟩ := ih _ _ _ _ h2
      obtain ⟨t, u, nm, aa, x, p, l4, rfl, hm, hc⟩ := stmt_cases h1
      obtain ⟨m, em⟩ := mid_pre hm
      have ht := kind_head (y := (x : Int)) (z := 0) hm
      rcases hc with ⟨_, rfl, rfl⟩ | ⟨_, _, rs3, l5, h3, rfl, rfl⟩
      · refine ⟨(t :: m) ++ p2, by rw [em, e2]; simp, ?_⟩
        refine Marks.app (Marks.head (rs := []) ⟨⟨[], List.nil_sublist _, rfl, fun k h => absurd h (Nat.not_lt_zero _)⟩, fun k h => absurd h (Nat.not_lt_zero _)⟩ rfl ht rfl) m2
      · obtain ⟨p3, e3, m3⟩ := ih _ _ _ _ h3
        obtain ⟨_, hs3⟩ := stmts_short _ _ _ _ _ h3
        obtain ⟨tt, rr, e5, _⟩ := seesB_cons hs3
        refine ⟨(t :: (m ++ p3 ++ [tt])) ++ p2, by rw [em, e3, e5]; rw [e5, List.tail_cons] at e2; rw [e2]; simp, ?_⟩
        have ht2 := kind_head (y := (x : Int)) (z := (rs3.length : Int)) hm
        exact Marks.app (Marks.head (m3.sub ((List.sublist_append_right m p3).trans (List.sublist_append_left _ _))) rfl ht2 rfl) m2
theorem prog_marks {n : Int} : ∀ (f : Nat) (l : List Tk) (rs : List Rw), progP n f l = .ok rs → Marks l rs := by
  intro f
  induction f with
  | zero => intro l rs h; cases h
  | succ f ih =>
    intro l rs h
    rcases prog_cases h with ⟨rfl, rfl⟩ | ⟨_, rs1, r1, rs2, h1, h2, rfl⟩
    · exact ⟨⟨[], List.Sublist.slnil, rfl, fun k h => absurd h (Nat.not_lt_zero _)⟩, fun k h => absurd h (Nat.not_lt_zero _)⟩
    · have m2 := ih _ _ h2
      obtain ⟨t, u, nm, aa, x, p, l4, rfl, hm, hc⟩ := stmt_cases h1
      obtain ⟨m, em⟩ := mid_pre hm
      rcases hc with ⟨_, rfl, rfl⟩ | ⟨_, _, rs3, l5, h3, rfl, rfl⟩
      · have ht := kind_head (y := (x : Int)) (z := 0) hm
        rw [em]
        have := Marks.app (Marks.head (rs := []) (l := m) ⟨⟨[], List.nil_sublist _, rfl, fun k h => absurd h (Nat.not_lt_zero _)⟩, fun k h => absurd h (Nat.not_lt_zero _)⟩ rfl ht rfl) m2
        simpa using this
      · obtain ⟨p3, e3, m3⟩ := stmts_marks _ _ _ _ _ h3
        obtain ⟨_, hs3⟩ := stmts_short _ _ _ _ _ h3
        obtain ⟨tt, rr, e5, _⟩ := seesB_cons hs3
        have ht2 := kind_head (y := (x : Int)) (z := (rs3.length : Int)) hm
        rw [em, e3, e5]
        rw [e5, List.tail_cons] at m2
        have := Marks.app (Marks.head (m3.sub ((List.sublist_append_right m p3).trans (List.sublist_append_left _ [tt]))) rfl ht2 rfl) m2
        simpa using this
theorem Pre.rise {s : ByteArray} {i : Nat} {l : List Tk} (h : Pre s i l) : l.Pairwise (fun a b => a.p < b.p) ∧ ∀ t ∈ l, 0 ≤ t.p ∧ t.p < (i : Int) :=
  (Pre.ind (R := fun i l => l.Pairwise (fun a b => a.p < b.p) ∧ ∀ t ∈ l, 0 ≤ t.p ∧ t.p < (i : Int)) ⟨List.Pairwise.nil, fun t h => by cases h⟩ (fun i l _ h => ⟨h.1, fun t ht => by have := h.2 t ht; omega⟩) (fun i j l hc he h => ⟨h.1, fun t ht => by have := h.2 t ht; have := remark_lt hc he; omega⟩)
    (fun i j l k ht h => by
      have hij := ht.lt
      refine ⟨List.pairwise_append.2 ⟨h.1, List.pairwise_singleton _ _, fun a ha b hb => ?_⟩, fun t hm => ?_⟩
      · have := h.2 a ha
        rw [List.mem_singleton] at hb
        subst hb
        exact this.2
      · rcases List.mem_append.1 hm with hm | hm
        · have := h.2 t hm; omega
        · rw [List.mem_singleton] at hm
          subst hm
          show 0 ≤ ((i : Nat) : Int) ∧ ((i : Nat) : Int) < j
          omega) h).2
end Go.Proofs.YtdjfpghgklkejaaGreatDoor
namespace Go.Proofs.YtdjfpghgklkejaaGreatDoor
theorem args_fuel {n : Int} {sh : Sh} : ∀ (f : Nat) (l : List Tk) (acc : List Ar), l.length < f → argsP n sh f acc l = argsP n sh (l.length + 1) acc l := by
 intro f
 induction f using Nat.strongRecOn with
 | _ f ih =>
  intro l acc h
  obtain ⟨g, rfl⟩ : ∃ g, f = g + 1 := ⟨f - 1, by omega⟩
  unfold argsP
  by_cases hm : moreB sh acc.length l = true
  ·rw [if_pos hm, if_pos hm]
   cases ha : argP n sh.idx l with
   | error q => rfl
   | ok z =>
    obtain ⟨a, r⟩ := z
    have hl := argP_len ha
    show argsP n sh g (acc ++ [a]) r = argsP n sh l.length (acc ++ [a]) r
    rw [ih g (by omega) r _ (by omega)]
    by_cases e : l.length = g
    ·rw [e, ih g (by omega) r _ (by omega)]
    ·rw [ih l.length (by omega) r _ (by omega)]
  ·rw [if_neg hm, if_neg hm]
def kt (t : Tk) : Int × ByteArray := (t.k, t.t)
def Lk (a b : List Tk) : Prop := a.map kt = b.map kt
def HL (a b : List Tk) : Prop := a.head?.map kt = b.head?.map kt
theorem Lk.cons {t : Tk} {a b : List Tk} (h : Lk (t :: a) b) : ∃ t' b', b = t' :: b' ∧ t'.k = t.k ∧ t'.t = t.t ∧ Lk a b' := by
 cases b with
 | nil => cases h
 | cons t' b' =>
  unfold Lk at h
  simp only [List.map_cons, List.cons.injEq] at h
  have := h.1
  unfold kt at this
  cases h1 : t; cases h2 : t'
  rw [h1, h2] at this
  cases this
  exact ⟨_, _, rfl, rfl, rfl, h.2⟩
theorem Lk.nil {b : List Tk} (h : Lk [] b) : b = [] := by
 cases b with
 | nil => rfl
 | cons t' b' => cases h
theorem Lk.split {a1 a2 b : List Tk} (h : Lk (a1 ++ a2) b) : ∃ b1 b2, b = b1 ++ b2 ∧ Lk a1 b1 ∧ Lk a2 b2 := by
 induction a1 generalizing b with
 | nil => exact ⟨[], b, rfl, rfl, h⟩
 | cons t a1 ih =>
  obtain ⟨t', b', rfl, e1, e2, h2⟩ := h.cons
  obtain ⟨b1, b2, rfl, h3, h4⟩ := ih h2
  refine ⟨t' :: b1, b2, rfl, ?_, h4⟩
  unfold Lk kt
  rw [List.map_cons, List.map_cons, e1, e2]
  congr 1
theorem HL.sees {a b : List Tk} (h : HL a b) (c : ByteArray) : seesB c a = seesB c b := by
 cases a with
 | nil =>
  cases b with
  | nil => rfl
  | cons t b => cases h
 | cons s a =>
  cases b with
  | nil => cases h
  | cons t b =>
   have e : (s.k, s.t) = (t.k, t.t) := Option.some.inj h
   have e : s.t = t.t := congrArg Prod.snd e
   show decide (s.t = c) = decide (t.t = c)
   rw [e]
theorem HL.app {a a' r r' : List Tk} (h : Lk a a') (hr : HL r r') : HL (a ++ r) (a' ++ r') := by
 cases a with
 | nil => rw [h.nil]; exact hr
 | cons t a =>
  obtain ⟨t', b', rfl, e1, e2, _⟩ := h.cons
  show some (t.k, t.t) = some (t'.k, t'.t)
  rw [e1, e2]
def Loc {α : Type} (P : Int → List Tk → Except Fa (α × List Tk)) (l : List Tk) (a : α) (r : List Tk) : Prop :=
 ∃ pre, l = pre ++ r ∧ ∀ n' pre' r', Lk pre pre' → HL r r' → P n' (pre' ++ r') = .ok (a, r')
theorem name_loc {n : Int} {l r : List Tk} {a : ByteArray} (h : nameP n l = .ok (a, r)) : Loc nameP l a r := by
 obtain ⟨t, rfl, rfl, hp⟩ := nameP_len h
 refine ⟨[t], rfl, fun n' pre' r' h1 _ => ?_⟩
 obtain ⟨t', b', rfl, e1, e2, h2⟩ := h1.cons
 rw [h2.nil]
 have hp' : plnB t' = true := by unfold plnB at hp ⊢; rw [e1, e2]; exact hp
 show (if plnB t' = true then Except.ok (t'.t, r') else _) = _
 rw [if_pos hp', e2]
theorem num_loc {n : Int} {l r : List Tk} {x : Nat} (h : numP n l = .ok (x, r)) : Loc numP l x r := by
 obtain ⟨t, rfl, hk, hv, hx⟩ := numP_len h
 refine ⟨[t], rfl, fun n' pre' r' h1 _ => ?_⟩
 obtain ⟨t', b', rfl, e1, e2, h2⟩ := h1.cons
 rw [h2.nil]
 show (if t'.k = 2 then (if val t'.t ≤ 9007199254740991 then Except.ok (val t'.t, r') else _) else _) = _
 rw [if_pos (by rw [e1]; exact hk), e2, hv, if_pos hx]
theorem sign_loc {n : Int} {c : ByteArray} {l r : List Tk} {u : Tk} (h : signP n c l = .ok (u, r)) : l = u :: r ∧ ∀ n' pre' r', Lk [u] pre' → ∃ u', signP n' c (pre' ++ r') = .ok (u', r') ∧ pre' = [u'] := by
 obtain ⟨rfl, hu⟩ := signP_len h
 refine ⟨rfl, fun n' pre' r' h1 => ?_⟩
 obtain ⟨t', b', rfl, e1, e2, h2⟩ := h1.cons
 rw [h2.nil]
 refine ⟨t', ?_, rfl⟩
 show (if t'.t = c then _ else _) = _
 rw [if_pos (by rw [e2]; exact hu)]
 rfl
theorem arg_loc {n : Int} {ix : Bool} {l r : List Tk} {a : Ar} (h : argP n ix l = .ok (a, r)) : Loc (fun n => argP n ix) l a r := by
 unfold argP at h
 cases hn : nameP n l with
 | error e => rw [hn] at h; cases h
 | ok z =>
  obtain ⟨b, r1⟩ := z
  rw [hn] at h
  simp only at h
  obtain ⟨p1, rfl, L1⟩ := name_loc hn
  by_cases hc : ix = true ∧ seesB wLeft r1 = true
  ·rw [if_pos hc] at h
   cases hm : numP n r1.tail with
   | error e => rw [hm] at h; cases h
   | ok z =>
    obtain ⟨x, r2⟩ := z
    rw [hm] at h
    simp only at h
    cases hs : signP n wRight r2 with
    | error e => rw [hs] at h; cases h
    | ok z =>
     obtain ⟨u, r3⟩ := z
     rw [hs] at h
     cases h
     obtain ⟨t, r4, rfl, ht⟩ := seesB_cons hc.2
     simp only [List.tail_cons] at hm
     obtain ⟨p2, e2, L2⟩ := num_loc hm
     obtain ⟨e3, L3⟩ := sign_loc hs
     subst e3
     subst e2
     refine ⟨p1 ++ (t :: (p2 ++ [u])), by simp, fun n' pre' r' hl hh => ?_⟩
     obtain ⟨q1, q2, rfl, g1, g2⟩ := hl.split
     obtain ⟨t', q3, rfl, k1, k2, g3⟩ := g2.cons
     obtain ⟨q4, q5, rfl, g4, g5⟩ := g3.split
     obtain ⟨u', eu, rfl⟩ := L3 n' q5 r' g5
     have hh1 : HL (u :: r) (u' :: r') := by
      obtain ⟨v, w, e, m1, m2, _⟩ := g5.cons
      cases e
      show some (u.k, u.t) = some (u'.k, u'.t)
      rw [m1, m2]
     have N1 := L1 n' q1 (t' :: (q4 ++ (u' :: r'))) g1 (by show some (t.k, t.t) = some (t'.k, t'.t); rw [k1, k2])
     have N2 := L2 n' q4 (u' :: r') g4 hh1
     show argP n' ix (q1 ++ (t' :: (q4 ++ [u'])) ++ r') = _
     have e9 : q1 ++ (t' :: (q4 ++ [u'])) ++ r' = q1 ++ (t' :: (q4 ++ (u' :: r'))) := by simp
     rw [e9]
     unfold argP
     rw [N1]
     simp only
     rw [if_pos ⟨hc.1, by show decide (t'.t = wLeft) = true; rw [k2]; exact decide_eq_true ht⟩]
     simp only [List.tail_cons, N2]
     have eu : signP n' wRight (u' :: r') = .ok (u', r') := eu
     simp only [eu]
  ·rw [if_neg hc] at h
   cases h
   refine ⟨p1, rfl, fun n' pre' r' hl hh => ?_⟩
   show argP n' ix (pre' ++ r') = _
   unfold argP
   rw [L1 n' pre' r' hl hh]
   simp only
   rw [if_neg (by rw [← hh.sees]; exact hc)]
theorem args_loc {n : Int} {sh : Sh} : ∀ (f : Nat) {acc aa : List Ar} {l r : List Tk}, l.length < f → argsP n sh f acc l = .ok (aa, r) → Loc (fun n l => argsP n sh (l.length + 1) acc l) l aa r := by
 intro f
 induction f with
 | zero => intro acc aa l r h; omega
 | succ f ih =>
  intro acc aa l r hf h
  unfold argsP at h
  by_cases hm : moreB sh acc.length l = true
  ·rw [if_pos hm] at h
   cases ha : argP n sh.idx l with
   | error e => rw [ha] at h; cases h
   | ok z =>
    obtain ⟨a, r1⟩ := z
    rw [ha] at h
    have hl1 := argP_len ha
    obtain ⟨p2, e2, L2⟩ := ih (by omega) h
    obtain ⟨p1, e1, L1⟩ := arg_loc ha
    subst e2
    subst e1
    refine ⟨p1 ++ p2, by simp, fun n' pre' r' hl hh => ?_⟩
    obtain ⟨q1, q2, rfl, g1, g2⟩ := hl.split
    have hh2 := HL.app g2 hh
    have N1 := L1 n' q1 (q2 ++ r') g1 hh2
    have N2 := L2 n' q2 r' g2 hh
    have hm' : moreB sh acc.length (q1 ++ (q2 ++ r')) = true := by
     unfold moreB at hm ⊢
     rw [← (HL.app g1 hh2).sees]
     exact hm
    show argsP n' sh ((q1 ++ q2 ++ r').length + 1) acc (q1 ++ q2 ++ r') = _
    rw [List.append_assoc]
    unfold argsP
    rw [if_pos hm']
    have N1 : argP n' sh.idx (q1 ++ (q2 ++ r')) = .ok (a, q2 ++ r') := N1
    have hl2 := argP_len N1
    rw [N1]
    show argsP n' sh (q1 ++ (q2 ++ r')).length (acc ++ [a]) (q2 ++ r') = _
    rw [args_fuel _ _ _ hl2]
    exact N2
  ·rw [if_neg hm] at h
   cases h
   refine ⟨[], rfl, fun n' pre' r' hl hh => ?_⟩
   rw [hl.nil]
   show argsP n' sh (r'.length + 1) acc r' = _
   unfold argsP
   rw [if_neg (by unfold moreB at hm ⊢; rw [← hh.sees]; exact hm)]
theorem optName_loc {n : Int} {b : Bool} {l r : List Tk} {a : ByteArray} (h : optName n b l = .ok (a, r)) : Loc (fun n => optName n b) l a r := by
 unfold optName at h
 by_cases e : b = true
 ·rw [if_pos e] at h
  obtain ⟨pre, e1, L⟩ := name_loc h
  exact ⟨pre, e1, fun n' pre' r' hl hh => by show optName n' b _ = _; unfold optName; rw [if_pos e]; exact L n' pre' r' hl hh⟩
 ·rw [if_neg e] at h
  cases h
  exact ⟨[], rfl, fun n' pre' r' hl hh => by rw [hl.nil]; show optName n' b _ = _; unfold optName; rw [if_neg e]; rfl⟩
theorem optNum_loc {n : Int} {b : Bool} {l r : List Tk} {a : Nat} (h : optNum n b l = .ok (a, r)) : Loc (fun n => optNum n b) l a r := by
 unfold optNum at h
 by_cases e : b = true
 ·rw [if_pos e] at h
  obtain ⟨pre, e1, L⟩ := num_loc h
  exact ⟨pre, e1, fun n' pre' r' hl hh => by show optNum n' b _ = _; unfold optNum; rw [if_pos e]; exact L n' pre' r' hl hh⟩
 ·rw [if_neg e] at h
  cases h
  exact ⟨[], rfl, fun n' pre' r' hl hh => by rw [hl.nil]; show optNum n' b _ = _; unfold optNum; rw [if_neg e]; rfl⟩
theorem mid_loc {n : Int} {sh : Sh} {l r : List Tk} {nm : ByteArray} {aa : List Ar} {x : Nat} {p : Int} (h : midP n sh l = .ok ((nm, aa, x, p), r)) :
  ∃ pre, l = pre ++ r ∧ ∀ n' pre' r', Lk pre pre' → ∃ p', midP n' sh (pre' ++ r') = .ok ((nm, aa, x, p'), r') := by
 obtain ⟨l1, l2, l3, u, h1, h2, h3, h4, _⟩ := mid_cases h
 obtain ⟨p1, e1, L1⟩ := optName_loc h1
 obtain ⟨p2, e2, L2⟩ := args_loc _ (Nat.lt_succ_self _) h2
 obtain ⟨p3, e3, L3⟩ := optNum_loc h3
 obtain ⟨e4, L4⟩ := sign_loc h4
 subst e4
 subst e3
 subst e2
 subst e1
 refine ⟨p1 ++ (p2 ++ (p3 ++ [u])), by simp, fun n' pre' r' hl => ?_⟩
 obtain ⟨q1, m1, rfl, g1, hl⟩ := hl.split
 obtain ⟨q2, m2, rfl, g2, hl⟩ := hl.split
 obtain ⟨q3, q4, rfl, g3, g4⟩ := hl.split
 obtain ⟨u', eu, rfl⟩ := L4 n' q4 r' g4
 have eu : signP n' (lastS sh) (u' :: r') = .ok (u', r') := eu
 have k3 : HL (u :: r) (u' :: r') := by
  obtain ⟨v, w, e, m1, m2, _⟩ := g4.cons
  cases e
  show some (u.k, u.t) = some (u'.k, u'.t)
  rw [m1, m2]
 have k2 := HL.app g3 k3
 have k1 := HL.app g2 k2
 have N1 : optName n' sh.name (q1 ++ (q2 ++ (q3 ++ (u' :: r')))) = .ok (nm, q2 ++ (q3 ++ (u' :: r'))) := L1 n' q1 _ g1 k1
 have N2 : argsP n' sh ((q2 ++ (q3 ++ (u' :: r'))).length + 1) [] (q2 ++ (q3 ++ (u' :: r'))) = .ok (aa, q3 ++ (u' :: r')) := L2 n' q2 _ g2 k2
 have N3 : optNum n' sh.num (q3 ++ (u' :: r')) = .ok (x, u' :: r') := L3 n' q3 _ g3 k3
 have e9 : q1 ++ (q2 ++ (q3 ++ [u'])) ++ r' = q1 ++ (q2 ++ (q3 ++ (u' :: r'))) := by simp
 rw [e9]
 exact ⟨u'.p, mid_ok N1 N2 N3 eu⟩
def rk (r : Rw) : Rw := ⟨r.kind, r.name, r.args, r.num, r.rows, 0⟩
def RL (a b : List Rw) : Prop := a.map rk = b.map rk
theorem RL.len {a b : List Rw} (h : RL a b) : a.length = b.length := by have := congrArg List.length h; simpa using this
theorem RL.app {a b c d : List Rw} (h : RL a b) (g : RL c d) : RL (a ++ c) (b ++ d) := by unfold RL at *; rw [List.map_append, List.map_append, h, g]
theorem RL.cons {r s : Rw} {a b : List Rw} (h : rk r = rk s) (g : RL a b) : RL (r :: a) (s :: b) := by unfold RL at *; rw [List.map_cons, List.map_cons, h, g]
def LocS (rec : Nat → List Tk → Except Fa (List Rw × List Tk)) (rec' : Int → Nat → List Tk → Except Fa (List Rw × List Tk)) : Prop :=
 ∀ d l rs r, rec d l = .ok (rs, r) → seesB wShut r = true ∧ ∃ pre, l = pre ++ r ∧ ∀ n' pre' r', Lk pre pre' → HL r r' → ∃ rs', rec' n' d (pre' ++ r') = .ok (rs', r') ∧ RL rs rs'
theorem sh_like {t t' : Tk} (h : t'.t = t.t) : shK t' = shK t ∧ kindK t' = kindK t ∧ ∀ u, restK t' u = if ownB t.t = true then u else t' :: u := by
 have e : kindK t' = kindK t := by unfold kindK; rw [h]
 exact ⟨by unfold shK; rw [e], e, fun u => by unfold restK; rw [h]⟩
theorem stmt_loc {n : Int} {rec : Nat → List Tk → Except Fa (List Rw × List Tk)} {rec' : Int → Nat → List Tk → Except Fa (List Rw × List Tk)} (hrec : LocS rec rec') {d : Nat} {l r : List Tk} {rs : List Rw} (h : stmtP n rec d l = .ok (rs, r)) :
  ∃ pre, pre ≠ [] ∧ l = pre ++ r ∧ ∀ n' pre' r', Lk pre pre' → ∃ rs', stmtP n' (rec' n') d (pre' ++ r') = .ok (rs', r') ∧ RL rs rs' := by
 obtain ⟨t, u, nm, aa, x, p, l4, rfl, hm, hc⟩ := stmt_cases h
 obtain ⟨pm, em, LM⟩ := mid_loc hm
 obtain ⟨m, hu, LT⟩ : ∃ m, u = m ++ l4 ∧ ∀ n' t' m' r', t'.k = t.k → t'.t = t.t → Lk m m' → ∃ p', midP n' (shK t') (restK t' (m' ++ r')) = .ok ((nm, aa, x, p'), r') := by
  by_cases ho : ownB t.t = true
  ·have er : restK t u = u := by unfold restK; rw [if_pos ho]
   rw [er] at em
   refine ⟨pm, em, fun n' t' m' r' e1 e2 hl => ?_⟩
   obtain ⟨k1, _, k3⟩ := sh_like e2
   rw [k1, k3, if_pos ho]
   exact LM n' m' r' hl
  ·have er : restK t u = t :: u := by unfold restK; rw [if_neg ho]
   rw [er] at em
   have hlen := midP_len hm
   rw [er] at hlen
   cases pm with
   | nil => rw [em] at hlen; simp at hlen
   | cons t0 pm =>
    cases em
    refine ⟨pm, rfl, fun n' t' m' r' e1 e2 hl => ?_⟩
    obtain ⟨k1, _, k3⟩ := sh_like e2
    rw [k1, k3, if_neg ho]
    exact LM n' (t' :: m') r' (by unfold Lk kt at *; rw [List.map_cons, List.map_cons, e1, e2, hl])
 subst hu
 rcases hc with ⟨hb, rfl, rfl⟩ | ⟨hb, hd, rs2, l5, hr, rfl, rfl⟩
 ·refine ⟨t :: m, by simp, rfl, fun n' pre' r' hl => ?_⟩
  obtain ⟨t', m', rfl, e1, e2, hl⟩ := hl.cons
  obtain ⟨p', h'⟩ := LT n' t' m' r' e1 e2 hl
  obtain ⟨k1, k2, _⟩ := sh_like e2
  exact ⟨_, stmt_flat h' (by rw [k1]; exact hb), RL.cons (by rw [k2]; rfl) rfl⟩
 ·obtain ⟨hsee, pb, eb, LB⟩ := hrec _ _ _ _ hr
  obtain ⟨s, r5, e5, hs⟩ := seesB_cons hsee
  subst e5
  subst eb
  refine ⟨t :: (m ++ (pb ++ [s])), by simp, by simp, fun n' pre' r' hl => ?_⟩
  obtain ⟨t', m', rfl, e1, e2, hl⟩ := hl.cons
  obtain ⟨m1, m2, rfl, g1, hl⟩ := hl.split
  obtain ⟨b1, b2, rfl, g2, g3⟩ := hl.split
  obtain ⟨s', b3, rfl, s1, s2, g4⟩ := g3.cons
  rw [g4.nil]
  obtain ⟨p', h'⟩ := LT n' t' m1 (b1 ++ (s' :: r')) e1 e2 g1
  obtain ⟨rs', hB, hRL⟩ := LB n' b1 (s' :: r') g2 (by show some (s.k, s.t) = some (s'.k, s'.t); rw [s1, s2])
  obtain ⟨k1, k2, _⟩ := sh_like e2
  have h5 : bodyP (rec' n') d p' (b1 ++ (s' :: r')) = .ok (rs', r') := by unfold bodyP; rw [if_neg hd, hB]; rfl
  have e9 : t' :: (m1 ++ (b1 ++ [s'])) ++ r' = t' :: (m1 ++ (b1 ++ (s' :: r'))) := by simp
  rw [e9]
  refine ⟨_, stmt_bo h' (by rw [k1]; exact hb) h5, RL.cons ?_ hRL⟩
  rw [k2]
  unfold rk
  rw [hRL.len]
theorem stmts_loc {n : Int} : ∀ (f : Nat), LocS (stmtsP n f) (fun n' => stmtsP n' f) := by
 intro f
 induction f with
 | zero => intro d l rs r h; cases h
 | succ f ih =>
  intro d l rs r h
  refine ⟨(stmts_short _ _ _ _ _ h).2, ?_⟩
  rcases stmts_cases h with ⟨h1, rfl, rfl⟩ | ⟨h1, rs1, r1, rs2, h2, h3, rfl⟩
  ·refine ⟨[], rfl, fun n' pre' r' hl hh => ⟨[], ?_, rfl⟩⟩
   rw [hl.nil]
   show stmtsP n' (f + 1) d r' = _
   unfold stmtsP
   rw [if_pos (by rw [← hh.sees]; exact h1)]
  ·obtain ⟨p1, hne, e1, L1⟩ := stmt_loc ih h2
   obtain ⟨_, p2, e2, L2⟩ := ih _ _ _ _ h3
   subst e2
   subst e1
   refine ⟨p1 ++ p2, by simp, fun n' pre' r' hl hh => ?_⟩
   obtain ⟨q1, q2, rfl, g1, g2⟩ := hl.split
   obtain ⟨a1, k1, m1⟩ := L1 n' q1 (q2 ++ r') g1
   obtain ⟨a2, k2, m2⟩ := L2 n' q2 r' g2 hh
   have k2 : stmtsP n' f d (q2 ++ r') = .ok (a2, r') := k2
   refine ⟨a1 ++ a2, ?_, m1.app m2⟩
   rw [List.append_assoc]
   show stmtsP n' (f + 1) d (q1 ++ (q2 ++ r')) = _
   unfold stmtsP
   rw [if_neg (by rw [← (HL.app g1 (HL.app g2 hh)).sees, h1]; decide), k1]
   show (match stmtsP n' f d (q2 ++ r') with | .error e => _ | .ok (rs2, r2) => _) = _
   rw [k2]
theorem prog_step {n : Int} {f : Nat} {l r1 : List Tk} {rs1 rs2 : List Rw} (h1 : stmtP n (stmtsP n f) 0 l = .ok (rs1, r1)) (h2 : progP n f r1 = .ok rs2) : progP n (f + 1) l = .ok (rs1 ++ rs2) := by
 cases l with
 | nil => cases h1
 | cons t u =>
  unfold progP
  rw [h1]
  show (match progP n f r1 with | .error e => _ | .ok rs2 => _) = _
  rw [h2]
theorem prog_loc {n : Int} : ∀ (f : Nat) (l : List Tk) (rs : List Rw), progP n f l = .ok rs → ∀ n' l', Lk l l' → ∃ rs', progP n' f l' = .ok rs' ∧ RL rs rs' := by
 intro f
 induction f with
 | zero => intro l rs h; cases h
 | succ f ih =>
  intro l rs h n' l' hl
  rcases prog_cases h with ⟨rfl, rfl⟩ | ⟨hne, rs1, r1, rs2, h2, h3, rfl⟩
  ·rw [hl.nil]; exact ⟨[], rfl, rfl⟩
  ·obtain ⟨p1, hne1, e1, L1⟩ := stmt_loc (stmts_loc f) h2
   subst e1
   obtain ⟨q1, q2, rfl, g1, g2⟩ := hl.split
   obtain ⟨a1, k1, m1⟩ := L1 n' q1 q2 g1
   obtain ⟨a2, k2, m2⟩ := ih _ _ h3 n' q2 g2
   exact ⟨a1 ++ a2, prog_step k1 k2, m1.app m2⟩
end Go.Proofs.YtdjfpghgklkejaaGreatDoor
namespace Go.Proofs.YtdjfpghgklkejaaGreatDoor
theorem valL_app (l : List UInt8) (c : UInt8) : valL (l ++ [c]) = valL l * 10 + (c.toNat - 48) := by
  unfold valL
  rw [List.foldl_append]
  rfl
theorem val_dec : ∀ u : Nat, valL (Lib.decDigits u) = u := by
  intro u
  induction u using Nat.strongRecOn with
  | ind u ih =>
    rw [Lib.decDigits]
    by_cases h : u < 10
    · rw [dif_pos h]
      show 0 * 10 + ((UInt8.ofNat (48 + u)).toNat - 48) = u
      rw [UInt8.toNat_ofNat']
      omega
    · rw [dif_neg h, valL_app, ih (u / 10) (by omega), UInt8.toNat_ofNat']
      omega
theorem dec_ds : ∀ u : Nat, Ds (Lib.decDigits u) ∧ Lib.decDigits u ≠ [] := by
  intro u
  induction u using Nat.strongRecOn with
  | ind u ih =>
    rw [Lib.decDigits]
    by_cases h : u < 10
    · rw [dif_pos h]
      refine ⟨fun b hb => ?_, by simp⟩
      rw [List.mem_singleton] at hb
      subst hb
      rw [UInt8.toNat_ofNat']
      omega
    · rw [dif_neg h]
      refine ⟨fun b hb => ?_, by simp⟩
      rcases List.mem_append.1 hb with hb | hb
      · exact (ih (u / 10) (by omega)).1 b hb
      · rw [List.mem_singleton] at hb
        subst hb
        rw [UInt8.toNat_ofNat']
        omega
theorem itoa_dec {x : Int} (h : 0 ≤ x) : Lib.itoa x = Lib.decDigits x.toNat := by unfold Lib.itoa; rw [if_neg (by omega)]
theorem val_num {x : Int} (h : 0 ≤ x) : val (numT x) = x.toNat := by
  show valL (Lib.itoa x).toArray.toList = _
  rw [List.toList_toArray, itoa_dec h, val_dec]
theorem numOk_p {x : Int} : numOk x = true ↔ 0 ≤ x ∧ x ≤ 9007199254740991 := by simp [numOk]
theorem argOk_p {ix : Bool} {a : Ar} : argOk ix a = true ↔ plnN a.n = true ∧ (a.x = -1 ∨ (ix = true ∧ numOk a.x = true)) := by simp [argOk]
theorem plnN_p {s : ByteArray} : plnN s = true ↔ nmB s = true ∧ ownB s = false := by simp [plnN]
theorem nameP_tk {n : Int} {s : ByteArray} {r : List Tk} (h : plnN s = true) : nameP n (tkN s :: r) = .ok (s, r) := by
  have hp : plnB (tkN s) = true := by
    unfold plnB tkN
    simp [(plnN_p.1 h).2]
  show (if plnB (tkN s) = true then _ else _) = _
  rw [if_pos hp]
  rfl
theorem numP_tk {n : Int} {x : Int} {r : List Tk} (h : numOk x = true) : numP n (tkD x :: r) = .ok (x.toNat, r) := by
  obtain ⟨h1, h2⟩ := numOk_p.1 h
  have e : numP n (tkD x :: r) = (if (2 : Int) = 2 then (if val (numT x) ≤ 9007199254740991 then .ok (val (numT x), r) else .error ((0 : Int), 1)) else .error ((0 : Int), 100)) := rfl
  rw [e, if_pos rfl, val_num h1, if_pos (by omega)]
theorem signP_tk {n : Int} {c : ByteArray} {r : List Tk} : signP n c (tkS c :: r) = .ok (tkS c, r) := by
  show (if c = c then _ else _) = _
  rw [if_pos rfl]
theorem nm_first {s : ByteArray} (h : nmB s = true) : isL (cb s 0) = true ∧ 0 < s.size := by
  unfold nmB at h
  have h1 : isL (cb s 0) = true := by
    cases e : isL (cb s 0) with
    | true => rfl
    | false => rw [e] at h; cases h
  exact ⟨h1, in_of (p := isL) (by decide) h1⟩
theorem nm_ne {s : ByteArray} (h : nmB s = true) (c : UInt8) (hc : isL c.toNat = false) (r : List UInt8) : s ≠ ⟨(c :: r).toArray⟩ := by
  intro e
  obtain ⟨h1, h2⟩ := nm_first h
  rw [cb_list, e] at h1
  simp at h1
  rw [hc] at h1
  cases h1
theorem argP_tk {n : Int} {ix : Bool} {a : Ar} {r : List Tk} (h : argOk ix a = true) (hr : seesB wLeft r = false) : argP n ix (argK a ++ r) = .ok (a, r) := by
  obtain ⟨h1, h2⟩ := argOk_p.1 h
  unfold argP argK
  rw [List.cons_append, nameP_tk h1]
  simp only
  rcases h2 with h2 | ⟨rfl, h2⟩
  · rw [if_neg (show ¬ 0 ≤ a.x by omega)]
    rw [List.nil_append, if_neg (by rw [hr]; simp)]
    rw [← h2]
  · obtain ⟨g1, g2⟩ := numOk_p.1 h2
    rw [if_pos g1]
    rw [if_pos ⟨rfl, by show decide (wLeft = wLeft) = true; simp⟩]
    show (match numP n (tkD a.x :: tkS wRight :: r) with | .error e => Except.error e | .ok (x, r2) => match signP n wRight r2 with | .error e => .error e | .ok (_, r3) => .ok ((⟨a.n, x⟩ : Ar), r3)) = _
    rw [numP_tk h2]
    simp only [signP_tk]
    rw [Int.toNat_of_nonneg g1]
theorem args_tk {n : Int} {sh : Sh} : ∀ (args acc : List Ar) (f : Nat) (Y : List Tk), args.all (argOk sh.idx) = true → args.length < f → seesB wLeft Y = false →
    (sh.args = -1 → seesB (lastS sh) Y = true) → (sh.args ≠ -1 → ((acc.length + args.length : Nat) : Int) = sh.args) → argsP n sh f acc (argsT args ++ Y) = .ok (acc ++ args, Y)
  | [], acc, f, Y, _, hf, _, h1, h2 => by
    obtain ⟨g, rfl⟩ : ∃ g, f = g + 1 := ⟨f - 1, by simp at hf; omega⟩
    show (if moreB sh acc.length Y = true then _ else _) = _
    have hm : moreB sh acc.length Y = false := by
      unfold moreB
      by_cases e : sh.args = -1
      · rw [h1 e, e]; simp
      · have := h2 e
        simp at this
        rw [decide_eq_false e, decide_eq_false (by omega)]
        rfl
    rw [hm, List.append_nil]
    rfl
  | a :: args, acc, f, Y, ha, hf, hY, h1, h2 => by
    obtain ⟨g, rfl⟩ : ∃ g, f = g + 1 := ⟨f - 1, by simp at hf; omega⟩
    rw [List.all_cons, Bool.and_eq_true] at ha
    have hn := (argOk_p.1 ha.1).1
    have e : argsT (a :: args) ++ Y = argK a ++ (argsT args ++ Y) := by unfold argsT; rw [List.flatMap_cons, List.append_assoc]
    rw [e]
    have hm : moreB sh acc.length (argK a ++ (argsT args ++ Y)) = true := by
      unfold moreB
      by_cases e : sh.args = -1
      · have : seesB (lastS sh) (argK a ++ (argsT args ++ Y)) = false := by
          show decide (a.n = lastS sh) = false
          rw [decide_eq_false]
          unfold lastS
          by_cases hb : sh.body = true
          · rw [if_pos hb]; exact nm_ne (plnN_p.1 hn).1 123 (by decide) []
          · rw [if_neg hb]; exact nm_ne (plnN_p.1 hn).1 59 (by decide) []
        rw [this, e]
        simp
      · have := h2 e
        simp at this
        rw [decide_eq_true (by omega)]
        rfl
    show (if moreB sh acc.length (argK a ++ (argsT args ++ Y)) = true then _ else _) = _
    rw [if_pos hm]
    have hs : seesB wLeft (argsT args ++ Y) = false := by
      cases args with
      | nil => exact hY
      | cons b l =>
        show decide (b.n = wLeft) = false
        rw [decide_eq_false]
        have hb : argOk sh.idx b = true := by
          have := ha.2
          rw [List.all_cons, Bool.and_eq_true] at this
          exact this.1
        exact nm_ne (plnN_p.1 (argOk_p.1 hb).1).1 91 (by decide) []
    rw [argP_tk ha.1 hs]
    simp only
    rw [args_tk args (acc ++ [a]) g Y ha.2 (by simp at hf; omega) hY h1 (fun e => by have := h2 e; simp at this ⊢; omega)]
    simp
theorem shR_cases {r : Rw} (h : (shp r.kind).isSome = true) : shR r = shDecl ∨ shR r = shGate ∨ shR r = shRepeat ∨ shR r = shIf ∨ shR r = shMeasure ∨ shR r = shReset ∨ shR r = shUse := by
  unfold shR
  rcases shp_cases r.kind with ⟨_, e, _⟩ | ⟨_, e, _⟩ | ⟨_, e, _⟩ | ⟨_, e, _⟩ | ⟨_, e, _⟩ | ⟨_, e, _⟩ | ⟨_, e, _⟩ | ⟨_, e, _⟩ | ⟨_, _, _, _, _, _, _, _, e, _⟩ <;> rw [e] at h ⊢ <;> simp at h ⊢
theorem mid_tk {n : Int} {r : Rw} {X : List Tk} (hk : (shp r.kind).isSome = true) (hf : fitB r (shR r) = true) :
    midP n (shR r) (nameT r (shR r) ++ (argsT r.args ++ (numTk r (shR r) ++ [tkS (lastS (shR r))])) ++ X) = .ok ((r.name, r.args, r.num.toNat, 0), X) := by
  unfold fitB at hf
  simp only [Bool.and_eq_true] at hf
  obtain ⟨⟨⟨hf1, hf2⟩, hf3⟩, hf4⟩ := hf
  have h1 : optName n (shR r).name (nameT r (shR r) ++ (argsT r.args ++ (numTk r (shR r) ++ [tkS (lastS (shR r))])) ++ X) = .ok (r.name, argsT r.args ++ (numTk r (shR r) ++ tkS (lastS (shR r)) :: X)) := by
    have e : argsT r.args ++ (numTk r (shR r) ++ [tkS (lastS (shR r))]) ++ X = argsT r.args ++ (numTk r (shR r) ++ tkS (lastS (shR r)) :: X) := by simp
    unfold optName nameT
    rw [List.append_assoc, e]
    cases hb : (shR r).name with
    | true => rw [hb, if_pos rfl] at hf1; rw [if_pos rfl, if_pos rfl]; exact nameP_tk hf1
    | false => rw [hb] at hf1; rw [if_neg (by simp), if_neg (by simp)]; rw [of_decide_eq_true hf1]; rfl
  have h3 : optNum n (shR r).num (numTk r (shR r) ++ tkS (lastS (shR r)) :: X) = .ok (r.num.toNat, tkS (lastS (shR r)) :: X) := by
    unfold optNum numTk
    cases hb : (shR r).num with
    | true => rw [hb, if_pos rfl] at hf2; rw [if_pos rfl, if_pos rfl]; exact numP_tk hf2
    | false => rw [hb] at hf2; rw [if_neg (by simp), if_neg (by simp)]; rw [of_decide_eq_true hf2]; rfl
  have h2 : argsP n (shR r) ((argsT r.args ++ (numTk r (shR r) ++ tkS (lastS (shR r)) :: X)).length + 1) [] (argsT r.args ++ (numTk r (shR r) ++ tkS (lastS (shR r)) :: X)) = .ok (r.args, numTk r (shR r) ++ tkS (lastS (shR r)) :: X) := by
    have hlen : r.args.length ≤ (argsT r.args).length := by
      unfold argsT
      induction r.args with
      | nil => exact Nat.le_refl _
      | cons a l ih =>
        have : 1 ≤ (argK a).length := by unfold argK; rw [List.length_cons]; omega
        rw [List.flatMap_cons, List.length_append, List.length_cons]
        omega
    by_cases e : (shR r).args = -1
    · have hn : (shR r).num = false := by
        rcases shR_cases hk with h | h | h | h | h | h | h <;> rw [h] at e ⊢ <;> first | rfl | (simp at e)
      have hY : numTk r (shR r) ++ tkS (lastS (shR r)) :: X = tkS (lastS (shR r)) :: X := by unfold numTk; rw [hn]; rfl
      rw [hY]
      refine args_tk r.args [] _ _ hf4 (by rw [List.length_append]; omega) ?_ (fun _ => by show decide (lastS (shR r) = lastS (shR r)) = true; simp) (fun h => absurd e h)
      show decide (lastS (shR r) = wLeft) = false
      unfold lastS
      by_cases hb : (shR r).body = true
      · rw [if_pos hb]; decide
      · rw [if_neg hb]; decide
    · have hl : ((r.args.length : Nat) : Int) = (shR r).args := by
        rcases Bool.or_eq_true _ _ ▸ hf3 with h | h
        · exact absurd (of_decide_eq_true h) e
        · exact of_decide_eq_true h
      by_cases h0 : r.args = []
      · rw [h0] at hl ⊢
        show argsP n (shR r) (_ + 1) [] (numTk r (shR r) ++ tkS (lastS (shR r)) :: X) = _
        unfold argsP
        have hm : moreB (shR r) ([] : List Ar).length (numTk r (shR r) ++ tkS (lastS (shR r)) :: X) = false := by
          unfold moreB
          rw [decide_eq_false e, ← hl]
          rfl
        rw [hm]
        rfl
      · have hn : (shR r).num = false := by
          have : (shR r).args ≠ 0 := fun e0 => h0 (by rw [e0] at hl; exact List.length_eq_zero_iff.1 (by omega))
          rcases shR_cases hk with h | h | h | h | h | h | h <;> rw [h] at this ⊢ <;> first | rfl | (simp at this)
        have hY : numTk r (shR r) ++ tkS (lastS (shR r)) :: X = tkS (lastS (shR r)) :: X := by unfold numTk; rw [hn]; rfl
        rw [hY]
        refine args_tk r.args [] _ _ hf4 (by rw [List.length_append]; omega) ?_ (fun h => absurd h e) (fun _ => by simpa using hl)
        show decide (lastS (shR r) = wLeft) = false
        unfold lastS
        by_cases hb : (shR r).body = true
        · rw [if_pos hb]; decide
        · rw [if_neg hb]; decide
  unfold midP
  rw [h1]
  simp only [h2, h3, signP_tk]
  rfl
theorem head_tk {r : Rw} (hk : (shp r.kind).isSome = true) (hf : fitB r (shR r) = true) : ∃ t u, headK r (shR r) = t :: u ∧ shK t = shR r ∧ kindK t = r.kind ∧ t.p = 0 ∧ t.t ≠ wShut ∧ ∀ X, restK t (u ++ X) = nameT r (shR r) ++ (argsT r.args ++ (numTk r (shR r) ++ [tkS (lastS (shR r))])) ++ X := by
  by_cases hu : r.kind = wUse
  · have hs : shR r = shUse := by unfold shR; rw [hu]; rfl
    have hn : plnN r.name = true := by
      unfold fitB at hf
      simp only [Bool.and_eq_true] at hf
      have := hf.1.1.1
      rwa [hs, if_pos rfl] at this
    have ho := (plnN_p.1 hn).2
    refine ⟨tkN r.name, argsT r.args ++ (numTk r (shR r) ++ [tkS (lastS (shR r))]), ?_, ?_, ?_, rfl, ?_, fun X => ?_⟩
    · unfold headK kindT nameT; rw [if_pos hu, hs]; rfl
    · unfold shK kindK; show (shp (if ownB r.name = true then r.name else wUse)).getD shNone = _; rw [ho, hs, if_neg (by simp)]; rfl
    · unfold kindK; show (if ownB r.name = true then _ else _) = _; rw [ho, hu]; rfl
    · exact nm_ne (plnN_p.1 hn).1 125 (by decide) []
    · unfold restK; show (if ownB r.name = true then _ else _) = _; rw [ho]; unfold nameT; rw [hs]; rfl
  · have ho : ownB r.kind = true := by
      rcases shp_cases r.kind with ⟨_, _, o⟩ | ⟨_, _, o⟩ | ⟨_, _, o⟩ | ⟨_, _, o⟩ | ⟨_, _, o⟩ | ⟨_, _, o⟩ | ⟨_, _, o⟩ | ⟨e, _, _⟩ | ⟨_, _, _, _, _, _, _, _, e, _⟩
      all_goals first | exact o | exact absurd e hu | (rw [e] at hk; cases hk)
    refine ⟨tkN r.kind, nameT r (shR r) ++ (argsT r.args ++ (numTk r (shR r) ++ [tkS (lastS (shR r))])), ?_, ?_, ?_, rfl, ?_, fun X => ?_⟩
    · unfold headK kindT; rw [if_neg hu]; rfl
    · unfold shK kindK shR; show (shp (if ownB r.kind = true then r.kind else _)).getD _ = _; rw [if_pos ho]
    · unfold kindK; show (if ownB r.kind = true then r.kind else _) = _; rw [if_pos ho]
    · intro e
      have e : r.kind = wShut := e
      rw [e] at ho
      revert ho
      decide
    · unfold restK; show (if ownB r.kind = true then _ else _) = _; rw [if_pos ho]
theorem chk_cons {f d : Nat} {r : Rw} {rs : List Rw} (h : chk (f + 1) d (r :: rs) = true) : (shp r.kind).isSome = true ∧ fitB r (shR r) = true ∧ 0 ≤ r.rows ∧ r.rows ≤ (rs.length : Int) ∧ (((shR r).body = true ∧ d < 32 ∧ chk f (d + 1) (rs.take r.rows.toNat) = true) ∨ ((shR r).body = false ∧ r.rows = 0)) ∧ chk f d (rs.drop r.rows.toNat) = true := by
  unfold chk at h
  simp only [Bool.and_eq_true, decide_eq_true_eq] at h
  obtain ⟨⟨⟨⟨⟨h1, h2⟩, h3⟩, h4⟩, h5⟩, h6⟩ := h
  refine ⟨h1, h2, h3, h4, ?_, h6⟩
  cases hb : (shR r).body with
  | true => rw [hb, if_pos rfl] at h5; simp only [Bool.and_eq_true, decide_eq_true_eq] at h5; exact .inl ⟨rfl, h5.1, h5.2⟩
  | false => rw [hb] at h5; exact .inr ⟨rfl, by simpa using h5⟩
theorem stmt_tk {n : Int} {F g d : Nat} {r : Rw} {X : List Tk} {rest : List Rw} (h : chk (F + 1) d (r :: rest) = true)
    (hrec : (shR r).body = true → ∀ Z, stmtsP n g (d + 1) (bodyK F (rest.take r.rows.toNat) ++ tkS wShut :: Z) = .ok ((rest.take r.rows.toNat).map rk, tkS wShut :: Z)) :
    stmtP n (stmtsP n g) d (headK r (shR r) ++ ((if (shR r).body = true then bodyK F (rest.take r.rows.toNat) ++ [tkS wShut] else []) ++ X)) = .ok ((r :: rest.take r.rows.toNat).map rk, X) := by
  obtain ⟨h1, h2, h3, h4, h5, h6⟩ := chk_cons h
  obtain ⟨t, u, e, hsh, hkd, hp, _, hr⟩ := head_tk h1 h2
  have hnum : ((r.num.toNat : Nat) : Int) = r.num := by
    unfold fitB at h2
    simp only [Bool.and_eq_true] at h2
    have := h2.1.1.2
    cases hb : (shR r).num with
    | true => rw [hb, if_pos rfl] at this; exact Int.toNat_of_nonneg (numOk_p.1 this).1
    | false => rw [hb] at this; have : r.num = 0 := by simpa using this
               rw [this]; rfl
  rw [e, List.cons_append]
  show (match midP n (shK t) (restK t _) with | .error e => _ | .ok ((nm, aa, x, p), l4) => _) = _
  rw [hsh, hr, mid_tk h1 h2]
  simp only
  rcases h5 with ⟨hb, hd, hc⟩ | ⟨hb, h0⟩
  · rw [hb, if_pos rfl, if_neg (by omega), if_pos rfl, List.append_assoc, List.singleton_append, hrec hb X]
    simp only [List.tail_cons, List.map_cons, hkd, hp]
    have hl : (((rest.take r.rows.toNat).map rk).length : Int) = r.rows := by rw [List.length_map, List.length_take]; omega
    rw [hl, hnum]
    rfl
  · rw [hb, if_neg (by simp), if_neg (by simp), List.nil_append, h0, hkd, hp, hnum]
    show Except.ok ([(⟨r.kind, r.name, r.args, r.num, 0, 0⟩ : Rw)], X) = .ok ([rk r], X)
    unfold rk
    rw [h0]
theorem body_tk {n : Int} : ∀ (F d : Nat) (rs : List Rw) (f : Nat) (Z : List Tk), rs.length ≤ F → chk F d rs = true → rs.length < f → stmtsP n f d (bodyK F rs ++ tkS wShut :: Z) = .ok (rs.map rk, tkS wShut :: Z) := by
  have hsh : ∀ (f d : Nat) (Z : List Tk), stmtsP n (f + 1) d (tkS wShut :: Z) = .ok ([], tkS wShut :: Z) := fun f d Z => by
    unfold stmtsP
    rw [if_pos (show seesB wShut (tkS wShut :: Z) = true by show decide (wShut = wShut) = true; simp)]
  intro F
  induction F with
  | zero =>
    intro d rs f Z hl _ hf
    obtain rfl : rs = [] := List.length_eq_zero_iff.1 (by omega)
    obtain ⟨g, rfl⟩ : ∃ g, f = g + 1 := ⟨f - 1, by simp at hf; omega⟩
    exact hsh g d Z
  | succ F ih =>
    intro d rs f Z hl hc hf
    obtain ⟨g, rfl⟩ : ∃ g, f = g + 1 := ⟨f - 1, by omega⟩
    cases rs with
    | nil => exact hsh g d Z
    | cons r rs =>
      simp only [List.length_cons] at hl hf
      obtain ⟨h1, h2, h3, h4, h5, h6⟩ := chk_cons hc
      obtain ⟨t, u, e, _, _, _, hns, _⟩ := head_tk h1 h2
      have ht : (rs.take r.rows.toNat).length ≤ rs.length := by rw [List.length_take]; omega
      have hdr : (rs.drop r.rows.toNat).length ≤ rs.length := by rw [List.length_drop]; omega
      have E : bodyK (F + 1) (r :: rs) ++ tkS wShut :: Z = headK r (shR r) ++ ((if (shR r).body = true then bodyK F (rs.take r.rows.toNat) ++ [tkS wShut] else []) ++ (bodyK F (rs.drop r.rows.toNat) ++ tkS wShut :: Z)) := by
        show (headK r (shR r) ++ (_ ++ _)) ++ _ = _
        simp only [List.append_assoc]
      have S := stmt_tk (n := n) (F := F) (g := g) (X := bodyK F (rs.drop r.rows.toNat) ++ tkS wShut :: Z) hc (fun hb Z => by
        rcases h5 with ⟨_, _, hcc⟩ | ⟨hb', _⟩
        · exact ih (d + 1) _ g Z (by omega) hcc (by omega)
        · rw [hb] at hb'; cases hb')
      rw [E]
      unfold stmtsP
      rw [if_neg (show ¬ seesB wShut (headK r (shR r) ++ _) = true by rw [e]; show ¬ decide (t.t = wShut) = true; simpa using hns), S]
      simp only
      rw [ih d _ g Z (by omega) h6 (by omega)]
      simp only [← List.map_append]
      rw [List.cons_append, List.take_append_drop]
theorem prog_tk {n : Int} : ∀ (F : Nat) (rs : List Rw) (f : Nat), rs.length ≤ F → chk F 0 rs = true → rs.length < f → progP n f (bodyK F rs) = .ok (rs.map rk) := by
  have hno : ∀ (f : Nat), progP n (f + 1) [] = .ok [] := fun f => rfl
  intro F
  induction F with
  | zero =>
    intro rs f hl _ hf
    obtain rfl : rs = [] := List.length_eq_zero_iff.1 (by omega)
    obtain ⟨g, rfl⟩ : ∃ g, f = g + 1 := ⟨f - 1, by simp at hf; omega⟩
    exact hno g
  | succ F ih =>
    intro rs f hl hc hf
    obtain ⟨g, rfl⟩ : ∃ g, f = g + 1 := ⟨f - 1, by omega⟩
    cases rs with
    | nil => exact hno g
    | cons r rs =>
      simp only [List.length_cons] at hl hf
      obtain ⟨h1, h2, h3, h4, h5, h6⟩ := chk_cons hc
      have ht : (rs.take r.rows.toNat).length ≤ rs.length := by rw [List.length_take]; omega
      have hdr : (rs.drop r.rows.toNat).length ≤ rs.length := by rw [List.length_drop]; omega
      have S := stmt_tk (n := n) (F := F) (g := g) (X := bodyK F (rs.drop r.rows.toNat)) hc (fun hb Z => by
        rcases h5 with ⟨_, _, hcc⟩ | ⟨hb', _⟩
        · exact body_tk F (0 + 1) _ g Z (by omega) hcc (by omega)
        · rw [hb] at hb'; cases hb')
      show progP n (g + 1) (headK r (shR r) ++ (_ ++ _)) = _
      have := prog_step S (ih _ g (by omega) h6 (by omega))
      rw [this, ← List.map_append, List.cons_append, List.take_append_drop]
end Go.Proofs.YtdjfpghgklkejaaGreatDoor
namespace Go.Proofs.YtdjfpghgklkejaaGreatDoor
def At (s : ByteArray) (i : Nat) (bs : List UInt8) : Prop := ∃ r, s.data.toList.drop i = bs ++ r
theorem At.left {s : ByteArray} {i : Nat} {a b : List UInt8} (h : At s i (a ++ b)) : At s i a := by
 obtain ⟨r, h⟩ := h
 exact ⟨b ++ r, by rw [h, List.append_assoc]⟩
theorem At.right {s : ByteArray} {i : Nat} {a b : List UInt8} (h : At s i (a ++ b)) : At s (i + a.length) b := by
 obtain ⟨r, h⟩ := h
 refine ⟨r, ?_⟩
 rw [← List.drop_drop, h, List.append_assoc, List.drop_left]
theorem At.cb {s : ByteArray} {i : Nat} {a : List UInt8} (h : At s i a) (k : Nat) (hk : k < a.length) : cb s (i + k) = a[k].toNat := by
 obtain ⟨r, h⟩ := h
 rw [cb_list]
 have : s.data.toList[i + k]? = some a[k] := by
  rw [← List.getElem?_drop, h, List.getElem?_append_left hk, List.getElem?_eq_getElem hk]
 rw [this]
 rfl
theorem At.le {s : ByteArray} {i : Nat} {a : List UInt8} (h : At s i a) (h0 : 0 < a.length) : i + a.length ≤ s.size := by
 obtain ⟨r, h⟩ := h
 have := congrArg List.length h
 have hz : s.data.toList.length = s.size := rfl
 rw [List.length_drop, List.length_append, hz] at this
 omega
theorem At.ext {s : ByteArray} {i : Nat} {t : ByteArray} (h : At s i t.data.toList) : s.extract i (i + t.size) = t := by
 obtain ⟨r, h⟩ := h
 apply ByteArray.ext
 apply Array.ext'
 have hz : t.data.toList.length = t.size := rfl
 have e : (s.extract i (i + t.size)).data.toList = (s.data.toList.drop i).take (i + t.size - i) := by
  simp [ByteArray.data_extract]
 rw [e, h, Nat.add_sub_cancel_left, ← hz, List.take_left]
theorem all_of_run {p : Nat → Bool} (h6 : p 256 = false) {t : ByteArray} (h : run p t 0 = t.size) : ∀ k, k < t.size → p (cb t k) = true := fun k hk => by
 have he := run_end h6 (i := 0) (s := t) (by omega)
 rw [h] at he
 exact he.all k (by omega) hk
theorem At.same {s t : ByteArray} {i : Nat} (h : At s i t.data.toList) (k : Nat) (hk : k < t.size) : Go.Proofs.YtdjfpghgklkejaaGreatDoor.cb s (i + k) = Go.Proofs.YtdjfpghgklkejaaGreatDoor.cb t k := by
 have hz : t.data.toList.length = t.size := rfl
 rw [h.cb k (by omega), cb_list, List.getElem?_eq_getElem (by omega)]
 rfl
theorem pre_tok {s : ByteArray} {i : Nat} {l : List Tk} {t : Tk} (hp : Pre s i l) (hr : rightB t = true) (ha : At s i t.t.data.toList) (hn : t.k ≠ 3 → isN (cb s (i + t.t.size)) = false) :
  ∃ t', t'.k = t.k ∧ t'.t = t.t ∧ Pre s (i + t.t.size) (l ++ [t']) := by
 have hz : t.t.data.toList.length = t.t.size := rfl
 unfold rightB at hr
 by_cases h1 : t.k = 1
 ·rw [if_pos h1] at hr
  obtain ⟨hL, h0⟩ := nm_first hr
  have hrun : run isN t.t 0 = t.t.size := by
   unfold nmB at hr
   rw [hL] at hr
   simpa using hr
  have hall := all_of_run isN6 hrun
  have hle := ha.le (by omega)
  have hT : TokAt s 1 i (i + t.t.size) := .inl ⟨rfl, by have := ha.same 0 h0; rw [Nat.add_zero] at this; rw [this]; exact hL, by omega, by omega, fun k h1 h2 => by
   have := ha.same (k - i) (by omega)
   rw [show i + (k - i) = k by omega] at this
   rw [this]
   exact hall _ (by omega), hn (by omega)⟩
  refine ⟨_, ?_, ?_, hp.put hT⟩
  ·show ((1 : Nat) : Int) = t.k; rw [h1]; rfl
  ·exact ha.ext
 ·rw [if_neg h1] at hr
  by_cases h2 : t.k = 2
  ·rw [if_pos h2] at hr
   unfold nuB at hr
   obtain ⟨h0, hrun⟩ : 0 < t.t.size ∧ run isD t.t 0 = t.t.size := by simpa using hr
   have hall := all_of_run isD6 hrun
   have hle := ha.le (by omega)
   obtain ⟨hL, hD⟩ : isL (cb s (i + t.t.size)) = false ∧ isD (cb s (i + t.t.size)) = false := by simpa [isN] using hn (by omega)
   have hT : TokAt s 2 i (i + t.t.size) := .inr (.inl ⟨rfl, by have := ha.same 0 h0; rw [Nat.add_zero] at this; rw [this]; exact hall 0 h0, ⟨by omega, by omega, fun k h1 h2 => by
    have := ha.same (k - i) (by omega)
    rw [show i + (k - i) = k by omega] at this
    rw [this]
    exact hall _ (by omega), hD⟩, hL⟩)
   refine ⟨_, ?_, ?_, hp.put hT⟩
   ·show ((2 : Nat) : Int) = t.k; rw [h2]; rfl
   ·exact ha.ext
  ·rw [if_neg h2] at hr
   by_cases h3 : t.k = 3
   ·rw [if_pos h3] at hr
    unfold sgB at hr
    obtain ⟨h0, hS⟩ : t.t.size = 1 ∧ isS (cb t.t 0) = true := by simpa using hr
    have hT : TokAt s 3 i (i + t.t.size) := .inr (.inr ⟨rfl, by have := ha.same 0 (by omega); rw [Nat.add_zero] at this; rw [this]; exact hS, by rw [h0]⟩)
    refine ⟨_, ?_, ?_, hp.put hT⟩
    ·show ((3 : Nat) : Int) = t.k; rw [h3]; rfl
    ·exact ha.ext
   ·rw [if_neg h3] at hr; cases hr
theorem pre_blanks {s : ByteArray} : ∀ (n i : Nat) (l : List Tk), Pre s i l → At s i (List.replicate n 32) → Pre s (i + n) l
 | 0, i, l, h, _ => h
 | n + 1, i, l, h, ha => by
  have hb : isB (cb s i) = true := by
   have := ha.cb 0 (by simp)
   rw [Nat.add_zero] at this
   rw [this]
   simp
   decide
  have h2 := ha
  rw [List.replicate_succ, ← List.singleton_append] at h2
  have := pre_blanks n (i + 1) l (h.blank hb) (by simpa using h2.right)
  rwa [show i + 1 + n = i + (n + 1) by omega] at this
theorem line_next {s : ByteArray} {i : Nat} {t : Tk} {ts : List Tk} (ht : t.k ≠ 3) (hr : rightB t = true) (ha : At s i (lineB t.t ts ++ [10])) : isN (cb s i) = false := by
 have hne : t.t ≠ ⟨#[]⟩ ∧ t.t ≠ wLeft := by
  unfold rightB at hr
  by_cases h1 : t.k = 1
  ·rw [if_pos h1] at hr
   refine ⟨fun e => ?_, nm_ne hr 91 (by decide) []⟩
   have := (nm_first hr).2
   rw [e] at this
   exact absurd this (by decide)
  ·rw [if_neg h1] at hr
   by_cases h2 : t.k = 2
   ·rw [if_pos h2] at hr
    obtain ⟨hd, hn⟩ := nu_ds hr
    refine ⟨fun e => hn (by rw [e]), fun e => ?_⟩
    rw [e] at hd
    have := hd 91 (by simp)
    revert this
    decide
   ·rw [if_neg h2, if_neg ht] at hr; cases hr
 cases ts with
 | nil =>
  have := ha.cb 0 (by simp [lineB])
  rw [Nat.add_zero] at this
  rw [this]
  show isN ((10 : UInt8).toNat) = false
  decide
 | cons u us =>
  have hb : lineB t.t (u :: us) ++ [10] = tokB t.t u.t ++ (lineB u.t us ++ [10]) := by show (tokB t.t u.t ++ lineB u.t us) ++ [10] = _; rw [List.append_assoc]
  rw [hb] at ha
  have h1 := ha.left
  unfold tokB at h1
  cases hs : sepB t.t u.t with
  | true =>
   rw [hs, if_pos rfl] at h1
   have := h1.left.cb 0 (by simp)
   rw [Nat.add_zero] at this
   rw [this]
   decide
  | false =>
   rw [hs, if_neg (by simp), List.nil_append] at h1
   have hu : u.t = wSemi ∨ u.t = wLeft ∨ u.t = wRight := by
    unfold sepB at hs
    rw [decide_eq_false hne.1, decide_eq_false hne.2] at hs
    simp at hs
    by_cases e1 : u.t = wSemi
    ·exact .inl e1
    ·by_cases e2 : u.t = wLeft
     ·exact .inr (.inl e2)
     ·exact .inr (.inr (hs e1 e2))
   rcases hu with e | e | e <;> rw [e] at h1 <;> have := h1.cb 0 (by simp) <;> rw [Nat.add_zero] at this <;> rw [this] <;> decide
theorem Lk.app {a b c d : List Tk} (h : Lk a b) (g : Lk c d) : Lk (a ++ c) (b ++ d) := by unfold Lk at *; rw [List.map_append, List.map_append, h, g]
def AllT (l : List Tk) : Prop := ∀ t ∈ l, rightB t = true
theorem pre_line {s : ByteArray} : ∀ (ts : List Tk) (last : ByteArray) (i : Nat) (l : List Tk), AllT ts → Pre s i l → At s i (lineB last ts ++ [10]) → ∃ l', Lk ts l' ∧ Pre s (i + (lineB last ts).length) (l ++ l')
 | [], last, i, l, _, hp, _ => ⟨[], rfl, by rw [List.append_nil]; exact hp⟩
 | t :: ts, last, i, l, hr, hp, ha => by
  have hb : lineB last (t :: ts) ++ [10] = (if sepB last t.t = true then [32] else []) ++ (t.t.data.toList ++ (lineB t.t ts ++ [10])) := by
   show (tokB last t.t ++ lineB t.t ts) ++ [10] = _
   unfold tokB
   simp only [List.append_assoc]
  have hz : t.t.data.toList.length = t.t.size := rfl
  have hlen : (lineB last (t :: ts)).length = (if sepB last t.t = true then ([32] : List UInt8) else []).length + (t.t.size + (lineB t.t ts).length) := by
   show (tokB last t.t ++ lineB t.t ts).length = _
   unfold tokB
   rw [List.length_append, List.length_append, hz]
   omega
  rw [hb] at ha
  have h1 : Pre s (i + (if sepB last t.t = true then ([32] : List UInt8) else []).length) l := by
   cases hs : sepB last t.t with
   | true =>
    rw [hs, if_pos rfl] at ha
    have := ha.left.cb 0 (by simp)
    rw [Nat.add_zero] at this
    exact hp.blank (by rw [this]; decide)
   | false => exact hp
  have h2 := ha.right
  obtain ⟨j, hj⟩ : ∃ j, j = i + (if sepB last t.t = true then ([32] : List UInt8) else []).length := ⟨_, rfl⟩
  rw [← hj] at h1 h2
  have hrt := hr t List.mem_cons_self
  obtain ⟨t', hk, ht, hp2⟩ := pre_tok h1 hrt h2.left (fun h3 => by
   have := h2.right
   rw [hz] at this
   exact line_next h3 hrt this)
  have h3 := h2.right
  rw [hz] at h3
  obtain ⟨l', hl, hp3⟩ := pre_line ts t.t (j + t.t.size) (l ++ [t']) (fun u hu => hr u (List.mem_cons_of_mem _ hu)) hp2 h3
  refine ⟨t' :: l', ?_, ?_⟩
  ·unfold Lk at *
   rw [List.map_cons, List.map_cons, hl]
   unfold kt
   rw [hk, ht]
  ·rw [hlen, ← Nat.add_assoc, ← hj, ← Nat.add_assoc]
   rw [List.append_assoc, List.singleton_append] at hp3
   exact hp3
def Sc (s : ByteArray) (bs : List UInt8) (ks : List Tk) : Prop := ∀ i l, Pre s i l → At s i bs → ∃ l', Lk ks l' ∧ Pre s (i + bs.length) (l ++ l')
theorem Sc.app {s : ByteArray} {a b : List UInt8} {x y : List Tk} (h : Sc s a x) (g : Sc s b y) : Sc s (a ++ b) (x ++ y) := fun i l hp ha => by
 obtain ⟨l1, e1, p1⟩ := h i l hp ha.left
 obtain ⟨l2, e2, p2⟩ := g _ _ p1 ha.right
 exact ⟨l1 ++ l2, e1.app e2, by rw [List.length_append, ← Nat.add_assoc, ← List.append_assoc]; exact p2⟩
theorem Sc.nil (s : ByteArray) : Sc s [] [] := fun i l hp _ => ⟨[], rfl, by rw [List.append_nil]; exact hp⟩
theorem Sc.ind (s : ByteArray) (d : Nat) : Sc s (indB d) [] := fun i l hp ha => ⟨[], rfl, by
 have := pre_blanks (2 * d) i l hp ha
 rw [List.append_nil]
 unfold indB
 rwa [List.length_replicate]⟩
theorem Sc.line (s : ByteArray) (e : ByteArray) {ts : List Tk} (h : AllT ts) : Sc s (lineB e ts ++ [10]) ts := fun i l hp ha => by
 obtain ⟨l', h1, h2⟩ := pre_line ts e i l h hp ha
 refine ⟨l', h1, ?_⟩
 have := ha.right.cb 0 (by simp)
 rw [Nat.add_zero] at this
 rw [List.length_append, ← Nat.add_assoc]
 exact h2.blank (by rw [this]; decide)
theorem nu_num {x : Int} (h : 0 ≤ x) : nuB (numT x) = true := by
 obtain ⟨hd, hn⟩ := dec_ds x.toNat
 have e : (numT x).data.toList = Lib.decDigits x.toNat := by show (Lib.itoa x).toArray.toList = _; rw [List.toList_toArray, itoa_dec h]
 have hz : (numT x).data.toList.length = (numT x).size := rfl
 have h0 : 0 < (numT x).size := by rw [← hz, e]; exact List.length_pos_iff.2 hn
 unfold nuB
 have : run isD (numT x) 0 = (numT x).size := End.run ⟨Nat.zero_le _, Nat.le_refl _, fun k _ hk => by
  rw [cb_list, e, List.getElem?_eq_getElem (by rw [← e, hz]; exact hk)]
  show isD (UInt8.toNat _) = true
  rw [isD_p]
  exact hd _ (List.getElem_mem _), by rw [cb_out (Nat.lt_irrefl _)]; exact isD6⟩ isD6
 rw [this]
 simpa using h0
theorem head_right {r : Rw} (hk : (shp r.kind).isSome = true) (hf : fitB r (shR r) = true) : AllT (headK r (shR r)) := by
 unfold fitB at hf
 simp only [Bool.and_eq_true] at hf
 obtain ⟨⟨⟨hf1, hf2⟩, hf3⟩, hf4⟩ := hf
 intro t ht
 unfold headK at ht
 simp only [List.mem_append] at ht
 rcases ht with ht | ht | ht | ht | ht
 ·unfold kindT at ht
  by_cases hu : r.kind = wUse
  ·rw [if_pos hu] at ht; cases ht
  ·rw [if_neg hu, List.mem_singleton] at ht
   subst ht
   show nmB r.kind = true
   rcases shp_cases r.kind with ⟨e, _, _⟩ | ⟨e, _, _⟩ | ⟨e, _, _⟩ | ⟨e, _, _⟩ | ⟨e, _, _⟩ | ⟨e, _, _⟩ | ⟨e, _, _⟩ | ⟨e, _, _⟩ | ⟨_, _, _, _, _, _, _, _, e, _⟩
   all_goals first | (rw [e]; decide) | (rw [e] at hk; cases hk)
 ·unfold nameT at ht
  cases hb : (shR r).name with
  | true =>
   rw [hb, if_pos rfl] at hf1 ht
   rw [List.mem_singleton] at ht
   subst ht
   exact (plnN_p.1 hf1).1
  | false => rw [hb, if_neg (by simp)] at ht; cases ht
 ·unfold argsT at ht
  obtain ⟨a, ha, hta⟩ := List.mem_flatMap.1 ht
  have hok := List.all_eq_true.1 hf4 a ha
  obtain ⟨h1, h2⟩ := argOk_p.1 hok
  unfold argK at hta
  rcases List.mem_cons.1 hta with rfl | hta
  ·exact (plnN_p.1 h1).1
  ·by_cases hx : 0 ≤ a.x
   ·rw [if_pos hx] at hta
    simp only [List.mem_cons, List.not_mem_nil, or_false] at hta
    rcases hta with rfl | rfl | rfl
    ·decide
    ·exact nu_num hx
    ·decide
   ·rw [if_neg hx] at hta; cases hta
 ·unfold numTk at ht
  cases hb : (shR r).num with
  | true =>
   rw [hb, if_pos rfl] at hf2 ht
   rw [List.mem_singleton] at ht
   subst ht
   exact nu_num (numOk_p.1 hf2).1
  | false => rw [hb, if_neg (by simp)] at ht; cases ht
 ·rw [List.mem_singleton] at ht
  subst ht
  unfold lastS
  cases (shR r).body <;> decide
theorem sc_body (s : ByteArray) : ∀ (F d : Nat) (rs : List Rw), chk F d rs = true → Sc s (bodyB F d rs) (bodyK F rs)
 | 0, _, _, _ => Sc.nil s
 | _ + 1, _, [], _ => Sc.nil s
 | F + 1, d, r :: rs, h => by
  obtain ⟨h1, h2, h3, h4, h5, h6⟩ := chk_cons h
  have hl := (Sc.ind s d).app (Sc.line s ⟨#[]⟩ (head_right h1 h2))
  rw [List.nil_append] at hl
  refine hl.app (Sc.app ?_ (sc_body s F d _ h6))
  rcases h5 with ⟨hb, hd, hc⟩ | ⟨hb, _⟩
  ·rw [hb, if_pos rfl, if_pos rfl]
   refine (sc_body s F (d + 1) _ hc).app ?_
   have := (Sc.ind s d).app (Sc.line s ⟨#[]⟩ (ts := [tkS wShut]) (fun t ht => by rw [List.mem_singleton] at ht; subst ht; decide))
   rw [List.nil_append] at this
   exact this
  ·rw [hb, if_neg (by simp), if_neg (by simp)]
   exact Sc.nil s
theorem body_len : ∀ (F d : Nat) (rs : List Rw), rs.length ≤ F → chk F d rs = true → rs.length ≤ (bodyK F rs).length
 | 0, _, rs, h, _ => by omega
 | _ + 1, _, [], _, _ => Nat.zero_le _
 | F + 1, d, r :: rs, h, hc => by
  obtain ⟨h1, h2, h3, h4, h5, h6⟩ := chk_cons hc
  have hh : 1 ≤ (headK r (shR r)).length := by unfold headK; simp only [List.length_append, List.length_cons, List.length_nil]; omega
  show rs.length + 1 ≤ (headK r (shR r) ++ (_ ++ _)).length
  simp only [List.length_cons] at h
  have hd := body_len F d (rs.drop r.rows.toNat) (by rw [List.length_drop]; omega) h6
  rw [List.length_append, List.length_append]
  rw [List.length_drop] at hd
  rcases h5 with ⟨hb, _, hcc⟩ | ⟨hb, h0⟩
  ·have ht := body_len F (d + 1) (rs.take r.rows.toNat) (by rw [List.length_take]; omega) hcc
   rw [if_pos hb, List.length_append]
   rw [List.length_take] at ht
   show _ ≤ _ + (_ + 1 + _)
   omega
  ·rw [h0] at hd ⊢
   simp only [Int.toNat_zero, Nat.sub_zero] at hd
   simp only [Int.toNat_zero] at hd ⊢
   omega
theorem back_pout (rs : List Rw) (hc : chk rs.length 0 rs = true) (hl : (bodyB rs.length 0 rs).length ≤ 65536) : ∃ rs', POut ⟨(bodyB rs.length 0 rs).toArray⟩ rs' 0 0 ∧ RL rs rs' := by
 have hb := body_len rs.length 0 rs (Nat.le_refl _) hc
 obtain ⟨s, hs⟩ : ∃ s : ByteArray, s = ⟨(bodyB rs.length 0 rs).toArray⟩ := ⟨_, rfl⟩
 have hd : s.data.toList = bodyB rs.length 0 rs := by rw [hs]
 have hz : s.size = (bodyB rs.length 0 rs).length := by rw [← hd]; rfl
 obtain ⟨l, hk, hp⟩ := sc_body s _ _ _ hc 0 [] (Pre.zero s) ⟨[], by rw [List.drop_zero, hd, List.append_nil]⟩
 rw [List.nil_append, Nat.zero_add, ← hz] at hp
 have hpr := prog_tk (n := (s.size : Int)) rs.length rs ((bodyK rs.length rs).length + 1) (Nat.le_refl _) hc (by omega)
 obtain ⟨rs', h1, h2⟩ := prog_loc _ _ _ hpr (s.size : Int) l hk
 have hlen : (bodyK rs.length rs).length = l.length := by have := congrArg List.length hk; simpa using this
 rw [hlen] at h1
 rw [← hs]
 refine ⟨rs', ⟨l, 0, 0, .inr (.inl ⟨by omega, hp, rfl, rfl⟩), .inr ⟨rfl, .inr ⟨h1, rfl, rfl⟩⟩⟩, ?_⟩
 unfold RL at *
 rw [← h2, List.map_map]
 rfl
end Go.Proofs.YtdjfpghgklkejaaGreatDoor
namespace Go.Proofs.YtdjfpghgklkejaaGreatDoor
theorem chk_put {F d : Nat} {r : Rw} {b c : List Rw} (hk : (shp r.kind).isSome = true) (hf : fitB r (shR r) = true) (hr : r.rows = b.length) (hb : ((shR r).body = true ∧ d < 32 ∧ chk F (d + 1) b = true) ∨ ((shR r).body = false ∧ b = [])) (hc : chk F d c = true) : chk (F + 1) d (r :: (b ++ c)) = true := by
 unfold chk
 have e1 : r.rows.toNat = b.length := by omega
 rw [e1, List.take_left, List.drop_left, hk, hf, hc, decide_eq_true (show 0 ≤ r.rows by omega), decide_eq_true (show r.rows ≤ ((b ++ c).length : Int) by rw [List.length_append]; omega)]
 rcases hb with ⟨h1, h2, h3⟩ | ⟨h1, rfl⟩
 ·rw [if_pos h1, h3, decide_eq_true h2]; rfl
 ·rw [if_neg (by rw [h1]; simp), decide_eq_true (by simpa using hr)]; rfl
def SOut (rs : List Rw) (s : ByteArray) (e : Nat) : Prop :=
 (chk rs.length 0 rs = false ∧ s = ⟨#[]⟩ ∧ e = 100) ∨ (chk rs.length 0 rs = true ∧ 65536 < (bodyB rs.length 0 rs).length ∧ s = ⟨#[]⟩ ∧ e = 1) ∨ (chk rs.length 0 rs = true ∧ (bodyB rs.length 0 rs).length ≤ 65536 ∧ s = ⟨(bodyB rs.length 0 rs).toArray⟩ ∧ e = 0)
theorem sout_ex (rs : List Rw) : ∃ s e, SOut rs s e := by
 cases h : chk rs.length 0 rs with
 | false => exact ⟨_, _, .inl ⟨h, rfl, rfl⟩⟩
 | true =>
  by_cases hl : 65536 < (bodyB rs.length 0 rs).length
  ·exact ⟨_, _, .inr (.inl ⟨h, hl, rfl, rfl⟩)⟩
  ·exact ⟨_, _, .inr (.inr ⟨h, by omega, rfl, rfl⟩)⟩
end Go.Proofs.YtdjfpghgklkejaaGreatDoor
