/-
  Plain mathematics: a line of the text as the reference writes it.
-/
import Derived.Test.YtiepbfeliehjnaaDoorC5
import Derived.Test.YtiepbfeliehjnaaDoorB2
namespace Go.Proofs.YtiepbfeliehjnaaDoor

/-- Does the kind have a number? -/
def numKd (kd : ByteArray) : Bool := decide (kd = wQubits) || decide (kd = wBits) || decide (kd = wRepeat) || decide (kd = wIf)
/-- A statement up to its last sign. -/
def hd0 (r : Rw) : List UInt8 := if r.kind = wUse then r.name.data.toList else r.kind.data.toList ++ (if r.name = ⟨#[]⟩ then [] else [32] ++ r.name.data.toList)
def hd1 (r : Rw) : List UInt8 := if numKd r.kind = true then [32] ++ Lib.itoa r.num else []
def hdB (r : Rw) : List UInt8 := hd0 r ++ hd1 r ++ r.args.flatMap shwB
/-- A token behind which others stand: no nothing, no opening bracket. -/
def Lst (t : ByteArray) : Prop := t ≠ ⟨#[]⟩ ∧ t ≠ wLeft
theorem lst_nm {s : ByteArray} (h : nmB s = true) : Lst s ∧ s ≠ wSemi ∧ s ≠ wRight := ⟨⟨fun e => by rw [e] at h; exact absurd h (by decide), nm_ne h 91 (by decide) []⟩, nm_ne h 59 (by decide) [], nm_ne h 93 (by decide) []⟩
theorem tok_sep {last t : ByteArray} (h : Lst last) (h1 : t ≠ wSemi) (h2 : t ≠ wLeft) (h3 : t ≠ wRight) : tokB last t = [32] ++ t.data.toList := by
  unfold tokB sepB
  rw [decide_eq_false h.1, decide_eq_false h.2, decide_eq_false h1, decide_eq_false h2, decide_eq_false h3]
  rfl
theorem tok_name {last s : ByteArray} (h : Lst last) (hs : nmB s = true) : tokB last s = [32] ++ s.data.toList := tok_sep h (lst_nm hs).2.1 (lst_nm hs).1.2 (lst_nm hs).2.2
theorem num_lst {x : Int} (hx : 0 ≤ x) : Lst (numT x) ∧ numT x ≠ wSemi ∧ numT x ≠ wRight := by
  obtain ⟨hd, hn⟩ := nu_ds (nu_num hx)
  have no : ∀ c : UInt8, ¬ (48 ≤ c.toNat ∧ c.toNat ≤ 57) → numT x ≠ ⟨#[c]⟩ := fun c hc e => by
    rw [e] at hd
    exact hc (hd c (by simp))
  exact ⟨⟨fun e => hn (by rw [e]), no 91 (by decide)⟩, no 59 (by decide), no 93 (by decide)⟩
theorem tok_num {last : ByteArray} {x : Int} (h : Lst last) (hx : 0 ≤ x) : tokB last (numT x) = [32] ++ Lib.itoa x := by
  rw [tok_sep h (num_lst hx).2.1 (num_lst hx).1.2 (num_lst hx).2.2]
theorem tok_first (t : ByteArray) : tokB ⟨#[]⟩ t = t.data.toList := by
  unfold tokB sepB
  rw [decide_eq_true rfl]
  rfl
theorem tok_close {last t : ByteArray} (h : t = wSemi ∨ t = wLeft ∨ t = wRight) : tokB last t = t.data.toList := by
  unfold tokB sepB
  rcases h with rfl | rfl | rfl
  · rw [show decide (wSemi = wSemi) = true by decide]; simp
  · rw [show decide (wLeft = wLeft) = true by decide]; simp
  · rw [show decide (wRight = wRight) = true by decide]; simp
theorem tok_in {t : ByteArray} : tokB wLeft t = t.data.toList := by
  unfold tokB sepB
  rw [show decide (wLeft = wLeft) = true by decide]
  simp
theorem lst_arg {ix : Bool} {a : Ar} (h : argOk ix a = true) {last : ByteArray} (hl : Lst last) : lineB last (argK a) = shwB a ∧ Lst (lastOf last (argK a)) := by
  obtain ⟨h1, h2⟩ := argOk_p.1 h
  have hn := (plnN_p.1 h1).1
  unfold argK shwB
  by_cases hx : 0 ≤ a.x
  · rw [if_pos hx, if_neg (by omega)]
    refine ⟨?_, ?_⟩
    · show tokB last a.n ++ (tokB a.n wLeft ++ (tokB wLeft (numT a.x) ++ (tokB (numT a.x) wRight ++ []))) = _
      rw [tok_name hl hn, tok_close (.inr (.inl rfl)), tok_in, tok_close (.inr (.inr rfl))]
      simp
    · show Lst wRight
      exact ⟨by decide, by decide⟩
  · rw [if_neg hx, if_pos (by omega)]
    refine ⟨?_, (lst_nm hn).1⟩
    show tokB last a.n ++ [] = _
    rw [tok_name hl hn, List.append_nil]
theorem lastOf_two (e : ByteArray) : ∀ (xs ys : List Tk), lastOf e (xs ++ ys) = lastOf (lastOf e xs) ys := by
  intro xs
  induction xs generalizing e with
  | nil => intro ys; rfl
  | cons x xs ih => intro ys; exact ih x.t ys
theorem lst_args {ix : Bool} : ∀ (l : List Ar) (last : ByteArray), l.all (argOk ix) = true → Lst last → lineB last (argsT l) = l.flatMap shwB ∧ Lst (lastOf last (argsT l))
  | [], last, _, hl => ⟨rfl, hl⟩
  | a :: l, last, h, hl => by
    rw [List.all_cons, Bool.and_eq_true] at h
    obtain ⟨e1, l1⟩ := lst_arg h.1 hl
    obtain ⟨e2, l2⟩ := lst_args l _ h.2 l1
    have e : argsT (a :: l) = argK a ++ argsT l := by unfold argsT; rw [List.flatMap_cons]
    rw [e, lineB_app, lastOf_two, e1, e2, List.flatMap_cons]
    exact ⟨rfl, l2⟩
theorem tok_last {last : ByteArray} {sh : Sh} (h : Lst last) : tokB last (lastS sh) = if sh.body = true then [32, 123] else [59] := by
  unfold lastS
  by_cases hb : sh.body = true
  · rw [if_pos hb, if_pos hb, tok_sep h (by decide) (by decide) (by decide)]
    rfl
  · rw [if_neg hb, if_neg hb, tok_close (.inl rfl)]
/-- A line is what the reference writes. -/
theorem line_head {r : Rw} {sh : Sh} (hk : shp r.kind = some sh) (hf : fitB r sh = true) : lineB ⟨#[]⟩ (headK r sh) = hdB r ++ (if sh.body = true then [32, 123] else [59]) := by
  unfold fitB at hf
  simp only [Bool.and_eq_true] at hf
  obtain ⟨⟨⟨hf1, hf2⟩, hf3⟩, hf4⟩ := hf
  -- the front: kind and name
  have FR : lineB ⟨#[]⟩ (kindT r ++ nameT r sh) = hd0 r ∧ Lst (lastOf ⟨#[]⟩ (kindT r ++ nameT r sh)) := by
    unfold kindT nameT hd0
    by_cases hu : r.kind = wUse
    · have hs : sh = shUse := by rw [hu] at hk; exact (Option.some.inj hk).symm
      subst hs
      have hn := (plnN_p.1 hf1).1
      rw [if_pos hu, if_pos hu, if_pos rfl]
      refine ⟨?_, (lst_nm hn).1⟩
      show tokB ⟨#[]⟩ r.name ++ [] = _
      rw [tok_first, List.append_nil]
    · have hkn : nmB r.kind = true := by
        rcases shp_cases r.kind with ⟨e, _, _⟩ | ⟨e, _, _⟩ | ⟨e, _, _⟩ | ⟨e, _, _⟩ | ⟨e, _, _⟩ | ⟨e, _, _⟩ | ⟨e, _, _⟩ | ⟨e, _, _⟩ | ⟨_, _, _, _, _, _, _, _, e, _⟩
        all_goals first | (rw [e]; decide) | (rw [e] at hk; cases hk)
      rw [if_neg hu, if_neg hu]
      cases hb : sh.name with
      | true =>
        rw [hb, if_pos rfl] at hf1
        have hn := (plnN_p.1 hf1).1
        rw [if_pos rfl, if_neg (lst_nm hn).1.1]
        refine ⟨?_, (lst_nm hn).1⟩
        show tokB ⟨#[]⟩ r.kind ++ (tokB r.kind r.name ++ []) = _
        rw [tok_first, tok_name (lst_nm hkn).1 hn, List.append_nil]
      | false =>
        rw [hb] at hf1
        rw [if_neg (by simp), if_pos (of_decide_eq_true hf1)]
        refine ⟨?_, (lst_nm hkn).1⟩
        show tokB ⟨#[]⟩ r.kind ++ [] = _
        rw [tok_first]
  have e1 : headK r sh = (kindT r ++ nameT r sh) ++ (argsT r.args ++ (numTk r sh ++ [tkS (lastS sh)])) := by unfold headK; rw [List.append_assoc]
  have hnum : sh.num = numKd r.kind := by
    rcases shp_cases r.kind with ⟨e, g, _⟩ | ⟨e, g, _⟩ | ⟨e, g, _⟩ | ⟨e, g, _⟩ | ⟨e, g, _⟩ | ⟨e, g, _⟩ | ⟨e, g, _⟩ | ⟨e, g, _⟩ | ⟨_, _, _, _, _, _, _, _, g, _⟩
    all_goals rw [g] at hk
    all_goals cases hk
    all_goals (unfold numKd; rw [e]; decide)
  rw [e1, lineB_app, FR.1]
  obtain ⟨a1, a2⟩ := lst_args r.args _ hf4 FR.2
  rw [lineB_app, a1]
  unfold hdB hd1
  cases hb : sh.num with
  | true =>
    have hx := (numOk_p.1 (by rw [hb, if_pos rfl] at hf2; exact hf2)).1
    have hargs : r.args = [] := by
      rcases Bool.or_eq_true _ _ ▸ hf3 with h | h
      · exfalso
        have h := of_decide_eq_true h
        have := shR_cases (r := r) (by rw [hk]; rfl)
        have e : shR r = sh := by unfold shR; rw [hk]; rfl
        rw [e] at this
        rcases this with g | g | g | g | g | g | g <;> rw [g] at h hb <;> first | (simp at h; done) | (cases hb; done)
      · have h := of_decide_eq_true h
        have := shR_cases (r := r) (by rw [hk]; rfl)
        have e : shR r = sh := by unfold shR; rw [hk]; rfl
        rw [e] at this
        have h0 : sh.args = 0 := by rcases this with g | g | g | g | g | g | g <;> rw [g] at hb ⊢ <;> first | rfl | (cases hb; done)
        rw [h0] at h
        exact List.length_eq_zero_iff.1 (by omega)
    rw [hargs] at a2 ⊢
    rw [hb] at hnum
    have en : numTk r sh = [tkD r.num] := by unfold numTk; rw [hb]; rfl
    rw [en, ← hnum, if_pos rfl]
    show hd0 r ++ ([] ++ (tokB (lastOf _ (argsT [])) (numT r.num) ++ (tokB (numT r.num) (lastS sh) ++ []))) = _
    rw [tok_num a2 hx, tok_last (num_lst hx).1]
    simp
  | false =>
    rw [hb] at hnum
    have en : numTk r sh = [] := by unfold numTk; rw [hb]; rfl
    rw [en, ← hnum, if_neg (by simp)]
    show hd0 r ++ (r.args.flatMap shwB ++ (tokB (lastOf _ (argsT r.args)) (lastS sh) ++ [])) = _
    rw [tok_last a2]
    simp
end Go.Proofs.YtiepbfeliehjnaaDoor
