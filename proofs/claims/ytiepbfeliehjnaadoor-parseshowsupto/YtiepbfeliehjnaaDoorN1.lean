/-
  Plain mathematics of programs: the kinds of statements and their shapes; how statements are read from tokens, or the first fault. Of no program.
-/
import Derived.Test.YtiepbfeliehjnaaDoorM1
namespace Go.Proofs.YtiepbfeliehjnaaDoor

/-- A fault: its place, its error. -/
abbrev Fa := Int × Nat
/-- An argument; a row. -/
structure Ar where
  n : ByteArray
  x : Int
structure Rw where
  kind : ByteArray
  name : ByteArray
  args : List Ar
  num : Int
  rows : Int
  place : Int
abbrev wQubits : ByteArray := ⟨#[113, 117, 98, 105, 116, 115]⟩
abbrev wBits : ByteArray := ⟨#[98, 105, 116, 115]⟩
abbrev wGate : ByteArray := ⟨#[103, 97, 116, 101]⟩
abbrev wRepeat : ByteArray := ⟨#[114, 101, 112, 101, 97, 116]⟩
abbrev wIf : ByteArray := ⟨#[105, 102]⟩
abbrev wMeasure : ByteArray := ⟨#[109, 101, 97, 115, 117, 114, 101]⟩
abbrev wReset : ByteArray := ⟨#[114, 101, 115, 101, 116]⟩
abbrev wUse : ByteArray := ⟨#[117, 115, 101]⟩
abbrev wSemi : ByteArray := ⟨#[59]⟩
abbrev wOpen : ByteArray := ⟨#[123]⟩
abbrev wShut : ByteArray := ⟨#[125]⟩
abbrev wLeft : ByteArray := ⟨#[91]⟩
abbrev wRight : ByteArray := ⟨#[93]⟩
/-- The shape of a kind of statements: a Name, how many Args (-1: any number), may they have an index, a Num, a body. -/
structure Sh where
  name : Bool
  args : Int
  idx : Bool
  num : Bool
  body : Bool
abbrev shDecl : Sh := ⟨true, 0, false, true, false⟩
abbrev shGate : Sh := ⟨true, -1, false, false, true⟩
abbrev shRepeat : Sh := ⟨false, 0, false, true, true⟩
abbrev shIf : Sh := ⟨true, 0, false, true, true⟩
abbrev shMeasure : Sh := ⟨false, 2, true, false, false⟩
abbrev shReset : Sh := ⟨false, 1, true, false, false⟩
abbrev shUse : Sh := ⟨true, -1, true, false, false⟩
abbrev shNone : Sh := ⟨false, 0, false, false, false⟩
def shp (k : ByteArray) : Option Sh :=
  if k = wQubits then some shDecl
  else if k = wBits then some shDecl
  else if k = wGate then some shGate
  else if k = wRepeat then some shRepeat
  else if k = wIf then some shIf
  else if k = wMeasure then some shMeasure
  else if k = wReset then some shReset
  else if k = wUse then some shUse
  else none
/-- A word of its own. -/
def ownB (k : ByteArray) : Bool := decide (k = wQubits) || decide (k = wBits) || decide (k = wGate) || decide (k = wRepeat) || decide (k = wIf) || decide (k = wMeasure) || decide (k = wReset)
theorem shp_cases (k : ByteArray) : (k = wQubits ∧ shp k = some shDecl ∧ ownB k = true) ∨ (k = wBits ∧ shp k = some shDecl ∧ ownB k = true) ∨ (k = wGate ∧ shp k = some shGate ∧ ownB k = true) ∨ (k = wRepeat ∧ shp k = some shRepeat ∧ ownB k = true) ∨ (k = wIf ∧ shp k = some shIf ∧ ownB k = true) ∨
    (k = wMeasure ∧ shp k = some shMeasure ∧ ownB k = true) ∨ (k = wReset ∧ shp k = some shReset ∧ ownB k = true) ∨ (k = wUse ∧ shp k = some shUse ∧ ownB k = false) ∨
    (k ≠ wQubits ∧ k ≠ wBits ∧ k ≠ wGate ∧ k ≠ wRepeat ∧ k ≠ wIf ∧ k ≠ wMeasure ∧ k ≠ wReset ∧ k ≠ wUse ∧ shp k = none ∧ ownB k = false) := by
  by_cases h1 : k = wQubits
  · exact .inl ⟨h1, by unfold shp; rw [if_pos h1], by unfold ownB; rw [decide_eq_true h1]; simp⟩
  by_cases h2 : k = wBits
  · exact .inr (.inl ⟨h2, by unfold shp; rw [if_neg h1, if_pos h2], by unfold ownB; rw [decide_eq_true h2]; simp⟩)
  by_cases h3 : k = wGate
  · exact .inr (.inr (.inl ⟨h3, by unfold shp; rw [if_neg h1, if_neg h2, if_pos h3], by unfold ownB; rw [decide_eq_true h3]; simp⟩))
  by_cases h4 : k = wRepeat
  · exact .inr (.inr (.inr (.inl ⟨h4, by unfold shp; rw [if_neg h1, if_neg h2, if_neg h3, if_pos h4], by unfold ownB; rw [decide_eq_true h4]; simp⟩)))
  by_cases h5 : k = wIf
  · exact .inr (.inr (.inr (.inr (.inl ⟨h5, by unfold shp; rw [if_neg h1, if_neg h2, if_neg h3, if_neg h4, if_pos h5], by unfold ownB; rw [decide_eq_true h5]; simp⟩))))
  by_cases h6 : k = wMeasure
  · exact .inr (.inr (.inr (.inr (.inr (.inl ⟨h6, by unfold shp; rw [if_neg h1, if_neg h2, if_neg h3, if_neg h4, if_neg h5, if_pos h6], by unfold ownB; rw [decide_eq_true h6]; simp⟩)))))
  by_cases h7 : k = wReset
  · exact .inr (.inr (.inr (.inr (.inr (.inr (.inl ⟨h7, by unfold shp; rw [if_neg h1, if_neg h2, if_neg h3, if_neg h4, if_neg h5, if_neg h6, if_pos h7], by unfold ownB; rw [decide_eq_true h7]; simp⟩))))))
  by_cases h8 : k = wUse
  · exact .inr (.inr (.inr (.inr (.inr (.inr (.inr (.inl ⟨h8, by unfold shp; rw [if_neg h1, if_neg h2, if_neg h3, if_neg h4, if_neg h5, if_neg h6, if_neg h7, if_pos h8], by unfold ownB; rw [decide_eq_false h1, decide_eq_false h2, decide_eq_false h3, decide_eq_false h4, decide_eq_false h5, decide_eq_false h6, decide_eq_false h7]; rfl⟩)))))))
  refine .inr (.inr (.inr (.inr (.inr (.inr (.inr (.inr ⟨h1, h2, h3, h4, h5, h6, h7, h8, ?_, ?_⟩)))))))
  · unfold shp
    rw [if_neg h1, if_neg h2, if_neg h3, if_neg h4, if_neg h5, if_neg h6, if_neg h7, if_neg h8]
  · unfold ownB
    rw [decide_eq_false h1, decide_eq_false h2, decide_eq_false h3, decide_eq_false h4, decide_eq_false h5, decide_eq_false h6, decide_eq_false h7]
    rfl
def lastS (sh : Sh) : ByteArray := if sh.body then wOpen else wSemi

/-- Reading: the next token; is it this sign; this sign; a plain name; a number; an argument. n: the text's length. -/
def seesB (c : ByteArray) : List Tk → Bool
  | [] => false
  | t :: _ => decide (t.t = c)
def takeP (n : Int) : List Tk → Except Fa (Tk × List Tk)
  | [] => .error (n, 101)
  | t :: r => .ok (t, r)
def signP (n : Int) (c : ByteArray) : List Tk → Except Fa (Tk × List Tk)
  | [] => .error (n, 101)
  | t :: r => if t.t = c then .ok (t, r) else .error (t.p, 100)
def plnB (t : Tk) : Bool := decide (t.k = 1) && !ownB t.t
def nameP (n : Int) : List Tk → Except Fa (ByteArray × List Tk)
  | [] => .error (n, 101)
  | t :: r => if plnB t = true then .ok (t.t, r) else .error (t.p, 100)
def valL (l : List UInt8) : Nat := l.foldl (fun a c => a * 10 + (c.toNat - 48)) 0
def val (s : ByteArray) : Nat := valL s.data.toList
def numP (n : Int) : List Tk → Except Fa (Nat × List Tk)
  | [] => .error (n, 101)
  | t :: r => if t.k = 2 then (if val t.t ≤ 9007199254740991 then .ok (val t.t, r) else .error (t.p, 1)) else .error (t.p, 100)
def argP (n : Int) (ix : Bool) (l : List Tk) : Except Fa (Ar × List Tk) :=
  match nameP n l with
  | .error e => .error e
  | .ok (a, r) =>
    if ix = true ∧ seesB wLeft r = true then
      match numP n r.tail with
      | .error e => .error e
      | .ok (x, r2) =>
        match signP n wRight r2 with
        | .error e => .error e
        | .ok (_, r3) => .ok (⟨a, x⟩, r3)
    else .ok (⟨a, -1⟩, r)
def moreB (sh : Sh) (k : Nat) (l : List Tk) : Bool := decide ((k : Int) < sh.args) || (decide (sh.args = -1) && !seesB (lastS sh) l)
def argsP (n : Int) (sh : Sh) : Nat → List Ar → List Tk → Except Fa (List Ar × List Tk)
  | 0, acc, l => .ok (acc, l)
  | f + 1, acc, l => if moreB sh acc.length l = true then (match argP n sh.idx l with | .error e => .error e | .ok (a, r) => argsP n sh f (acc ++ [a]) r) else .ok (acc, l)
def optName (n : Int) (b : Bool) (l : List Tk) : Except Fa (ByteArray × List Tk) := if b = true then nameP n l else .ok (⟨#[]⟩, l)
def optNum (n : Int) (b : Bool) (l : List Tk) : Except Fa (Nat × List Tk) := if b = true then numP n l else .ok (0, l)
def kindK (t : Tk) : ByteArray := if ownB t.t = true then t.t else wUse
def restK (t : Tk) (r : List Tk) : List Tk := if ownB t.t = true then r else t :: r
def shK (t : Tk) : Sh := (shp (kindK t)).getD shNone
/-- What is read behind a statement's word, up to its last sign. -/
def midP (n : Int) (sh : Sh) (l : List Tk) : Except Fa ((ByteArray × List Ar × Nat × Int) × List Tk) :=
  match optName n sh.name l with
  | .error e => .error e
  | .ok (nm, l1) =>
    match argsP n sh (l1.length + 1) [] l1 with
    | .error e => .error e
    | .ok (aa, l2) =>
      match optNum n sh.num l2 with
      | .error e => .error e
      | .ok (x, l3) =>
        match signP n (lastS sh) l3 with
        | .error e => .error e
        | .ok (u, l4) => .ok ((nm, aa, x, u.p), l4)
/-- A statement at depth d; rec reads the statements of a body, at their depth. -/
def stmtP (n : Int) (rec : Nat → List Tk → Except Fa (List Rw × List Tk)) (d : Nat) : List Tk → Except Fa (List Rw × List Tk)
  | [] => .error (n, 101)
  | t :: r =>
    match midP n (shK t) (restK t r) with
    | .error e => .error e
    | .ok ((nm, aa, x, p), l4) =>
      if (shK t).body = true then
        (if 32 ≤ d then .error (p, 102)
        else match rec (d + 1) l4 with
          | .error e => .error e
          | .ok (rs, l5) => .ok (⟨kindK t, nm, aa, x, rs.length, t.p⟩ :: rs, l5.tail))
      else .ok ([⟨kindK t, nm, aa, x, 0, t.p⟩], l4)
/-- The statements of a body, up to its shutting sign, which is not taken. -/
def stmtsP (n : Int) : Nat → Nat → List Tk → Except Fa (List Rw × List Tk)
  | 0, _, _ => .error (0, 0)
  | f + 1, d, l =>
    if seesB wShut l = true then .ok ([], l)
    else match stmtP n (stmtsP n f) d l with
      | .error e => .error e
      | .ok (rs, r) =>
        match stmtsP n f d r with
        | .error e => .error e
        | .ok (rs2, r2) => .ok (rs ++ rs2, r2)
/-- The statements of a program. -/
def progP (n : Int) : Nat → List Tk → Except Fa (List Rw)
  | 0, _ => .error (0, 0)
  | _ + 1, [] => .ok []
  | f + 1, t :: l =>
    match stmtP n (stmtsP n f) 0 (t :: l) with
    | .error e => .error e
    | .ok (rs, r) =>
      match progP n f r with
      | .error e => .error e
      | .ok rs2 => .ok (rs ++ rs2)
/-- What Parse tells. -/
def POut (s : ByteArray) (rs : List Rw) (a : Int) (e : Nat) : Prop :=
  ∃ l a0 e0, Out s l a0 e0 ∧ ((e0 ≠ 0 ∧ rs = [] ∧ a = (a0 : Int) ∧ e = e0) ∨
    (e0 = 0 ∧ ((∃ p x, progP s.size (l.length + 1) l = .error (p, x) ∧ rs = [] ∧ a = p ∧ e = x) ∨ (progP s.size (l.length + 1) l = .ok rs ∧ a = 0 ∧ e = 0))))
theorem pout_ex (s : ByteArray) : ∃ rs a e, POut s rs a e := by
  obtain ⟨l, a0, e0, ho⟩ := out_ex s
  by_cases h : e0 = 0
  · cases hp : progP s.size (l.length + 1) l with
    | error x => exact ⟨[], x.1, x.2, l, a0, e0, ho, .inr ⟨h, .inl ⟨x.1, x.2, hp, rfl, rfl, rfl⟩⟩⟩
    | ok rs => exact ⟨rs, 0, 0, l, a0, e0, ho, .inr ⟨h, .inr ⟨hp, rfl, rfl⟩⟩⟩
  · exact ⟨[], a0, e0, l, a0, e0, ho, .inl ⟨h, rfl, rfl, rfl⟩⟩

/-- What is left is shorter. -/
theorem signP_len {n : Int} {c : ByteArray} {l r : List Tk} {t : Tk} (h : signP n c l = .ok (t, r)) : l = t :: r ∧ t.t = c := by
  cases l with
  | nil => cases h
  | cons u v =>
    simp only [signP] at h
    by_cases e : u.t = c
    · rw [if_pos e] at h; cases h; exact ⟨rfl, e⟩
    · rw [if_neg e] at h; cases h
theorem nameP_len {n : Int} {l r : List Tk} {a : ByteArray} (h : nameP n l = .ok (a, r)) : ∃ t, l = t :: r ∧ t.t = a ∧ plnB t = true := by
  cases l with
  | nil => cases h
  | cons u v =>
    simp only [nameP] at h
    by_cases e : plnB u = true
    · rw [if_pos e] at h; cases h; exact ⟨u, rfl, rfl, e⟩
    · rw [if_neg e] at h; cases h
theorem numP_len {n : Int} {l r : List Tk} {x : Nat} (h : numP n l = .ok (x, r)) : ∃ t, l = t :: r ∧ t.k = 2 ∧ val t.t = x ∧ x ≤ 9007199254740991 := by
  cases l with
  | nil => cases h
  | cons u v =>
    simp only [numP] at h
    by_cases e : u.k = 2
    · rw [if_pos e] at h
      by_cases e2 : val u.t ≤ 9007199254740991
      · rw [if_pos e2] at h; cases h; exact ⟨u, rfl, e, rfl, e2⟩
      · rw [if_neg e2] at h; cases h
    · rw [if_neg e] at h; cases h
theorem seesB_cons {c : ByteArray} {l : List Tk} (h : seesB c l = true) : ∃ t r, l = t :: r ∧ t.t = c := by
  cases l with
  | nil => cases h
  | cons t r => exact ⟨t, r, rfl, of_decide_eq_true h⟩
theorem argP_len {n : Int} {ix : Bool} {l r : List Tk} {a : Ar} (h : argP n ix l = .ok (a, r)) : r.length < l.length := by
  unfold argP at h
  cases hn : nameP n l with
  | error e => rw [hn] at h; cases h
  | ok y =>
    obtain ⟨b, r1⟩ := y
    obtain ⟨t, rfl, _, _⟩ := nameP_len hn
    rw [hn] at h
    simp only at h
    by_cases hc : ix = true ∧ seesB wLeft r1 = true
    · rw [if_pos hc] at h
      obtain ⟨u, r2, rfl, _⟩ := seesB_cons hc.2
      simp only [List.tail_cons] at h
      cases hx : numP n r2 with
      | error e => rw [hx] at h; cases h
      | ok y =>
        obtain ⟨x, r3⟩ := y
        obtain ⟨v, rfl, _⟩ := numP_len hx
        rw [hx] at h
        simp only at h
        cases hs : signP n wRight r3 with
        | error e => rw [hs] at h; cases h
        | ok y =>
          obtain ⟨z, r4⟩ := y
          obtain ⟨rfl, _⟩ := signP_len hs
          rw [hs] at h
          cases h
          simp only [List.length_cons]
          omega
    · rw [if_neg hc] at h
      cases h
      simp only [List.length_cons]
      omega
theorem argsP_len {n : Int} {sh : Sh} : ∀ (f : Nat) {acc aa : List Ar} {l r : List Tk}, argsP n sh f acc l = .ok (aa, r) → r.length ≤ l.length := by
  intro f
  induction f with
  | zero => intro acc aa l r h; cases h; exact Nat.le_refl _
  | succ f ih =>
    intro acc aa l r h
    unfold argsP at h
    by_cases hm : moreB sh acc.length l = true
    · rw [if_pos hm] at h
      cases ha : argP n sh.idx l with
      | error e => rw [ha] at h; cases h
      | ok y =>
        obtain ⟨a, r1⟩ := y
        rw [ha] at h
        have := argP_len ha
        have := ih h
        omega
    · rw [if_neg hm] at h; cases h; exact Nat.le_refl _
theorem optName_len {n : Int} {b : Bool} {l r : List Tk} {a : ByteArray} (h : optName n b l = .ok (a, r)) : r.length ≤ l.length := by
  unfold optName at h
  by_cases e : b = true
  · rw [if_pos e] at h
    obtain ⟨t, rfl, _⟩ := nameP_len h
    simp
  · rw [if_neg e] at h; cases h; exact Nat.le_refl _
theorem optNum_len {n : Int} {b : Bool} {l r : List Tk} {x : Nat} (h : optNum n b l = .ok (x, r)) : r.length ≤ l.length := by
  unfold optNum at h
  by_cases e : b = true
  · rw [if_pos e] at h
    obtain ⟨t, rfl, _⟩ := numP_len h
    simp
  · rw [if_neg e] at h; cases h; exact Nat.le_refl _
theorem midP_len {n : Int} {sh : Sh} {l r : List Tk} {y : ByteArray × List Ar × Nat × Int} (h : midP n sh l = .ok (y, r)) : r.length < l.length := by
  unfold midP at h
  cases h1 : optName n sh.name l with
  | error e => rw [h1] at h; cases h
  | ok y1 =>
    obtain ⟨nm, l1⟩ := y1
    rw [h1] at h
    simp only at h
    have g1 := optName_len h1
    cases h2 : argsP n sh (l1.length + 1) [] l1 with
    | error e => rw [h2] at h; cases h
    | ok y2 =>
      obtain ⟨aa, l2⟩ := y2
      rw [h2] at h
      simp only at h
      have g2 := argsP_len _ h2
      cases h3 : optNum n sh.num l2 with
      | error e => rw [h3] at h; cases h
      | ok y3 =>
        obtain ⟨x, l3⟩ := y3
        rw [h3] at h
        simp only at h
        have g3 := optNum_len h3
        cases h4 : signP n (lastS sh) l3 with
        | error e => rw [h4] at h; cases h
        | ok y4 =>
          obtain ⟨u, l4⟩ := y4
          rw [h4] at h
          cases h
          obtain ⟨rfl, _⟩ := signP_len h4
          simp only [List.length_cons] at g3
          omega
theorem restK_len (t : Tk) (r : List Tk) : (restK t r).length ≤ r.length + 1 := by
  unfold restK
  by_cases h : ownB t.t = true
  · rw [if_pos h]; omega
  · rw [if_neg h]; simp
end Go.Proofs.YtiepbfeliehjnaaDoor
