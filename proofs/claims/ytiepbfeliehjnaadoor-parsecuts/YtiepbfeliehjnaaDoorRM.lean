/-
  Plain mathematics: a statement read as the reference reads it. Of no program.
-/
import Derived.Test.YtiepbfeliehjnaaDoorR4
namespace Go.Proofs.YtiepbfeliehjnaaDoor

/-- A body with its opening sign. -/
def bdP (n : Int) (rec : Nat → List Tk → Except Fa (List Rw × List Tk)) (d : Nat) (r : List Tk) : Except Fa (List Rw × List Tk) :=
  match signP n wOpen r with | .error q => .error q | .ok (u, r1) => bodyP rec d u.p r1
section
variable {n : Int} {rec : Nat → List Tk → Except Fa (List Rw × List Tk)} {d : Nat} {t : Tk} {r : List Tk}
def y1 (n : Int) (sh : Sh) (r : List Tk) := stp (.ok r) (optName n sh.name)
def argsQ (n : Int) (sh : Sh) (l1 : List Tk) := argsP n sh (l1.length + 1) [] l1
def y2 (n : Int) (sh : Sh) (r : List Tk) := stp (rst (y1 n sh r)) (argsQ n sh)
def y3 (n : Int) (sh : Sh) (r : List Tk) := stp (rst (y2 n sh r)) (optNum n sh.num)
theorem mid_st (sh : Sh) (r : List Tk) : (∃ q, rst (y3 n sh r) = .error q ∧ midP n sh r = .error q) ∨
    ∃ nm aa x l3, y1 n sh r = .ok (nm, (rst (y1 n sh r)).toOption.getD []) ∧ y2 n sh r = .ok (aa, (rst (y2 n sh r)).toOption.getD []) ∧ y3 n sh r = .ok (x, l3) ∧ midP n sh r = (match signP n (lastS sh) l3 with | .error q => .error q | .ok (u, l4) => .ok ((nm, aa, x, u.p), l4)) := by
  cases h1 : optName n sh.name r with
  | error q =>
    have e1 : y1 n sh r = .error q := h1
    refine .inl ⟨q, ?_, mid_e1 h1⟩
    unfold y3 y2
    rw [e1]
    rfl
  | ok z =>
    obtain ⟨nm, l1⟩ := z
    have e1 : y1 n sh r = .ok (nm, l1) := h1
    cases h2 : argsP n sh (l1.length + 1) [] l1 with
    | error q =>
      have e2 : y2 n sh r = .error q := by unfold y2; rw [e1]; exact h2
      refine .inl ⟨q, ?_, mid_e2 h1 h2⟩
      unfold y3
      rw [e2]
      rfl
    | ok z =>
      obtain ⟨aa, l2⟩ := z
      have e2 : y2 n sh r = .ok (aa, l2) := by unfold y2; rw [e1]; exact h2
      cases h3 : optNum n sh.num l2 with
      | error q =>
        have e3 : y3 n sh r = .error q := by unfold y3; rw [e2]; exact h3
        refine .inl ⟨q, ?_, mid_e3 h1 h2 h3⟩
        rw [e3]
        rfl
      | ok z =>
        obtain ⟨x, l3⟩ := z
        have e3 : y3 n sh r = .ok (x, l3) := by unfold y3; rw [e2]; exact h3
        refine .inr ⟨nm, aa, x, l3, by rw [e1]; rfl, by rw [e2]; rfl, e3, ?_⟩
        unfold midP
        simp only [h1, h2, h3]
        cases signP n (lastS sh) l3 with
        | error q => rfl
        | ok z => rfl
theorem st_flat (hb : (shK t).body = false) (nm : ByteArray) (aa : List Ar) (x : Nat) (h1 : isv (y1 n (shK t) (restK t r)) nm) (h2 : isv (y2 n (shK t) (restK t r)) aa) (h3 : isv (y3 n (shK t) (restK t r)) x) :
    rst (stmtP n rec d (t :: r)) = rst (stp (rst (y3 n (shK t) (restK t r))) (signP n wSemi)) ∧ ∀ rs2 r2, stmtP n rec d (t :: r) = .ok (rs2, r2) → rs2 = [⟨kindK t, nm, aa, x, 0, t.p⟩] := by
  have hl : lastS (shK t) = wSemi := by unfold lastS; rw [hb]; rfl
  rcases mid_st (n := n) (shK t) (restK t r) with ⟨q, e, em⟩ | ⟨nm', aa', x', l3, e1, e2, e3, em⟩
  · rw [stmt_mid em, e]
    exact ⟨rfl, fun rs2 r2 h => by cases h⟩
  · rw [hl] at em
    obtain rfl := h1 _ _ e1
    obtain rfl := h2 _ _ e2
    obtain rfl := h3 _ _ e3
    have er : rst (y3 n (shK t) (restK t r)) = .ok l3 := by rw [e3]; rfl
    rw [er]
    show _ = rst (signP n wSemi l3) ∧ _
    cases hs : signP n wSemi l3 with
    | error q =>
      rw [hs] at em
      rw [stmt_mid em]
      exact ⟨rfl, fun rs2 r2 h => by cases h⟩
    | ok z =>
      obtain ⟨u, l4⟩ := z
      rw [hs] at em
      rw [stmt_flat em hb]
      exact ⟨rfl, fun rs2 r2 h => by cases h; rfl⟩
theorem st_body (hb : (shK t).body = true) (nm : ByteArray) (aa : List Ar) (x : Nat) (h1 : isv (y1 n (shK t) (restK t r)) nm) (h2 : isv (y2 n (shK t) (restK t r)) aa) (h3 : isv (y3 n (shK t) (restK t r)) x) :
    rst (stmtP n rec d (t :: r)) = rst (stp (rst (y3 n (shK t) (restK t r))) (bdP n rec d)) ∧ ∀ rs2 r2, stmtP n rec d (t :: r) = .ok (rs2, r2) → ∃ sub, stp (rst (y3 n (shK t) (restK t r))) (bdP n rec d) = .ok (sub, r2) ∧ rs2 = ⟨kindK t, nm, aa, x, sub.length, t.p⟩ :: sub := by
  have hl : lastS (shK t) = wOpen := by unfold lastS; rw [hb]; rfl
  rcases mid_st (n := n) (shK t) (restK t r) with ⟨q, e, em⟩ | ⟨nm', aa', x', l3, e1, e2, e3, em⟩
  · rw [stmt_mid em, e]
    exact ⟨rfl, fun rs2 r2 h => by cases h⟩
  · rw [hl] at em
    obtain rfl := h1 _ _ e1
    obtain rfl := h2 _ _ e2
    obtain rfl := h3 _ _ e3
    have er : rst (y3 n (shK t) (restK t r)) = .ok l3 := by rw [e3]; rfl
    rw [er]
    show _ = rst (bdP n rec d l3) ∧ ∀ rs2 r2, _ → ∃ sub, bdP n rec d l3 = .ok (sub, r2) ∧ _
    unfold bdP
    cases hs : signP n wOpen l3 with
    | error q =>
      rw [hs] at em
      rw [stmt_mid em]
      exact ⟨rfl, fun rs2 r2 h => by cases h⟩
    | ok z =>
      obtain ⟨u, l4⟩ := z
      rw [hs] at em
      show _ = rst (bodyP rec d u.p l4) ∧ ∀ rs2 r2, _ → ∃ sub, bodyP rec d u.p l4 = .ok (sub, r2) ∧ _
      cases h5 : bodyP rec d u.p l4 with
      | error q =>
        rw [stmt_be em hb h5]
        exact ⟨rfl, fun rs2 r2 h => by cases h⟩
      | ok z =>
        obtain ⟨sub, l5⟩ := z
        rw [stmt_bo em hb h5]
        exact ⟨rfl, fun rs2 r2 h => by cases h; exact ⟨sub, rfl, rfl⟩⟩
end
theorem rst_ok {α : Type} (s : Except Fa (List Tk)) (x : α) (f : List Tk → Except Fa (α × List Tk)) (h : ∀ r, s = .ok r → f r = .ok (x, r)) : rst (stp s f) = s ∧ isv (stp s f) x := by
  cases s with
  | error q => exact ⟨rfl, fun a r e => by cases e⟩
  | ok r =>
    have e : stp (.ok r) f = .ok (x, r) := h r rfl
    rw [e]
    exact ⟨rfl, fun a r e => by cases e; rfl⟩
/-- No number; no name; no arguments. -/
theorem num_none {n : Int} (s : Except Fa (List Tk)) : rst (stp s (optNum n false)) = s ∧ isv (stp s (optNum n false)) 0 := rst_ok s 0 _ fun _ _ => rfl
theorem args_none {n : Int} {sh : Sh} (h : sh.args = 0) (s : Except Fa (List Tk)) : rst (stp s (argsQ n sh)) = s ∧ isv (stp s (argsQ n sh)) [] := rst_ok s [] _ fun _ _ => by
  unfold argsQ argsP moreB
  rw [h]
  rfl
theorem num_true {n : Int} : optNum n true = numP n := by funext l; rfl
theorem name_true {n : Int} : optName n true = nameP n := by funext l; rfl
end Go.Proofs.YtiepbfeliehjnaaDoor
