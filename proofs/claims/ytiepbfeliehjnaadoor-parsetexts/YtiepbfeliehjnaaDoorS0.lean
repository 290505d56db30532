/-
  Plain mathematics: rows are no more than the tokens that they are read from. Of no program.
-/
import Derived.Test.YtiepbfeliehjnaaDoorP9
import Derived.Test.YtiepbfeliehjnaaDoorRM
namespace Go.Proofs.YtiepbfeliehjnaaDoor

theorem stmt_count {n : Int} {rec : Nat → List Tk → Except Fa (List Rw × List Tk)} {d : Nat} {l r : List Tk} {rs : List Rw} (hrec : ∀ d l r rs, rec d l = .ok (rs, r) → rs.length + r.length ≤ l.length) (h : stmtP n rec d l = .ok (rs, r)) : rs.length + r.length ≤ l.length := by
  cases l with
  | nil => cases h
  | cons t u =>
    have h0 := restK_len t u
    cases hm : midP n (shK t) (restK t u) with
    | error q => rw [stmt_mid hm] at h; cases h
    | ok y =>
      obtain ⟨⟨nm, aa, x, p⟩, l4⟩ := y
      have h1 := midP_len hm
      cases hb : (shK t).body with
      | false =>
        rw [stmt_flat hm hb] at h
        cases h
        simp only [List.length_cons, List.length_nil]
        omega
      | true =>
        cases h5 : bodyP rec d p l4 with
        | error q => rw [stmt_be hm hb h5] at h; cases h
        | ok z =>
          obtain ⟨sub, l5⟩ := z
          rw [stmt_bo hm hb h5] at h
          cases h
          unfold bodyP at h5
          by_cases hd : 32 ≤ d
          · rw [if_pos hd] at h5; cases h5
          · rw [if_neg hd] at h5
            cases hr : rec (d + 1) l4 with
            | error e => rw [hr] at h5; cases h5
            | ok z =>
              obtain ⟨rs1, l6⟩ := z
              rw [hr] at h5
              cases h5
              have h2 := hrec _ _ _ _ hr
              simp only [List.length_cons, List.length_tail]
              omega
theorem stmts_count {n : Int} : ∀ (f d : Nat) (l r : List Tk) (rs : List Rw), stmtsP n f d l = .ok (rs, r) → rs.length + r.length ≤ l.length := by
  intro f
  induction f with
  | zero => intro d l r rs h; cases h
  | succ f ih =>
    intro d l r rs h
    unfold stmtsP at h
    by_cases hs : seesB wShut l = true
    · rw [if_pos hs] at h; cases h; simp
    · rw [if_neg hs] at h
      cases h1 : stmtP n (stmtsP n f) d l with
      | error q => rw [h1] at h; cases h
      | ok y =>
        obtain ⟨rs1, r1⟩ := y
        rw [h1] at h
        simp only at h
        have c1 := stmt_count ih h1
        cases h2 : stmtsP n f d r1 with
        | error q => rw [h2] at h; cases h
        | ok y =>
          obtain ⟨rs2, r2⟩ := y
          rw [h2] at h
          cases h
          have c2 := ih _ _ _ _ h2
          rw [List.length_append]
          omega
/-- The measure of a state. -/
def mS (s : Except Fa (List Tk)) : Nat := match s with | .error _ => 0 | .ok r => r.length + 1
/-- The statements of a body and its shutting sign. -/
def zP (n : Int) (F d : Nat) (r1 : List Tk) : Except Fa (List Rw × List Tk) := match stmtsP n F (d + 1) r1 with | .error e => .error e | .ok (rs, l5) => .ok (rs, l5.tail)
theorem bd_want {n : Int} {F d : Nat} (hd : ¬ 32 ≤ d) (s : Except Fa (List Tk)) : stp s (bdP n (stmtsP n F) d) = stp (rst (stp s (signP n wOpen))) (zP n F d) := by
  cases s with
  | error q => rfl
  | ok r =>
    show bdP n (stmtsP n F) d r = stp (rst (signP n wOpen r)) (zP n F d)
    unfold bdP
    cases hs : signP n wOpen r with
    | error q => rfl
    | ok z =>
      obtain ⟨u, r1⟩ := z
      show bodyP (stmtsP n F) d u.p r1 = zP n F d r1
      unfold bodyP zP
      rw [if_neg hd]
      cases stmtsP n F (d + 1) r1 with
      | error e => rfl
      | ok z => rfl
end Go.Proofs.YtiepbfeliehjnaaDoor
