/-
  Plain mathematics: rows without one statement and those in it. Of no program.
-/
import Derived.Test.YtiepbfeliehjnaaDoorN6
namespace Go.Proofs.YtiepbfeliehjnaaDoor

/-- Rows without the m rows from number i on; those that hold them tell so many less. -/
def cutR : Nat → Nat → List Rw → List Rw
  | 0, m, rs => rs.drop m
  | _ + 1, _, [] => []
  | i + 1, m, r :: rs => (if ((i + 1 : Nat) : Int) ≤ r.rows then ⟨r.kind, r.name, r.args, r.num, r.rows - m, r.place⟩ else r) :: cutR i m rs
theorem cut_behind : ∀ (a b : List Rw) (i m : Nat), (∀ k (h : k < a.length), (k : Int) + a[k].rows < a.length) → cutR (a.length + i) m (a ++ b) = a ++ cutR i m b
  | [], b, i, m, _ => by simp
  | r :: a, b, i, m, h => by
    have h0 := h 0 (by simp)
    simp only [List.getElem_cons_zero, List.length_cons] at h0
    have ih := cut_behind a b i m (fun k hk => by
      have := h (k + 1) (by simp; omega)
      simp only [List.getElem_cons_succ, List.length_cons] at this
      omega)
    have e : (r :: a).length + i = (a.length + i) + 1 := by simp; omega
    rw [e]
    show (if ((a.length + i + 1 : Nat) : Int) ≤ r.rows then _ else r) :: cutR (a.length + i) m (a ++ b) = r :: (a ++ cutR i m b)
    rw [if_neg (by omega), ih]
theorem cut_ahead : ∀ (a b : List Rw) (i m : Nat), i + m ≤ a.length → cutR i m (a ++ b) = cutR i m a ++ b
  | a, b, 0, m, h => by
    show (a ++ b).drop m = a.drop m ++ b
    rw [List.drop_append_of_le_length (by omega)]
  | [], b, i + 1, m, h => by simp at h
  | r :: a, b, i + 1, m, h => by
    have ih := cut_ahead a b i m (by simp at h; omega)
    show _ :: cutR i m (a ++ b) = (_ :: cutR i m a) ++ b
    rw [ih]
    rfl
theorem cut_len : ∀ (a : List Rw) (i m : Nat), i + m ≤ a.length → (cutR i m a).length = a.length - m
  | a, 0, m, h => by show (a.drop m).length = _; simp
  | [], i + 1, m, h => by simp at h
  | r :: a, i + 1, m, h => by
    have ih := cut_len a i m (by simp at h; omega)
    show (_ :: cutR i m a).length = _
    simp only [List.length_cons] at h ⊢
    omega
/-- More fuel does not matter. -/
theorem stmt_more {n : Int} {rec rec' : Nat → List Tk → Except Fa (List Rw × List Tk)} (hrec : ∀ d l x, rec d l = .ok x → rec' d l = .ok x) {d : Nat} {l : List Tk} {x : List Rw × List Tk} (h : stmtP n rec d l = .ok x) : stmtP n rec' d l = .ok x := by
  obtain ⟨rs, r⟩ := x
  obtain ⟨t, u, nm, aa, y, p, l4, rfl, hm, hc⟩ := stmt_cases h
  rcases hc with ⟨hb, rfl, rfl⟩ | ⟨hb, hd, rs2, l5, hr, rfl, rfl⟩
  · exact stmt_flat hm hb
  · exact stmt_bo hm hb (by unfold bodyP; rw [if_neg hd, hrec _ _ _ hr])
theorem stmts_more {n : Int} : ∀ (f d : Nat) (l : List Tk) (x : List Rw × List Tk), stmtsP n f d l = .ok x → stmtsP n (f + 1) d l = .ok x := by
  intro f
  induction f with
  | zero => intro d l x h; cases h
  | succ f ih =>
    intro d l x h
    obtain ⟨rs, r⟩ := x
    rcases stmts_cases h with ⟨h1, rfl, rfl⟩ | ⟨h1, rs1, r1, rs2, h2, h3, rfl⟩
    · unfold stmtsP
      rw [if_pos h1]
    · unfold stmtsP
      rw [if_neg (by rw [h1]; decide), stmt_more ih h2]
      have h4 : stmtsP n (f + 1) d r1 = .ok (rs2, r) := ih _ _ _ h3
      show (match stmtsP n (f + 1) d r1 with | .error e => _ | .ok (rs2, r2) => _) = _
      rw [h4]
/-- A statement's rows lie within it. -/
theorem stmts_in {n : Int} : ∀ (f d : Nat) (l r : List Tk) (rs : List Rw), stmtsP n f d l = .ok (rs, r) → ∀ k (h : k < rs.length), 0 ≤ rs[k].rows ∧ (k : Int) + rs[k].rows < rs.length := by
  intro f d l r rs h k hk
  obtain ⟨pre, rfl, hm⟩ := stmts_marks f d l r rs h
  have := hm.2 k hk
  omega
end Go.Proofs.YtiepbfeliehjnaaDoor
