/-
  Plain mathematics: a program without one of its statements. Of no program of Go.
-/
import Derived.Test.YtiepbfeliehjnaaDoorN8
namespace Go.Proofs.YtiepbfeliehjnaaDoor

theorem prog_step {n : Int} {f : Nat} {l r1 : List Tk} {rs1 rs2 : List Rw} (h1 : stmtP n (stmtsP n f) 0 l = .ok (rs1, r1)) (h2 : progP n f r1 = .ok rs2) : progP n (f + 1) l = .ok (rs1 ++ rs2) := by
  cases l with
  | nil => cases h1
  | cons t u =>
    unfold progP
    rw [h1]
    show (match progP n f r1 with | .error e => _ | .ok rs2 => _) = _
    rw [h2]
theorem prog_more {n : Int} : ∀ (f : Nat) (l : List Tk) (rs : List Rw), progP n f l = .ok rs → progP n (f + 1) l = .ok rs := by
  intro f
  induction f with
  | zero => intro l rs h; cases h
  | succ f ih =>
    intro l rs h
    rcases prog_cases h with ⟨rfl, rfl⟩ | ⟨hne, rs1, r1, rs2, h2, h3, rfl⟩
    · rfl
    · exact prog_step (stmt_more (fun d l x h => stmts_more f d l x h) h2) (ih _ _ h3)
theorem prog_loc {n : Int} : ∀ (f : Nat) (l : List Tk) (rs : List Rw), progP n f l = .ok rs → ∀ n' l', Lk l l' → ∃ rs', progP n' f l' = .ok rs' ∧ RL rs rs' := by
  intro f
  induction f with
  | zero => intro l rs h; cases h
  | succ f ih =>
    intro l rs h n' l' hl
    rcases prog_cases h with ⟨rfl, rfl⟩ | ⟨hne, rs1, r1, rs2, h2, h3, rfl⟩
    · rw [hl.nil]; exact ⟨[], rfl, rfl⟩
    · obtain ⟨p1, hne1, e1, L1⟩ := stmt_loc (stmts_loc f) h2
      subst e1
      obtain ⟨q1, q2, rfl, g1, g2⟩ := hl.split
      obtain ⟨a1, k1, m1⟩ := L1 n' q1 q2 g1
      obtain ⟨a2, k2, m2⟩ := ih _ _ h3 n' q2 g2
      exact ⟨a1 ++ a2, prog_step k1 k2, m1.app m2⟩
/-- What stands behind a statement that is taken out: nothing, or the next one. -/
def NextB (rs : List Rw) (k : Nat) (B : List Tk) : Prop := (B = [] ∧ k = rs.length) ∨ ∃ b B0 rn, B = b :: B0 ∧ rs[k]? = some rn ∧ b.p = rn.place
theorem prog_first {n : Int} {f : Nat} {l : List Tk} {rs : List Rw} (h : progP n f l = .ok rs) : NextB rs 0 l := by
  cases f with
  | zero => cases h
  | succ f =>
    rcases prog_cases h with ⟨rfl, rfl⟩ | ⟨hne, rs1, r1, rs2, h2, h3, rfl⟩
    · exact .inl ⟨rfl, rfl⟩
    · obtain ⟨t, u, nm, aa, x, p, l4, rfl, hm, hc⟩ := stmt_cases h2
      rcases hc with ⟨hb, rfl, rfl⟩ | ⟨hb, hd, rs3, l5, hr, rfl, rfl⟩
      · exact .inr ⟨t, u, _, rfl, rfl, rfl⟩
      · exact .inr ⟨t, u, _, rfl, rfl, rfl⟩
theorem NextB.app {rs1 rs2 : List Rw} {k : Nat} {B : List Tk} (h : NextB rs2 k B) : NextB (rs1 ++ rs2) (rs1.length + k) B := by
  rcases h with ⟨h1, h2⟩ | ⟨b, B0, rn, h1, h2, h3⟩
  · exact .inl ⟨h1, by rw [List.length_append, h2]⟩
  · exact .inr ⟨b, B0, rn, h1, by rw [List.getElem?_append_right (by omega)]; simpa using h2, h3⟩
theorem prog_cut {n : Int} : ∀ (f : Nat) (l : List Tk) (rs : List Rw), progP n f l = .ok rs → ∀ (i m : Nat) (ri : Rw), rs[i]? = some ri → (m : Int) = ri.rows + 1 → (∀ j rj, j < i → rs[j]? = some rj → (i : Int) ≤ j + rj.rows → (j : Int) + rj.rows + 1 ≠ i + m) →
    ∃ A s S B, l = A ++ (s :: S ++ B) ∧ s.p = ri.place ∧ NextB rs (i + m) B ∧ ∀ n' A' B', Lk A A' → Lk B B' → ∃ rs', progP n' f (A' ++ B') = .ok rs' ∧ RL (cutR i m rs) rs' := by
  intro f
  induction f with
  | zero => intro l rs h; cases h
  | succ f ih =>
    intro l rs h i m ri hi hm hj
    rcases prog_cases h with ⟨rfl, rfl⟩ | ⟨hne0, rs1, r1, rs2, h2, h3, rfl⟩
    · cases hi
    obtain ⟨p1, hne, e1, L1⟩ := stmt_loc (stmts_loc f) h2
    obtain ⟨t, u, nm, aa, x, p, l4, el, hmid, hc⟩ := stmt_cases h2
    obtain ⟨sub, hd, hrs1, hrow, hpl, hsub⟩ : ∃ sub hd, rs1 = hd :: sub ∧ hd.rows = sub.length ∧ hd.place = t.p ∧ ∀ k (h : k < sub.length), (k : Int) + sub[k].rows < sub.length := by
      rcases hc with ⟨hb, rfl, rfl⟩ | ⟨hb, hd, rs3, l5, hr, rfl, rfl⟩
      · exact ⟨[], _, rfl, rfl, rfl, fun k h => absurd h (Nat.not_lt_zero _)⟩
      · exact ⟨rs3, _, rfl, rfl, rfl, fun k h => (stmts_in f _ _ _ _ hr k h).2⟩
    have hin : ∀ k (h : k < rs1.length), (k : Int) + rs1[k].rows < rs1.length := by
      subst hrs1
      intro k hk
      cases k with
      | zero => simp only [List.getElem_cons_zero, List.length_cons]; omega
      | succ k =>
        have := hsub k (by simpa using hk)
        simp only [List.getElem_cons_succ, List.length_cons]
        omega
    by_cases hA : rs1.length ≤ i
    · obtain ⟨i', rfl⟩ : ∃ i', i = rs1.length + i' := ⟨i - rs1.length, by omega⟩
      have hi' : rs2[i']? = some ri := by rw [List.getElem?_append_right (by omega)] at hi; simpa using hi
      obtain ⟨A, s, S, B, e2, hs, hb, L2⟩ := ih r1 rs2 h3 i' m ri hi' hm (fun j rj hlt hrj hle => by
        have := hj (rs1.length + j) rj (by omega) (by rw [List.getElem?_append_right (by omega)]; simpa using hrj) (by push_cast; omega)
        push_cast at this
        omega)
      subst e2
      refine ⟨p1 ++ A, s, S, B, by rw [e1]; simp, hs, by rw [Nat.add_assoc]; exact hb.app, fun n' A' B' hl hB => ?_⟩
      obtain ⟨q1, q2, rfl, g1, g2⟩ := hl.split
      obtain ⟨a1, k1, m1⟩ := L1 n' q1 (q2 ++ B') g1
      obtain ⟨a2, k2, m2⟩ := L2 n' q2 B' g2 hB
      refine ⟨a1 ++ a2, ?_, ?_⟩
      · rw [List.append_assoc]
        exact prog_step k1 k2
      · rw [cut_behind rs1 rs2 i' m hin]
        exact m1.app m2
    · cases i with
      | zero =>
        subst hrs1
        have hri : hd = ri := by simpa using hi
        subst hri
        have hml : m = (hd :: sub).length := by simp only [List.length_cons]; omega
        obtain ⟨p0, rfl⟩ : ∃ p0, p1 = t :: p0 := by
          cases p1 with
          | nil => exact absurd rfl hne
          | cons t0 p0 => rw [el] at e1; cases e1; exact ⟨p0, rfl⟩
        refine ⟨[], t, p0, r1, by rw [e1]; simp, hpl.symm, by rw [Nat.zero_add, hml]; exact (prog_first h3).app (k := 0), fun n' A' B' hl hB => ?_⟩
        rw [hl.nil]
        obtain ⟨a2, k2, m2⟩ := prog_loc f _ _ h3 n' B' hB
        refine ⟨a2, prog_more f _ _ k2, ?_⟩
        show RL ((hd :: sub ++ rs2).drop m) a2
        rw [hml, List.drop_left]
        exact m2
      | succ i =>
        have hlt : i < sub.length := by rw [hrs1] at hA; simp at hA; omega
        rcases hc with ⟨hb, e3, e4⟩ | ⟨hb, hd32, rs3, l5, hr, e3, e4⟩
        · rw [hrs1] at e3; cases e3; simp at hlt
        rw [hrs1] at e3
        cases e3
        subst hrs1
        have hi' : sub[i]? = some ri := by
          rw [List.getElem?_append_left (by simp; omega)] at hi
          simpa using hi
        have hri : ri = sub[i] := by rw [List.getElem?_eq_getElem hlt] at hi'; exact (Option.some.inj hi').symm
        have h0 := hj 0 _ (by omega) rfl (by show ((i + 1 : Nat) : Int) ≤ (0 : Nat) + (sub.length : Int); omega)
        have h0 : ((0 : Nat) : Int) + (sub.length : Int) + 1 ≠ ((i + 1 : Nat) : Int) + m := h0
        have hb2 := hsub i hlt
        rw [← hri] at hb2
        have him : i + m < sub.length := by omega
        have hn' : sub[i + m]? = some sub[i + m] := List.getElem?_eq_getElem him
        obtain ⟨A, s, S, b, B, e5, hs, hbp, LB⟩ := stmts_cut f 1 l4 l5 sub hr i m ri _ hi' hm hn' (fun j rj hlt2 hrj hle => by
          have := hj (j + 1) rj (by omega) (by rw [List.getElem?_append_left (by simp; have := (List.getElem?_eq_some_iff.1 hrj).1; omega)]; simpa using hrj) (by push_cast; omega)
          push_cast at this
          omega)
        obtain ⟨hsee, _⟩ := stmts_loc f _ _ _ _ hr
        obtain ⟨c, r5, e6, hcs⟩ := seesB_cons hsee
        obtain ⟨mm, hu, LT⟩ := mid_head hmid
        subst e6
        have e4 : r1 = r5 := e4
        subst e4
        subst e5
        subst hu
        refine ⟨t :: (mm ++ A), s, S, b :: (B ++ (c :: r1)), by rw [el]; simp, hs, .inr ⟨b, _, sub[i + m], rfl, ?_, hbp⟩, fun n' A' B' hl hB => ?_⟩
        · rw [List.getElem?_append_left (by simp; omega), show i + 1 + m = (i + m) + 1 by omega]
          simp
        obtain ⟨t', A1, rfl, t1, t2, hl⟩ := hl.cons
        obtain ⟨m1, A2, rfl, g1, g2⟩ := hl.split
        obtain ⟨B1, B2, rfl, g3, g4⟩ := Lk.split (a1 := b :: B) (a2 := c :: r1) hB
        obtain ⟨c', q2, rfl, c1, c2, g5⟩ := g4.cons
        obtain ⟨sub', kB, mB⟩ := LB n' A2 B1 (c' :: q2) g2 g3 (by show some (c.k, c.t) = some (c'.k, c'.t); rw [c1, c2])
        obtain ⟨p', h'⟩ := LT n' t' m1 (A2 ++ (B1 ++ (c' :: q2))) t1 t2 g1
        obtain ⟨a2, k2, m2⟩ := prog_loc f _ _ h3 n' q2 g5
        obtain ⟨k1, k3, _⟩ := sh_like t2
        have h5 : bodyP (stmtsP n' f) 0 p' (A2 ++ (B1 ++ (c' :: q2))) = .ok (sub', q2) := by unfold bodyP; rw [if_neg hd32, kB]; rfl
        have k4 := stmt_bo h' (by rw [k1]; exact hb) h5
        have e9 : t' :: (m1 ++ A2) ++ (B1 ++ c' :: q2) = t' :: (m1 ++ (A2 ++ (B1 ++ (c' :: q2)))) := by simp
        refine ⟨⟨kindK t', nm, aa, x, sub'.length, t'.p⟩ :: sub' ++ a2, ?_, ?_⟩
        · rw [e9]
          exact prog_step k4 k2
        · have e10 : cutR (i + 1) m (⟨kindK t, nm, aa, x, sub.length, t.p⟩ :: sub ++ rs2) = ⟨kindK t, nm, aa, x, (sub.length : Int) - m, t.p⟩ :: (cutR i m sub ++ rs2) := by
            show (if ((i + 1 : Nat) : Int) ≤ (sub.length : Int) then _ else _) :: cutR i m (sub ++ rs2) = _
            rw [if_pos (by omega), cut_ahead _ _ _ _ (by omega)]
          rw [e10]
          show RL (_ :: (cutR i m sub ++ rs2)) (_ :: (sub' ++ a2))
          refine RL.cons ?_ (mB.app m2)
          have hl9 := mB.len
          rw [cut_len _ _ _ (by omega)] at hl9
          rw [k3]
          unfold rk
          simp only
          rw [show (sub.length : Int) - m = (sub'.length : Int) by omega]
end Go.Proofs.YtiepbfeliehjnaaDoor
