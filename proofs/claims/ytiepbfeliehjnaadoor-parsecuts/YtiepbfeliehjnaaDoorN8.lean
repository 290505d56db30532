/-
  Plain mathematics: a body's statements without one of them. Of no program.
-/
import Derived.Test.YtiepbfeliehjnaaDoorN7
namespace Go.Proofs.YtiepbfeliehjnaaDoor

theorem HL.front {a a' : List Tk} (h : Lk a a') (hne : a ≠ []) (x y : List Tk) : HL (a ++ x) (a' ++ y) := by
  cases a with
  | nil => exact absurd rfl hne
  | cons t a =>
    obtain ⟨t', b', rfl, e1, e2, _⟩ := h.cons
    show some (t.k, t.t) = some (t'.k, t'.t)
    rw [e1, e2]
theorem mid_head {n : Int} {t : Tk} {u l4 : List Tk} {nm : ByteArray} {aa : List Ar} {x : Nat} {p : Int} (hm : midP n (shK t) (restK t u) = .ok ((nm, aa, x, p), l4)) :
    ∃ m, u = m ++ l4 ∧ ∀ n' t' m' r', t'.k = t.k → t'.t = t.t → Lk m m' → ∃ p', midP n' (shK t') (restK t' (m' ++ r')) = .ok ((nm, aa, x, p'), r') := by
  obtain ⟨pm, em, LM⟩ := mid_loc hm
  by_cases ho : ownB t.t = true
  · have er : restK t u = u := by unfold restK; rw [if_pos ho]
    rw [er] at em
    refine ⟨pm, em, fun n' t' m' r' e1 e2 hl => ?_⟩
    obtain ⟨k1, _, k3⟩ := sh_like e2
    rw [k1, k3, if_pos ho]
    exact LM n' m' r' hl
  · have er : restK t u = t :: u := by unfold restK; rw [if_neg ho]
    rw [er] at em
    have hlen := midP_len hm
    rw [er] at hlen
    cases pm with
    | nil => rw [em] at hlen; simp at hlen
    | cons t0 pm =>
      cases em
      refine ⟨pm, rfl, fun n' t' m' r' e1 e2 hl => ?_⟩
      obtain ⟨k1, _, k3⟩ := sh_like e2
      rw [k1, k3, if_neg ho]
      exact LM n' (t' :: m') r' (by unfold Lk kt at *; rw [List.map_cons, List.map_cons, e1, e2, hl])
/-- The first token of statements, and what they are read from. -/
theorem stmts_first {n : Int} {f d : Nat} {l r : List Tk} {rs : List Rw} {rn : Rw} (h : stmtsP n f d l = .ok (rs, r)) (h0 : rs[0]? = some rn) :
    ∃ b B, l = b :: B ++ r ∧ b.p = rn.place ∧ ∀ n' B' r', Lk (b :: B) B' → HL r r' → ∃ rs', stmtsP n' f d (B' ++ r') = .ok (rs', r') ∧ RL rs rs' := by
  cases f with
  | zero => cases h
  | succ f =>
    obtain ⟨hsee, p2, e2, L2⟩ := stmts_loc (f + 1) _ _ _ _ h
    rcases stmts_cases h with ⟨h1, rfl, rfl⟩ | ⟨h1, rs1, r1, rs2, h2, h3, rfl⟩
    · cases h0
    · obtain ⟨t, u, nm, aa, x, p, l4, rfl, hm, hc⟩ := stmt_cases h2
      cases p2 with
      | nil =>
        have e2 : t :: u = r := e2
        rw [e2, hsee] at h1
        cases h1
      | cons b B =>
        cases e2
        refine ⟨t, B, rfl, ?_, L2⟩
        rcases hc with ⟨hb, rfl, rfl⟩ | ⟨hb, hd, rs3, l5, hr, rfl, rfl⟩
        · cases h0; rfl
        · cases h0; rfl
theorem stmts_cut {n : Int} : ∀ (f d : Nat) (l r : List Tk) (rs : List Rw), stmtsP n f d l = .ok (rs, r) → ∀ (i m : Nat) (ri rn : Rw), rs[i]? = some ri → (m : Int) = ri.rows + 1 → rs[i + m]? = some rn → (∀ j rj, j < i → rs[j]? = some rj → (i : Int) ≤ j + rj.rows → (j : Int) + rj.rows + 1 ≠ i + m) →
    ∃ A s S b B, l = A ++ (s :: S ++ (b :: B ++ r)) ∧ s.p = ri.place ∧ b.p = rn.place ∧ ∀ n' A' B' r', Lk A A' → Lk (b :: B) B' → HL r r' → ∃ rs', stmtsP n' f d (A' ++ (B' ++ r')) = .ok (rs', r') ∧ RL (cutR i m rs) rs' := by
  intro f
  induction f with
  | zero => intro d l r rs h; cases h
  | succ f ih =>
    intro d l r rs h i m ri rn hi hm hn hj
    rcases stmts_cases h with ⟨h1, rfl, rfl⟩ | ⟨h1, rs1, r1, rs2, h2, h3, rfl⟩
    · cases hi
    obtain ⟨p1, hne, e1, L1⟩ := stmt_loc (stmts_loc f) h2
    obtain ⟨t, u, nm, aa, x, p, l4, el, hmid, hc⟩ := stmt_cases h2
    obtain ⟨sub, hd, hrs1, hrow, hpl, hsub⟩ : ∃ sub hd, rs1 = hd :: sub ∧ hd.rows = sub.length ∧ hd.place = t.p ∧ ∀ k (h : k < sub.length), (k : Int) + sub[k].rows < sub.length := by
      rcases hc with ⟨hb, rfl, rfl⟩ | ⟨hb, hd, rs3, l5, hr, rfl, rfl⟩
      · exact ⟨[], _, rfl, rfl, rfl, fun k h => absurd h (Nat.not_lt_zero _)⟩
      · exact ⟨rs3, _, rfl, rfl, rfl, fun k h => (stmts_in f _ _ _ _ hr k h).2⟩
    have hin : ∀ k (h : k < rs1.length), (k : Int) + rs1[k].rows < rs1.length := by
      subst hrs1
      intro k hk
      cases k with
      | zero => simp only [List.getElem_cons_zero, List.length_cons]; omega
      | succ k =>
        have := hsub k (by simpa using hk)
        simp only [List.getElem_cons_succ, List.length_cons]
        omega
    have hshut : ∀ {q1 y : List Tk}, Lk p1 q1 → seesB wShut (q1 ++ y) = false := fun {q1 y} g => by
      rw [← (HL.front g hne r1 y).sees, ← e1]; exact h1
    by_cases hA : rs1.length ≤ i
    · obtain ⟨i', rfl⟩ : ∃ i', i = rs1.length + i' := ⟨i - rs1.length, by omega⟩
      have hi' : rs2[i']? = some ri := by rw [List.getElem?_append_right (by omega)] at hi; simpa using hi
      have hn' : rs2[i' + m]? = some rn := by
        rw [List.getElem?_append_right (by omega)] at hn
        rw [← hn]; congr 1; omega
      obtain ⟨A, s, S, b, B, e2, hs, hb, L2⟩ := ih d r1 r rs2 h3 i' m ri rn hi' hm hn' (fun j rj hlt hrj hle => by
        have := hj (rs1.length + j) rj (by omega) (by rw [List.getElem?_append_right (by omega)]; simpa using hrj) (by push_cast; omega)
        push_cast at this
        omega)
      subst e2
      refine ⟨p1 ++ A, s, S, b, B, by rw [e1]; simp, hs, hb, fun n' A' B' r' hl hB hh => ?_⟩
      obtain ⟨q1, q2, rfl, g1, g2⟩ := hl.split
      obtain ⟨a1, k1, m1⟩ := L1 n' q1 (q2 ++ (B' ++ r')) g1
      obtain ⟨a2, k2, m2⟩ := L2 n' q2 B' r' g2 hB hh
      refine ⟨a1 ++ a2, ?_, ?_⟩
      · rw [List.append_assoc]
        unfold stmtsP
        rw [if_neg (by rw [hshut g1]; decide), k1]
        show (match stmtsP n' f d (q2 ++ (B' ++ r')) with | .error e => _ | .ok (rs2, r2) => _) = _
        rw [k2]
      · rw [cut_behind rs1 rs2 i' m hin]
        exact m1.app m2
    · cases i with
      | zero =>
        subst hrs1
        have hri : hd = ri := by simpa using hi
        subst hri
        have hml : m = (hd :: sub).length := by simp only [List.length_cons]; omega
        have hn' : rs2[0]? = some rn := by
          rw [Nat.zero_add, hml, List.getElem?_append_right (Nat.le_refl _), Nat.sub_self] at hn
          exact hn
        obtain ⟨b, B, e2, hb, L2⟩ := stmts_first h3 hn'
        obtain ⟨p0, rfl⟩ : ∃ p0, p1 = t :: p0 := by
          cases p1 with
          | nil => exact absurd rfl hne
          | cons t0 p0 => rw [el] at e1; cases e1; exact ⟨p0, rfl⟩
        refine ⟨[], t, p0, b, B, by rw [e1, e2]; simp, hpl.symm, hb, fun n' A' B' r' hl hB hh => ?_⟩
        rw [hl.nil]
        obtain ⟨a2, k2, m2⟩ := L2 n' B' r' hB hh
        refine ⟨a2, stmts_more f _ _ _ k2, ?_⟩
        show RL ((hd :: sub ++ rs2).drop m) a2
        rw [hml, List.drop_left]
        exact m2
      | succ i =>
        have hlt : i < sub.length := by rw [hrs1] at hA; simp at hA; omega
        rcases hc with ⟨hb, e3, e4⟩ | ⟨hb, hd32, rs3, l5, hr, e3, e4⟩
        · rw [hrs1] at e3; cases e3; simp at hlt
        rw [hrs1] at e3
        cases e3
        subst hrs1
        have hi' : sub[i]? = some ri := by
          rw [List.getElem?_append_left (by simp; omega)] at hi
          simpa using hi
        have hri : ri = sub[i] := by rw [List.getElem?_eq_getElem hlt] at hi'; exact (Option.some.inj hi').symm
        have h0 := hj 0 _ (by omega) rfl (by show ((i + 1 : Nat) : Int) ≤ (0 : Nat) + (sub.length : Int); omega)
        have h0 : ((0 : Nat) : Int) + (sub.length : Int) + 1 ≠ ((i + 1 : Nat) : Int) + m := h0
        have hb2 := hsub i hlt
        rw [← hri] at hb2
        have him : i + m < sub.length := by omega
        have hn' : sub[i + m]? = some rn := by
          rw [List.getElem?_append_left (by simp; omega), show i + 1 + m = (i + m) + 1 by omega] at hn
          simpa using hn
        obtain ⟨A, s, S, b, B, e5, hs, hbp, LB⟩ := ih (d + 1) l4 l5 sub hr i m ri rn hi' hm hn' (fun j rj hlt2 hrj hle => by
          have := hj (j + 1) rj (by omega) (by rw [List.getElem?_append_left (by simp; have := (List.getElem?_eq_some_iff.1 hrj).1; omega)]; simpa using hrj) (by push_cast; omega)
          push_cast at this
          omega)
        obtain ⟨hsee, _⟩ := stmts_loc f _ _ _ _ hr
        obtain ⟨c, r5, e6, hcs⟩ := seesB_cons hsee
        obtain ⟨mm, hu, LT⟩ := mid_head hmid
        obtain ⟨_, p2, e7, L2⟩ := stmts_loc f _ _ _ _ h3
        subst e6
        have e4 : r1 = r5 := e4
        subst e4
        subst e7
        subst e5
        subst hu
        refine ⟨t :: (mm ++ A), s, S, b, B ++ (c :: p2), by rw [el]; simp, hs, hbp, fun n' A' B' r' hl hB hh => ?_⟩
        obtain ⟨t', A1, rfl, t1, t2, hl⟩ := hl.cons
        obtain ⟨m1, A2, rfl, g1, g2⟩ := hl.split
        obtain ⟨B1, B2, rfl, g3, g4⟩ := Lk.split (a1 := b :: B) (a2 := c :: p2) hB
        obtain ⟨c', q2, rfl, c1, c2, g5⟩ := g4.cons
        obtain ⟨sub', kB, mB⟩ := LB n' A2 B1 (c' :: (q2 ++ r')) g2 g3 (by show some (c.k, c.t) = some (c'.k, c'.t); rw [c1, c2])
        obtain ⟨p', h'⟩ := LT n' t' m1 (A2 ++ (B1 ++ (c' :: (q2 ++ r')))) t1 t2 g1
        obtain ⟨a2, k2, m2⟩ := L2 n' q2 r' g5 hh
        have k2 : stmtsP n' f d (q2 ++ r') = .ok (a2, r') := k2
        obtain ⟨k1, k3, _⟩ := sh_like t2
        have h5 : bodyP (stmtsP n' f) d p' (A2 ++ (B1 ++ (c' :: (q2 ++ r')))) = .ok (sub', q2 ++ r') := by unfold bodyP; rw [if_neg hd32, kB]; rfl
        have k4 := stmt_bo h' (by rw [k1]; exact hb) h5
        have e9 : t' :: (m1 ++ A2) ++ (B1 ++ c' :: q2 ++ r') = t' :: (m1 ++ (A2 ++ (B1 ++ (c' :: (q2 ++ r'))))) := by simp
        have hss : seesB wShut (t' :: (m1 ++ (A2 ++ (B1 ++ (c' :: (q2 ++ r')))))) = false := by
          show decide (t'.t = wShut) = false
          rw [t2]
          rw [el] at h1
          exact h1
        refine ⟨⟨kindK t', nm, aa, x, sub'.length, t'.p⟩ :: sub' ++ a2, ?_, ?_⟩
        · rw [e9]
          unfold stmtsP
          rw [if_neg (by rw [hss]; decide), k4]
          show (match stmtsP n' f d (q2 ++ r') with | .error e => _ | .ok (rs2, r2) => _) = _
          rw [k2]
        · have e10 : cutR (i + 1) m (⟨kindK t, nm, aa, x, sub.length, t.p⟩ :: sub ++ rs2) = ⟨kindK t, nm, aa, x, (sub.length : Int) - m, t.p⟩ :: (cutR i m sub ++ rs2) := by
            show (if ((i + 1 : Nat) : Int) ≤ (sub.length : Int) then _ else _) :: cutR i m (sub ++ rs2) = _
            rw [if_pos (by omega), cut_ahead _ _ _ _ (by omega)]
          rw [e10]
          show RL (_ :: (cutR i m sub ++ rs2)) (_ :: (sub' ++ a2))
          refine RL.cons ?_ (mB.app m2)
          have hl9 := mB.len
          rw [cut_len _ _ _ (by omega)] at hl9
          rw [k3]
          unfold rk
          simp only
          rw [show (sub.length : Int) - m = (sub'.length : Int) by omega]
end Go.Proofs.YtiepbfeliehjnaaDoor
