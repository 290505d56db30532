/-
  Plain mathematics: statements read behind other places, ahead of other tokens. Of no program.
-/
import Derived.Test.YtiepbfeliehjnaaDoorN5
namespace Go.Proofs.YtiepbfeliehjnaaDoor

theorem optName_loc {n : Int} {b : Bool} {l r : List Tk} {a : ByteArray} (h : optName n b l = .ok (a, r)) : Loc (fun n => optName n b) l a r := by
  unfold optName at h
  by_cases e : b = true
  · rw [if_pos e] at h
    obtain ⟨pre, e1, L⟩ := name_loc h
    exact ⟨pre, e1, fun n' pre' r' hl hh => by show optName n' b _ = _; unfold optName; rw [if_pos e]; exact L n' pre' r' hl hh⟩
  · rw [if_neg e] at h
    cases h
    exact ⟨[], rfl, fun n' pre' r' hl hh => by rw [hl.nil]; show optName n' b _ = _; unfold optName; rw [if_neg e]; rfl⟩
theorem optNum_loc {n : Int} {b : Bool} {l r : List Tk} {a : Nat} (h : optNum n b l = .ok (a, r)) : Loc (fun n => optNum n b) l a r := by
  unfold optNum at h
  by_cases e : b = true
  · rw [if_pos e] at h
    obtain ⟨pre, e1, L⟩ := num_loc h
    exact ⟨pre, e1, fun n' pre' r' hl hh => by show optNum n' b _ = _; unfold optNum; rw [if_pos e]; exact L n' pre' r' hl hh⟩
  · rw [if_neg e] at h
    cases h
    exact ⟨[], rfl, fun n' pre' r' hl hh => by rw [hl.nil]; show optNum n' b _ = _; unfold optNum; rw [if_neg e]; rfl⟩
theorem mid_loc {n : Int} {sh : Sh} {l r : List Tk} {nm : ByteArray} {aa : List Ar} {x : Nat} {p : Int} (h : midP n sh l = .ok ((nm, aa, x, p), r)) :
    ∃ pre, l = pre ++ r ∧ ∀ n' pre' r', Lk pre pre' → ∃ p', midP n' sh (pre' ++ r') = .ok ((nm, aa, x, p'), r') := by
  obtain ⟨l1, l2, l3, u, h1, h2, h3, h4, _⟩ := mid_cases h
  obtain ⟨p1, e1, L1⟩ := optName_loc h1
  obtain ⟨p2, e2, L2⟩ := args_loc _ (Nat.lt_succ_self _) h2
  obtain ⟨p3, e3, L3⟩ := optNum_loc h3
  obtain ⟨e4, L4⟩ := sign_loc h4
  subst e4
  subst e3
  subst e2
  subst e1
  refine ⟨p1 ++ (p2 ++ (p3 ++ [u])), by simp, fun n' pre' r' hl => ?_⟩
  obtain ⟨q1, m1, rfl, g1, hl⟩ := hl.split
  obtain ⟨q2, m2, rfl, g2, hl⟩ := hl.split
  obtain ⟨q3, q4, rfl, g3, g4⟩ := hl.split
  obtain ⟨u', eu, rfl⟩ := L4 n' q4 r' g4
  have eu : signP n' (lastS sh) (u' :: r') = .ok (u', r') := eu
  have k3 : HL (u :: r) (u' :: r') := by
    obtain ⟨v, w, e, m1, m2, _⟩ := g4.cons
    cases e
    show some (u.k, u.t) = some (u'.k, u'.t)
    rw [m1, m2]
  have k2 := HL.app g3 k3
  have k1 := HL.app g2 k2
  have N1 : optName n' sh.name (q1 ++ (q2 ++ (q3 ++ (u' :: r')))) = .ok (nm, q2 ++ (q3 ++ (u' :: r'))) := L1 n' q1 _ g1 k1
  have N2 : argsP n' sh ((q2 ++ (q3 ++ (u' :: r'))).length + 1) [] (q2 ++ (q3 ++ (u' :: r'))) = .ok (aa, q3 ++ (u' :: r')) := L2 n' q2 _ g2 k2
  have N3 : optNum n' sh.num (q3 ++ (u' :: r')) = .ok (x, u' :: r') := L3 n' q3 _ g3 k3
  have e9 : q1 ++ (q2 ++ (q3 ++ [u'])) ++ r' = q1 ++ (q2 ++ (q3 ++ (u' :: r'))) := by simp
  rw [e9]
  exact ⟨u'.p, mid_ok N1 N2 N3 eu⟩
/-- The same rows, but for their places. -/
def rk (r : Rw) : Rw := ⟨r.kind, r.name, r.args, r.num, r.rows, 0⟩
def RL (a b : List Rw) : Prop := a.map rk = b.map rk
theorem RL.refl (a : List Rw) : RL a a := rfl
theorem RL.len {a b : List Rw} (h : RL a b) : a.length = b.length := by have := congrArg List.length h; simpa using this
theorem RL.app {a b c d : List Rw} (h : RL a b) (g : RL c d) : RL (a ++ c) (b ++ d) := by unfold RL at *; rw [List.map_append, List.map_append, h, g]
theorem RL.cons {r s : Rw} {a b : List Rw} (h : rk r = rk s) (g : RL a b) : RL (r :: a) (s :: b) := by unfold RL at *; rw [List.map_cons, List.map_cons, h, g]
/-- Statements that are read from the front alone. -/
def LocS (rec : Nat → List Tk → Except Fa (List Rw × List Tk)) (rec' : Int → Nat → List Tk → Except Fa (List Rw × List Tk)) : Prop :=
  ∀ d l rs r, rec d l = .ok (rs, r) → seesB wShut r = true ∧ ∃ pre, l = pre ++ r ∧ ∀ n' pre' r', Lk pre pre' → HL r r' → ∃ rs', rec' n' d (pre' ++ r') = .ok (rs', r') ∧ RL rs rs'
theorem sh_like {t t' : Tk} (h : t'.t = t.t) : shK t' = shK t ∧ kindK t' = kindK t ∧ ∀ u, restK t' u = if ownB t.t = true then u else t' :: u := by
  have e : kindK t' = kindK t := by unfold kindK; rw [h]
  exact ⟨by unfold shK; rw [e], e, fun u => by unfold restK; rw [h]⟩
theorem stmt_loc {n : Int} {rec : Nat → List Tk → Except Fa (List Rw × List Tk)} {rec' : Int → Nat → List Tk → Except Fa (List Rw × List Tk)} (hrec : LocS rec rec') {d : Nat} {l r : List Tk} {rs : List Rw} (h : stmtP n rec d l = .ok (rs, r)) :
    ∃ pre, pre ≠ [] ∧ l = pre ++ r ∧ ∀ n' pre' r', Lk pre pre' → ∃ rs', stmtP n' (rec' n') d (pre' ++ r') = .ok (rs', r') ∧ RL rs rs' := by
  obtain ⟨t, u, nm, aa, x, p, l4, rfl, hm, hc⟩ := stmt_cases h
  obtain ⟨pm, em, LM⟩ := mid_loc hm

  obtain ⟨m, hu, LT⟩ : ∃ m, u = m ++ l4 ∧ ∀ n' t' m' r', t'.k = t.k → t'.t = t.t → Lk m m' → ∃ p', midP n' (shK t') (restK t' (m' ++ r')) = .ok ((nm, aa, x, p'), r') := by
    by_cases ho : ownB t.t = true
    · have er : restK t u = u := by unfold restK; rw [if_pos ho]
      rw [er] at em
      refine ⟨pm, em, fun n' t' m' r' e1 e2 hl => ?_⟩
      obtain ⟨k1, _, k3⟩ := sh_like e2
      rw [k1, k3, if_pos ho]
      exact LM n' m' r' hl
    · have er : restK t u = t :: u := by unfold restK; rw [if_neg ho]
      rw [er] at em
      have hlen := midP_len hm
      rw [er] at hlen
      cases pm with
      | nil => rw [em] at hlen; simp at hlen
      | cons t0 pm =>
        cases em
        refine ⟨pm, rfl, fun n' t' m' r' e1 e2 hl => ?_⟩
        obtain ⟨k1, _, k3⟩ := sh_like e2
        rw [k1, k3, if_neg ho]
        exact LM n' (t' :: m') r' (by unfold Lk kt at *; rw [List.map_cons, List.map_cons, e1, e2, hl])
  subst hu
  rcases hc with ⟨hb, rfl, rfl⟩ | ⟨hb, hd, rs2, l5, hr, rfl, rfl⟩
  · refine ⟨t :: m, by simp, rfl, fun n' pre' r' hl => ?_⟩
    obtain ⟨t', m', rfl, e1, e2, hl⟩ := hl.cons
    obtain ⟨p', h'⟩ := LT n' t' m' r' e1 e2 hl
    obtain ⟨k1, k2, _⟩ := sh_like e2
    exact ⟨_, stmt_flat h' (by rw [k1]; exact hb), RL.cons (by rw [k2]; rfl) rfl⟩
  · obtain ⟨hsee, pb, eb, LB⟩ := hrec _ _ _ _ hr
    obtain ⟨s, r5, e5, hs⟩ := seesB_cons hsee
    subst e5
    subst eb
    refine ⟨t :: (m ++ (pb ++ [s])), by simp, by simp, fun n' pre' r' hl => ?_⟩
    obtain ⟨t', m', rfl, e1, e2, hl⟩ := hl.cons
    obtain ⟨m1, m2, rfl, g1, hl⟩ := hl.split
    obtain ⟨b1, b2, rfl, g2, g3⟩ := hl.split
    obtain ⟨s', b3, rfl, s1, s2, g4⟩ := g3.cons
    rw [g4.nil]
    obtain ⟨p', h'⟩ := LT n' t' m1 (b1 ++ (s' :: r')) e1 e2 g1
    obtain ⟨rs', hB, hRL⟩ := LB n' b1 (s' :: r') g2 (by show some (s.k, s.t) = some (s'.k, s'.t); rw [s1, s2])
    obtain ⟨k1, k2, _⟩ := sh_like e2
    have h5 : bodyP (rec' n') d p' (b1 ++ (s' :: r')) = .ok (rs', r') := by unfold bodyP; rw [if_neg hd, hB]; rfl
    have e9 : t' :: (m1 ++ (b1 ++ [s'])) ++ r' = t' :: (m1 ++ (b1 ++ (s' :: r'))) := by simp
    rw [e9]
    refine ⟨_, stmt_bo h' (by rw [k1]; exact hb) h5, RL.cons ?_ hRL⟩
    rw [k2]
    unfold rk
    rw [hRL.len]
theorem stmts_loc {n : Int} : ∀ (f : Nat), LocS (stmtsP n f) (fun n' => stmtsP n' f) := by
  intro f
  induction f with
  | zero => intro d l rs r h; cases h
  | succ f ih =>
    intro d l rs r h
    refine ⟨(stmts_short _ _ _ _ _ h).2, ?_⟩
    rcases stmts_cases h with ⟨h1, rfl, rfl⟩ | ⟨h1, rs1, r1, rs2, h2, h3, rfl⟩
    · refine ⟨[], rfl, fun n' pre' r' hl hh => ⟨[], ?_, rfl⟩⟩
      rw [hl.nil]
      show stmtsP n' (f + 1) d r' = _
      unfold stmtsP
      rw [if_pos (by rw [← hh.sees]; exact h1)]
    · obtain ⟨p1, hne, e1, L1⟩ := stmt_loc ih h2
      obtain ⟨_, p2, e2, L2⟩ := ih _ _ _ _ h3
      subst e2
      subst e1
      refine ⟨p1 ++ p2, by simp, fun n' pre' r' hl hh => ?_⟩
      obtain ⟨q1, q2, rfl, g1, g2⟩ := hl.split
      obtain ⟨a1, k1, m1⟩ := L1 n' q1 (q2 ++ r') g1
      obtain ⟨a2, k2, m2⟩ := L2 n' q2 r' g2 hh
      have k2 : stmtsP n' f d (q2 ++ r') = .ok (a2, r') := k2
      refine ⟨a1 ++ a2, ?_, m1.app m2⟩
      rw [List.append_assoc]
      show stmtsP n' (f + 1) d (q1 ++ (q2 ++ r')) = _
      unfold stmtsP
      rw [if_neg (by rw [← (HL.app g1 (HL.app g2 hh)).sees, h1]; decide), k1]
      show (match stmtsP n' f d (q2 ++ r') with | .error e => _ | .ok (rs2, r2) => _) = _
      rw [k2]
end Go.Proofs.YtiepbfeliehjnaaDoor
