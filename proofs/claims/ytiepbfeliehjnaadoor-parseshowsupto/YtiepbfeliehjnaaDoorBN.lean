/-
  Plain mathematics of programs: what is read of tokens hangs on their kinds and texts alone, not on their places. Of no program.
-/
import Derived.Test.YtiepbfeliehjnaaDoorN3
namespace Go.Proofs.YtiepbfeliehjnaaDoor
theorem args_fuel {n : Int} {sh : Sh} : ∀ (f : Nat) (l : List Tk) (acc : List Ar), l.length < f → argsP n sh f acc l = argsP n sh (l.length + 1) acc l := by
  intro f
  induction f using Nat.strongRecOn with
  | _ f ih =>
    intro l acc h
    obtain ⟨g, rfl⟩ : ∃ g, f = g + 1 := ⟨f - 1, by omega⟩
    unfold argsP
    by_cases hm : moreB sh acc.length l = true
    · rw [if_pos hm, if_pos hm]
      cases ha : argP n sh.idx l with
      | error q => rfl
      | ok z =>
        obtain ⟨a, r⟩ := z
        have hl := argP_len ha
        show argsP n sh g (acc ++ [a]) r = argsP n sh l.length (acc ++ [a]) r
        rw [ih g (by omega) r _ (by omega)]
        by_cases e : l.length = g
        · rw [e, ih g (by omega) r _ (by omega)]
        · rw [ih l.length (by omega) r _ (by omega)]
    · rw [if_neg hm, if_neg hm]


/-- The same tokens, but for their places. -/
def kt (t : Tk) : Int × ByteArray := (t.k, t.t)
def Lk (a b : List Tk) : Prop := a.map kt = b.map kt
def HL (a b : List Tk) : Prop := a.head?.map kt = b.head?.map kt
theorem Lk.cons {t : Tk} {a b : List Tk} (h : Lk (t :: a) b) : ∃ t' b', b = t' :: b' ∧ t'.k = t.k ∧ t'.t = t.t ∧ Lk a b' := by
  cases b with
  | nil => cases h
  | cons t' b' =>
    unfold Lk at h
    simp only [List.map_cons, List.cons.injEq] at h
    have := h.1
    unfold kt at this
    cases h1 : t; cases h2 : t'
    rw [h1, h2] at this
    cases this
    exact ⟨_, _, rfl, rfl, rfl, h.2⟩
theorem Lk.nil {b : List Tk} (h : Lk [] b) : b = [] := by
  cases b with
  | nil => rfl
  | cons t' b' => cases h
theorem Lk.split {a1 a2 b : List Tk} (h : Lk (a1 ++ a2) b) : ∃ b1 b2, b = b1 ++ b2 ∧ Lk a1 b1 ∧ Lk a2 b2 := by
  induction a1 generalizing b with
  | nil => exact ⟨[], b, rfl, rfl, h⟩
  | cons t a1 ih =>
    obtain ⟨t', b', rfl, e1, e2, h2⟩ := h.cons
    obtain ⟨b1, b2, rfl, h3, h4⟩ := ih h2
    refine ⟨t' :: b1, b2, rfl, ?_, h4⟩
    unfold Lk kt
    rw [List.map_cons, List.map_cons, e1, e2]
    congr 1
theorem HL.sees {a b : List Tk} (h : HL a b) (c : ByteArray) : seesB c a = seesB c b := by
  cases a with
  | nil =>
    cases b with
    | nil => rfl
    | cons t b => cases h
  | cons s a =>
    cases b with
    | nil => cases h
    | cons t b =>
      have e : (s.k, s.t) = (t.k, t.t) := Option.some.inj h
      have e : s.t = t.t := congrArg Prod.snd e
      show decide (s.t = c) = decide (t.t = c)
      rw [e]
theorem HL.app {a a' r r' : List Tk} (h : Lk a a') (hr : HL r r') : HL (a ++ r) (a' ++ r') := by
  cases a with
  | nil => rw [h.nil]; exact hr
  | cons t a =>
    obtain ⟨t', b', rfl, e1, e2, _⟩ := h.cons
    show some (t.k, t.t) = some (t'.k, t'.t)
    rw [e1, e2]
/-- Read from the front alone; what stands behind matters by its first token at most. -/
def Loc {α : Type} (P : Int → List Tk → Except Fa (α × List Tk)) (l : List Tk) (a : α) (r : List Tk) : Prop :=
  ∃ pre, l = pre ++ r ∧ ∀ n' pre' r', Lk pre pre' → HL r r' → P n' (pre' ++ r') = .ok (a, r')
theorem name_loc {n : Int} {l r : List Tk} {a : ByteArray} (h : nameP n l = .ok (a, r)) : Loc nameP l a r := by
  obtain ⟨t, rfl, rfl, hp⟩ := nameP_len h
  refine ⟨[t], rfl, fun n' pre' r' h1 _ => ?_⟩
  obtain ⟨t', b', rfl, e1, e2, h2⟩ := h1.cons
  rw [h2.nil]
  have hp' : plnB t' = true := by unfold plnB at hp ⊢; rw [e1, e2]; exact hp
  show (if plnB t' = true then Except.ok (t'.t, r') else _) = _
  rw [if_pos hp', e2]
theorem num_loc {n : Int} {l r : List Tk} {x : Nat} (h : numP n l = .ok (x, r)) : Loc numP l x r := by
  obtain ⟨t, rfl, hk, hv, hx⟩ := numP_len h
  refine ⟨[t], rfl, fun n' pre' r' h1 _ => ?_⟩
  obtain ⟨t', b', rfl, e1, e2, h2⟩ := h1.cons
  rw [h2.nil]
  show (if t'.k = 2 then (if val t'.t ≤ 9007199254740991 then Except.ok (val t'.t, r') else _) else _) = _
  rw [if_pos (by rw [e1]; exact hk), e2, hv, if_pos hx]
theorem sign_loc {n : Int} {c : ByteArray} {l r : List Tk} {u : Tk} (h : signP n c l = .ok (u, r)) : l = u :: r ∧ ∀ n' pre' r', Lk [u] pre' → ∃ u', signP n' c (pre' ++ r') = .ok (u', r') ∧ pre' = [u'] := by
  obtain ⟨rfl, hu⟩ := signP_len h
  refine ⟨rfl, fun n' pre' r' h1 => ?_⟩
  obtain ⟨t', b', rfl, e1, e2, h2⟩ := h1.cons
  rw [h2.nil]
  refine ⟨t', ?_, rfl⟩
  show (if t'.t = c then _ else _) = _
  rw [if_pos (by rw [e2]; exact hu)]
  rfl
theorem arg_loc {n : Int} {ix : Bool} {l r : List Tk} {a : Ar} (h : argP n ix l = .ok (a, r)) : Loc (fun n => argP n ix) l a r := by
  unfold argP at h
  cases hn : nameP n l with
  | error e => rw [hn] at h; cases h
  | ok z =>
    obtain ⟨b, r1⟩ := z
    rw [hn] at h
    simp only at h
    obtain ⟨p1, rfl, L1⟩ := name_loc hn
    by_cases hc : ix = true ∧ seesB wLeft r1 = true
    · rw [if_pos hc] at h
      cases hm : numP n r1.tail with
      | error e => rw [hm] at h; cases h
      | ok z =>
        obtain ⟨x, r2⟩ := z
        rw [hm] at h
        simp only at h
        cases hs : signP n wRight r2 with
        | error e => rw [hs] at h; cases h
        | ok z =>
          obtain ⟨u, r3⟩ := z
          rw [hs] at h
          cases h
          obtain ⟨t, r4, rfl, ht⟩ := seesB_cons hc.2
          simp only [List.tail_cons] at hm
          obtain ⟨p2, e2, L2⟩ := num_loc hm
          obtain ⟨e3, L3⟩ := sign_loc hs
          subst e3
          subst e2
          refine ⟨p1 ++ (t :: (p2 ++ [u])), by simp, fun n' pre' r' hl hh => ?_⟩
          obtain ⟨q1, q2, rfl, g1, g2⟩ := hl.split
          obtain ⟨t', q3, rfl, k1, k2, g3⟩ := g2.cons
          obtain ⟨q4, q5, rfl, g4, g5⟩ := g3.split
          obtain ⟨u', eu, rfl⟩ := L3 n' q5 r' g5
          have hh1 : HL (u :: r) (u' :: r') := by
            obtain ⟨v, w, e, m1, m2, _⟩ := g5.cons
            cases e
            show some (u.k, u.t) = some (u'.k, u'.t)
            rw [m1, m2]
          have N1 := L1 n' q1 (t' :: (q4 ++ (u' :: r'))) g1 (by show some (t.k, t.t) = some (t'.k, t'.t); rw [k1, k2])
          have N2 := L2 n' q4 (u' :: r') g4 hh1
          show argP n' ix (q1 ++ (t' :: (q4 ++ [u'])) ++ r') = _
          have e9 : q1 ++ (t' :: (q4 ++ [u'])) ++ r' = q1 ++ (t' :: (q4 ++ (u' :: r'))) := by simp
          rw [e9]
          unfold argP
          rw [N1]
          simp only
          rw [if_pos ⟨hc.1, by show decide (t'.t = wLeft) = true; rw [k2]; exact decide_eq_true ht⟩]
          simp only [List.tail_cons, N2]
          have eu : signP n' wRight (u' :: r') = .ok (u', r') := eu
          simp only [eu]
    · rw [if_neg hc] at h
      cases h
      refine ⟨p1, rfl, fun n' pre' r' hl hh => ?_⟩
      show argP n' ix (pre' ++ r') = _
      unfold argP
      rw [L1 n' pre' r' hl hh]
      simp only
      rw [if_neg (by rw [← hh.sees]; exact hc)]
theorem args_loc {n : Int} {sh : Sh} : ∀ (f : Nat) {acc aa : List Ar} {l r : List Tk}, l.length < f → argsP n sh f acc l = .ok (aa, r) → Loc (fun n l => argsP n sh (l.length + 1) acc l) l aa r := by
  intro f
  induction f with
  | zero => intro acc aa l r h; omega
  | succ f ih =>
    intro acc aa l r hf h
    unfold argsP at h
    by_cases hm : moreB sh acc.length l = true
    · rw [if_pos hm] at h
      cases ha : argP n sh.idx l with
      | error e => rw [ha] at h; cases h
      | ok z =>
        obtain ⟨a, r1⟩ := z
        rw [ha] at h
        have hl1 := argP_len ha
        obtain ⟨p2, e2, L2⟩ := ih (by omega) h
        obtain ⟨p1, e1, L1⟩ := arg_loc ha
        subst e2
        subst e1
        refine ⟨p1 ++ p2, by simp, fun n' pre' r' hl hh => ?_⟩
        obtain ⟨q1, q2, rfl, g1, g2⟩ := hl.split
        have hh2 := HL.app g2 hh
        have N1 := L1 n' q1 (q2 ++ r') g1 hh2
        have N2 := L2 n' q2 r' g2 hh
        have hm' : moreB sh acc.length (q1 ++ (q2 ++ r')) = true := by
          unfold moreB at hm ⊢
          rw [← (HL.app g1 hh2).sees]
          exact hm
        show argsP n' sh ((q1 ++ q2 ++ r').length + 1) acc (q1 ++ q2 ++ r') = _
        rw [List.append_assoc]
        unfold argsP
        rw [if_pos hm']
        have N1 : argP n' sh.idx (q1 ++ (q2 ++ r')) = .ok (a, q2 ++ r') := N1
        have hl2 := argP_len N1
        rw [N1]
        show argsP n' sh (q1 ++ (q2 ++ r')).length (acc ++ [a]) (q2 ++ r') = _
        rw [args_fuel _ _ _ hl2]
        exact N2
    · rw [if_neg hm] at h
      cases h
      refine ⟨[], rfl, fun n' pre' r' hl hh => ?_⟩
      rw [hl.nil]
      show argsP n' sh (r'.length + 1) acc r' = _
      unfold argsP
      rw [if_neg (by unfold moreB at hm ⊢; rw [← hh.sees]; exact hm)]



theorem optName_loc {n : Int} {b : Bool} {l r : List Tk} {a : ByteArray} (h : optName n b l = .ok (a, r)) : Loc (fun n => optName n b) l a r := by
  unfold optName at h
  by_cases e : b = true
  · rw [if_pos e] at h
    obtain ⟨pre, e1, L⟩ := name_loc h
    exact ⟨pre, e1, fun n' pre' r' hl hh => by show optName n' b _ = _; unfold optName; rw [if_pos e]; exact L n' pre' r' hl hh⟩
  · rw [if_neg e] at h
    cases h
    exact ⟨[], rfl, fun n' pre' r' hl hh => by rw [hl.nil]; show optName n' b _ = _; unfold optName; rw [if_neg e]; rfl⟩
theorem optNum_loc {n : Int} {b : Bool} {l r : List Tk} {a : Nat} (h : optNum n b l = .ok (a, r)) : Loc (fun n => optNum n b) l a r := by
  unfold optNum at h
  by_cases e : b = true
  · rw [if_pos e] at h
    obtain ⟨pre, e1, L⟩ := num_loc h
    exact ⟨pre, e1, fun n' pre' r' hl hh => by show optNum n' b _ = _; unfold optNum; rw [if_pos e]; exact L n' pre' r' hl hh⟩
  · rw [if_neg e] at h
    cases h
    exact ⟨[], rfl, fun n' pre' r' hl hh => by rw [hl.nil]; show optNum n' b _ = _; unfold optNum; rw [if_neg e]; rfl⟩
theorem mid_loc {n : Int} {sh : Sh} {l r : List Tk} {nm : ByteArray} {aa : List Ar} {x : Nat} {p : Int} (h : midP n sh l = .ok ((nm, aa, x, p), r)) :
    ∃ pre, l = pre ++ r ∧ ∀ n' pre' r', Lk pre pre' → ∃ p', midP n' sh (pre' ++ r') = .ok ((nm, aa, x, p'), r') := by
  obtain ⟨l1, l2, l3, u, h1, h2, h3, h4, _⟩ := mid_cases h
  obtain ⟨p1, e1, L1⟩ := optName_loc h1
  obtain ⟨p2, e2, L2⟩ := args_loc _ (Nat.lt_succ_self _) h2
  obtain ⟨p3, e3, L3⟩ := optNum_loc h3
  obtain ⟨e4, L4⟩ := sign_loc h4
  subst e4
  subst e3
  subst e2
  subst e1
  refine ⟨p1 ++ (p2 ++ (p3 ++ [u])), by simp, fun n' pre' r' hl => ?_⟩
  obtain ⟨q1, m1, rfl, g1, hl⟩ := hl.split
  obtain ⟨q2, m2, rfl, g2, hl⟩ := hl.split
  obtain ⟨q3, q4, rfl, g3, g4⟩ := hl.split
  obtain ⟨u', eu, rfl⟩ := L4 n' q4 r' g4
  have eu : signP n' (lastS sh) (u' :: r') = .ok (u', r') := eu
  have k3 : HL (u :: r) (u' :: r') := by
    obtain ⟨v, w, e, m1, m2, _⟩ := g4.cons
    cases e
    show some (u.k, u.t) = some (u'.k, u'.t)
    rw [m1, m2]
  have k2 := HL.app g3 k3
  have k1 := HL.app g2 k2
  have N1 : optName n' sh.name (q1 ++ (q2 ++ (q3 ++ (u' :: r')))) = .ok (nm, q2 ++ (q3 ++ (u' :: r'))) := L1 n' q1 _ g1 k1
  have N2 : argsP n' sh ((q2 ++ (q3 ++ (u' :: r'))).length + 1) [] (q2 ++ (q3 ++ (u' :: r'))) = .ok (aa, q3 ++ (u' :: r')) := L2 n' q2 _ g2 k2
  have N3 : optNum n' sh.num (q3 ++ (u' :: r')) = .ok (x, u' :: r') := L3 n' q3 _ g3 k3
  have e9 : q1 ++ (q2 ++ (q3 ++ [u'])) ++ r' = q1 ++ (q2 ++ (q3 ++ (u' :: r'))) := by simp
  rw [e9]
  exact ⟨u'.p, mid_ok N1 N2 N3 eu⟩
/-- The same rows, but for their places. -/
def rk (r : Rw) : Rw := ⟨r.kind, r.name, r.args, r.num, r.rows, 0⟩
def RL (a b : List Rw) : Prop := a.map rk = b.map rk
theorem RL.refl (a : List Rw) : RL a a := rfl
theorem RL.len {a b : List Rw} (h : RL a b) : a.length = b.length := by have := congrArg List.length h; simpa using this
theorem RL.app {a b c d : List Rw} (h : RL a b) (g : RL c d) : RL (a ++ c) (b ++ d) := by unfold RL at *; rw [List.map_append, List.map_append, h, g]
theorem RL.cons {r s : Rw} {a b : List Rw} (h : rk r = rk s) (g : RL a b) : RL (r :: a) (s :: b) := by unfold RL at *; rw [List.map_cons, List.map_cons, h, g]
/-- Statements that are read from the front alone. -/
def LocS (rec : Nat → List Tk → Except Fa (List Rw × List Tk)) (rec' : Int → Nat → List Tk → Except Fa (List Rw × List Tk)) : Prop :=
  ∀ d l rs r, rec d l = .ok (rs, r) → seesB wShut r = true ∧ ∃ pre, l = pre ++ r ∧ ∀ n' pre' r', Lk pre pre' → HL r r' → ∃ rs', rec' n' d (pre' ++ r') = .ok (rs', r') ∧ RL rs rs'
theorem sh_like {t t' : Tk} (h : t'.t = t.t) : shK t' = shK t ∧ kindK t' = kindK t ∧ ∀ u, restK t' u = if ownB t.t = true then u else t' :: u := by
  have e : kindK t' = kindK t := by unfold kindK; rw [h]
  exact ⟨by unfold shK; rw [e], e, fun u => by unfold restK; rw [h]⟩
theorem stmt_loc {n : Int} {rec : Nat → List Tk → Except Fa (List Rw × List Tk)} {rec' : Int → Nat → List Tk → Except Fa (List Rw × List Tk)} (hrec : LocS rec rec') {d : Nat} {l r : List Tk} {rs : List Rw} (h : stmtP n rec d l = .ok (rs, r)) :
    ∃ pre, pre ≠ [] ∧ l = pre ++ r ∧ ∀ n' pre' r', Lk pre pre' → ∃ rs', stmtP n' (rec' n') d (pre' ++ r') = .ok (rs', r') ∧ RL rs rs' := by
  obtain ⟨t, u, nm, aa, x, p, l4, rfl, hm, hc⟩ := stmt_cases h
  obtain ⟨pm, em, LM⟩ := mid_loc hm

  obtain ⟨m, hu, LT⟩ : ∃ m, u = m ++ l4 ∧ ∀ n' t' m' r', t'.k = t.k → t'.t = t.t → Lk m m' → ∃ p', midP n' (shK t') (restK t' (m' ++ r')) = .ok ((nm, aa, x, p'), r') := by
    by_cases ho : ownB t.t = true
    · have er : restK t u = u := by unfold restK; rw [if_pos ho]
      rw [er] at em
      refine ⟨pm, em, fun n' t' m' r' e1 e2 hl => ?_⟩
      obtain ⟨k1, _, k3⟩ := sh_like e2
      rw [k1, k3, if_pos ho]
      exact LM n' m' r' hl
    · have er : restK t u = t :: u := by unfold restK; rw [if_neg ho]
      rw [er] at em
      have hlen := midP_len hm
      rw [er] at hlen
      cases pm with
      | nil => rw [em] at hlen; simp at hlen
      | cons t0 pm =>
        cases em
        refine ⟨pm, rfl, fun n' t' m' r' e1 e2 hl => ?_⟩
        obtain ⟨k1, _, k3⟩ := sh_like e2
        rw [k1, k3, if_neg ho]
        exact LM n' (t' :: m') r' (by unfold Lk kt at *; rw [List.map_cons, List.map_cons, e1, e2, hl])
  subst hu
  rcases hc with ⟨hb, rfl, rfl⟩ | ⟨hb, hd, rs2, l5, hr, rfl, rfl⟩
  · refine ⟨t :: m, by simp, rfl, fun n' pre' r' hl => ?_⟩
    obtain ⟨t', m', rfl, e1, e2, hl⟩ := hl.cons
    obtain ⟨p', h'⟩ := LT n' t' m' r' e1 e2 hl
    obtain ⟨k1, k2, _⟩ := sh_like e2
    exact ⟨_, stmt_flat h' (by rw [k1]; exact hb), RL.cons (by rw [k2]; rfl) rfl⟩
  · obtain ⟨hsee, pb, eb, LB⟩ := hrec _ _ _ _ hr
    obtain ⟨s, r5, e5, hs⟩ := seesB_cons hsee
    subst e5
    subst eb
    refine ⟨t :: (m ++ (pb ++ [s])), by simp, by simp, fun n' pre' r' hl => ?_⟩
    obtain ⟨t', m', rfl, e1, e2, hl⟩ := hl.cons
    obtain ⟨m1, m2, rfl, g1, hl⟩ := hl.split
    obtain ⟨b1, b2, rfl, g2, g3⟩ := hl.split
    obtain ⟨s', b3, rfl, s1, s2, g4⟩ := g3.cons
    rw [g4.nil]
    obtain ⟨p', h'⟩ := LT n' t' m1 (b1 ++ (s' :: r')) e1 e2 g1
    obtain ⟨rs', hB, hRL⟩ := LB n' b1 (s' :: r') g2 (by show some (s.k, s.t) = some (s'.k, s'.t); rw [s1, s2])
    obtain ⟨k1, k2, _⟩ := sh_like e2
    have h5 : bodyP (rec' n') d p' (b1 ++ (s' :: r')) = .ok (rs', r') := by unfold bodyP; rw [if_neg hd, hB]; rfl
    have e9 : t' :: (m1 ++ (b1 ++ [s'])) ++ r' = t' :: (m1 ++ (b1 ++ (s' :: r'))) := by simp
    rw [e9]
    refine ⟨_, stmt_bo h' (by rw [k1]; exact hb) h5, RL.cons ?_ hRL⟩
    rw [k2]
    unfold rk
    rw [hRL.len]
theorem stmts_loc {n : Int} : ∀ (f : Nat), LocS (stmtsP n f) (fun n' => stmtsP n' f) := by
  intro f
  induction f with
  | zero => intro d l rs r h; cases h
  | succ f ih =>
    intro d l rs r h
    refine ⟨(stmts_short _ _ _ _ _ h).2, ?_⟩
    rcases stmts_cases h with ⟨h1, rfl, rfl⟩ | ⟨h1, rs1, r1, rs2, h2, h3, rfl⟩
    · refine ⟨[], rfl, fun n' pre' r' hl hh => ⟨[], ?_, rfl⟩⟩
      rw [hl.nil]
      show stmtsP n' (f + 1) d r' = _
      unfold stmtsP
      rw [if_pos (by rw [← hh.sees]; exact h1)]
    · obtain ⟨p1, hne, e1, L1⟩ := stmt_loc ih h2
      obtain ⟨_, p2, e2, L2⟩ := ih _ _ _ _ h3
      subst e2
      subst e1
      refine ⟨p1 ++ p2, by simp, fun n' pre' r' hl hh => ?_⟩
      obtain ⟨q1, q2, rfl, g1, g2⟩ := hl.split
      obtain ⟨a1, k1, m1⟩ := L1 n' q1 (q2 ++ r') g1
      obtain ⟨a2, k2, m2⟩ := L2 n' q2 r' g2 hh
      have k2 : stmtsP n' f d (q2 ++ r') = .ok (a2, r') := k2
      refine ⟨a1 ++ a2, ?_, m1.app m2⟩
      rw [List.append_assoc]
      show stmtsP n' (f + 1) d (q1 ++ (q2 ++ r')) = _
      unfold stmtsP
      rw [if_neg (by rw [← (HL.app g1 (HL.app g2 hh)).sees, h1]; decide), k1]
      show (match stmtsP n' f d (q2 ++ r') with | .error e => _ | .ok (rs2, r2) => _) = _
      rw [k2]

theorem prog_step {n : Int} {f : Nat} {l r1 : List Tk} {rs1 rs2 : List Rw} (h1 : stmtP n (stmtsP n f) 0 l = .ok (rs1, r1)) (h2 : progP n f r1 = .ok rs2) : progP n (f + 1) l = .ok (rs1 ++ rs2) := by
  cases l with
  | nil => cases h1
  | cons t u =>
    unfold progP
    rw [h1]
    show (match progP n f r1 with | .error e => _ | .ok rs2 => _) = _
    rw [h2]
theorem prog_loc {n : Int} : ∀ (f : Nat) (l : List Tk) (rs : List Rw), progP n f l = .ok rs → ∀ n' l', Lk l l' → ∃ rs', progP n' f l' = .ok rs' ∧ RL rs rs' := by
  intro f
  induction f with
  | zero => intro l rs h; cases h
  | succ f ih =>
    intro l rs h n' l' hl
    rcases prog_cases h with ⟨rfl, rfl⟩ | ⟨hne, rs1, r1, rs2, h2, h3, rfl⟩
    · rw [hl.nil]; exact ⟨[], rfl, rfl⟩
    · obtain ⟨p1, hne1, e1, L1⟩ := stmt_loc (stmts_loc f) h2
      subst e1
      obtain ⟨q1, q2, rfl, g1, g2⟩ := hl.split
      obtain ⟨a1, k1, m1⟩ := L1 n' q1 q2 g1
      obtain ⟨a2, k2, m2⟩ := ih _ _ h3 n' q2 g2
      exact ⟨a1 ++ a2, prog_step k1 k2, m1.app m2⟩
end Go.Proofs.YtiepbfeliehjnaaDoor
