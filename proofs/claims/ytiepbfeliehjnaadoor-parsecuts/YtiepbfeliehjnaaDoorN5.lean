/-
  Plain mathematics: what is read of tokens does not hang on their places, nor on what stands behind. Of no program.
-/
import Derived.Test.YtiepbfeliehjnaaDoorN3
import Derived.Test.YtiepbfeliehjnaaDoorR9
namespace Go.Proofs.YtiepbfeliehjnaaDoor

/-- The same tokens, but for their places. -/
def kt (t : Tk) : Int × ByteArray := (t.k, t.t)
def Lk (a b : List Tk) : Prop := a.map kt = b.map kt
def HL (a b : List Tk) : Prop := a.head?.map kt = b.head?.map kt
theorem Lk.cons {t : Tk} {a b : List Tk} (h : Lk (t :: a) b) : ∃ t' b', b = t' :: b' ∧ t'.k = t.k ∧ t'.t = t.t ∧ Lk a b' := by
  cases b with
  | nil => cases h
  | cons t' b' =>
    unfold Lk at h
    simp only [List.map_cons, List.cons.injEq] at h
    have := h.1
    unfold kt at this
    cases h1 : t; cases h2 : t'
    rw [h1, h2] at this
    cases this
    exact ⟨_, _, rfl, rfl, rfl, h.2⟩
theorem Lk.nil {b : List Tk} (h : Lk [] b) : b = [] := by
  cases b with
  | nil => rfl
  | cons t' b' => cases h
theorem Lk.split {a1 a2 b : List Tk} (h : Lk (a1 ++ a2) b) : ∃ b1 b2, b = b1 ++ b2 ∧ Lk a1 b1 ∧ Lk a2 b2 := by
  induction a1 generalizing b with
  | nil => exact ⟨[], b, rfl, rfl, h⟩
  | cons t a1 ih =>
    obtain ⟨t', b', rfl, e1, e2, h2⟩ := h.cons
    obtain ⟨b1, b2, rfl, h3, h4⟩ := ih h2
    refine ⟨t' :: b1, b2, rfl, ?_, h4⟩
    unfold Lk kt
    rw [List.map_cons, List.map_cons, e1, e2]
    congr 1
theorem HL.sees {a b : List Tk} (h : HL a b) (c : ByteArray) : seesB c a = seesB c b := by
  cases a with
  | nil =>
    cases b with
    | nil => rfl
    | cons t b => cases h
  | cons s a =>
    cases b with
    | nil => cases h
    | cons t b =>
      have e : (s.k, s.t) = (t.k, t.t) := Option.some.inj h
      have e : s.t = t.t := congrArg Prod.snd e
      show decide (s.t = c) = decide (t.t = c)
      rw [e]
theorem HL.app {a a' r r' : List Tk} (h : Lk a a') (hr : HL r r') : HL (a ++ r) (a' ++ r') := by
  cases a with
  | nil => rw [h.nil]; exact hr
  | cons t a =>
    obtain ⟨t', b', rfl, e1, e2, _⟩ := h.cons
    show some (t.k, t.t) = some (t'.k, t'.t)
    rw [e1, e2]
/-- Read from the front alone; what stands behind matters by its first token at most. -/
def Loc {α : Type} (P : Int → List Tk → Except Fa (α × List Tk)) (l : List Tk) (a : α) (r : List Tk) : Prop :=
  ∃ pre, l = pre ++ r ∧ ∀ n' pre' r', Lk pre pre' → HL r r' → P n' (pre' ++ r') = .ok (a, r')
theorem name_loc {n : Int} {l r : List Tk} {a : ByteArray} (h : nameP n l = .ok (a, r)) : Loc nameP l a r := by
  obtain ⟨t, rfl, rfl, hp⟩ := nameP_len h
  refine ⟨[t], rfl, fun n' pre' r' h1 _ => ?_⟩
  obtain ⟨t', b', rfl, e1, e2, h2⟩ := h1.cons
  rw [h2.nil]
  have hp' : plnB t' = true := by unfold plnB at hp ⊢; rw [e1, e2]; exact hp
  show (if plnB t' = true then Except.ok (t'.t, r') else _) = _
  rw [if_pos hp', e2]
theorem num_loc {n : Int} {l r : List Tk} {x : Nat} (h : numP n l = .ok (x, r)) : Loc numP l x r := by
  obtain ⟨t, rfl, hk, hv, hx⟩ := numP_len h
  refine ⟨[t], rfl, fun n' pre' r' h1 _ => ?_⟩
  obtain ⟨t', b', rfl, e1, e2, h2⟩ := h1.cons
  rw [h2.nil]
  show (if t'.k = 2 then (if val t'.t ≤ 9007199254740991 then Except.ok (val t'.t, r') else _) else _) = _
  rw [if_pos (by rw [e1]; exact hk), e2, hv, if_pos hx]
theorem sign_loc {n : Int} {c : ByteArray} {l r : List Tk} {u : Tk} (h : signP n c l = .ok (u, r)) : l = u :: r ∧ ∀ n' pre' r', Lk [u] pre' → ∃ u', signP n' c (pre' ++ r') = .ok (u', r') ∧ pre' = [u'] := by
  obtain ⟨rfl, hu⟩ := signP_len h
  refine ⟨rfl, fun n' pre' r' h1 => ?_⟩
  obtain ⟨t', b', rfl, e1, e2, h2⟩ := h1.cons
  rw [h2.nil]
  refine ⟨t', ?_, rfl⟩
  show (if t'.t = c then _ else _) = _
  rw [if_pos (by rw [e2]; exact hu)]
  rfl
theorem arg_loc {n : Int} {ix : Bool} {l r : List Tk} {a : Ar} (h : argP n ix l = .ok (a, r)) : Loc (fun n => argP n ix) l a r := by
  unfold argP at h
  cases hn : nameP n l with
  | error e => rw [hn] at h; cases h
  | ok z =>
    obtain ⟨b, r1⟩ := z
    rw [hn] at h
    simp only at h
    obtain ⟨p1, rfl, L1⟩ := name_loc hn
    by_cases hc : ix = true ∧ seesB wLeft r1 = true
    · rw [if_pos hc] at h
      cases hm : numP n r1.tail with
      | error e => rw [hm] at h; cases h
      | ok z =>
        obtain ⟨x, r2⟩ := z
        rw [hm] at h
        simp only at h
        cases hs : signP n wRight r2 with
        | error e => rw [hs] at h; cases h
        | ok z =>
          obtain ⟨u, r3⟩ := z
          rw [hs] at h
          cases h
          obtain ⟨t, r4, rfl, ht⟩ := seesB_cons hc.2
          simp only [List.tail_cons] at hm
          obtain ⟨p2, e2, L2⟩ := num_loc hm
          obtain ⟨e3, L3⟩ := sign_loc hs
          subst e3
          subst e2
          refine ⟨p1 ++ (t :: (p2 ++ [u])), by simp, fun n' pre' r' hl hh => ?_⟩
          obtain ⟨q1, q2, rfl, g1, g2⟩ := hl.split
          obtain ⟨t', q3, rfl, k1, k2, g3⟩ := g2.cons
          obtain ⟨q4, q5, rfl, g4, g5⟩ := g3.split
          obtain ⟨u', eu, rfl⟩ := L3 n' q5 r' g5
          have hh1 : HL (u :: r) (u' :: r') := by
            obtain ⟨v, w, e, m1, m2, _⟩ := g5.cons
            cases e
            show some (u.k, u.t) = some (u'.k, u'.t)
            rw [m1, m2]
          have N1 := L1 n' q1 (t' :: (q4 ++ (u' :: r'))) g1 (by show some (t.k, t.t) = some (t'.k, t'.t); rw [k1, k2])
          have N2 := L2 n' q4 (u' :: r') g4 hh1
          show argP n' ix (q1 ++ (t' :: (q4 ++ [u'])) ++ r') = _
          have e9 : q1 ++ (t' :: (q4 ++ [u'])) ++ r' = q1 ++ (t' :: (q4 ++ (u' :: r'))) := by simp
          rw [e9]
          unfold argP
          rw [N1]
          simp only
          rw [if_pos ⟨hc.1, by show decide (t'.t = wLeft) = true; rw [k2]; exact decide_eq_true ht⟩]
          simp only [List.tail_cons, N2]
          have eu : signP n' wRight (u' :: r') = .ok (u', r') := eu
          simp only [eu]
    · rw [if_neg hc] at h
      cases h
      refine ⟨p1, rfl, fun n' pre' r' hl hh => ?_⟩
      show argP n' ix (pre' ++ r') = _
      unfold argP
      rw [L1 n' pre' r' hl hh]
      simp only
      rw [if_neg (by rw [← hh.sees]; exact hc)]
theorem args_loc {n : Int} {sh : Sh} : ∀ (f : Nat) {acc aa : List Ar} {l r : List Tk}, l.length < f → argsP n sh f acc l = .ok (aa, r) → Loc (fun n l => argsP n sh (l.length + 1) acc l) l aa r := by
  intro f
  induction f with
  | zero => intro acc aa l r h; omega
  | succ f ih =>
    intro acc aa l r hf h
    unfold argsP at h
    by_cases hm : moreB sh acc.length l = true
    · rw [if_pos hm] at h
      cases ha : argP n sh.idx l with
      | error e => rw [ha] at h; cases h
      | ok z =>
        obtain ⟨a, r1⟩ := z
        rw [ha] at h
        have hl1 := argP_len ha
        obtain ⟨p2, e2, L2⟩ := ih (by omega) h
        obtain ⟨p1, e1, L1⟩ := arg_loc ha
        subst e2
        subst e1
        refine ⟨p1 ++ p2, by simp, fun n' pre' r' hl hh => ?_⟩
        obtain ⟨q1, q2, rfl, g1, g2⟩ := hl.split
        have hh2 := HL.app g2 hh
        have N1 := L1 n' q1 (q2 ++ r') g1 hh2
        have N2 := L2 n' q2 r' g2 hh
        have hm' : moreB sh acc.length (q1 ++ (q2 ++ r')) = true := by
          unfold moreB at hm ⊢
          rw [← (HL.app g1 hh2).sees]
          exact hm
        show argsP n' sh ((q1 ++ q2 ++ r').length + 1) acc (q1 ++ q2 ++ r') = _
        rw [List.append_assoc]
        unfold argsP
        rw [if_pos hm']
        have N1 : argP n' sh.idx (q1 ++ (q2 ++ r')) = .ok (a, q2 ++ r') := N1
        have hl2 := argP_len N1
        rw [N1]
        show argsP n' sh (q1 ++ (q2 ++ r')).length (acc ++ [a]) (q2 ++ r') = _
        rw [args_fuel _ _ _ hl2]
        exact N2
    · rw [if_neg hm] at h
      cases h
      refine ⟨[], rfl, fun n' pre' r' hl hh => ?_⟩
      rw [hl.nil]
      show argsP n' sh (r'.length + 1) acc r' = _
      unfold argsP
      rw [if_neg (by unfold moreB at hm ⊢; rw [← hh.sees]; exact hm)]
end Go.Proofs.YtiepbfeliehjnaaDoor
