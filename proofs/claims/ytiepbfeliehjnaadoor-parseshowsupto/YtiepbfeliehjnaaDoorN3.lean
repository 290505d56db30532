/-
  Plain mathematics of places: where the rows stand, where a fault is. Of no program.
-/
import Derived.Test.YtiepbfeliehjnaaDoorP9
namespace Go.Proofs.YtiepbfeliehjnaaDoor

/-! ### What is left is a tail -/
theorem nameP_suf {n : Int} {l r : List Tk} {a : ByteArray} (h : nameP n l = .ok (a, r)) : r <:+ l := by obtain ⟨t, rfl, _⟩ := nameP_len h; exact List.suffix_cons _ _
theorem numP_suf {n : Int} {l r : List Tk} {a : Nat} (h : numP n l = .ok (a, r)) : r <:+ l := by obtain ⟨t, rfl, _⟩ := numP_len h; exact List.suffix_cons _ _
theorem signP_suf {n : Int} {c : ByteArray} {l r : List Tk} {a : Tk} (h : signP n c l = .ok (a, r)) : r <:+ l := by obtain ⟨rfl, _⟩ := signP_len h; exact List.suffix_cons _ _
theorem argP_suf {n : Int} {ix : Bool} {l r : List Tk} {a : Ar} (h : argP n ix l = .ok (a, r)) : r <:+ l := by
  unfold argP at h
  cases hn : nameP n l with
  | error e => rw [hn] at h; cases h
  | ok y =>
    obtain ⟨b, r1⟩ := y
    have s1 := nameP_suf hn
    rw [hn] at h
    simp only at h
    by_cases hc : ix = true ∧ seesB wLeft r1 = true
    · rw [if_pos hc] at h
      cases hx : numP n r1.tail with
      | error e => rw [hx] at h; cases h
      | ok y =>
        obtain ⟨x, r3⟩ := y
        have s3 := numP_suf hx
        rw [hx] at h
        simp only at h
        cases hs : signP n wRight r3 with
        | error e => rw [hs] at h; cases h
        | ok y =>
          obtain ⟨z, r4⟩ := y
          have s4 := signP_suf hs
          rw [hs] at h
          cases h
          exact s4.trans (s3.trans ((List.tail_suffix _).trans s1))
    · rw [if_neg hc] at h
      cases h
      exact s1
theorem argsP_suf {n : Int} {sh : Sh} : ∀ (f : Nat) {acc aa : List Ar} {l r : List Tk}, argsP n sh f acc l = .ok (aa, r) → r <:+ l := by
  intro f
  induction f with
  | zero => intro acc aa l r h; cases h; exact List.suffix_refl _
  | succ f ih =>
    intro acc aa l r h
    unfold argsP at h
    by_cases hm : moreB sh acc.length l = true
    · rw [if_pos hm] at h
      cases ha : argP n sh.idx l with
      | error e => rw [ha] at h; cases h
      | ok y =>
        obtain ⟨a, r1⟩ := y
        rw [ha] at h
        exact (ih h).trans (argP_suf ha)
    · rw [if_neg hm] at h; cases h; exact List.suffix_refl _
theorem optName_suf {n : Int} {b : Bool} {l r : List Tk} {a : ByteArray} (h : optName n b l = .ok (a, r)) : r <:+ l := by
  unfold optName at h
  by_cases e : b = true
  · rw [if_pos e] at h; exact nameP_suf h
  · rw [if_neg e] at h; cases h; exact List.suffix_refl _
theorem optNum_suf {n : Int} {b : Bool} {l r : List Tk} {x : Nat} (h : optNum n b l = .ok (x, r)) : r <:+ l := by
  unfold optNum at h
  by_cases e : b = true
  · rw [if_pos e] at h; exact numP_suf h
  · rw [if_neg e] at h; cases h; exact List.suffix_refl _
/-- midP taken apart. -/
theorem mid_cases {n : Int} {sh : Sh} {l r : List Tk} {nm : ByteArray} {aa : List Ar} {x : Nat} {p : Int} (h : midP n sh l = .ok ((nm, aa, x, p), r)) :
    ∃ l1 l2 l3 u, optName n sh.name l = .ok (nm, l1) ∧ argsP n sh (l1.length + 1) [] l1 = .ok (aa, l2) ∧ optNum n sh.num l2 = .ok (x, l3) ∧ signP n (lastS sh) l3 = .ok (u, r) ∧ u.p = p := by
  unfold midP at h
  cases h1 : optName n sh.name l with
  | error e => rw [h1] at h; cases h
  | ok y1 =>
    obtain ⟨nm', l1⟩ := y1
    rw [h1] at h
    simp only at h
    cases h2 : argsP n sh (l1.length + 1) [] l1 with
    | error e => rw [h2] at h; cases h
    | ok y2 =>
      obtain ⟨aa', l2⟩ := y2
      rw [h2] at h
      simp only at h
      cases h3 : optNum n sh.num l2 with
      | error e => rw [h3] at h; cases h
      | ok y3 =>
        obtain ⟨x', l3⟩ := y3
        rw [h3] at h
        simp only at h
        cases h4 : signP n (lastS sh) l3 with
        | error e => rw [h4] at h; cases h
        | ok y4 =>
          obtain ⟨u, l4⟩ := y4
          rw [h4] at h
          cases h
          exact ⟨l1, l2, l3, u, rfl, h2, h3, h4, rfl⟩
theorem midP_suf {n : Int} {sh : Sh} {l r : List Tk} {y : ByteArray × List Ar × Nat × Int} (h : midP n sh l = .ok (y, r)) : r <:+ l := by
  obtain ⟨nm, aa, x, p⟩ := y
  obtain ⟨l1, l2, l3, u, h1, h2, h3, h4, _⟩ := mid_cases h
  exact (signP_suf h4).trans ((optNum_suf h3).trans ((argsP_suf _ h2).trans (optName_suf h1)))
/-- A statement taken apart. -/
theorem stmt_cases {n : Int} {rec : Nat → List Tk → Except Fa (List Rw × List Tk)} {d : Nat} {l r : List Tk} {rs : List Rw} (h : stmtP n rec d l = .ok (rs, r)) :
    ∃ t u nm aa x p l4, l = t :: u ∧ midP n (shK t) (restK t u) = .ok ((nm, aa, x, p), l4) ∧
      (((shK t).body = false ∧ rs = [⟨kindK t, nm, aa, (x : Nat), 0, t.p⟩] ∧ r = l4) ∨
       ((shK t).body = true ∧ ¬ 32 ≤ d ∧ ∃ rs2 l5, rec (d + 1) l4 = .ok (rs2, l5) ∧ rs = ⟨kindK t, nm, aa, (x : Nat), rs2.length, t.p⟩ :: rs2 ∧ r = l5.tail)) := by
  cases l with
  | nil => cases h
  | cons t u =>
    cases hm : midP n (shK t) (restK t u) with
    | error q => rw [stmt_mid hm] at h; cases h
    | ok y =>
      obtain ⟨⟨nm, aa, x, p⟩, l4⟩ := y
      refine ⟨t, u, nm, aa, x, p, l4, rfl, hm, ?_⟩
      cases hb : (shK t).body with
      | false =>
        rw [stmt_flat hm hb] at h
        cases h
        exact .inl ⟨rfl, rfl, rfl⟩
      | true =>
        cases h5 : bodyP rec d p l4 with
        | error q => rw [stmt_be hm hb h5] at h; cases h
        | ok y =>
          obtain ⟨rs2, l5⟩ := y
          rw [stmt_bo hm hb h5] at h
          cases h
          unfold bodyP at h5
          by_cases hd : 32 ≤ d
          · rw [if_pos hd] at h5; cases h5
          · rw [if_neg hd] at h5
            cases hr : rec (d + 1) l4 with
            | error q => rw [hr] at h5; cases h5
            | ok y =>
              obtain ⟨rs3, l6⟩ := y
              rw [hr] at h5
              cases h5
              exact .inr ⟨rfl, hd, _, _, rfl, rfl, rfl⟩
theorem stmts_cases {n : Int} {f d : Nat} {l r : List Tk} {rs : List Rw} (h : stmtsP n (f + 1) d l = .ok (rs, r)) :
    (seesB wShut l = true ∧ rs = [] ∧ r = l) ∨ (seesB wShut l = false ∧ ∃ rs1 r1 rs2, stmtP n (stmtsP n f) d l = .ok (rs1, r1) ∧ stmtsP n f d r1 = .ok (rs2, r) ∧ rs = rs1 ++ rs2) := by
  unfold stmtsP at h
  by_cases hs : seesB wShut l = true
  · rw [if_pos hs] at h; cases h; exact .inl ⟨hs, rfl, rfl⟩
  · rw [if_neg hs] at h
    cases h1 : stmtP n (stmtsP n f) d l with
    | error q => rw [h1] at h; cases h
    | ok y =>
      obtain ⟨rs1, r1⟩ := y
      rw [h1] at h
      simp only at h
      cases h2 : stmtsP n f d r1 with
      | error q => rw [h2] at h; cases h
      | ok y =>
        obtain ⟨rs2, r2⟩ := y
        rw [h2] at h
        cases h
        exact .inr ⟨by simpa using hs, rs1, r1, rs2, rfl, h2, rfl⟩
theorem prog_cases {n : Int} {f : Nat} {l : List Tk} {rs : List Rw} (h : progP n (f + 1) l = .ok rs) :
    (l = [] ∧ rs = []) ∨ (l ≠ [] ∧ ∃ rs1 r1 rs2, stmtP n (stmtsP n f) 0 l = .ok (rs1, r1) ∧ progP n f r1 = .ok rs2 ∧ rs = rs1 ++ rs2) := by
  cases l with
  | nil => cases h; exact .inl ⟨rfl, rfl⟩
  | cons t u =>
    unfold progP at h
    cases h1 : stmtP n (stmtsP n f) 0 (t :: u) with
    | error q => rw [h1] at h; cases h
    | ok y =>
      obtain ⟨rs1, r1⟩ := y
      rw [h1] at h
      simp only at h
      cases h2 : progP n f r1 with
      | error q => rw [h2] at h; cases h
      | ok y =>
        rw [h2] at h
        cases h
        exact .inr ⟨by simp, rs1, r1, y, rfl, h2, rfl⟩

/-! ### The rows' tokens -/
/-- A row's first token's text. -/
def hdT (r : Rw) : ByteArray := if r.kind = wUse then r.name else r.kind
/-- The tokens ms, in their order among those of l, are the first ones of the rows; each row's number of rows fits. -/
def Marks (l : List Tk) (rs : List Rw) : Prop :=
  (∃ ms : List Tk, ms.Sublist l ∧ ms.length = rs.length ∧ ∀ k (h : k < ms.length) (h' : k < rs.length), ms[k].p = rs[k].place ∧ ms[k].t = hdT rs[k]) ∧ ∀ k (h : k < rs.length), 0 ≤ rs[k].rows ∧ rs[k].rows + k + 1 ≤ rs.length
theorem Marks.app {l1 l2 : List Tk} {a b : List Rw} (h1 : Marks l1 a) (h2 : Marks l2 b) : Marks (l1 ++ l2) (a ++ b) := by
  obtain ⟨⟨m1, s1, e1, f1⟩, g1⟩ := h1
  obtain ⟨⟨m2, s2, e2, f2⟩, g2⟩ := h2
  refine ⟨⟨m1 ++ m2, s1.append s2, by simp [e1, e2], fun k h h' => ?_⟩, fun k h => ?_⟩
  · by_cases hk : k < m1.length
    · rw [List.getElem_append_left hk, List.getElem_append_left (by omega)]
      exact f1 k hk (by omega)
    · rw [List.getElem_append_right (by omega), List.getElem_append_right (by omega)]
      simp only [e1]
      exact f2 _ (by rw [List.length_append] at h; omega) (by rw [List.length_append] at h'; omega)
  · rw [List.length_append] at h ⊢
    by_cases hk : k < a.length
    · rw [List.getElem_append_left hk]
      have := g1 k hk
      omega
    · rw [List.getElem_append_right (by omega)]
      have := g2 (k - a.length) (by omega)
      omega
theorem Marks.sub {l l' : List Tk} {rs : List Rw} (h : Marks l rs) (hs : l.Sublist l') : Marks l' rs := by
  obtain ⟨⟨m, s, e, f⟩, g⟩ := h
  exact ⟨⟨m, s.trans hs, e, f⟩, g⟩
theorem Marks.head {l : List Tk} {rs : List Rw} {t : Tk} {r : Rw} (h : Marks l rs) (hp : t.p = r.place) (ht : t.t = hdT r) (hr : r.rows = rs.length) : Marks (t :: l) (r :: rs) := by
  obtain ⟨⟨m, s, e, f⟩, g⟩ := h
  refine ⟨⟨t :: m, s.cons_cons t, by simp [e], fun k h h' => ?_⟩, fun k h => ?_⟩
  · cases k with
    | zero => exact ⟨hp, ht⟩
    | succ k => exact f k (by simpa using h) (by simpa using h')
  · cases k with
    | zero => simp only [List.getElem_cons_zero, List.length_cons]; omega
    | succ k =>
      have := g k (by simpa using h)
      simp only [List.getElem_cons_succ, List.length_cons]
      omega
theorem kind_head {n : Int} {t : Tk} {u l4 : List Tk} {nm : ByteArray} {aa : List Ar} {x : Nat} {p y z : Int} (h : midP n (shK t) (restK t u) = .ok ((nm, aa, x, p), l4)) : t.t = hdT ⟨kindK t, nm, aa, y, z, t.p⟩ := by
  unfold hdT
  simp only
  cases ho : ownB t.t with
  | true =>
    have hk : kindK t = t.t := by unfold kindK; rw [if_pos ho]
    rw [hk]
    by_cases e : t.t = wUse
    · rw [e] at ho; exact absurd ho (by decide)
    · rw [if_neg e]
  | false =>
    have hk : kindK t = wUse := by unfold kindK; rw [ho]; rfl
    rw [hk, if_pos rfl]
    obtain ⟨l1, _, _, _, h1, _⟩ := mid_cases h
    have hsh : (shK t).name = true := by unfold shK; rw [hk]; rfl
    have hr : restK t u = t :: u := by unfold restK; rw [ho]; rfl
    rw [hsh, hr] at h1
    unfold optName at h1
    rw [if_pos rfl] at h1
    obtain ⟨t', e1, e2, _⟩ := nameP_len h1
    cases e1
    exact e2
theorem mid_pre {n : Int} {t : Tk} {u l4 : List Tk} {y : ByteArray × List Ar × Nat × Int} (h : midP n (shK t) (restK t u) = .ok (y, l4)) : ∃ m, t :: u = t :: (m ++ l4) := by
  have hs := midP_suf h
  have hl := midP_len h
  unfold restK at hs hl
  by_cases ho : ownB t.t = true
  · rw [if_pos ho] at hs
    obtain ⟨m, e⟩ := hs
    exact ⟨m, by rw [e]⟩
  · rw [if_neg ho] at hs hl
    obtain ⟨m, e⟩ := hs
    cases m with
    | nil => rw [List.nil_append] at e; rw [e] at hl; omega
    | cons a m => cases e; exact ⟨m, rfl⟩
theorem stmts_marks {n : Int} : ∀ (f d : Nat) (l r : List Tk) (rs : List Rw), stmtsP n f d l = .ok (rs, r) → ∃ pre, l = pre ++ r ∧ Marks pre rs := by
  intro f
  induction f with
  | zero => intro d l r rs h; cases h
  | succ f ih =>
    intro d l r rs h
    rcases stmts_cases h with ⟨_, rfl, rfl⟩ | ⟨_, rs1, r1, rs2, h1, h2, rfl⟩
    · exact ⟨[], rfl, ⟨[], List.Sublist.slnil, rfl, fun k h => absurd h (Nat.not_lt_zero _)⟩, fun k h => absurd h (Nat.not_lt_zero _)⟩
    · obtain ⟨p2, e2, m2⟩ := ih _ _ _ _ h2
      obtain ⟨t, u, nm, aa, x, p, l4, rfl, hm, hc⟩ := stmt_cases h1
      obtain ⟨m, em⟩ := mid_pre hm
      have ht := kind_head (y := (x : Int)) (z := 0) hm
      rcases hc with ⟨_, rfl, rfl⟩ | ⟨_, _, rs3, l5, h3, rfl, rfl⟩
      · refine ⟨(t :: m) ++ p2, by rw [em, e2]; simp, ?_⟩
        refine Marks.app (Marks.head (rs := []) ⟨⟨[], List.nil_sublist _, rfl, fun k h => absurd h (Nat.not_lt_zero _)⟩, fun k h => absurd h (Nat.not_lt_zero _)⟩ rfl ht rfl) m2
      · obtain ⟨p3, e3, m3⟩ := ih _ _ _ _ h3
        obtain ⟨_, hs3⟩ := stmts_short _ _ _ _ _ h3
        obtain ⟨tt, rr, e5, _⟩ := seesB_cons hs3
        refine ⟨(t :: (m ++ p3 ++ [tt])) ++ p2, by rw [em, e3, e5]; rw [e5, List.tail_cons] at e2; rw [e2]; simp, ?_⟩
        have ht2 := kind_head (y := (x : Int)) (z := (rs3.length : Int)) hm
        exact Marks.app (Marks.head (m3.sub ((List.sublist_append_right m p3).trans (List.sublist_append_left _ _))) rfl ht2 rfl) m2
theorem prog_marks {n : Int} : ∀ (f : Nat) (l : List Tk) (rs : List Rw), progP n f l = .ok rs → Marks l rs := by
  intro f
  induction f with
  | zero => intro l rs h; cases h
  | succ f ih =>
    intro l rs h
    rcases prog_cases h with ⟨rfl, rfl⟩ | ⟨_, rs1, r1, rs2, h1, h2, rfl⟩
    · exact ⟨⟨[], List.Sublist.slnil, rfl, fun k h => absurd h (Nat.not_lt_zero _)⟩, fun k h => absurd h (Nat.not_lt_zero _)⟩
    · have m2 := ih _ _ h2
      obtain ⟨t, u, nm, aa, x, p, l4, rfl, hm, hc⟩ := stmt_cases h1
      obtain ⟨m, em⟩ := mid_pre hm
      rcases hc with ⟨_, rfl, rfl⟩ | ⟨_, _, rs3, l5, h3, rfl, rfl⟩
      · have ht := kind_head (y := (x : Int)) (z := 0) hm
        rw [em]
        have := Marks.app (Marks.head (rs := []) (l := m) ⟨⟨[], List.nil_sublist _, rfl, fun k h => absurd h (Nat.not_lt_zero _)⟩, fun k h => absurd h (Nat.not_lt_zero _)⟩ rfl ht rfl) m2
        simpa using this
      · obtain ⟨p3, e3, m3⟩ := stmts_marks _ _ _ _ _ h3
        obtain ⟨_, hs3⟩ := stmts_short _ _ _ _ _ h3
        obtain ⟨tt, rr, e5, _⟩ := seesB_cons hs3
        have ht2 := kind_head (y := (x : Int)) (z := (rs3.length : Int)) hm
        rw [em, e3, e5]
        rw [e5, List.tail_cons] at m2
        have := Marks.app (Marks.head (m3.sub ((List.sublist_append_right m p3).trans (List.sublist_append_left _ [tt]))) rfl ht2 rfl) m2
        simpa using this
/-- The tokens that are read rise. -/
theorem Pre.rise {s : ByteArray} {i : Nat} {l : List Tk} (h : Pre s i l) : l.Pairwise (fun a b => a.p < b.p) ∧ ∀ t ∈ l, 0 ≤ t.p ∧ t.p < (i : Int) :=
  (Pre.ind (R := fun i l => l.Pairwise (fun a b => a.p < b.p) ∧ ∀ t ∈ l, 0 ≤ t.p ∧ t.p < (i : Int)) ⟨List.Pairwise.nil, fun t h => by cases h⟩ (fun i l _ h => ⟨h.1, fun t ht => by have := h.2 t ht; omega⟩) (fun i j l hc he h => ⟨h.1, fun t ht => by have := h.2 t ht; have := remark_lt hc he; omega⟩)
    (fun i j l k ht h => by
      have hij := ht.lt
      refine ⟨List.pairwise_append.2 ⟨h.1, List.pairwise_singleton _ _, fun a ha b hb => ?_⟩, fun t hm => ?_⟩
      · have := h.2 a ha
        rw [List.mem_singleton] at hb
        subst hb
        exact this.2
      · rcases List.mem_append.1 hm with hm | hm
        · have := h.2 t hm; omega
        · rw [List.mem_singleton] at hm
          subst hm
          show 0 ≤ ((i : Nat) : Int) ∧ ((i : Nat) : Int) < j
          omega) h).2
end Go.Proofs.YtiepbfeliehjnaaDoor
