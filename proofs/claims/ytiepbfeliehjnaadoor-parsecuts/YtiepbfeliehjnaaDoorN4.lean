/-
  Plain mathematics of faults: which errors there are, and where. Of no program.
-/
import Derived.Test.YtiepbfeliehjnaaDoorN3
namespace Go.Proofs.YtiepbfeliehjnaaDoor

/-- A fault at a token of l, or at the end. -/
def GE (n : Int) (l : List Tk) (q : Fa) : Prop := (q.2 = 1 ∨ q.2 = 100 ∨ q.2 = 101 ∨ q.2 = 102) ∧ (q.1 = n ∨ ∃ t ∈ l, q.1 = t.p)
theorem GE.sub {n : Int} {l l' : List Tk} {q : Fa} (h : GE n l q) (hs : l <:+ l') : GE n l' q := by
  obtain ⟨h1, h2 | ⟨t, ht, e⟩⟩ := h
  · exact ⟨h1, .inl h2⟩
  · exact ⟨h1, .inr ⟨t, hs.subset ht, e⟩⟩
theorem nameP_ge {n : Int} {l : List Tk} {q : Fa} (h : nameP n l = .error q) : GE n l q := by
  cases l with
  | nil => cases h; exact ⟨by simp, .inl rfl⟩
  | cons t u =>
    simp only [nameP] at h
    split at h
    · cases h
    · cases h; exact ⟨by simp, .inr ⟨t, by simp, rfl⟩⟩
theorem numP_ge {n : Int} {l : List Tk} {q : Fa} (h : numP n l = .error q) : GE n l q := by
  cases l with
  | nil => cases h; exact ⟨by simp, .inl rfl⟩
  | cons t u =>
    simp only [numP] at h
    split at h
    · split at h
      · cases h
      · cases h; exact ⟨by simp, .inr ⟨t, by simp, rfl⟩⟩
    · cases h; exact ⟨by simp, .inr ⟨t, by simp, rfl⟩⟩
theorem signP_ge {n : Int} {c : ByteArray} {l : List Tk} {q : Fa} (h : signP n c l = .error q) : GE n l q := by
  cases l with
  | nil => cases h; exact ⟨by simp, .inl rfl⟩
  | cons t u =>
    simp only [signP] at h
    split at h
    · cases h
    · cases h; exact ⟨by simp, .inr ⟨t, by simp, rfl⟩⟩
theorem argP_ge {n : Int} {ix : Bool} {l : List Tk} {q : Fa} (h : argP n ix l = .error q) : GE n l q := by
  unfold argP at h
  cases hn : nameP n l with
  | error e => rw [hn] at h; cases h; exact nameP_ge hn
  | ok y =>
    obtain ⟨b, r1⟩ := y
    have s1 := nameP_suf hn
    rw [hn] at h
    simp only at h
    split at h
    · cases hx : numP n r1.tail with
      | error e => rw [hx] at h; cases h; exact (numP_ge hx).sub ((List.tail_suffix _).trans s1)
      | ok y =>
        obtain ⟨x, r3⟩ := y
        have s3 := numP_suf hx
        rw [hx] at h
        simp only at h
        cases hs : signP n wRight r3 with
        | error e => rw [hs] at h; cases h; exact (signP_ge hs).sub (s3.trans ((List.tail_suffix _).trans s1))
        | ok y => obtain ⟨z, r4⟩ := y; rw [hs] at h; cases h
    · cases h
theorem argsP_ge {n : Int} {sh : Sh} : ∀ (f : Nat) {acc : List Ar} {l : List Tk} {q : Fa}, argsP n sh f acc l = .error q → GE n l q := by
  intro f
  induction f with
  | zero => intro acc l q h; cases h
  | succ f ih =>
    intro acc l q h
    unfold argsP at h
    split at h
    · cases ha : argP n sh.idx l with
      | error e => rw [ha] at h; cases h; exact argP_ge ha
      | ok y =>
        obtain ⟨a, r1⟩ := y
        rw [ha] at h
        exact (ih h).sub (argP_suf ha)
    · cases h
theorem midP_ge {n : Int} {sh : Sh} {l : List Tk} {q : Fa} (h : midP n sh l = .error q) : GE n l q := by
  unfold midP at h
  cases h1 : optName n sh.name l with
  | error e =>
    rw [h1] at h; cases h
    unfold optName at h1
    split at h1
    · exact nameP_ge h1
    · cases h1
  | ok y1 =>
    obtain ⟨nm, l1⟩ := y1
    have s1 := optName_suf h1
    rw [h1] at h
    simp only at h
    cases h2 : argsP n sh (l1.length + 1) [] l1 with
    | error e => rw [h2] at h; cases h; exact (argsP_ge _ h2).sub s1
    | ok y2 =>
      obtain ⟨aa, l2⟩ := y2
      have s2 := argsP_suf _ h2
      rw [h2] at h
      simp only at h
      cases h3 : optNum n sh.num l2 with
      | error e =>
        rw [h3] at h; cases h
        unfold optNum at h3
        split at h3
        · exact (numP_ge h3).sub (s2.trans s1)
        · cases h3
      | ok y3 =>
        obtain ⟨x, l3⟩ := y3
        have s3 := optNum_suf h3
        rw [h3] at h
        simp only at h
        cases h4 : signP n (lastS sh) l3 with
        | error e => rw [h4] at h; cases h; exact (signP_ge h4).sub (s3.trans (s2.trans s1))
        | ok y4 => obtain ⟨u, l4⟩ := y4; rw [h4] at h; cases h
theorem restK_suf (t : Tk) (u : List Tk) : restK t u <:+ t :: u := by
  unfold restK
  split
  · exact List.suffix_cons _ _
  · exact List.suffix_refl _
theorem stmtP_ge {n : Int} {rec : Nat → List Tk → Except Fa (List Rw × List Tk)} {d : Nat} {l : List Tk} {q : Fa} (hrec : ∀ d l' q, l'.length < l.length → rec d l' = .error q → GE n l' q) (h : stmtP n rec d l = .error q) : GE n l q := by
  cases l with
  | nil => cases h; exact ⟨by simp, .inl rfl⟩
  | cons t u =>
    have s0 := restK_suf t u
    have hl0 := restK_len t u
    cases hm : midP n (shK t) (restK t u) with
    | error e => rw [stmt_mid hm] at h; cases h; exact (midP_ge hm).sub s0
    | ok y =>
      obtain ⟨⟨nm, aa, x, p⟩, l4⟩ := y
      have s4 := midP_suf hm
      have hl4 := midP_len hm
      cases hb : (shK t).body with
      | false => rw [stmt_flat hm hb] at h; cases h
      | true =>
        cases h5 : bodyP rec d p l4 with
        | ok y => obtain ⟨rs2, l5⟩ := y; rw [stmt_bo hm hb h5] at h; cases h
        | error e =>
          rw [stmt_be hm hb h5] at h
          cases h
          unfold bodyP at h5
          by_cases hd : 32 ≤ d
          · rw [if_pos hd] at h5
            cases h5
            obtain ⟨l1, l2, l3, v, h1, h2, h3, h4, rfl⟩ := mid_cases hm
            obtain ⟨e3, _⟩ := signP_len h4
            refine ⟨by simp, .inr ⟨v, ?_, rfl⟩⟩
            have s3 := (optNum_suf h3).trans ((argsP_suf _ h2).trans (optName_suf h1))
            exact (s3.trans s0).subset (by rw [e3]; simp)
          · rw [if_neg hd] at h5
            cases hr : rec (d + 1) l4 with
            | ok y => obtain ⟨a, b⟩ := y; rw [hr] at h5; cases h5
            | error e =>
              rw [hr] at h5
              cases h5
              exact (hrec _ _ _ (by simp only [List.length_cons]; omega) hr).sub (s4.trans s0)
theorem stmt_suf {n : Int} {f d : Nat} {l r : List Tk} {rs : List Rw} (h : stmtP n (stmtsP n f) d l = .ok (rs, r)) : r <:+ l := by
  obtain ⟨t, u, nm, aa, x, p, l4, rfl, hm, hc⟩ := stmt_cases h
  have s4 := (midP_suf hm).trans (restK_suf t u)
  rcases hc with ⟨_, _, rfl⟩ | ⟨_, _, rs3, l5, h3, _, rfl⟩
  · exact s4
  · obtain ⟨pre, e, _⟩ := stmts_marks _ _ _ _ _ h3
    exact (List.tail_suffix _).trans (((List.suffix_append pre l5).trans (by rw [e]; exact List.suffix_refl _)).trans s4)
theorem stmtsP_ge {n : Int} : ∀ (f d : Nat) (l : List Tk) (q : Fa), l.length < f → stmtsP n f d l = .error q → GE n l q := by
  intro f
  induction f with
  | zero => intro d l q hl h; omega
  | succ f ih =>
    intro d l q hl h
    unfold stmtsP at h
    split at h
    · cases h
    · cases h1 : stmtP n (stmtsP n f) d l with
      | error e => rw [h1] at h; cases h; exact stmtP_ge (fun d l' q hl' hh => ih d l' q (by omega) hh) h1
      | ok y =>
        obtain ⟨rs1, r1⟩ := y
        have hsh := stmt_short (fun d l r rs h => (stmts_short f d l r rs h).1) h1
        rw [h1] at h
        simp only at h
        cases h2 : stmtsP n f d r1 with
        | error e => rw [h2] at h; cases h; exact (ih _ _ _ (by omega) h2).sub (stmt_suf h1)
        | ok y => obtain ⟨a, b⟩ := y; rw [h2] at h; cases h
theorem progP_ge {n : Int} : ∀ (f : Nat) (l : List Tk) (q : Fa), l.length < f → progP n f l = .error q → GE n l q := by
  intro f
  induction f with
  | zero => intro l q hl h; omega
  | succ f ih =>
    intro l q hl h
    cases l with
    | nil => cases h
    | cons t u =>
      unfold progP at h
      cases h1 : stmtP n (stmtsP n f) 0 (t :: u) with
      | error e => rw [h1] at h; cases h; exact stmtP_ge (fun d l' q hl' hh => stmtsP_ge f d l' q (by omega) hh) h1
      | ok y =>
        obtain ⟨rs1, r1⟩ := y
        have hsh := stmt_short (fun d l r rs h => (stmts_short f d l r rs h).1) h1
        rw [h1] at h
        simp only at h
        cases h2 : progP n f r1 with
        | error e => rw [h2] at h; cases h; exact (ih _ _ (by omega) h2).sub (stmt_suf h1)
        | ok y => rw [h2] at h; cases h
/-- What Parse tells, taken apart: an error with a place in the text; or rows. -/
theorem POut.cases {s : ByteArray} {rs : List Rw} {a : Int} {e : Nat} (h : POut s rs a e) :
    (e ≠ 0 ∧ e ≤ 102 ∧ rs = [] ∧ 0 ≤ a ∧ a ≤ s.size) ∨ (e = 0 ∧ a = 0 ∧ s.size ≤ 65536 ∧ ∃ l, Pre s s.size l ∧ Out s l 0 0 ∧ progP s.size (l.length + 1) l = .ok rs) := by
  obtain ⟨l, a0, e0, ho, hc⟩ := h
  rcases hc with ⟨h0, rfl, rfl, rfl⟩ | ⟨rfl, hc⟩
  · refine .inl ⟨h0, ?_, rfl, by omega, ?_⟩
    · rcases ho with ⟨_, _, _, h⟩ | ⟨_, _, _, h⟩ | ⟨_, _, h, _⟩ <;> omega
    · rcases ho with ⟨_, _, h, _⟩ | ⟨_, _, h, _⟩ | ⟨_, _, _, i, m, hp, hb⟩
      · omega
      · omega
      · have := hb.sz; omega
  · obtain ⟨hs6, hp, rfl⟩ : s.size ≤ 65536 ∧ Pre s s.size l ∧ a0 = 0 := by
      rcases ho with ⟨_, _, _, h⟩ | ⟨h1, h2, h3, _⟩ | ⟨_, _, h, _⟩
      · cases h
      · exact ⟨h1, h2, h3⟩
      · cases h
    rcases hc with ⟨p, x, hpr, rfl, rfl, rfl⟩ | ⟨hpr, rfl, rfl⟩
    · obtain ⟨h1, h2⟩ := progP_ge _ _ _ (Nat.lt_succ_self _) hpr
      simp only at h1 h2
      refine .inl ⟨by omega, by omega, rfl, ?_, ?_⟩
      · rcases h2 with h2 | ⟨t, ht, h2⟩
        · omega
        · have := hp.rise.2 t ht; omega
      · rcases h2 with h2 | ⟨t, ht, h2⟩
        · omega
        · have := hp.rise.2 t ht; omega
    · exact .inr ⟨rfl, rfl, hs6, l, hp, ho, hpr⟩
/-- The places of the rows of a text. -/
theorem rows_places {s : ByteArray} {l : List Tk} {f : Nat} {n : Int} {rs : List Rw} (hp : Pre s s.size l) (h : progP n f l = .ok rs) :
    (∀ a b (h1 : a < l.length) (h2 : b < l.length), a < b → l[a].p < l[b].p) ∧ (∀ k (h : k < rs.length), ∃ q, ∃ hq : q < l.length, l[q].p = rs[k].place ∧ l[q].t = hdT rs[k]) ∧
    (∀ a b (h1 : a < rs.length) (h2 : b < rs.length), a < b → rs[a].place < rs[b].place) ∧ (∀ k (h : k < rs.length), 0 ≤ rs[k].rows ∧ rs[k].rows + k + 1 ≤ rs.length) ∧ (∀ k (h : k < rs.length), 0 ≤ rs[k].place ∧ rs[k].place < s.size) := by
  obtain ⟨⟨ms, hsub, hlen, hms⟩, hrows⟩ := prog_marks _ _ _ h
  obtain ⟨hr, hb⟩ := hp.rise
  have hr2 := hr.sublist hsub
  have mem : ∀ k (h : k < rs.length), ∃ q, ∃ hq : q < l.length, l[q] = ms[k]'(by omega) := fun k h => by
    have := hsub.subset (List.getElem_mem (l := ms) (n := k) (by omega))
    obtain ⟨q, hq, e⟩ := List.getElem_of_mem this
    exact ⟨q, hq, e⟩
  refine ⟨fun a b h1 h2 hab => List.pairwise_iff_getElem.1 hr a b h1 h2 hab, fun k h => ?_, fun a b h1 h2 hab => ?_, hrows, fun k h => ?_⟩
  · obtain ⟨q, hq, e⟩ := mem k h
    have := hms k (by omega) h
    exact ⟨q, hq, by rw [e]; exact this.1, by rw [e]; exact this.2⟩
  · have := List.pairwise_iff_getElem.1 hr2 a b (by omega) (by omega) hab
    rw [(hms a (by omega) h1).1, (hms b (by omega) h2).1] at this
    exact this
  · obtain ⟨q, hq, e⟩ := mem k h
    have h1 := hms k (by omega) h
    have h2 := hb l[q] (List.getElem_mem hq)
    rw [e, h1.1] at h2
    exact h2
end Go.Proofs.YtiepbfeliehjnaaDoor
