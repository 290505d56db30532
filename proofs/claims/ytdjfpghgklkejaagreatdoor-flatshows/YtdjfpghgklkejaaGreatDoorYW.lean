/-
  Put together of: LN3 LBN LB1 LB2 LB3 LB7b LN4 LN5.
-/
import Derived.Test.YtdjfpghgklkejaaGreatDoorYC
import Derived.Test.YtdjfpghgklkejaaGreatDoorXG
import Derived.Test.YtdjfpghgklkejaaGreatDoorYU
import Derived.Test.YtdjfpghgklkejaaGreatDoorYF
namespace Go.Proofs.YtdjfpghgklkejaaGreatDoor
theorem nameP_suf {n : Int} {l r : List Tk} {a : ByteArray} (h : nameP n l = .ok (a, r)) : r <:+ l := by obtain ⟨t, rfl, _⟩ := nameP_len h; exact List.suffix_cons _ _
theorem numP_suf {n : Int} {l r : List Tk} {a : Nat} (h : numP n l = .ok (a, r)) : r <:+ l := by obtain ⟨t, rfl, _⟩ := numP_len h; exact List.suffix_cons _ _
theorem signP_suf {n : Int} {c : ByteArray} {l r : List Tk} {a : Tk} (h : signP n c l = .ok (a, r)) : r <:+ l := by obtain ⟨rfl, _⟩ := signP_len h; exact List.suffix_cons _ _
theorem argP_suf {n : Int} {ix : Bool} {l r : List Tk} {a : Ar} (h : argP n ix l = .ok (a, r)) : r <:+ l := by
  unfold argP at h
  cases hn : nameP n l with
  | error e => rw [hn] at h; cases h
  | ok y =>
    obtain ⟨b, r1⟩ := y
    have s1 := nameP_suf hn
    rw [hn] at h
    simp only at h
    by_cases hc : ix = true ∧ seesB wLeft r1 = true
    · rw [if_pos hc] at h
      cases hx : numP n r1.tail with
      | error e => rw [hx] at h; cases h
      | ok y =>
        obtain ⟨x, r3⟩ := y
        have s3 := numP_suf hx
        rw [hx] at h
        simp only at h
        cases hs : signP n wRight r3 with
        | error e => rw [hs] at h; cases h
        | ok y =>
          obtain ⟨z, r4⟩ := y
          have s4 := signP_suf hs
          rw [hs] at h
          cases h
          exact s4.trans (s3.trans ((List.tail_suffix _).trans s1))
    · rw [if_neg hc] at h
      cases h
      exact s1
theorem argsP_suf {n : Int} {sh : Sh} : ∀ (f : Nat) {acc aa : List Ar} {l r : List Tk}, argsP n sh f acc l = .ok (aa, r) → r <:+ l := by
  intro f
  induction f with
  | zero => intro acc aa l r h; cases h; exact List.suffix_refl _
  | succ f ih =>
    intro acc aa l r h
    unfold argsP at h
    by_cases hm : moreB sh acc.length l = true
    · rw [if_pos hm] at h
      cases ha : argP n sh.idx l with
      | error e => rw [ha] at h; cases h
      | ok y =>
        obtain ⟨a, r1⟩ := y
        rw [ha] at h
        exact (ih h).trans (argP_suf ha)
    · rw [if_neg hm] at h; cases h; exact List.suffix_refl _
theorem optName_suf {n : Int} {b : Bool} {l r : List Tk} {a : ByteArray} (h : optName n b l = .ok (a, r)) : r <:+ l := by
  unfold optName at h
  by_cases e : b = true
  · rw [if_pos e] at h; exact nameP_suf h
  · rw [if_neg e] at h; cases h; exact List.suffix_refl _
theorem optNum_suf {n : Int} {b : Bool} {l r : List Tk} {x : Nat} (h : optNum n b l = .ok (x, r)) : r <:+ l := by
  unfold optNum at h
  by_cases e : b = true
  · rw [if_pos e] at h; exact numP_suf h
  · rw [if_neg e] at h; cases h; exact List.suffix_refl _
theorem mid_cases {n : Int} {sh : Sh} {l r : List Tk} {nm : ByteArray} {aa : List Ar} {x : Nat} {p : Int} (h : midP n sh l = .ok ((nm, aa, x, p), r)) :
    ∃ l1 l2 l3 u, optName n sh.name l = .ok (nm, l1) ∧ argsP n sh (l1.length + 1) [] l1 = .ok (aa, l2) ∧ optNum n sh.num l2 = .ok (x, l3) ∧ signP n (lastS sh) l3 = .ok (u, r) ∧ u.p = p := by
  unfold midP at h
  cases h1 : optName n sh.name l with
  | error e => rw [h1] at h; cases h
  | ok y1 =>
    obtain ⟨nm', l1⟩ := y1
    rw [h1] at h
    simp only at h
    cases h2 : argsP n sh (l1.length + 1) [] l1 with
    | error e => rw [h2] at h; cases h
    | ok y2 =>
      obtain ⟨aa', l2⟩ := y2
      rw [h2] at h
      simp only at h
      cases h3 : optNum n sh.num l2 with
      | error e => rw [h3] at h; cases h
      | ok y3 =>
        obtain ⟨x', l3⟩ := y3
        rw [h3] at h
        simp only at h
        cases h4 : signP n (lastS sh) l3 with
        | error e => rw [h4] at h; cases h
        | ok y4 =>
          obtain ⟨u, l4⟩ := y4
          rw [h4] at h
          cases h
          exact ⟨l1, l2, l3, u, rfl, h2, h3, h4, rfl⟩
theorem midP_suf {n : Int} {sh : Sh} {l r : List Tk} {y : ByteArray × List Ar × Nat × Int} (h : midP n sh l = .ok (y, r)) : r <:+ l := by
  obtain ⟨nm, aa, x, p⟩ := y
  obtain ⟨l1, l2, l3, u, h1, h2, h3, h4, _⟩ := mid_cases h
  exact (signP_suf h4).trans ((optNum_suf h3).trans ((argsP_suf _ h2).trans (optName_suf h1)))
theorem stmt_cases {n : Int} {rec : Nat → List Tk → Except Fa (List Rw × List Tk)} {d : Nat} {l r : List Tk} {rs : List Rw} (h : stmtP n rec d l = .ok (rs, r)) :
    ∃ t u nm aa x p l4, l = t :: u ∧ midP n (shK t) (restK t u) = .ok ((nm, aa, x, p), l4) ∧
      (((shK t).body = false ∧ rs = [⟨kindK t, nm, aa, (x : Nat), 0, t.p⟩] ∧ r = l4) ∨
       ((shK t).body = true ∧ ¬ 32 ≤ d ∧ ∃ rs2 l5, rec (d + 1) l4 = .ok (rs2, l5) ∧ rs = ⟨kindK t, nm, aa, (x : Nat), rs2.length, t.p⟩ :: rs2 ∧ r = l5.tail)) := by
  cases l with
  | nil => cases h
  | cons t u =>
    cases hm : midP n (shK t) (restK t u) with
    | error q => rw [stmt_mid hm] at h; cases h
    | ok y =>
      obtain ⟨⟨nm, aa, x, p⟩, l4⟩ := y
      refine ⟨t, u, nm, aa, x, p, l4, rfl, hm, ?_⟩
      cases hb : (shK t).body with
      | false =>
        rw [stmt_flat hm hb] at h
        cases h
        exact .inl ⟨rfl, rfl, rfl⟩
      | true =>
        cases h5 : bodyP rec d p l4 with
        | error q => rw [stmt_be hm hb h5] at h; cases h
        | ok y =>
          obtain ⟨rs2, l5⟩ := y
          rw [stmt_bo hm hb h5] at h
          cases h
          unfold bodyP at h5
          by_cases hd : 32 ≤ d
          · rw [if_pos hd] at h5; cases h5
          · rw [if_neg hd] at h5
            cases hr : rec (d + 1) l4 with
            | error q => rw [hr] at h5; cases h5
            | ok y =>
              obtain ⟨rs3, l6⟩ := y
              rw [hr] at h5
              cases h5
              exact .inr ⟨rfl, hd, _, _, rfl, rfl, rfl⟩
theorem stmts_cases {n : Int} {f d : Nat} {l r : List Tk} {rs : List Rw} (h : stmtsP n (f + 1) d l = .ok (rs, r)) :
    (seesB wShut l = true ∧ rs = [] ∧ r = l) ∨ (seesB wShut l = false ∧ ∃ rs1 r1 rs2, stmtP n (stmtsP n f) d l = .ok (rs1, r1) ∧ stmtsP n f d r1 = .ok (rs2, r) ∧ rs = rs1 ++ rs2) := by
  unfold stmtsP at h
  by_cases hs : seesB wShut l = true
  · rw [if_pos hs] at h; cases h; exact .inl ⟨hs, rfl, rfl⟩
  · rw [if_neg hs] at h
    cases h1 : stmtP n (stmtsP n f) d l with
    | error q => rw [h1] at h; cases h
    | ok y =>
      obtain ⟨rs1, r1⟩ := y
      rw [h1] at h
      simp only at h
      cases h2 : stmtsP n f d r1 with
      | error q => rw [h2] at h; cases h
      | ok y =>
        obtain ⟨rs2, r2⟩ := y
        rw [h2] at h
        cases h
        exact .inr ⟨by simpa using hs, rs1, r1, rs2, rfl, h2, rfl⟩
theorem prog_cases {n : Int} {f : Nat} {l : List Tk} {rs : List Rw} (h : progP n (f + 1) l = .ok rs) :
    (l = [] ∧ rs = []) ∨ (l ≠ [] ∧ ∃ rs1 r1 rs2, stmtP n (stmtsP n f) 0 l = .ok (rs1, r1) ∧ progP n f r1 = .ok rs2 ∧ rs = rs1 ++ rs2) := by
  cases l with
  | nil => cases h; exact .inl ⟨rfl, rfl⟩
  | cons t u =>
    unfold progP at h
    cases h1 : stmtP n (stmtsP n f) 0 (t :: u) with
    | error q => rw [h1] at h; cases h
    | ok y =>
      obtain ⟨rs1, r1⟩ := y
      rw [h1] at h
      simp only at h
      cases h2 : progP n f r1 with
      | error q => rw [h2] at h; cases h
      | ok y =>
        rw [h2] at h
        cases h
        exact .inr ⟨by simp, rs1, r1, y, rfl, h2, rfl⟩
def hdT (r : Rw) : ByteArray := if r.kind = wUse then r.name else r.kind
def Marks (l : List Tk) (rs : List Rw) : Prop :=
  (∃ ms : List Tk, ms.Sublist l ∧ ms.length = rs.length ∧ ∀ k (h : k < ms.length) (h' : k < rs.length), ms[k].p = rs[k].place ∧ ms[k].t = hdT rs[k]) ∧ ∀ k (h : k < rs.length), 0 ≤ rs[k].rows ∧ rs[k].rows + k + 1 ≤ rs.length
theorem Marks.app {l1 l2 : List Tk} {a b : List Rw} (h1 : Marks l1 a) (h2 : Marks l2 b) : Marks (l1 ++ l2) (a ++ b) := by
  obtain ⟨⟨m1, s1, e1, f1⟩, g1⟩ := h1
  obtain ⟨⟨m2, s2, e2, f2⟩, g2⟩ := h2
  refine ⟨⟨m1 ++ m2, s1.append s2, by simp [e1, e2], fun k h h' => ?_⟩, fun k h => ?_⟩
  · by_cases hk : k < m1.length
    · rw [List.getElem_append_left hk, List.getElem_append_left (by omega)]
      exact f1 k hk (by omega)
    · rw [List.getElem_append_right (by omega), List.getElem_append_right (by omega)]
      simp only [e1]
      exact f2 _ (by rw [List.length_append] at h; omega) (by rw [List.length_append] at h'; omega)
  · rw [List.length_append] at h ⊢
    by_cases hk : k < a.length
    · rw [List.getElem_append_left hk]
      have := g1 k hk
      omega
    · rw [List.getElem_append_right (by omega)]
      have := g2 (k - a.length) (by omega)
      omega
theorem Marks.sub {l l' : List Tk} {rs : List Rw} (h : Marks l rs) (hs : l.Sublist l') : Marks l' rs := by
  obtain ⟨⟨m, s, e, f⟩, g⟩ := h
  exact ⟨⟨m, s.trans hs, e, f⟩, g⟩
theorem Marks.head {l : List Tk} {rs : List Rw} {t : Tk} {r : Rw} (h : Marks l rs) (hp : t.p = r.place) (ht : t.t = hdT r) (hr : r.rows = rs.length) : Marks (t :: l) (r :: rs) := by
  obtain ⟨⟨m, s, e, f⟩, g⟩ := h
  refine ⟨⟨t :: m, s.cons_cons t, by simp [e], fun k h h' => ?_⟩, fun k h => ?_⟩
  · cases k with
    | zero => exact ⟨hp, ht⟩
    | succ k => exact f k (by simpa using h) (by simpa using h')
  · cases k with
    | zero => simp only [List.getElem_cons_zero, List.length_cons]; omega
    | succ k =>
      have := g k (by simpa using h)
      simp only [List.getElem_cons_succ, List.length_cons]
      omega
theorem kind_head {n : Int} {t : Tk} {u l4 : List Tk} {nm : ByteArray} {aa : List Ar} {x : Nat} {p y z : Int} (h : midP n (shK t) (restK t u) = .ok ((nm, aa, x, p), l4)) : t.t = hdT ⟨kindK t, nm, aa, y, z, t.p⟩ := by
  unfold hdT
  simp only
  cases ho : ownB t.t with
  | true =>
    have hk : kindK t = t.t := by unfold kindK; rw [if_pos ho]
    rw [hk]
    by_cases e : t.t = wUse
    · rw [e] at ho; exact absurd ho (by decide)
    · rw [if_neg e]
  | false =>
    have hk : kindK t = wUse := by unfold kindK; rw [ho]; rfl
    rw [hk, if_pos rfl]
    obtain ⟨l1, _, _, _, h1, _⟩ := mid_cases h
    have hsh : (shK t).name = true := by unfold shK; rw [hk]; rfl
    have hr : restK t u = t :: u := by unfold restK; rw [ho]; rfl
    rw [hsh, hr] at h1
    unfold optName at h1
    rw [if_pos rfl] at h1
    obtain ⟨t', e1, e2, _⟩ := nameP_len h1
    cases e1
    exact e2
theorem mid_pre {n : Int} {t : Tk} {u l4 : List Tk} {y : ByteArray × List Ar × Nat × Int} (h : midP n (shK t) (restK t u) = .ok (y, l4)) : ∃ m, t :: u = t :: (m ++ l4) := by
  have hs := midP_suf h
  have hl := midP_len h
  unfold restK at hs hl
  by_cases ho : ownB t.t = true
  · rw [if_pos ho] at hs
    obtain ⟨m, e⟩ := hs
    exact ⟨m, by rw [e]⟩
  · rw [if_neg ho] at hs hl
    obtain ⟨m, e⟩ := hs
    cases m with
    | nil => rw [List.nil_append] at e; rw [e] at hl; omega
    | cons a m => cases e; exact ⟨m, rfl⟩
theorem stmts_marks {n : Int} : ∀ (f d : Nat) (l r : List Tk) (rs : List Rw), stmtsP n f d l = .ok (rs, r) → ∃ pre, l = pre ++ r ∧ Marks pre rs := by
  intro f
  induction f with
  | zero => intro d l r rs h; cases h
  | succ f ih =>
    intro d l r rs h
    rcases stmts_cases h with ⟨_, rfl, rfl⟩ | ⟨_, rs1, r1, rs2, h1, h2, rfl⟩
    · exact ⟨[], rfl, ⟨[], List.Sublist.slnil, rfl, fun k h => absurd h (Nat.not_lt_zero _)⟩, fun k h => absurd h (Nat.not_lt_zero _)⟩
    · obtain ⟨p2, e2, m2⟩ := ih _ _ _ _ h2
      obtain ⟨t, u, nm, aa, x, p, l4, rfl, hm, hc⟩ := stmt_cases h1
      obtain ⟨m, em⟩ := mid_pre hm
      have ht := kind_head (y := (x : Int)) (z := 0) hm
      rcases hc with ⟨_, rfl, rfl⟩ | ⟨_, _, rs3, l5, h3, rfl, rfl⟩
      · refine ⟨(t :: m) ++ p2, by rw [em, e2]; simp, ?_⟩
        refine Marks.app (Marks.head (rs := []) ⟨⟨[], List.nil_sublist _, rfl, fun k h => absurd h (Nat.not_lt_zero _)⟩, fun k h => absurd h (Nat.not_lt_zero _)⟩ rfl ht rfl) m2
      · obtain ⟨p3, e3, m3⟩ := ih _ _ _ _ h3
        obtain ⟨_, hs3⟩ := stmts_short _ _ _ _ _ h3
        obtain ⟨tt, rr, e5, _⟩ := seesB_cons hs3
        refine ⟨(t :: (m ++ p3 ++ [tt])) ++ p2, by rw [em, e3, e5]; rw [e5, List.tail_cons] at e2; rw [e2]; simp, ?_⟩
        have ht2 := kind_head (y := (x : Int)) (z := (rs3.length : Int)) hm
        exact Marks.app (Marks.head (m3.sub ((List.sublist_append_right m p3).trans (List.sublist_append_left _ _))) rfl ht2 rfl) m2
theorem prog_marks {n : Int} : ∀ (f : Nat) (l : List Tk) (rs : List Rw), progP n f l = .ok rs → Marks l rs := by
  intro f
  induction f with
  | zero => intro l rs h; cases h
  | succ f ih =>
    intro l rs h
    rcases prog_cases h with ⟨rfl, rfl⟩ | ⟨_, rs1, r1, rs2, h1, h2, rfl⟩
    · exact ⟨⟨[], List.Sublist.slnil, rfl, fun k h => absurd h (Nat.not_lt_zero _)⟩, fun k h => absurd h (Nat.not_lt_zero _)⟩
    · have m2 := ih _ _ h2
      obtain ⟨t, u, nm, aa, x, p, l4, rfl, hm, hc⟩ := stmt_cases h1
      obtain ⟨m, em⟩ := mid_pre hm
      rcases hc with ⟨_, rfl, rfl⟩ | ⟨_, _, rs3, l5, h3, rfl, rfl⟩
      · have ht := kind_head (y := (x : Int)) (z := 0) hm
        rw [em]
        have := Marks.app (Marks.head (rs := []) (l := m) ⟨⟨[], List.nil_sublist _, rfl, fun k h => absurd h (Nat.not_lt_zero _)⟩, fun k h => absurd h (Nat.not_lt_zero _)⟩ rfl ht rfl) m2
        simpa using this
      · obtain ⟨p3, e3, m3⟩ := stmts_marks _ _ _ _ _ h3
        obtain ⟨_, hs3⟩ := stmts_short _ _ _ _ _ h3
        obtain ⟨tt, rr, e5, _⟩ := seesB_cons hs3
        have ht2 := kind_head (y := (x : Int)) (z := (rs3.length : Int)) hm
        rw [em, e3, e5]
        rw [e5, List.tail_cons] at m2
        have := Marks.app (Marks.head (m3.sub ((List.sublist_append_right m p3).trans (List.sublist_append_left _ [tt]))) rfl ht2 rfl) m2
        simpa using this
theorem Pre.rise {s : ByteArray} {i : Nat} {l : List Tk} (h : Pre s i l) : l.Pairwise (fun a b => a.p < b.p) ∧ ∀ t ∈ l, 0 ≤ t.p ∧ t.p < (i : Int) :=
  (Pre.ind (R := fun i l => l.Pairwise (fun a b => a.p < b.p) ∧ ∀ t ∈ l, 0 ≤ t.p ∧ t.p < (i : Int)) ⟨List.Pairwise.nil, fun t h => by cases h⟩ (fun i l _ h => ⟨h.1, fun t ht => by have := h.2 t ht; omega⟩) (fun i j l hc he h => ⟨h.1, fun t ht => by have := h.2 t ht; have := remark_lt hc he; omega⟩)
    (fun i j l k ht h => by
      have hij := ht.lt
      refine ⟨List.pairwise_append.2 ⟨h.1, List.pairwise_singleton _ _, fun a ha b hb => ?_⟩, fun t hm => ?_⟩
      · have := h.2 a ha
        rw [List.mem_singleton] at hb
        subst hb
        exact this.2
      · rcases List.mem_append.1 hm with hm | hm
        · have := h.2 t hm; omega
        · rw [List.mem_singleton] at hm
          subst hm
          show 0 ≤ ((i : Nat) : Int) ∧ ((i : Nat) : Int) < j
          omega) h).2
end Go.Proofs.YtdjfpghgklkejaaGreatDoor
namespace Go.Proofs.YtdjfpghgklkejaaGreatDoor
def kt (t:Tk):Int × ByteArray:=(t.k,t.t)
def Lk (a b:List Tk):Prop:=a.map kt=b.map kt
def HL (a b:List Tk):Prop:=a.head?.map kt=b.head?.map kt
def Loc {α:Type} (P:Int→List Tk→Except Fa (α × List Tk)) (l:List Tk) (a:α) (r:List Tk):Prop:=
 ∃pre,l=pre++r∧∀n' pre' r',Lk pre pre'→HL r r'→P n' (pre'++r')=.ok (a,r')
def rk (r:Rw):Rw:=⟨r.kind,r.name,r.args,r.num,r.rows,0⟩
def RL (a b:List Rw):Prop:=a.map rk=b.map rk
def LocS (rec:Nat→List Tk→Except Fa (List Rw × List Tk)) (rec':Int→Nat→List Tk→Except Fa (List Rw × List Tk)):Prop:=
 ∀d l rs r,rec d l=.ok (rs,r)→seesB wShut r=true∧∃pre,l=pre++r∧∀n' pre' r',Lk pre pre'→HL r r'→∃rs',rec' n' d (pre'++r')=.ok (rs',r')∧RL rs rs'
end Go.Proofs.YtdjfpghgklkejaaGreatDoor
namespace Go.Proofs.YtdjfpghgklkejaaGreatDoor
theorem dec_ds : ∀ u : Nat, Ds (Lib.decDigits u) ∧ Lib.decDigits u ≠ [] := by
  intro u
  induction u using Nat.strongRecOn with
  | ind u ih =>
    rw [Lib.decDigits]
    by_cases h : u < 10
    · rw [dif_pos h]
      refine ⟨fun b hb => ?_, by simp⟩
      rw [List.mem_singleton] at hb
      subst hb
      rw [UInt8.toNat_ofNat']
      omega
    · rw [dif_neg h]
      refine ⟨fun b hb => ?_, by simp⟩
      rcases List.mem_append.1 hb with hb | hb
      · exact (ih (u / 10) (by omega)).1 b hb
      · rw [List.mem_singleton] at hb
        subst hb
        rw [UInt8.toNat_ofNat']
        omega
theorem itoa_dec {x : Int} (h : 0 ≤ x) : Lib.itoa x = Lib.decDigits x.toNat := by unfold Lib.itoa; rw [if_neg (by omega)]
theorem numOk_p {x : Int} : numOk x = true ↔ 0 ≤ x ∧ x ≤ 9007199254740991 := by simp [numOk]
theorem argOk_p {ix : Bool} {a : Ar} : argOk ix a = true ↔ plnN a.n = true ∧ (a.x = -1 ∨ (ix = true ∧ numOk a.x = true)) := by simp [argOk]
theorem plnN_p {s : ByteArray} : plnN s = true ↔ nmB s = true ∧ ownB s = false := by simp [plnN]
theorem nm_first {s : ByteArray} (h : nmB s = true) : isL (cb s 0) = true ∧ 0 < s.size := by
  unfold nmB at h
  have h1 : isL (cb s 0) = true := by
    cases e : isL (cb s 0) with
    | true => rfl
    | false => rw [e] at h; cases h
  exact ⟨h1, in_of (p := isL) (by decide) h1⟩
theorem nm_ne {s : ByteArray} (h : nmB s = true) (c : UInt8) (hc : isL c.toNat = false) (r : List UInt8) : s ≠ ⟨(c :: r).toArray⟩ := by
  intro e
  obtain ⟨h1, h2⟩ := nm_first h
  rw [cb_list, e] at h1
  simp at h1
  rw [hc] at h1
  cases h1
theorem shR_cases {r : Rw} (h : (shp r.kind).isSome = true) : shR r = shDecl ∨ shR r = shGate ∨ shR r = shRepeat ∨ shR r = shIf ∨ shR r = shMeasure ∨ shR r = shReset ∨ shR r = shUse := by
  unfold shR
  rcases shp_cases r.kind with ⟨_, e, _⟩ | ⟨_, e, _⟩ | ⟨_, e, _⟩ | ⟨_, e, _⟩ | ⟨_, e, _⟩ | ⟨_, e, _⟩ | ⟨_, e, _⟩ | ⟨_, e, _⟩ | ⟨_, _, _, _, _, _, _, _, e, _⟩ <;> rw [e] at h ⊢ <;> simp at h ⊢
end Go.Proofs.YtdjfpghgklkejaaGreatDoor
namespace Go.Proofs.YtdjfpghgklkejaaGreatDoor
def At (s:ByteArray) (i:Nat) (bs:List UInt8):Prop:=∃r,s.data.toList.drop i=bs++r
def AllT (l:List Tk):Prop:=∀t∈l,rightB t=true
def Sc (s:ByteArray) (bs:List UInt8) (ks:List Tk):Prop:=∀i l,Pre s i l→At s i bs→∃l',Lk ks l'∧Pre s (i+bs.length) (l++l')
theorem nu_num {x:Int} (h:0≤x):nuB (numT x)=true:=by
 obtain ⟨hd,hn⟩:=dec_ds x.toNat
 have e:(numT x).data.toList=Lib.decDigits x.toNat:=by show (Lib.itoa x).toArray.toList=_;rw [List.toList_toArray,itoa_dec h]
 have hz:(numT x).data.toList.length=(numT x).size:=rfl
 have h0:0<(numT x).size:=by rw [←hz,e];exact List.length_pos_iff.2 hn
 unfold nuB
 have:run isD (numT x) 0=(numT x).size:=End.run ⟨Nat.zero_le _,Nat.le_refl _,fun k _ hk=>by
  rw [cb_list,e,List.getElem?_eq_getElem (by rw [←e,hz];exact hk)]
  show isD (UInt8.toNat _)=true
  rw [isD_p]
  exact hd _ (List.getElem_mem _),by rw [cb_out (Nat.lt_irrefl _)];exact isD6⟩ isD6
 rw [this]
 simpa using h0
end Go.Proofs.YtdjfpghgklkejaaGreatDoor
namespace Go.Proofs.YtdjfpghgklkejaaGreatDoor
def SOut (rs:List Rw) (s:ByteArray) (e:Nat):Prop:=
 (chk rs.length 0 rs=false∧s=⟨#[]⟩∧e=100)∨(chk rs.length 0 rs=true∧65536<(bodyB rs.length 0 rs).length∧s=⟨#[]⟩∧e=1)∨(chk rs.length 0 rs=true∧(bodyB rs.length 0 rs).length≤65536∧s=⟨(bodyB rs.length 0 rs).toArray⟩∧e=0)
theorem sout_ex (rs:List Rw):∃s e,SOut rs s e:=by
 cases h:chk rs.length 0 rs with
 | false=>exact ⟨_,_,.inl ⟨h,rfl,rfl⟩⟩
 | true=>
  by_cases hl:65536<(bodyB rs.length 0 rs).length
  ·exact ⟨_,_,.inr (.inl ⟨h,hl,rfl,rfl⟩)⟩
  ·exact ⟨_,_,.inr (.inr ⟨h,by omega,rfl,rfl⟩)⟩
end Go.Proofs.YtdjfpghgklkejaaGreatDoor
namespace Go.Proofs.YtdjfpghgklkejaaGreatDoor
open Go.RowKit Go.Sort
set_option maxHeartbeats 4000000 in
set_option maxRecDepth 100000 in
theorem fits_3 (kd nm:ByteArray) (ag:List Ar) (nu ro pl:Int) (sa:Int) (sx sb:Bool) (av:Value) (w0 W:World) (hS:SA w0 av ag) (hB:Below w0.heap.size w0 W) (_hn:nm.size≤9223372036854775807) (hl:ag.length≤9223372036854775807) (hz:∀a∈ag,a.n.size≤9223372036854775807) (hsa:sa ≠ -1) :
  Calls Tryz.prog 119 #[.agg #[.string kd,.string nm,av,.int .i64 nu,.int .i64 ro,.int .i64 pl],.agg #[.bool false,.int .i64 sa,.bool sx,.bool true,.bool sb]] W fun e W'=>e=.returned (.bool (fitB ⟨kd,nm,ag,nu,ro,pl⟩ ⟨false,sa,sx,true,sb⟩))∧Below W.heap.size W W':=by
 obtain ⟨aa,ac,rfl,hac,hr⟩:=hS
 have NU:=fun w=>isnum_any nu w
 have HR:Hid (∀k,k<ag.length→∃b o,aa=some ⟨b,o,none⟩∧RA w0 b o ag):=hr
 have HZ:Hid (∀a∈ag,a.n.size≤9223372036854775807):=hz
 obtain ⟨X,hX⟩:∃X,X=(W.alloc (.cells #[.string kd,.string nm,.slice aa ag.length ac,.int .i64 nu,.int .i64 ro,.int .i64 pl] 79)).alloc (.cells #[.bool false,.int .i64 sa,.bool sx,.bool true,.bool sb] 187):=⟨_,rfl⟩
 have HX:Hid (X=(W.alloc (.cells #[.string kd,.string nm,.slice aa ag.length ac,.int .i64 nu,.int .i64 ro,.int .i64 pl] 79)).alloc (.cells #[.bool false,.int .i64 sa,.bool sx,.bool true,.bool sb] 187)):=hX
 have XB:Below W.heap.size W X:=by rw [hX];exact bal (bal (Below.refl _ _) _) _
 have X0:Hid (Below w0.heap.size w0 X):=btr hB XB
 have OUT:∀ {wr:World},Below X.heap.size X wr→Below W.heap.size W wr:=fun h=>btr XB h
 have FC:∀ {wr:World},Below X.heap.size X wr→wr.cell? ⟨W.heap.size,1,none⟩=some (.string nm)∧wr.cell? ⟨W.heap.size,2,none⟩=some (.slice aa ag.length ac)∧wr.cell? ⟨W.heap.size,3,none⟩=some (.int .i64 nu)∧wr.cell? ⟨W.heap.size+1,0,none⟩=some (.bool false)∧wr.cell? ⟨W.heap.size+1,1,none⟩=some (.int .i64 sa)∧wr.cell? ⟨W.heap.size+1,2,none⟩=some (.bool sx)∧wr.cell? ⟨W.heap.size+1,3,none⟩=some (.bool true)∧W.heap.size+1<wr.heap.size:=fun h=>by
  rw [hX] at h
  obtain ⟨b0,b1⟩:=two_bk W _ _ _ _ h
  exact ⟨b0.cell 1,b0.cell 2,b0.cell 3,b1.cell 0,b1.cell 1,b1.cell 2,b1.cell 3,b1.lt⟩
 have T:Hid (fitB ⟨kd,nm,ag,nu,ro,pl⟩ ⟨false,sa,sx,true,sb⟩=(decide (nm=⟨#[]⟩)&&numOk nu&&(decide (sa= -1) || decide ((ag.length:Int)=sa))&&ag.all (argOk sx))):=rfl
 obtain ⟨x1,x2,x3,x4,x5,x6,x7,x8⟩:=FC (Below.refl _ _)
 have hB0:Hid (Below X.heap.size X X):=Below.refl _ _
 rw [T.out]
 clear hr hz hB hX T
 have hsb:(sa != -1)=true:=by simpa using hsa
 rw [decide_eq_false hsa]
 clear hsa
 by_cases hp:nm=⟨#[]⟩
 case neg=>
  have q:=ne_lit hp
  rw [decide_eq_false hp]
  clear hp
  go_enter Tryz.func119,Tryz.ntmps119
  go_upto_region 1 with (fail)
  rw [←HX.out]
  go_wp2
  go_ret
  exact ⟨rfl,OUT hB0.out⟩
 case pos=>
 subst hp
 rw [decide_eq_true rfl]
 cases hq:numOk nu with
 | false=>
  rw [hq] at NU
  clear hq
  go_enter Tryz.func119,Tryz.ntmps119
  go_upto_region 1 with (fail)
  rw [←HX.out]
  go_wp2_with (first | (go_at_call 159;(with_reducible refine (NU _).mono ?_);rintro e w2 ⟨rfl,hw⟩;rw [hw];clear hw))
  go_ret
  exact ⟨rfl,OUT hB0.out⟩
 | true=>
 rw [hq] at NU
 clear hq
 by_cases hc:(ag.length:Int)=sa
 case neg=>
  have q:((ag.length:Int) != sa)=true:=by simpa using hc
  rw [decide_eq_false hc]
  clear hc
  go_enter Tryz.func119,Tryz.ntmps119
  go_upto_region 1 with (fail)
  rw [←HX.out]
  go_wp2_with (first | (go_at_call 159;(with_reducible refine (NU _).mono ?_);rintro e w2 ⟨rfl,hw⟩;rw [hw];clear hw))
  go_ret
  exact ⟨rfl,OUT hB0.out⟩
 case pos=>
 have q:((ag.length:Int) != sa)=false:=by simpa using hc
 rw [decide_eq_true hc]
 clear hc
 have TT:Hid (∀b:Bool,(true&&true&&(false || true)&&b)=b):=fun b=>by cases b <;> rfl
 rw [TT.out]
 clear TT
 generalize hALL:ag.all (argOk sx)=ALL
 have HALL:Hid (ag.all (argOk sx)=ALL):=hALL
 clear hALL
 go_enter Tryz.func119,Tryz.ntmps119
 go_upto_region 1 with (fail)
 rw [←HX.out]
 go_upto_region 8 with (first | (go_at_call 159;(with_reducible refine (NU _).mono ?_);rintro e w2 ⟨rfl,hw⟩;rw [hw];clear hw))
 have hW:Hid (Below X.heap.size X X):=hB0
 go_loopw [57] (fun v wr=>∃k:Nat,k≤ag.length∧v=.int .i64 k∧Hid (Below X.heap.size X wr∧∀j (h:j<ag.length),j<k→argOk sx ag[j]=true)) (fun v _=>ag.length-(intOf v).toNat)
 case atStart=>exact ⟨0,Nat.zero_le _,rfl,hW.out,fun j _ h=>absurd h (Nat.not_lt_zero _)⟩
 case round=>
  clear x1 x2 x3 x4 x5 x6 x7 x8
  obtain ⟨k,hk,rfl,hI⟩:=hrel
  obtain ⟨x1,x2,x3,x4,x5,x6,x7,x8⟩:=FC hI.out.1
  by_cases hlt:k<ag.length
  case neg=>
   obtain rfl:k=ag.length:=by omega
   have hA:ALL=true:=by rw [←HALL.out,List.all_eq_true];intro a ha;obtain ⟨j,hj,rfl⟩:=List.getElem_of_mem ha;exact hI.out.2 j hj hj
   have hAt:Hid (ALL=true):=hA
   clear hA
   go_wp2
   go_ret
   exact ⟨by rw [hAt.out];rfl,OUT hI.out.1⟩
  case pos=>
  have HN:Hid (argOk sx ag[k]=false→ALL=false):=fun h=>by rw [←HALL.out,List.all_eq_false];exact ⟨_,List.getElem_mem hlt,by rw [h];simp⟩
  have HY:Hid (argOk sx ag[k]=true→∀j (h:j<ag.length),j<k+1→argOk sx ag[j]=true):=fun h j hj hjk=>by
   by_cases e:j=k
   ·subst e;exact h
   ·exact hI.out.2 j hj (by omega)
  obtain ⟨rb,rO,rfl,ra0⟩:=HR.out k hlt
  have ra:=(ra0.below X0.out).below hI.out.1
  have l0:=ra.c0 k hlt
  have l1:=ra.c1 k hlt
  have l2:=ra.lt
  have PA:=fun w=>plain_any ag[k].n w (HZ.out _ (List.getElem_mem hlt))
  have NA:=fun w=>isnum_any ag[k].x w
  have hV:Hid (Below X.heap.size X (wr.alloc (.cells #[.string ag[k].n,.int .i64 ag[k].x] 100))):=bal hI.out.1 _
  have bx:=bk_new wr #[.string ag[k].n,.int .i64 ag[k].x] 100
  have HE:Hid (argOk sx ag[k]=(plnN ag[k].n&&(decide (ag[k].x= -1) || (sx&&numOk ag[k].x)))):=rfl
  clear ra ra0
  generalize argOk sx ag[k]=OKb at *
  generalize ag[k].n=an at *
  generalize ag[k].x=ax at *
  have BX:∀ {w9:World},Below (wr.alloc (.cells #[.string an,.int .i64 ax] 100)).heap.size (wr.alloc (.cells #[.string an,.int .i64 ax] 100)) w9→w9.cell? ⟨wr.heap.size,1,none⟩=some (.int .i64 ax)∧wr.heap.size<w9.heap.size:=fun h=>by
   have b2:BK _ wr.heap.size _ _:=(h.block _ bx.lt).trans bx
   exact ⟨b2.cell 1,b2.lt⟩
  clear bx
  cases hp:plnN an with
  | false=>
   rw [hp] at PA
   have hO:OKb=false:=by rw [HE.out,hp];rfl
   have hAf:Hid (ALL=false):=HN.out hO
   clear hp hO
   go_wp2_with (go_at_call 158;(with_reducible refine (PA _).mono ?_);rintro e w9 ⟨rfl,h9⟩)
   go_ret
   exact ⟨by rw [hAf.out];rfl,OUT (btr hV.out h9)⟩
  | true=>
  rw [hp] at PA
  by_cases hx:ax= -1
  case pos=>
   have hO:OKb=true:=by rw [HE.out,hp,decide_eq_true hx];rfl
   have hxx:(ax != -1)=false:=by simpa using hx
   have HY2:=HY.out hO
   clear hp hO hx
   go_wp2_with (go_at_call 158;(with_reducible refine (PA _).mono ?_);rintro e w9 ⟨rfl,h9⟩;obtain ⟨z1,z2⟩:=BX h9)
   go_roundw
   case rel=>exact ⟨k+1,by omega,by go_num,btr hV.out h9,HY2⟩
   case measure=>simp [intOf];omega
  case neg=>
  have hxx:(ax != -1)=true:=by simpa using hx
  by_cases hsx:sx=true
  case neg=>
   have hsx:sx=false:=by simpa using hsx
   have hO:OKb=false:=by rw [HE.out,hp,decide_eq_false hx,hsx];rfl
   have hAf:Hid (ALL=false):=HN.out hO
   rw [hsx] at x6 FC
   clear hp hO hx hsx
   go_wp2_with (go_at_call 158;(with_reducible refine (PA _).mono ?_);rintro e w9 ⟨rfl,h9⟩;obtain ⟨z1,z2⟩:=BX h9;obtain ⟨y1,y2,y3,y4,y5,y6,y7,y8⟩:=FC (btr hV.out h9))
   go_ret
   exact ⟨by rw [hAf.out];rfl,OUT (btr hV.out h9)⟩
  case pos=>
  rw [hsx] at x6 FC
  have HSX:Hid (sx=true):=hsx
  clear hsx
  cases hm:numOk ax with
  | false=>
   have hO:OKb=false:=by rw [HE.out,hp,decide_eq_false hx,HSX.out,hm];rfl
   have hAf:Hid (ALL=false):=HN.out hO
   rw [hm] at NA
   clear hp hO hx hm
   go_wp2_with (first | (go_at_call 158;(with_reducible refine (PA _).mono ?_);rintro e w9 ⟨rfl,h9⟩;obtain ⟨z1,z2⟩:=BX h9;obtain ⟨y1,y2,y3,y4,y5,y6,y7,y8⟩:=FC (btr hV.out h9)) | (go_at_call 159;(with_reducible refine (NA _).mono ?_);rintro e w8 ⟨rfl,rfl⟩))
   go_ret
   exact ⟨by rw [hAf.out];rfl,OUT (btr hV.out h9)⟩
  | true=>
   have hO:OKb=true:=by rw [HE.out,hp,decide_eq_false hx,HSX.out,hm];rfl
   have HY2:=HY.out hO
   rw [hm] at NA
   clear hp hO hx hm
   go_wp2_with (first | (go_at_call 158;(with_reducible refine (PA _).mono ?_);rintro e w9 ⟨rfl,h9⟩;obtain ⟨z1,z2⟩:=BX h9;obtain ⟨y1,y2,y3,y4,y5,y6,y7,y8⟩:=FC (btr hV.out h9)) | (go_at_call 159;(with_reducible refine (NA _).mono ?_);rintro e w8 ⟨rfl,rfl⟩))
   go_roundw
   case rel=>exact ⟨k+1,by omega,by go_num,btr hV.out h9,HY2⟩
   case measure=>simp [intOf];omega
set_option maxHeartbeats 4000000 in
set_option maxRecDepth 100000 in
theorem fits_4 (kd nm:ByteArray) (ag:List Ar) (nu ro pl:Int) (sa:Int) (sx sb:Bool) (av:Value) (w0 W:World) (hS:SA w0 av ag) (hB:Below w0.heap.size w0 W) (_hn:nm.size≤9223372036854775807) (hl:ag.length≤9223372036854775807) (hz:∀a∈ag,a.n.size≤9223372036854775807) (hsa:sa ≠ -1) :
  Calls Tryz.prog 119 #[.agg #[.string kd,.string nm,av,.int .i64 nu,.int .i64 ro,.int .i64 pl],.agg #[.bool false,.int .i64 sa,.bool sx,.bool false,.bool sb]] W fun e W'=>e=.returned (.bool (fitB ⟨kd,nm,ag,nu,ro,pl⟩ ⟨false,sa,sx,false,sb⟩))∧Below W.heap.size W W':=by
 obtain ⟨aa,ac,rfl,hac,hr⟩:=hS
 have HR:Hid (∀k,k<ag.length→∃b o,aa=some ⟨b,o,none⟩∧RA w0 b o ag):=hr
 have HZ:Hid (∀a∈ag,a.n.size≤9223372036854775807):=hz
 obtain ⟨X,hX⟩:∃X,X=(W.alloc (.cells #[.string kd,.string nm,.slice aa ag.length ac,.int .i64 nu,.int .i64 ro,.int .i64 pl] 79)).alloc (.cells #[.bool false,.int .i64 sa,.bool sx,.bool false,.bool sb] 187):=⟨_,rfl⟩
 have HX:Hid (X=(W.alloc (.cells #[.string kd,.string nm,.slice aa ag.length ac,.int .i64 nu,.int .i64 ro,.int .i64 pl] 79)).alloc (.cells #[.bool false,.int .i64 sa,.bool sx,.bool false,.bool sb] 187)):=hX
 have XB:Below W.heap.size W X:=by rw [hX];exact bal (bal (Below.refl _ _) _) _
 have X0:Hid (Below w0.heap.size w0 X):=btr hB XB
 have OUT:∀ {wr:World},Below X.heap.size X wr→Below W.heap.size W wr:=fun h=>btr XB h
 have FC:∀ {wr:World},Below X.heap.size X wr→wr.cell? ⟨W.heap.size,1,none⟩=some (.string nm)∧wr.cell? ⟨W.heap.size,2,none⟩=some (.slice aa ag.length ac)∧wr.cell? ⟨W.heap.size,3,none⟩=some (.int .i64 nu)∧wr.cell? ⟨W.heap.size+1,0,none⟩=some (.bool false)∧wr.cell? ⟨W.heap.size+1,1,none⟩=some (.int .i64 sa)∧wr.cell? ⟨W.heap.size+1,2,none⟩=some (.bool sx)∧wr.cell? ⟨W.heap.size+1,3,none⟩=some (.bool false)∧W.heap.size+1<wr.heap.size:=fun h=>by
  rw [hX] at h
  obtain ⟨b0,b1⟩:=two_bk W _ _ _ _ h
  exact ⟨b0.cell 1,b0.cell 2,b0.cell 3,b1.cell 0,b1.cell 1,b1.cell 2,b1.cell 3,b1.lt⟩
 have T:Hid (fitB ⟨kd,nm,ag,nu,ro,pl⟩ ⟨false,sa,sx,false,sb⟩=(decide (nm=⟨#[]⟩)&&decide (nu=0)&&(decide (sa= -1) || decide ((ag.length:Int)=sa))&&ag.all (argOk sx))):=rfl
 obtain ⟨x1,x2,x3,x4,x5,x6,x7,x8⟩:=FC (Below.refl _ _)
 have hB0:Hid (Below X.heap.size X X):=Below.refl _ _
 rw [T.out]
 clear hr hz hB hX T
 have hsb:(sa != -1)=true:=by simpa using hsa
 rw [decide_eq_false hsa]
 clear hsa
 by_cases hp:nm=⟨#[]⟩
 case neg=>
  have q:=ne_lit hp
  rw [decide_eq_false hp]
  clear hp
  go_enter Tryz.func119,Tryz.ntmps119
  go_upto_region 1 with (fail)
  rw [←HX.out]
  go_wp2
  go_ret
  exact ⟨rfl,OUT hB0.out⟩
 case pos=>
 subst hp
 rw [decide_eq_true rfl]
 by_cases hq:nu=0
 case neg=>
  have q:(nu != 0)=true:=by simpa using hq
  rw [decide_eq_false hq]
  clear hq
  go_enter Tryz.func119,Tryz.ntmps119
  go_upto_region 1 with (fail)
  rw [←HX.out]
  go_wp2
  go_ret
  exact ⟨rfl,OUT hB0.out⟩
 case pos=>
 subst hq
 rw [decide_eq_true rfl]
 by_cases hc:(ag.length:Int)=sa
 case neg=>
  have q:((ag.length:Int) != sa)=true:=by simpa using hc
  rw [decide_eq_false hc]
  clear hc
  go_enter Tryz.func119,Tryz.ntmps119
  go_upto_region 1 with (fail)
  rw [←HX.out]
  go_wp2
  go_ret
  exact ⟨rfl,OUT hB0.out⟩
 case pos=>
 have q:((ag.length:Int) != sa)=false:=by simpa using hc
 rw [decide_eq_true hc]
 clear hc
 have TT:Hid (∀b:Bool,(true&&true&&(false || true)&&b)=b):=fun b=>by cases b <;> rfl
 rw [TT.out]
 clear TT
 generalize hALL:ag.all (argOk sx)=ALL
 have HALL:Hid (ag.all (argOk sx)=ALL):=hALL
 clear hALL
 go_enter Tryz.func119,Tryz.ntmps119
 go_upto_region 1 with (fail)
 rw [←HX.out]
 go_upto_region 8 with (fail)
 have hW:Hid (Below X.heap.size X X):=hB0
 go_loopw [57] (fun v wr=>∃k:Nat,k≤ag.length∧v=.int .i64 k∧Hid (Below X.heap.size X wr∧∀j (h:j<ag.length),j<k→argOk sx ag[j]=true)) (fun v _=>ag.length-(intOf v).toNat)
 case atStart=>exact ⟨0,Nat.zero_le _,rfl,hW.out,fun j _ h=>absurd h (Nat.not_lt_zero _)⟩
 case round=>
  clear x1 x2 x3 x4 x5 x6 x7 x8
  obtain ⟨k,hk,rfl,hI⟩:=hrel
  obtain ⟨x1,x2,x3,x4,x5,x6,x7,x8⟩:=FC hI.out.1
  by_cases hlt:k<ag.length
  case neg=>
   obtain rfl:k=ag.length:=by omega
   have hA:ALL=true:=by rw [←HALL.out,List.all_eq_true];intro a ha;obtain ⟨j,hj,rfl⟩:=List.getElem_of_mem ha;exact hI.out.2 j hj hj
   have hAt:Hid (ALL=true):=hA
   clear hA
   go_wp2
   go_ret
   exact ⟨by rw [hAt.out];rfl,OUT hI.out.1⟩
  case pos=>
  have HN:Hid (argOk sx ag[k]=false→ALL=false):=fun h=>by rw [←HALL.out,List.all_eq_false];exact ⟨_,List.getElem_mem hlt,by rw [h];simp⟩
  have HY:Hid (argOk sx ag[k]=true→∀j (h:j<ag.length),j<k+1→argOk sx ag[j]=true):=fun h j hj hjk=>by
   by_cases e:j=k
   ·subst e;exact h
   ·exact hI.out.2 j hj (by omega)
  obtain ⟨rb,rO,rfl,ra0⟩:=HR.out k hlt
  have ra:=(ra0.below X0.out).below hI.out.1
  have l0:=ra.c0 k hlt
  have l1:=ra.c1 k hlt
  have l2:=ra.lt
  have PA:=fun w=>plain_any ag[k].n w (HZ.out _ (List.getElem_mem hlt))
  have NA:=fun w=>isnum_any ag[k].x w
  have hV:Hid (Below X.heap.size X (wr.alloc (.cells #[.string ag[k].n,.int .i64 ag[k].x] 100))):=bal hI.out.1 _
  have bx:=bk_new wr #[.string ag[k].n,.int .i64 ag[k].x] 100
  have HE:Hid (argOk sx ag[k]=(plnN ag[k].n&&(decide (ag[k].x= -1) || (sx&&numOk ag[k].x)))):=rfl
  clear ra ra0
  generalize argOk sx ag[k]=OKb at *
  generalize ag[k].n=an at *
  generalize ag[k].x=ax at *
  have BX:∀ {w9:World},Below (wr.alloc (.cells #[.string an,.int .i64 ax] 100)).heap.size (wr.alloc (.cells #[.string an,.int .i64 ax] 100)) w9→w9.cell? ⟨wr.heap.size,1,none⟩=some (.int .i64 ax)∧wr.heap.size<w9.heap.size:=fun h=>by
   have b2:BK _ wr.heap.size _ _:=(h.block _ bx.lt).trans bx
   exact ⟨b2.cell 1,b2.lt⟩
  clear bx
  cases hp:plnN an with
  | false=>
   rw [hp] at PA
   have hO:OKb=false:=by rw [HE.out,hp];rfl
   have hAf:Hid (ALL=false):=HN.out hO
   clear hp hO
   go_wp2_with (go_at_call 158;(with_reducible refine (PA _).mono ?_);rintro e w9 ⟨rfl,h9⟩)
   go_ret
   exact ⟨by rw [hAf.out];rfl,OUT (btr hV.out h9)⟩
  | true=>
  rw [hp] at PA
  by_cases hx:ax= -1
  case pos=>
   have hO:OKb=true:=by rw [HE.out,hp,decide_eq_true hx];rfl
   have hxx:(ax != -1)=false:=by simpa using hx
   have HY2:=HY.out hO
   clear hp hO hx
   go_wp2_with (go_at_call 158;(with_reducible refine (PA _).mono ?_);rintro e w9 ⟨rfl,h9⟩;obtain ⟨z1,z2⟩:=BX h9)
   go_roundw
   case rel=>exact ⟨k+1,by omega,by go_num,btr hV.out h9,HY2⟩
   case measure=>simp [intOf];omega
  case neg=>
  have hxx:(ax != -1)=true:=by simpa using hx
  by_cases hsx:sx=true
  case neg=>
   have hsx:sx=false:=by simpa using hsx
   have hO:OKb=false:=by rw [HE.out,hp,decide_eq_false hx,hsx];rfl
   have hAf:Hid (ALL=false):=HN.out hO
   rw [hsx] at x6 FC
   clear hp hO hx hsx
   go_wp2_with (go_at_call 158;(with_reducible refine (PA _).mono ?_);rintro e w9 ⟨rfl,h9⟩;obtain ⟨z1,z2⟩:=BX h9;obtain ⟨y1,y2,y3,y4,y5,y6,y7,y8⟩:=FC (btr hV.out h9))
   go_ret
   exact ⟨by rw [hAf.out];rfl,OUT (btr hV.out h9)⟩
  case pos=>
  rw [hsx] at x6 FC
  have HSX:Hid (sx=true):=hsx
  clear hsx
  cases hm:numOk ax with
  | false=>
   have hO:OKb=false:=by rw [HE.out,hp,decide_eq_false hx,HSX.out,hm];rfl
   have hAf:Hid (ALL=false):=HN.out hO
   rw [hm] at NA
   clear hp hO hx hm
   go_wp2_with (first | (go_at_call 158;(with_reducible refine (PA _).mono ?_);rintro e w9 ⟨rfl,h9⟩;obtain ⟨z1,z2⟩:=BX h9;obtain ⟨y1,y2,y3,y4,y5,y6,y7,y8⟩:=FC (btr hV.out h9)) | (go_at_call 159;(with_reducible refine (NA _).mono ?_);rintro e w8 ⟨rfl,rfl⟩))
   go_ret
   exact ⟨by rw [hAf.out];rfl,OUT (btr hV.out h9)⟩
  | true=>
   have hO:OKb=true:=by rw [HE.out,hp,decide_eq_false hx,HSX.out,hm];rfl
   have HY2:=HY.out hO
   rw [hm] at NA
   clear hp hO hx hm
   go_wp2_with (first | (go_at_call 158;(with_reducible refine (PA _).mono ?_);rintro e w9 ⟨rfl,h9⟩;obtain ⟨z1,z2⟩:=BX h9;obtain ⟨y1,y2,y3,y4,y5,y6,y7,y8⟩:=FC (btr hV.out h9)) | (go_at_call 159;(with_reducible refine (NA _).mono ?_);rintro e w8 ⟨rfl,rfl⟩))
   go_roundw
   case rel=>exact ⟨k+1,by omega,by go_num,btr hV.out h9,HY2⟩
   case measure=>simp [intOf];omega
end Go.Proofs.YtdjfpghgklkejaaGreatDoor
namespace Go.Proofs.YtdjfpghgklkejaaGreatDoor
def GE (n:Int) (l:List Tk) (q:Fa):Prop:=(q.2=1∨q.2=100∨q.2=101∨q.2=102)∧(q.1=n∨∃t∈l,q.1=t.p)
theorem GE.sub {n:Int} {l l':List Tk} {q:Fa} (h:GE n l q) (hs:l <:+ l'):GE n l' q:=by
 obtain ⟨h1,h2 | ⟨t,ht,e⟩⟩:=h
 ·exact ⟨h1,.inl h2⟩
 ·exact ⟨h1,.inr ⟨t,hs.subset ht,e⟩⟩
theorem nameP_ge {n:Int} {l:List Tk} {q:Fa} (h:nameP n l=.error q):GE n l q:=by
 cases l with
 | nil=>cases h;exact ⟨by simp,.inl rfl⟩
 | cons t u=>
  simp only [nameP] at h
  split at h
  ·cases h
  ·cases h;exact ⟨by simp,.inr ⟨t,by simp,rfl⟩⟩
theorem numP_ge {n:Int} {l:List Tk} {q:Fa} (h:numP n l=.error q):GE n l q:=by
 cases l with
 | nil=>cases h;exact ⟨by simp,.inl rfl⟩
 | cons t u=>
  simp only [numP] at h
  split at h
  ·split at h
   ·cases h
   ·cases h;exact ⟨by simp,.inr ⟨t,by simp,rfl⟩⟩
  ·cases h;exact ⟨by simp,.inr ⟨t,by simp,rfl⟩⟩
theorem signP_ge {n:Int} {c:ByteArray} {l:List Tk} {q:Fa} (h:signP n c l=.error q):GE n l q:=by
 cases l with
 | nil=>cases h;exact ⟨by simp,.inl rfl⟩
 | cons t u=>
  simp only [signP] at h
  split at h
  ·cases h
  ·cases h;exact ⟨by simp,.inr ⟨t,by simp,rfl⟩⟩
theorem argP_ge {n:Int} {ix:Bool} {l:List Tk} {q:Fa} (h:argP n ix l=.error q):GE n l q:=by
 unfold argP at h
 cases hn:nameP n l with
 | error e=>rw [hn] at h;cases h;exact nameP_ge hn
 | ok y=>
  obtain ⟨b,r1⟩:=y
  have s1:=nameP_suf hn
  rw [hn] at h
  simp only at h
  split at h
  ·cases hx:numP n r1.tail with
   | error e=>rw [hx] at h;cases h;exact (numP_ge hx).sub ((List.tail_suffix _).trans s1)
   | ok y=>
    obtain ⟨x,r3⟩:=y
    have s3:=numP_suf hx
    rw [hx] at h
    simp only at h
    cases hs:signP n wRight r3 with
    | error e=>rw [hs] at h;cases h;exact (signP_ge hs).sub (s3.trans ((List.tail_suffix _).trans s1))
    | ok y=>obtain ⟨z,r4⟩:=y;rw [hs] at h;cases h
  ·cases h
theorem argsP_ge {n:Int} {sh:Sh}:∀(f:Nat) {acc:List Ar} {l:List Tk} {q:Fa},argsP n sh f acc l=.error q→GE n l q:=by
 intro f
 induction f with
 | zero=>intro acc l q h;cases h
 | succ f ih=>
  intro acc l q h
  unfold argsP at h
  split at h
  ·cases ha:argP n sh.idx l with
   | error e=>rw [ha] at h;cases h;exact argP_ge ha
   | ok y=>
    obtain ⟨a,r1⟩:=y
    rw [ha] at h
    exact (ih h).sub (argP_suf ha)
  ·cases h
theorem midP_ge {n:Int} {sh:Sh} {l:List Tk} {q:Fa} (h:midP n sh l=.error q):GE n l q:=by
 unfold midP at h
 cases h1:optName n sh.name l with
 | error e=>
  rw [h1] at h;cases h
  unfold optName at h1
  split at h1
  ·exact nameP_ge h1
  ·cases h1
 | ok y1=>
  obtain ⟨nm,l1⟩:=y1
  have s1:=optName_suf h1
  rw [h1] at h
  simp only at h
  cases h2:argsP n sh (l1.length+1) [] l1 with
  | error e=>rw [h2] at h;cases h;exact (argsP_ge _ h2).sub s1
  | ok y2=>
   obtain ⟨aa,l2⟩:=y2
   have s2:=argsP_suf _ h2
   rw [h2] at h
   simp only at h
   cases h3:optNum n sh.num l2 with
   | error e=>
    rw [h3] at h;cases h
    unfold optNum at h3
    split at h3
    ·exact (numP_ge h3).sub (s2.trans s1)
    ·cases h3
   | ok y3=>
    obtain ⟨x,l3⟩:=y3
    have s3:=optNum_suf h3
    rw [h3] at h
    simp only at h
    cases h4:signP n (lastS sh) l3 with
    | error e=>rw [h4] at h;cases h;exact (signP_ge h4).sub (s3.trans (s2.trans s1))
    | ok y4=>obtain ⟨u,l4⟩:=y4;rw [h4] at h;cases h
theorem restK_suf (t:Tk) (u:List Tk):restK t u <:+ t::u:=by
 unfold restK
 split
 ·exact List.suffix_cons _ _
 ·exact List.suffix_refl _
theorem stmtP_ge {n:Int} {rec:Nat→List Tk→Except Fa (List Rw × List Tk)} {d:Nat} {l:List Tk} {q:Fa} (hrec:∀d l' q,l'.length<l.length→rec d l'=.error q→GE n l' q) (h:stmtP n rec d l=.error q):GE n l q:=by
 cases l with
 | nil=>cases h;exact ⟨by simp,.inl rfl⟩
 | cons t u=>
  have s0:=restK_suf t u
  have hl0:=restK_len t u
  cases hm:midP n (shK t) (restK t u) with
  | error e=>rw [stmt_mid hm] at h;cases h;exact (midP_ge hm).sub s0
  | ok y=>
   obtain ⟨⟨nm,aa,x,p⟩,l4⟩:=y
   have s4:=midP_suf hm
   have hl4:=midP_len hm
   cases hb:(shK t).body with
   | false=>rw [stmt_flat hm hb] at h;cases h
   | true=>
    cases h5:bodyP rec d p l4 with
    | ok y=>obtain ⟨rs2,l5⟩:=y;rw [stmt_bo hm hb h5] at h;cases h
    | error e=>
     rw [stmt_be hm hb h5] at h
     cases h
     unfold bodyP at h5
     by_cases hd:32≤d
     ·rw [if_pos hd] at h5
      cases h5
      obtain ⟨l1,l2,l3,v,h1,h2,h3,h4,rfl⟩:=mid_cases hm
      obtain ⟨e3,_⟩:=signP_len h4
      refine ⟨by simp,.inr ⟨v,?_,rfl⟩⟩
      have s3:=(optNum_suf h3).trans ((argsP_suf _ h2).trans (optName_suf h1))
      exact (s3.trans s0).subset (by rw [e3];simp)
     ·rw [if_neg hd] at h5
      cases hr:rec (d+1) l4 with
      | ok y=>obtain ⟨a,b⟩:=y;rw [hr] at h5;cases h5
      | error e=>
       rw [hr] at h5
       cases h5
       exact (hrec _ _ _ (by simp only [List.length_cons];omega) hr).sub (s4.trans s0)
theorem stmt_suf {n:Int} {f d:Nat} {l r:List Tk} {rs:List Rw} (h:stmtP n (stmtsP n f) d l=.ok (rs,r)):r <:+ l:=by
 obtain ⟨t,u,nm,aa,x,p,l4,rfl,hm,hc⟩:=stmt_cases h
 have s4:=(midP_suf hm).trans (restK_suf t u)
 rcases hc with ⟨_,_,rfl⟩ | ⟨_,_,rs3,l5,h3,_,rfl⟩
 ·exact s4
 ·obtain ⟨pre,e,_⟩:=stmts_marks _ _ _ _ _ h3
  exact (List.tail_suffix _).trans (((List.suffix_append pre l5).trans (by rw [e];exact List.suffix_refl _)).trans s4)
theorem stmtsP_ge {n:Int}:∀(f d:Nat) (l:List Tk) (q:Fa),l.length<f→stmtsP n f d l=.error q→GE n l q:=by
 intro f
 induction f with
 | zero=>intro d l q hl h;omega
 | succ f ih=>
  intro d l q hl h
  unfold stmtsP at h
  split at h
  ·cases h
  ·cases h1:stmtP n (stmtsP n f) d l with
   | error e=>rw [h1] at h;cases h;exact stmtP_ge (fun d l' q hl' hh=>ih d l' q (by omega) hh) h1
   | ok y=>
    obtain ⟨rs1,r1⟩:=y
    have hsh:=stmt_short (fun d l r rs h=>(stmts_short f d l r rs h).1) h1
    rw [h1] at h
    simp only at h
    cases h2:stmtsP n f d r1 with
    | error e=>rw [h2] at h;cases h;exact (ih _ _ _ (by omega) h2).sub (stmt_suf h1)
    | ok y=>obtain ⟨a,b⟩:=y;rw [h2] at h;cases h
theorem progP_ge {n:Int}:∀(f:Nat) (l:List Tk) (q:Fa),l.length<f→progP n f l=.error q→GE n l q:=by
 intro f
 induction f with
 | zero=>intro l q hl h;omega
 | succ f ih=>
  intro l q hl h
  cases l with
  | nil=>cases h
  | cons t u=>
   unfold progP at h
   cases h1:stmtP n (stmtsP n f) 0 (t::u) with
   | error e=>rw [h1] at h;cases h;exact stmtP_ge (fun d l' q hl' hh=>stmtsP_ge f d l' q (by omega) hh) h1
   | ok y=>
    obtain ⟨rs1,r1⟩:=y
    have hsh:=stmt_short (fun d l r rs h=>(stmts_short f d l r rs h).1) h1
    rw [h1] at h
    simp only at h
    cases h2:progP n f r1 with
    | error e=>rw [h2] at h;cases h;exact (ih _ _ (by omega) h2).sub (stmt_suf h1)
    | ok y=>rw [h2] at h;cases h
theorem POut.cases {s:ByteArray} {rs:List Rw} {a:Int} {e:Nat} (h:POut s rs a e) :
  (e≠0∧e≤102∧rs=[]∧0≤a∧a≤s.size)∨(e=0∧a=0∧s.size≤65536∧∃l,Pre s s.size l∧Out s l 0 0∧progP s.size (l.length+1) l=.ok rs):=by
 obtain ⟨l,a0,e0,ho,hc⟩:=h
 rcases hc with ⟨h0,rfl,rfl,rfl⟩ | ⟨rfl,hc⟩
 ·refine .inl ⟨h0,?_,rfl,by omega,?_⟩
  ·rcases ho with ⟨_,_,_,h⟩ | ⟨_,_,_,h⟩ | ⟨_,_,h,_⟩ <;> omega
  ·rcases ho with ⟨_,_,h,_⟩ | ⟨_,_,h,_⟩ | ⟨_,_,_,i,m,hp,hb⟩
   ·omega
   ·omega
   ·have:=hb.sz;omega
 ·obtain ⟨hs6,hp,rfl⟩:s.size≤65536∧Pre s s.size l∧a0=0:=by
   rcases ho with ⟨_,_,_,h⟩ | ⟨h1,h2,h3,_⟩ | ⟨_,_,h,_⟩
   ·cases h
   ·exact ⟨h1,h2,h3⟩
   ·cases h
  rcases hc with ⟨p,x,hpr,rfl,rfl,rfl⟩ | ⟨hpr,rfl,rfl⟩
  ·obtain ⟨h1,h2⟩:=progP_ge _ _ _ (Nat.lt_succ_self _) hpr
   simp only at h1 h2
   refine .inl ⟨by omega,by omega,rfl,?_,?_⟩
   ·rcases h2 with h2 | ⟨t,ht,h2⟩
    ·omega
    ·have:=hp.rise.2 t ht;omega
   ·rcases h2 with h2 | ⟨t,ht,h2⟩
    ·omega
    ·have:=hp.rise.2 t ht;omega
  ·exact .inr ⟨rfl,rfl,hs6,l,hp,ho,hpr⟩
theorem rows_places {s:ByteArray} {l:List Tk} {f:Nat} {n:Int} {rs:List Rw} (hp:Pre s s.size l) (h:progP n f l=.ok rs) :
  (∀a b (h1:a<l.length) (h2:b<l.length),a<b→l[a].p<l[b].p)∧(∀k (h:k<rs.length),∃q,∃hq:q<l.length,l[q].p=rs[k].place∧l[q].t=hdT rs[k]) ∧
  (∀a b (h1:a<rs.length) (h2:b<rs.length),a<b→rs[a].place<rs[b].place)∧(∀k (h:k<rs.length),0≤rs[k].rows∧rs[k].rows+k+1≤rs.length)∧(∀k (h:k<rs.length),0≤rs[k].place∧rs[k].place<s.size):=by
 obtain ⟨⟨ms,hsub,hlen,hms⟩,hrows⟩:=prog_marks _ _ _ h
 obtain ⟨hr,hb⟩:=hp.rise
 have hr2:=hr.sublist hsub
 have mem:∀k (h:k<rs.length),∃q,∃hq:q<l.length,l[q]=ms[k]'(by omega):=fun k h=>by
  have:=hsub.subset (List.getElem_mem (l:=ms) (n:=k) (by omega))
  obtain ⟨q,hq,e⟩:=List.getElem_of_mem this
  exact ⟨q,hq,e⟩
 refine ⟨fun a b h1 h2 hab=>List.pairwise_iff_getElem.1 hr a b h1 h2 hab,fun k h=>?_,fun a b h1 h2 hab=>?_,hrows,fun k h=>?_⟩
 ·obtain ⟨q,hq,e⟩:=mem k h
  have:=hms k (by omega) h
  exact ⟨q,hq,by rw [e];exact this.1,by rw [e];exact this.2⟩
 ·have:=List.pairwise_iff_getElem.1 hr2 a b (by omega) (by omega) hab
  rw [(hms a (by omega) h1).1,(hms b (by omega) h2).1] at this
  exact this
 ·obtain ⟨q,hq,e⟩:=mem k h
  have h1:=hms k (by omega) h
  have h2:=hb l[q] (List.getElem_mem hq)
  rw [e,h1.1] at h2
  exact h2
end Go.Proofs.YtdjfpghgklkejaaGreatDoor
namespace Go.Proofs.YtdjfpghgklkejaaGreatDoor
def TkB (S:Nat) (l:List Tk):Prop:=∀t∈l,t.t.size≤S
theorem TkB.suf {S:Nat} {l r:List Tk} (h:TkB S l) (hs:r <:+ l):TkB S r:=fun t ht=>h t (hs.subset ht)
def RwB (S M:Nat) (r:Rw):Prop:=r.name.size≤S∧r.args.length≤M∧(∀a∈r.args,a.n.size≤S)∧0≤r.num∧r.num≤9007199254740991
theorem nameP_b {S:Nat} {n:Int} {l r:List Tk} {a:ByteArray} (hl:TkB S l) (h:nameP n l=.ok (a,r)):a.size≤S:=by
 obtain ⟨t,rfl,rfl,_⟩:=nameP_len h
 exact hl t (List.mem_cons_self ..)
theorem argP_b {S:Nat} {n:Int} {ix:Bool} {l r:List Tk} {a:Ar} (hl:TkB S l) (h:argP n ix l=.ok (a,r)):a.n.size≤S:=by
 unfold argP at h
 split at h
 ·cases h
 ·rename_i h1
  have hb:=nameP_b hl h1
  split at h
  ·split at h
   ·cases h
   ·split at h
    ·cases h
    ·cases h
     exact hb
  ·cases h
   exact hb
theorem argsP_b {S:Nat} {n:Int} {sh:Sh}:∀(f:Nat) {acc aa:List Ar} {l r:List Tk},TkB S l→(∀a∈acc,a.n.size≤S)→argsP n sh f acc l=.ok (aa,r)→aa.length≤acc.length+f∧∀a∈aa,a.n.size≤S:=by
 intro f
 induction f with
 | zero=>intro acc aa l r _ hc h;cases h;exact ⟨Nat.le_refl _,hc⟩
 | succ f ih=>
  intro acc aa l r hl hc h
  unfold argsP at h
  by_cases hm:moreB sh acc.length l=true
  ·rw [if_pos hm] at h
   cases ha:argP n sh.idx l with
   | error e=>rw [ha] at h;cases h
   | ok y=>
    obtain ⟨a,r1⟩:=y
    rw [ha] at h
    have:=ih (hl.suf (argP_suf ha)) (fun b hb=>by
     rcases List.mem_append.1 hb with hb | hb
     ·exact hc b hb
     ·rw [List.mem_singleton] at hb;subst hb;exact argP_b hl ha) h
    rw [List.length_append,List.length_singleton] at this
    exact ⟨by omega,this.2⟩
  ·rw [if_neg hm] at h;cases h;exact ⟨by omega,hc⟩
theorem midP_b {S:Nat} {n:Int} {sh:Sh} {l r:List Tk} {nm:ByteArray} {aa:List Ar} {x:Nat} {p:Int} (hl:TkB S l) (h:midP n sh l=.ok ((nm,aa,x,p),r)):nm.size≤S∧aa.length≤l.length+1∧(∀a∈aa,a.n.size≤S)∧x≤9007199254740991:=by
 obtain ⟨l1,l2,l3,u,h1,h2,h3,_,_⟩:=mid_cases h
 have hs1:=optName_suf h1
 obtain ⟨g1,g2⟩:=argsP_b _ (hl.suf hs1) (fun a ha=>by cases ha) h2
 refine ⟨?_,?_,g2,?_⟩
 ·unfold optName at h1
  split at h1
  ·exact nameP_b hl h1
  ·cases h1;exact Nat.zero_le _
 ·have:=hs1.length_le
  rw [List.length_nil] at g1
  omega
 ·unfold optNum at h3
  split at h3
  ·obtain ⟨t,_,_,_,hx⟩:=numP_len h3
   exact hx
  ·cases h3;omega
theorem stmt_b {S M:Nat} {n:Int} {rec:Nat→List Tk→Except Fa (List Rw × List Tk)} {d:Nat} {l r:List Tk} {rs:List Rw} (hl:TkB S l) (hM:l.length+1≤M) (hr:∀d l' rs r,l' <:+ l→rec d l'=.ok (rs,r)→∀x∈rs,RwB S M x) (h:stmtP n rec d l=.ok (rs,r)):∀x∈rs,RwB S M x:=by
 obtain ⟨t,u,nm,aa,x,p,l4,rfl,hm,hc⟩:=stmt_cases h
 have hs:=restK_suf t u
 obtain ⟨b1,b2,b3,b4⟩:=midP_b (hl.suf hs) hm
 have hlen:=hs.length_le
 have key:∀y,RwB S M ⟨kindK t,nm,aa,(x:Nat),y,t.p⟩:=fun y=>⟨b1,by show aa.length≤M;omega,b3,by show (0:Int)≤(x:Nat);omega,by show ((x:Nat):Int)≤_;omega⟩
 rcases hc with ⟨_,rfl,rfl⟩ | ⟨_,_,rs2,l5,hrec,rfl,rfl⟩
 ·intro y hy
  rw [List.mem_singleton] at hy
  subst hy
  exact key 0
 ·intro y hy
  rcases List.mem_cons.1 hy with hy | hy
  ·subst hy;exact key _
  ·exact hr _ _ _ _ ((midP_suf hm).trans hs) hrec y hy
theorem stmts_b {S M:Nat} {n:Int}:∀(f d:Nat) (l r:List Tk) (rs:List Rw),TkB S l→l.length+1≤M→stmtsP n f d l=.ok (rs,r)→∀x∈rs,RwB S M x:=by
 intro f
 induction f with
 | zero=>intro d l r rs _ _ h;cases h
 | succ f ih=>
  intro d l r rs hl hM h
  unfold stmtsP at h
  split at h
  ·cases h;exact fun x hx=>by cases hx
  ·split at h
   ·cases h
   ·rename_i h1
    split at h
    ·cases h
    ·rename_i h2
     cases h
     intro x hx
     have hs:=stmt_suf h1
     have hle:=hs.length_le
     rcases List.mem_append.1 hx with hx | hx
     ·exact stmt_b hl hM (fun d l' rs r hs' h'=>ih d l' r rs (hl.suf hs') (by have:=hs'.length_le;omega) h') h1 x hx
     ·exact ih _ _ _ _ (hl.suf hs) (by omega) h2 x hx
theorem prog_b {S M:Nat} {n:Int}:∀(f:Nat) (l:List Tk) (rs:List Rw),TkB S l→l.length+1≤M→progP n f l=.ok rs→∀x∈rs,RwB S M x:=by
 intro f
 induction f with
 | zero=>intro l rs _ _ h;cases h
 | succ f ih=>
  intro l rs hl hM h
  cases l with
  | nil=>cases h;exact fun x hx=>by cases hx
  | cons t l=>
   unfold progP at h
   split at h
   ·cases h
   ·rename_i h1
    split at h
    ·cases h
    ·rename_i h2
     cases h
     intro x hx
     have hs:=stmt_suf h1
     have hle:=hs.length_le
     rcases List.mem_append.1 hx with hx | hx
     ·exact stmt_b hl hM (fun d l' rs r hs' h'=>stmts_b _ d l' r rs (hl.suf hs') (by have:=hs'.length_le;omega) h') h1 x hx
     ·exact ih _ _ (hl.suf hs) (by omega) h2 x hx
theorem rows_b {s:ByteArray} {l:List Tk} {rs:List Rw} {f:Nat} {n:Int} (h6:s.size≤65536) (hp:Pre s s.size l) (h:progP n f l=.ok rs) :
  rs.length≤65536∧∀r∈rs,RwB 65536 65537 r∧0≤r.rows∧r.rows≤65536∧0≤r.place∧r.place≤s.size:=by
 have hc:=hp.count
 have hl:TkB 65536 l:=fun t ht=>by
  obtain ⟨k,hk,rfl⟩:=List.getElem_of_mem ht
  have:=hp.sz k hk
  omega
 have hrl:rs.length≤65536:=by
  obtain ⟨⟨ms,hsub,hlen,_⟩,_⟩:=prog_marks _ _ _ h
  have:=hsub.length_le
  omega
 obtain ⟨_,_,_,h4,h5⟩:=rows_places hp h
 refine ⟨hrl,fun r hr=>?_⟩
 have hb:=prog_b _ _ _ hl (M:=65537) (by omega) h r hr
 obtain ⟨k,hk,rfl⟩:=List.getElem_of_mem hr
 have:=h4 k hk
 have:=h5 k hk
 exact ⟨hb,by omega,by omega,by omega,by omega⟩
end Go.Proofs.YtdjfpghgklkejaaGreatDoor
