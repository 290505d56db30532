/-
  Plain mathematics of rows that were read: they are the rows of a program. Of no program.
-/
import Derived.Test.YtiepbfeliehjnaaDoorB2
namespace Go.Proofs.YtiepbfeliehjnaaDoor

theorem AllT.suf {l r : List Tk} (h : AllT l) (hs : r <:+ l) : AllT r := fun t ht => h t (hs.mem ht)
theorem AllR.all {l : List Tk} (h : AllR l) : AllT l := fun t ht => by
  obtain ⟨k, hk, rfl⟩ := List.getElem_of_mem ht
  exact h k hk
theorem name_chk {n : Int} {l r : List Tk} {a : ByteArray} (h : nameP n l = .ok (a, r)) (hr : AllT l) : plnN a = true := by
  obtain ⟨t, rfl, rfl, hp⟩ := nameP_len h
  have := hr t List.mem_cons_self
  unfold plnB at hp
  simp at hp
  unfold rightB at this
  rw [if_pos hp.1] at this
  exact plnN_p.2 ⟨this, hp.2⟩
theorem arg_chk {n : Int} {ix : Bool} {l r : List Tk} {a : Ar} (h : argP n ix l = .ok (a, r)) (hr : AllT l) : argOk ix a = true := by
  unfold argP at h
  cases hn : nameP n l with
  | error e => rw [hn] at h; cases h
  | ok y =>
    obtain ⟨b, r1⟩ := y
    have hb := name_chk hn hr
    rw [hn] at h
    simp only at h
    by_cases hc : ix = true ∧ seesB wLeft r1 = true
    · rw [if_pos hc] at h
      cases hx : numP n r1.tail with
      | error e => rw [hx] at h; cases h
      | ok y =>
        obtain ⟨x, r3⟩ := y
        rw [hx] at h
        simp only at h
        obtain ⟨_, _, _, _, hle⟩ := numP_len hx
        cases hs : signP n wRight r3 with
        | error e => rw [hs] at h; cases h
        | ok y =>
          rw [hs] at h
          cases h
          exact argOk_p.2 ⟨hb, .inr ⟨hc.1, numOk_p.2 ⟨by show 0 ≤ (x : Int); omega, by show (x : Int) ≤ _; omega⟩⟩⟩
    · rw [if_neg hc] at h
      cases h
      exact argOk_p.2 ⟨hb, .inl rfl⟩
theorem args_chk {n : Int} {sh : Sh} (_hsh : -1 ≤ sh.args) : ∀ (f : Nat) {acc aa : List Ar} {l r : List Tk}, l.length < f → AllT l → argsP n sh f acc l = .ok (aa, r) → acc.all (argOk sh.idx) = true → (sh.args = -1 ∨ (acc.length : Int) ≤ sh.args) → aa.all (argOk sh.idx) = true ∧ (sh.args = -1 ∨ (aa.length : Int) = sh.args) := by
  intro f
  induction f with
  | zero => intro acc aa l r hf; omega
  | succ f ih =>
    intro acc aa l r hf hr h ha hc
    unfold argsP at h
    by_cases hm : moreB sh acc.length l = true
    · rw [if_pos hm] at h
      cases he : argP n sh.idx l with
      | error e => rw [he] at h; cases h
      | ok y =>
        obtain ⟨a, r1⟩ := y
        rw [he] at h
        have hlen := argP_len he
        refine ih (by omega) (hr.suf (argP_suf he)) h (by rw [List.all_append, ha]; simp [arg_chk he hr]) ?_
        unfold moreB at hm
        rcases hc with hc | hc
        · exact .inl hc
        · right
          simp at hm ⊢
          rcases hm with hm | hm
          · omega
          · omega
    · rw [if_neg hm] at h
      cases h
      refine ⟨ha, ?_⟩
      rcases hc with hc | hc
      · exact .inl hc
      · by_cases e : sh.args = -1
        · exact .inl e
        · right
          unfold moreB at hm
          rw [decide_eq_false e] at hm
          simp at hm
          omega
theorem shK_args (t : Tk) : -1 ≤ (shK t).args ∧ ((shK t).args = -1 ∨ 0 ≤ (shK t).args) ∧ (shp (kindK t)).isSome = true := by
  have hk : (shp (kindK t)).isSome = true := by
    unfold kindK
    by_cases h : ownB t.t = true
    · rw [if_pos h]
      rcases shp_cases t.t with ⟨_, e, _⟩ | ⟨_, e, _⟩ | ⟨_, e, _⟩ | ⟨_, e, _⟩ | ⟨_, e, _⟩ | ⟨_, e, _⟩ | ⟨_, e, _⟩ | ⟨_, e, o⟩ | ⟨_, _, _, _, _, _, _, _, e, o⟩
      all_goals first | (rw [e]; rfl) | (rw [o] at h; cases h)
    · rw [if_neg h]; decide
  have := shR_cases (r := ⟨kindK t, ⟨#[]⟩, [], 0, 0, 0⟩) hk
  have e : shR (⟨kindK t, ⟨#[]⟩, [], 0, 0, 0⟩ : Rw) = shK t := rfl
  rw [e] at this
  refine ⟨?_, ?_, hk⟩
  · rcases this with h | h | h | h | h | h | h <;> rw [h] <;> decide
  · rcases this with h | h | h | h | h | h | h <;> rw [h] <;> decide
theorem mid_chk {n : Int} {t : Tk} {l r : List Tk} {nm : ByteArray} {aa : List Ar} {x : Nat} {p : Int} (h : midP n (shK t) l = .ok ((nm, aa, x, p), r)) (hr : AllT l) (k q : Int) : fitB ⟨kindK t, nm, aa, (x : Nat), k, q⟩ (shK t) = true := by
  obtain ⟨l1, l2, l3, u, h1, h2, h3, h4, _⟩ := mid_cases h
  obtain ⟨s1, s2, _⟩ := shK_args t
  have hr1 := hr.suf (optName_suf h1)
  obtain ⟨ha, hc⟩ := args_chk s1 _ (by omega) hr1 h2 rfl (by simpa using s2)
  unfold fitB
  simp only [Bool.and_eq_true]
  refine ⟨⟨⟨?_, ?_⟩, ?_⟩, ha⟩
  · unfold optName at h1
    by_cases e : (shK t).name = true
    · rw [if_pos e] at h1 ⊢; exact name_chk h1 hr
    · rw [if_neg e] at h1 ⊢; cases h1; simp
  · unfold optNum at h3
    by_cases e : (shK t).num = true
    · rw [if_pos e] at h3 ⊢
      obtain ⟨_, _, _, _, hle⟩ := numP_len h3
      exact numOk_p.2 ⟨by omega, by omega⟩
    · rw [if_neg e] at h3 ⊢; cases h3; simp
  · rw [Bool.or_eq_true]
    rcases hc with hc | hc
    · exact .inl (decide_eq_true hc)
    · exact .inr (decide_eq_true hc)
/-- A row with its body, and what is behind it. -/
theorem chk_put {F d : Nat} {r : Rw} {b c : List Rw} (hk : (shp r.kind).isSome = true) (hf : fitB r (shR r) = true) (hr : r.rows = b.length) (hb : ((shR r).body = true ∧ d < 32 ∧ chk F (d + 1) b = true) ∨ ((shR r).body = false ∧ b = [])) (hc : chk F d c = true) : chk (F + 1) d (r :: (b ++ c)) = true := by
  unfold chk
  have e1 : r.rows.toNat = b.length := by omega
  rw [e1, List.take_left, List.drop_left, hk, hf, hc, decide_eq_true (show 0 ≤ r.rows by omega), decide_eq_true (show r.rows ≤ ((b ++ c).length : Int) by rw [List.length_append]; omega)]
  rcases hb with ⟨h1, h2, h3⟩ | ⟨h1, rfl⟩
  · rw [if_pos h1, h3, decide_eq_true h2]; rfl
  · rw [if_neg (by rw [h1]; simp), decide_eq_true (by simpa using hr)]; rfl
theorem restK_all {t : Tk} {u : List Tk} (h : AllT (t :: u)) : AllT (restK t u) := by
  unfold restK
  by_cases e : ownB t.t = true
  · rw [if_pos e]; exact fun x hx => h x (List.mem_cons_of_mem _ hx)
  · rw [if_neg e]; exact h
theorem restK_su (t : Tk) (u : List Tk) : restK t u <:+ t :: u := by
  unfold restK
  by_cases e : ownB t.t = true
  · rw [if_pos e]; exact List.suffix_cons _ _
  · rw [if_neg e]; exact List.suffix_refl _
theorem stmt_chk {n : Int} {g d : Nat} {l r : List Tk} {rs : List Rw} (ih : ∀ (d : Nat) (l r : List Tk) (rs : List Rw), stmtsP n g d l = .ok (rs, r) → AllT l → r <:+ l ∧ ∀ F, rs.length ≤ F → chk F d rs = true) (h : stmtP n (stmtsP n g) d l = .ok (rs, r)) (hr : AllT l) :
    r <:+ l ∧ ∀ c F, chk F d c = true → (rs ++ c).length ≤ F + 1 → chk (F + 1) d (rs ++ c) = true := by
  obtain ⟨t, u, nm, aa, x, p, l4, rfl, hm, hh⟩ := stmt_cases h
  have hf := fun k q => mid_chk hm (restK_all hr) k q
  have hk := (shK_args t).2.2
  have hsu : l4 <:+ t :: u := (midP_suf hm).trans (restK_su t u)
  rcases hh with ⟨hb, rfl, rfl⟩ | ⟨hb, hd, rs2, l5, hrec, rfl, rfl⟩
  · exact ⟨hsu, fun c F hc _ => chk_put (b := []) hk (hf _ _) rfl (.inr ⟨hb, rfl⟩) hc⟩
  · obtain ⟨s5, hch⟩ := ih _ _ _ _ hrec (hr.suf hsu)
    refine ⟨((List.tail_suffix l5).trans s5).trans hsu, fun c F hc hlen => ?_⟩
    have : rs2.length ≤ F := by simp at hlen; omega
    exact chk_put (b := rs2) hk (hf _ _) rfl (.inl ⟨hb, by omega, hch F this⟩) hc
theorem chk_nil (F d : Nat) : chk F d [] = true := by cases F <;> rfl
theorem stmt_one {n : Int} {g d : Nat} {l r : List Tk} {rs : List Rw} (h : stmtP n (stmtsP n g) d l = .ok (rs, r)) : 1 ≤ rs.length := by
  obtain ⟨t, u, nm, aa, x, p, l4, rfl, hm, hh⟩ := stmt_cases h
  rcases hh with ⟨hb, rfl, rfl⟩ | ⟨hb, hd, rs2, l5, hrec, rfl, rfl⟩
  · exact Nat.le_refl _
  · simp
theorem stmts_chk {n : Int} : ∀ (f d : Nat) (l r : List Tk) (rs : List Rw), stmtsP n f d l = .ok (rs, r) → AllT l → r <:+ l ∧ ∀ F, rs.length ≤ F → chk F d rs = true := by
  intro f
  induction f with
  | zero => intro d l r rs h; cases h
  | succ f ih =>
    intro d l r rs h hr
    rcases stmts_cases h with ⟨_, rfl, rfl⟩ | ⟨_, rs1, r1, rs2, h1, h2, rfl⟩
    · exact ⟨List.suffix_refl _, fun F _ => chk_nil F d⟩
    · obtain ⟨s1, c1⟩ := stmt_chk ih h1 hr
      obtain ⟨s2, c2⟩ := ih _ _ _ _ h2 (hr.suf s1)
      have h0 := stmt_one h1
      refine ⟨s2.trans s1, fun F hF => ?_⟩
      rw [List.length_append] at hF
      obtain ⟨G, rfl⟩ : ∃ G, F = G + 1 := ⟨F - 1, by omega⟩
      exact c1 rs2 G (c2 G (by omega)) (by rw [List.length_append]; exact hF)
theorem prog_chk {n : Int} : ∀ (f : Nat) (l : List Tk) (rs : List Rw), progP n f l = .ok rs → AllT l → ∀ F, rs.length ≤ F → chk F 0 rs = true := by
  intro f
  induction f with
  | zero => intro l rs h; cases h
  | succ f ih =>
    intro l rs h hr F hF
    rcases prog_cases h with ⟨_, rfl⟩ | ⟨_, rs1, r1, rs2, h1, h2, rfl⟩
    · exact chk_nil F 0
    · obtain ⟨s1, c1⟩ := stmt_chk (stmts_chk f) h1 hr
      have h0 := stmt_one h1
      rw [List.length_append] at hF
      obtain ⟨G, rfl⟩ : ∃ G, F = G + 1 := ⟨F - 1, by omega⟩
      exact c1 rs2 G (ih _ _ h2 (hr.suf s1) G (by omega)) (by rw [List.length_append]; exact hF)
theorem pout_chk {s : ByteArray} {rs : List Rw} {a : Int} {e : Nat} (h : POut s rs a e) : chk rs.length 0 rs = true := by
  obtain ⟨l, a0, e0, ho, hh⟩ := h
  rcases hh with ⟨_, rfl, _⟩ | ⟨rfl, hh⟩
  · rfl
  · rcases hh with ⟨_, _, _, rfl, _⟩ | ⟨hp, _⟩
    · rfl
    · have hr : AllR l := by
        rcases ho with ⟨_, _, _, h⟩ | ⟨_, h, _⟩ | ⟨_, _, h, _⟩
        · cases h
        · exact h.right
        · cases h
      exact prog_chk _ _ _ hp hr.all _ (Nat.le_refl _)
/-- What Show tells. -/
def SOut (rs : List Rw) (s : ByteArray) (e : Nat) : Prop :=
  (chk rs.length 0 rs = false ∧ s = ⟨#[]⟩ ∧ e = 100) ∨ (chk rs.length 0 rs = true ∧ 65536 < (bodyB rs.length 0 rs).length ∧ s = ⟨#[]⟩ ∧ e = 1) ∨ (chk rs.length 0 rs = true ∧ (bodyB rs.length 0 rs).length ≤ 65536 ∧ s = ⟨(bodyB rs.length 0 rs).toArray⟩ ∧ e = 0)
theorem sout_ex (rs : List Rw) : ∃ s e, SOut rs s e := by
  cases h : chk rs.length 0 rs with
  | false => exact ⟨_, _, .inl ⟨h, rfl, rfl⟩⟩
  | true =>
    by_cases hl : 65536 < (bodyB rs.length 0 rs).length
    · exact ⟨_, _, .inr (.inl ⟨h, hl, rfl, rfl⟩)⟩
    · exact ⟨_, _, .inr (.inr ⟨h, by omega, rfl, rfl⟩)⟩
theorem SOut.like {a b : List Rw} {s : ByteArray} {e : Nat} (h : SOut a s e) (hl : RL a b) : SOut b s e := by
  unfold SOut at *
  rw [← hl.len, ← hl.chk, ← hl.body]
  exact h
end Go.Proofs.YtiepbfeliehjnaaDoor
