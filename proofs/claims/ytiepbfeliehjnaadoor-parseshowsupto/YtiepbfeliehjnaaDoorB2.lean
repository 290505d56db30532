/-
  Plain mathematics of shown rows: the text is read as its tokens. Of no program.
-/
import Derived.Test.YtiepbfeliehjnaaDoorB1
namespace Go.Proofs.YtiepbfeliehjnaaDoor

/-- These bytes stand in a text from a place on. -/
def At (s : ByteArray) (i : Nat) (bs : List UInt8) : Prop := ∃ r, s.data.toList.drop i = bs ++ r
theorem At.left {s : ByteArray} {i : Nat} {a b : List UInt8} (h : At s i (a ++ b)) : At s i a := by
  obtain ⟨r, h⟩ := h
  exact ⟨b ++ r, by rw [h, List.append_assoc]⟩
theorem At.right {s : ByteArray} {i : Nat} {a b : List UInt8} (h : At s i (a ++ b)) : At s (i + a.length) b := by
  obtain ⟨r, h⟩ := h
  refine ⟨r, ?_⟩
  rw [← List.drop_drop, h, List.append_assoc, List.drop_left]
theorem At.cb {s : ByteArray} {i : Nat} {a : List UInt8} (h : At s i a) (k : Nat) (hk : k < a.length) : cb s (i + k) = a[k].toNat := by
  obtain ⟨r, h⟩ := h
  rw [cb_list]
  have : s.data.toList[i + k]? = some a[k] := by
    rw [← List.getElem?_drop, h, List.getElem?_append_left hk, List.getElem?_eq_getElem hk]
  rw [this]
  rfl
theorem At.le {s : ByteArray} {i : Nat} {a : List UInt8} (h : At s i a) (h0 : 0 < a.length) : i + a.length ≤ s.size := by
  obtain ⟨r, h⟩ := h
  have := congrArg List.length h
  have hz : s.data.toList.length = s.size := rfl
  rw [List.length_drop, List.length_append, hz] at this
  omega
theorem At.ext {s : ByteArray} {i : Nat} {t : ByteArray} (h : At s i t.data.toList) : s.extract i (i + t.size) = t := by
  obtain ⟨r, h⟩ := h
  apply ByteArray.ext
  apply Array.ext'
  have hz : t.data.toList.length = t.size := rfl
  have e : (s.extract i (i + t.size)).data.toList = (s.data.toList.drop i).take (i + t.size - i) := by
    simp [ByteArray.data_extract]
  rw [e, h, Nat.add_sub_cancel_left, ← hz, List.take_left]
theorem all_of_run {p : Nat → Bool} (h6 : p 256 = false) {t : ByteArray} (h : run p t 0 = t.size) : ∀ k, k < t.size → p (cb t k) = true := fun k hk => by
  have he := run_end h6 (i := 0) (s := t) (by omega)
  rw [h] at he
  exact he.all k (by omega) hk
theorem At.same {s t : ByteArray} {i : Nat} (h : At s i t.data.toList) (k : Nat) (hk : k < t.size) : Go.Proofs.YtiepbfeliehjnaaDoor.cb s (i + k) = Go.Proofs.YtiepbfeliehjnaaDoor.cb t k := by
  have hz : t.data.toList.length = t.size := rfl
  rw [h.cb k (by omega), cb_list, List.getElem?_eq_getElem (by omega)]
  rfl
/-- A token that is right, with no letter and no digit behind it where it is no sign, is read. -/
theorem pre_tok {s : ByteArray} {i : Nat} {l : List Tk} {t : Tk} (hp : Pre s i l) (hr : rightB t = true) (ha : At s i t.t.data.toList) (hn : t.k ≠ 3 → isN (cb s (i + t.t.size)) = false) :
    ∃ t', t'.k = t.k ∧ t'.t = t.t ∧ Pre s (i + t.t.size) (l ++ [t']) := by
  have hz : t.t.data.toList.length = t.t.size := rfl
  unfold rightB at hr
  by_cases h1 : t.k = 1
  · rw [if_pos h1] at hr
    obtain ⟨hL, h0⟩ := nm_first hr
    have hrun : run isN t.t 0 = t.t.size := by
      unfold nmB at hr
      rw [hL] at hr
      simpa using hr
    have hall := all_of_run isN6 hrun
    have hle := ha.le (by omega)
    have hT : TokAt s 1 i (i + t.t.size) := .inl ⟨rfl, by have := ha.same 0 h0; rw [Nat.add_zero] at this; rw [this]; exact hL, by omega, by omega, fun k h1 h2 => by
      have := ha.same (k - i) (by omega)
      rw [show i + (k - i) = k by omega] at this
      rw [this]
      exact hall _ (by omega), hn (by omega)⟩
    refine ⟨_, ?_, ?_, hp.put hT⟩
    · show ((1 : Nat) : Int) = t.k; rw [h1]; rfl
    · exact ha.ext
  · rw [if_neg h1] at hr
    by_cases h2 : t.k = 2
    · rw [if_pos h2] at hr
      unfold nuB at hr
      obtain ⟨h0, hrun⟩ : 0 < t.t.size ∧ run isD t.t 0 = t.t.size := by simpa using hr
      have hall := all_of_run isD6 hrun
      have hle := ha.le (by omega)
      obtain ⟨hL, hD⟩ : isL (cb s (i + t.t.size)) = false ∧ isD (cb s (i + t.t.size)) = false := by simpa [isN] using hn (by omega)
      have hT : TokAt s 2 i (i + t.t.size) := .inr (.inl ⟨rfl, by have := ha.same 0 h0; rw [Nat.add_zero] at this; rw [this]; exact hall 0 h0, ⟨by omega, by omega, fun k h1 h2 => by
        have := ha.same (k - i) (by omega)
        rw [show i + (k - i) = k by omega] at this
        rw [this]
        exact hall _ (by omega), hD⟩, hL⟩)
      refine ⟨_, ?_, ?_, hp.put hT⟩
      · show ((2 : Nat) : Int) = t.k; rw [h2]; rfl
      · exact ha.ext
    · rw [if_neg h2] at hr
      by_cases h3 : t.k = 3
      · rw [if_pos h3] at hr
        unfold sgB at hr
        obtain ⟨h0, hS⟩ : t.t.size = 1 ∧ isS (cb t.t 0) = true := by simpa using hr
        have hT : TokAt s 3 i (i + t.t.size) := .inr (.inr ⟨rfl, by have := ha.same 0 (by omega); rw [Nat.add_zero] at this; rw [this]; exact hS, by rw [h0]⟩)
        refine ⟨_, ?_, ?_, hp.put hT⟩
        · show ((3 : Nat) : Int) = t.k; rw [h3]; rfl
        · exact ha.ext
      · rw [if_neg h3] at hr; cases hr
theorem pre_blanks {s : ByteArray} : ∀ (n i : Nat) (l : List Tk), Pre s i l → At s i (List.replicate n 32) → Pre s (i + n) l
  | 0, i, l, h, _ => h
  | n + 1, i, l, h, ha => by
    have hb : isB (cb s i) = true := by
      have := ha.cb 0 (by simp)
      rw [Nat.add_zero] at this
      rw [this]
      simp
      decide
    have h2 := ha
    rw [List.replicate_succ, ← List.singleton_append] at h2
    have := pre_blanks n (i + 1) l (h.blank hb) (by simpa using h2.right)
    rwa [show i + 1 + n = i + (n + 1) by omega] at this
/-- The first byte behind a name or a number in a line is neither a letter nor a digit. -/
theorem line_next {s : ByteArray} {i : Nat} {t : Tk} {ts : List Tk} (ht : t.k ≠ 3) (hr : rightB t = true) (ha : At s i (lineB t.t ts ++ [10])) : isN (cb s i) = false := by
  have hne : t.t ≠ ⟨#[]⟩ ∧ t.t ≠ wLeft := by
    unfold rightB at hr
    by_cases h1 : t.k = 1
    · rw [if_pos h1] at hr
      refine ⟨fun e => ?_, nm_ne hr 91 (by decide) []⟩
      have := (nm_first hr).2
      rw [e] at this
      exact absurd this (by decide)
    · rw [if_neg h1] at hr
      by_cases h2 : t.k = 2
      · rw [if_pos h2] at hr
        obtain ⟨hd, hn⟩ := nu_ds hr
        refine ⟨fun e => hn (by rw [e]), fun e => ?_⟩
        rw [e] at hd
        have := hd 91 (by simp)
        revert this
        decide
      · rw [if_neg h2, if_neg ht] at hr; cases hr
  cases ts with
  | nil =>
    have := ha.cb 0 (by simp [lineB])
    rw [Nat.add_zero] at this
    rw [this]
    show isN ((10 : UInt8).toNat) = false
    decide
  | cons u us =>
    have hb : lineB t.t (u :: us) ++ [10] = tokB t.t u.t ++ (lineB u.t us ++ [10]) := by show (tokB t.t u.t ++ lineB u.t us) ++ [10] = _; rw [List.append_assoc]
    rw [hb] at ha
    have h1 := ha.left
    unfold tokB at h1
    cases hs : sepB t.t u.t with
    | true =>
      rw [hs, if_pos rfl] at h1
      have := h1.left.cb 0 (by simp)
      rw [Nat.add_zero] at this
      rw [this]
      decide
    | false =>
      rw [hs, if_neg (by simp), List.nil_append] at h1
      have hu : u.t = wSemi ∨ u.t = wLeft ∨ u.t = wRight := by
        unfold sepB at hs
        rw [decide_eq_false hne.1, decide_eq_false hne.2] at hs
        simp at hs
        by_cases e1 : u.t = wSemi
        · exact .inl e1
        · by_cases e2 : u.t = wLeft
          · exact .inr (.inl e2)
          · exact .inr (.inr (hs e1 e2))
      rcases hu with e | e | e <;> rw [e] at h1 <;> have := h1.cb 0 (by simp) <;> rw [Nat.add_zero] at this <;> rw [this] <;> decide
theorem Lk.app {a b c d : List Tk} (h : Lk a b) (g : Lk c d) : Lk (a ++ c) (b ++ d) := by unfold Lk at *; rw [List.map_append, List.map_append, h, g]
def AllT (l : List Tk) : Prop := ∀ t ∈ l, rightB t = true
theorem pre_line {s : ByteArray} : ∀ (ts : List Tk) (last : ByteArray) (i : Nat) (l : List Tk), AllT ts → Pre s i l → At s i (lineB last ts ++ [10]) → ∃ l', Lk ts l' ∧ Pre s (i + (lineB last ts).length) (l ++ l')
  | [], last, i, l, _, hp, _ => ⟨[], rfl, by rw [List.append_nil]; exact hp⟩
  | t :: ts, last, i, l, hr, hp, ha => by
    have hb : lineB last (t :: ts) ++ [10] = (if sepB last t.t = true then [32] else []) ++ (t.t.data.toList ++ (lineB t.t ts ++ [10])) := by
      show (tokB last t.t ++ lineB t.t ts) ++ [10] = _
      unfold tokB
      simp only [List.append_assoc]
    have hz : t.t.data.toList.length = t.t.size := rfl
    have hlen : (lineB last (t :: ts)).length = (if sepB last t.t = true then ([32] : List UInt8) else []).length + (t.t.size + (lineB t.t ts).length) := by
      show (tokB last t.t ++ lineB t.t ts).length = _
      unfold tokB
      rw [List.length_append, List.length_append, hz]
      omega
    rw [hb] at ha
    have h1 : Pre s (i + (if sepB last t.t = true then ([32] : List UInt8) else []).length) l := by
      cases hs : sepB last t.t with
      | true =>
        rw [hs, if_pos rfl] at ha
        have := ha.left.cb 0 (by simp)
        rw [Nat.add_zero] at this
        exact hp.blank (by rw [this]; decide)
      | false => exact hp
    have h2 := ha.right
    obtain ⟨j, hj⟩ : ∃ j, j = i + (if sepB last t.t = true then ([32] : List UInt8) else []).length := ⟨_, rfl⟩
    rw [← hj] at h1 h2
    have hrt := hr t List.mem_cons_self
    obtain ⟨t', hk, ht, hp2⟩ := pre_tok h1 hrt h2.left (fun h3 => by
      have := h2.right
      rw [hz] at this
      exact line_next h3 hrt this)
    have h3 := h2.right
    rw [hz] at h3
    obtain ⟨l', hl, hp3⟩ := pre_line ts t.t (j + t.t.size) (l ++ [t']) (fun u hu => hr u (List.mem_cons_of_mem _ hu)) hp2 h3
    refine ⟨t' :: l', ?_, ?_⟩
    · unfold Lk at *
      rw [List.map_cons, List.map_cons, hl]
      unfold kt
      rw [hk, ht]
    · rw [hlen, ← Nat.add_assoc, ← hj, ← Nat.add_assoc]
      rw [List.append_assoc, List.singleton_append] at hp3
      exact hp3
/-- These bytes, wherever they stand, are read as tokens like these. -/
def Sc (s : ByteArray) (bs : List UInt8) (ks : List Tk) : Prop := ∀ i l, Pre s i l → At s i bs → ∃ l', Lk ks l' ∧ Pre s (i + bs.length) (l ++ l')
theorem Sc.app {s : ByteArray} {a b : List UInt8} {x y : List Tk} (h : Sc s a x) (g : Sc s b y) : Sc s (a ++ b) (x ++ y) := fun i l hp ha => by
  obtain ⟨l1, e1, p1⟩ := h i l hp ha.left
  obtain ⟨l2, e2, p2⟩ := g _ _ p1 ha.right
  exact ⟨l1 ++ l2, e1.app e2, by rw [List.length_append, ← Nat.add_assoc, ← List.append_assoc]; exact p2⟩
theorem Sc.nil (s : ByteArray) : Sc s [] [] := fun i l hp _ => ⟨[], rfl, by rw [List.append_nil]; exact hp⟩
theorem Sc.ind (s : ByteArray) (d : Nat) : Sc s (indB d) [] := fun i l hp ha => ⟨[], rfl, by
  have := pre_blanks (2 * d) i l hp ha
  rw [List.append_nil]
  unfold indB
  rwa [List.length_replicate]⟩
theorem Sc.line (s : ByteArray) (e : ByteArray) {ts : List Tk} (h : AllT ts) : Sc s (lineB e ts ++ [10]) ts := fun i l hp ha => by
  obtain ⟨l', h1, h2⟩ := pre_line ts e i l h hp ha
  refine ⟨l', h1, ?_⟩
  have := ha.right.cb 0 (by simp)
  rw [Nat.add_zero] at this
  rw [List.length_append, ← Nat.add_assoc]
  exact h2.blank (by rw [this]; decide)
theorem nu_num {x : Int} (h : 0 ≤ x) : nuB (numT x) = true := by
  obtain ⟨hd, hn⟩ := dec_ds x.toNat
  have e : (numT x).data.toList = Lib.decDigits x.toNat := by show (Lib.itoa x).toArray.toList = _; rw [List.toList_toArray, itoa_dec h]
  have hz : (numT x).data.toList.length = (numT x).size := rfl
  have h0 : 0 < (numT x).size := by rw [← hz, e]; exact List.length_pos_iff.2 hn
  unfold nuB
  have : run isD (numT x) 0 = (numT x).size := End.run ⟨Nat.zero_le _, Nat.le_refl _, fun k _ hk => by
    rw [cb_list, e, List.getElem?_eq_getElem (by rw [← e, hz]; exact hk)]
    show isD (UInt8.toNat _) = true
    rw [isD_p]
    exact hd _ (List.getElem_mem _), by rw [cb_out (Nat.lt_irrefl _)]; exact isD6⟩ isD6
  rw [this]
  simpa using h0
theorem head_right {r : Rw} (hk : (shp r.kind).isSome = true) (hf : fitB r (shR r) = true) : AllT (headK r (shR r)) := by
  unfold fitB at hf
  simp only [Bool.and_eq_true] at hf
  obtain ⟨⟨⟨hf1, hf2⟩, hf3⟩, hf4⟩ := hf
  intro t ht
  unfold headK at ht
  simp only [List.mem_append] at ht
  rcases ht with ht | ht | ht | ht | ht
  · unfold kindT at ht
    by_cases hu : r.kind = wUse
    · rw [if_pos hu] at ht; cases ht
    · rw [if_neg hu, List.mem_singleton] at ht
      subst ht
      show nmB r.kind = true
      rcases shp_cases r.kind with ⟨e, _, _⟩ | ⟨e, _, _⟩ | ⟨e, _, _⟩ | ⟨e, _, _⟩ | ⟨e, _, _⟩ | ⟨e, _, _⟩ | ⟨e, _, _⟩ | ⟨e, _, _⟩ | ⟨_, _, _, _, _, _, _, _, e, _⟩
      all_goals first | (rw [e]; decide) | (rw [e] at hk; cases hk)
  · unfold nameT at ht
    cases hb : (shR r).name with
    | true =>
      rw [hb, if_pos rfl] at hf1 ht
      rw [List.mem_singleton] at ht
      subst ht
      exact (plnN_p.1 hf1).1
    | false => rw [hb, if_neg (by simp)] at ht; cases ht
  · unfold argsT at ht
    obtain ⟨a, ha, hta⟩ := List.mem_flatMap.1 ht
    have hok := List.all_eq_true.1 hf4 a ha
    obtain ⟨h1, h2⟩ := argOk_p.1 hok
    unfold argK at hta
    rcases List.mem_cons.1 hta with rfl | hta
    · exact (plnN_p.1 h1).1
    · by_cases hx : 0 ≤ a.x
      · rw [if_pos hx] at hta
        simp only [List.mem_cons, List.not_mem_nil, or_false] at hta
        rcases hta with rfl | rfl | rfl
        · decide
        · exact nu_num hx
        · decide
      · rw [if_neg hx] at hta; cases hta
  · unfold numTk at ht
    cases hb : (shR r).num with
    | true =>
      rw [hb, if_pos rfl] at hf2 ht
      rw [List.mem_singleton] at ht
      subst ht
      exact nu_num (numOk_p.1 hf2).1
    | false => rw [hb, if_neg (by simp)] at ht; cases ht
  · rw [List.mem_singleton] at ht
    subst ht
    unfold lastS
    cases (shR r).body <;> decide
theorem sc_body (s : ByteArray) : ∀ (F d : Nat) (rs : List Rw), chk F d rs = true → Sc s (bodyB F d rs) (bodyK F rs)
  | 0, _, _, _ => Sc.nil s
  | _ + 1, _, [], _ => Sc.nil s
  | F + 1, d, r :: rs, h => by
    obtain ⟨h1, h2, h3, h4, h5, h6⟩ := chk_cons h
    have hl := (Sc.ind s d).app (Sc.line s ⟨#[]⟩ (head_right h1 h2))
    rw [List.nil_append] at hl
    refine hl.app (Sc.app ?_ (sc_body s F d _ h6))
    rcases h5 with ⟨hb, hd, hc⟩ | ⟨hb, _⟩
    · rw [hb, if_pos rfl, if_pos rfl]
      refine (sc_body s F (d + 1) _ hc).app ?_
      have := (Sc.ind s d).app (Sc.line s ⟨#[]⟩ (ts := [tkS wShut]) (fun t ht => by rw [List.mem_singleton] at ht; subst ht; decide))
      rw [List.nil_append] at this
      exact this
    · rw [hb, if_neg (by simp), if_neg (by simp)]
      exact Sc.nil s
theorem body_len : ∀ (F d : Nat) (rs : List Rw), rs.length ≤ F → chk F d rs = true → rs.length ≤ (bodyK F rs).length
  | 0, _, rs, h, _ => by omega
  | _ + 1, _, [], _, _ => Nat.zero_le _
  | F + 1, d, r :: rs, h, hc => by
    obtain ⟨h1, h2, h3, h4, h5, h6⟩ := chk_cons hc
    have hh : 1 ≤ (headK r (shR r)).length := by unfold headK; simp only [List.length_append, List.length_cons, List.length_nil]; omega
    show rs.length + 1 ≤ (headK r (shR r) ++ (_ ++ _)).length
    simp only [List.length_cons] at h
    have hd := body_len F d (rs.drop r.rows.toNat) (by rw [List.length_drop]; omega) h6
    rw [List.length_append, List.length_append]
    rw [List.length_drop] at hd
    rcases h5 with ⟨hb, _, hcc⟩ | ⟨hb, h0⟩
    · have ht := body_len F (d + 1) (rs.take r.rows.toNat) (by rw [List.length_take]; omega) hcc
      rw [if_pos hb, List.length_append]
      rw [List.length_take] at ht
      show _ ≤ _ + (_ + 1 + _)
      omega
    · rw [h0] at hd ⊢
      simp only [Int.toNat_zero, Nat.sub_zero] at hd
      simp only [Int.toNat_zero] at hd ⊢
      omega
theorem rk_rk (r : Rw) : rk (rk r) = rk r := rfl
/-- What is shown is read as the same rows. -/
theorem back_pout (rs : List Rw) (hc : chk rs.length 0 rs = true) (hl : (bodyB rs.length 0 rs).length ≤ 65536) : ∃ rs', POut ⟨(bodyB rs.length 0 rs).toArray⟩ rs' 0 0 ∧ RL rs rs' := by
  have hb := body_len rs.length 0 rs (Nat.le_refl _) hc
  obtain ⟨s, hs⟩ : ∃ s : ByteArray, s = ⟨(bodyB rs.length 0 rs).toArray⟩ := ⟨_, rfl⟩
  have hd : s.data.toList = bodyB rs.length 0 rs := by rw [hs]
  have hz : s.size = (bodyB rs.length 0 rs).length := by rw [← hd]; rfl
  obtain ⟨l, hk, hp⟩ := sc_body s _ _ _ hc 0 [] (Pre.zero s) ⟨[], by rw [List.drop_zero, hd, List.append_nil]⟩
  rw [List.nil_append, Nat.zero_add, ← hz] at hp
  have hpr := prog_tk (n := (s.size : Int)) rs.length rs ((bodyK rs.length rs).length + 1) (Nat.le_refl _) hc (by omega)
  obtain ⟨rs', h1, h2⟩ := prog_loc _ _ _ hpr (s.size : Int) l hk
  have hlen : (bodyK rs.length rs).length = l.length := by have := congrArg List.length hk; simpa using this
  rw [hlen] at h1
  rw [← hs]
  refine ⟨rs', ⟨l, 0, 0, .inr (.inl ⟨by omega, hp, rfl, rfl⟩), .inr ⟨rfl, .inr ⟨h1, rfl, rfl⟩⟩⟩, ?_⟩
  unfold RL at *
  rw [← h2, List.map_map]
  rfl
/-- The places do not count. -/
theorem chk_rk : ∀ (F d : Nat) (rs : List Rw), chk F d (rs.map rk) = chk F d rs
  | 0, _, _ => rfl
  | _ + 1, _, [] => rfl
  | F + 1, d, r :: rs => by
    show ((shp r.kind).isSome && fitB r (shR r) && decide (0 ≤ r.rows) && decide (r.rows ≤ ((rs.map rk).length : Int)) && (if (shR r).body = true then decide (d < 32) && chk F (d + 1) ((rs.map rk).take r.rows.toNat) else decide (r.rows = 0)) && chk F d ((rs.map rk).drop r.rows.toNat)) = _
    rw [← List.map_take, ← List.map_drop, chk_rk F, chk_rk F, List.length_map]
    rfl
theorem bodyB_rk : ∀ (F d : Nat) (rs : List Rw), bodyB F d (rs.map rk) = bodyB F d rs
  | 0, _, _ => rfl
  | _ + 1, _, [] => rfl
  | F + 1, d, r :: rs => by
    show (indB d ++ (lineB ⟨#[]⟩ (headK r (shR r)) ++ [10])) ++ ((if (shR r).body = true then bodyB F (d + 1) ((rs.map rk).take r.rows.toNat) ++ (indB d ++ ([125] ++ [10])) else []) ++ bodyB F d ((rs.map rk).drop r.rows.toNat)) = _
    rw [← List.map_take, ← List.map_drop, bodyB_rk F, bodyB_rk F]
    rfl
theorem RL.chk {a b : List Rw} (h : RL a b) (F d : Nat) : chk F d a = chk F d b := by rw [← chk_rk F d a, ← chk_rk F d b, h]
theorem RL.body {a b : List Rw} (h : RL a b) (F d : Nat) : bodyB F d a = bodyB F d b := by rw [← bodyB_rk F d a, ← bodyB_rk F d b, h]
end Go.Proofs.YtiepbfeliehjnaaDoor
