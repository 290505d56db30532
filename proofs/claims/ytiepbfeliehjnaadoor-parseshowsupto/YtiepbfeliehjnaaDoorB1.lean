/-
  Plain mathematics of shown rows: which rows are those of a program, their tokens, their text; what is shown is read as the same rows. Of no program.
-/
import Derived.Test.YtiepbfeliehjnaaDoorBN
import Derived.Test.YtiepbfeliehjnaaDoorN2
import Derived.Test.YtiepbfeliehjnaaDoorB0
namespace Go.Proofs.YtiepbfeliehjnaaDoor

/-! ### Numbers -/
theorem valL_app (l : List UInt8) (c : UInt8) : valL (l ++ [c]) = valL l * 10 + (c.toNat - 48) := by
  unfold valL
  rw [List.foldl_append]
  rfl
theorem val_dec : ∀ u : Nat, valL (Lib.decDigits u) = u := by
  intro u
  induction u using Nat.strongRecOn with
  | ind u ih =>
    rw [Lib.decDigits]
    by_cases h : u < 10
    · rw [dif_pos h]
      show 0 * 10 + ((UInt8.ofNat (48 + u)).toNat - 48) = u
      rw [UInt8.toNat_ofNat']
      omega
    · rw [dif_neg h, valL_app, ih (u / 10) (by omega), UInt8.toNat_ofNat']
      omega
theorem dec_ds : ∀ u : Nat, Ds (Lib.decDigits u) ∧ Lib.decDigits u ≠ [] := by
  intro u
  induction u using Nat.strongRecOn with
  | ind u ih =>
    rw [Lib.decDigits]
    by_cases h : u < 10
    · rw [dif_pos h]
      refine ⟨fun b hb => ?_, by simp⟩
      rw [List.mem_singleton] at hb
      subst hb
      rw [UInt8.toNat_ofNat']
      omega
    · rw [dif_neg h]
      refine ⟨fun b hb => ?_, by simp⟩
      rcases List.mem_append.1 hb with hb | hb
      · exact (ih (u / 10) (by omega)).1 b hb
      · rw [List.mem_singleton] at hb
        subst hb
        rw [UInt8.toNat_ofNat']
        omega
theorem itoa_dec {x : Int} (h : 0 ≤ x) : Lib.itoa x = Lib.decDigits x.toNat := by unfold Lib.itoa; rw [if_neg (by omega)]
theorem val_num {x : Int} (h : 0 ≤ x) : val (numT x) = x.toNat := by
  show valL (Lib.itoa x).toArray.toList = _
  rw [List.toList_toArray, itoa_dec h, val_dec]
theorem numOk_p {x : Int} : numOk x = true ↔ 0 ≤ x ∧ x ≤ 9007199254740991 := by simp [numOk]
theorem argOk_p {ix : Bool} {a : Ar} : argOk ix a = true ↔ plnN a.n = true ∧ (a.x = -1 ∨ (ix = true ∧ numOk a.x = true)) := by simp [argOk]
theorem plnN_p {s : ByteArray} : plnN s = true ↔ nmB s = true ∧ ownB s = false := by simp [plnN]

/-! ### What is shown is read again, token by token -/
theorem nameP_tk {n : Int} {s : ByteArray} {r : List Tk} (h : plnN s = true) : nameP n (tkN s :: r) = .ok (s, r) := by
  have hp : plnB (tkN s) = true := by
    unfold plnB tkN
    simp [(plnN_p.1 h).2]
  show (if plnB (tkN s) = true then _ else _) = _
  rw [if_pos hp]
  rfl
theorem numP_tk {n : Int} {x : Int} {r : List Tk} (h : numOk x = true) : numP n (tkD x :: r) = .ok (x.toNat, r) := by
  obtain ⟨h1, h2⟩ := numOk_p.1 h
  have e : numP n (tkD x :: r) = (if (2 : Int) = 2 then (if val (numT x) ≤ 9007199254740991 then .ok (val (numT x), r) else .error ((0 : Int), 1)) else .error ((0 : Int), 100)) := rfl
  rw [e, if_pos rfl, val_num h1, if_pos (by omega)]
theorem signP_tk {n : Int} {c : ByteArray} {r : List Tk} : signP n c (tkS c :: r) = .ok (tkS c, r) := by
  show (if c = c then _ else _) = _
  rw [if_pos rfl]
theorem nm_first {s : ByteArray} (h : nmB s = true) : isL (cb s 0) = true ∧ 0 < s.size := by
  unfold nmB at h
  have h1 : isL (cb s 0) = true := by
    cases e : isL (cb s 0) with
    | true => rfl
    | false => rw [e] at h; cases h
  exact ⟨h1, in_of (p := isL) (by decide) h1⟩
theorem nm_ne {s : ByteArray} (h : nmB s = true) (c : UInt8) (hc : isL c.toNat = false) (r : List UInt8) : s ≠ ⟨(c :: r).toArray⟩ := by
  intro e
  obtain ⟨h1, h2⟩ := nm_first h
  rw [cb_list, e] at h1
  simp at h1
  rw [hc] at h1
  cases h1
theorem argP_tk {n : Int} {ix : Bool} {a : Ar} {r : List Tk} (h : argOk ix a = true) (hr : seesB wLeft r = false) : argP n ix (argK a ++ r) = .ok (a, r) := by
  obtain ⟨h1, h2⟩ := argOk_p.1 h
  unfold argP argK
  rw [List.cons_append, nameP_tk h1]
  simp only
  rcases h2 with h2 | ⟨rfl, h2⟩
  · rw [if_neg (show ¬ 0 ≤ a.x by omega)]
    rw [List.nil_append, if_neg (by rw [hr]; simp)]
    rw [← h2]
  · obtain ⟨g1, g2⟩ := numOk_p.1 h2
    rw [if_pos g1]
    rw [if_pos ⟨rfl, by show decide (wLeft = wLeft) = true; simp⟩]
    show (match numP n (tkD a.x :: tkS wRight :: r) with | .error e => Except.error e | .ok (x, r2) => match signP n wRight r2 with | .error e => .error e | .ok (_, r3) => .ok ((⟨a.n, x⟩ : Ar), r3)) = _
    rw [numP_tk h2]
    simp only [signP_tk]
    rw [Int.toNat_of_nonneg g1]
/-- What stands behind arguments: no argument. -/
theorem args_tk {n : Int} {sh : Sh} : ∀ (args acc : List Ar) (f : Nat) (Y : List Tk), args.all (argOk sh.idx) = true → args.length < f → seesB wLeft Y = false →
    (sh.args = -1 → seesB (lastS sh) Y = true) → (sh.args ≠ -1 → ((acc.length + args.length : Nat) : Int) = sh.args) → argsP n sh f acc (argsT args ++ Y) = .ok (acc ++ args, Y)
  | [], acc, f, Y, _, hf, _, h1, h2 => by
    obtain ⟨g, rfl⟩ : ∃ g, f = g + 1 := ⟨f - 1, by simp at hf; omega⟩
    show (if moreB sh acc.length Y = true then _ else _) = _
    have hm : moreB sh acc.length Y = false := by
      unfold moreB
      by_cases e : sh.args = -1
      · rw [h1 e, e]; simp
      · have := h2 e
        simp at this
        rw [decide_eq_false e, decide_eq_false (by omega)]
        rfl
    rw [hm, List.append_nil]
    rfl
  | a :: args, acc, f, Y, ha, hf, hY, h1, h2 => by
    obtain ⟨g, rfl⟩ : ∃ g, f = g + 1 := ⟨f - 1, by simp at hf; omega⟩
    rw [List.all_cons, Bool.and_eq_true] at ha
    have hn := (argOk_p.1 ha.1).1
    have e : argsT (a :: args) ++ Y = argK a ++ (argsT args ++ Y) := by unfold argsT; rw [List.flatMap_cons, List.append_assoc]
    rw [e]
    have hm : moreB sh acc.length (argK a ++ (argsT args ++ Y)) = true := by
      unfold moreB
      by_cases e : sh.args = -1
      · have : seesB (lastS sh) (argK a ++ (argsT args ++ Y)) = false := by
          show decide (a.n = lastS sh) = false
          rw [decide_eq_false]
          unfold lastS
          by_cases hb : sh.body = true
          · rw [if_pos hb]; exact nm_ne (plnN_p.1 hn).1 123 (by decide) []
          · rw [if_neg hb]; exact nm_ne (plnN_p.1 hn).1 59 (by decide) []
        rw [this, e]
        simp
      · have := h2 e
        simp at this
        rw [decide_eq_true (by omega)]
        rfl
    show (if moreB sh acc.length (argK a ++ (argsT args ++ Y)) = true then _ else _) = _
    rw [if_pos hm]
    have hs : seesB wLeft (argsT args ++ Y) = false := by
      cases args with
      | nil => exact hY
      | cons b l =>
        show decide (b.n = wLeft) = false
        rw [decide_eq_false]
        have hb : argOk sh.idx b = true := by
          have := ha.2
          rw [List.all_cons, Bool.and_eq_true] at this
          exact this.1
        exact nm_ne (plnN_p.1 (argOk_p.1 hb).1).1 91 (by decide) []
    rw [argP_tk ha.1 hs]
    simp only
    rw [args_tk args (acc ++ [a]) g Y ha.2 (by simp at hf; omega) hY h1 (fun e => by have := h2 e; simp at this ⊢; omega)]
    simp
/-- The eight shapes. -/
theorem shR_cases {r : Rw} (h : (shp r.kind).isSome = true) : shR r = shDecl ∨ shR r = shGate ∨ shR r = shRepeat ∨ shR r = shIf ∨ shR r = shMeasure ∨ shR r = shReset ∨ shR r = shUse := by
  unfold shR
  rcases shp_cases r.kind with ⟨_, e, _⟩ | ⟨_, e, _⟩ | ⟨_, e, _⟩ | ⟨_, e, _⟩ | ⟨_, e, _⟩ | ⟨_, e, _⟩ | ⟨_, e, _⟩ | ⟨_, e, _⟩ | ⟨_, _, _, _, _, _, _, _, e, _⟩ <;> rw [e] at h ⊢ <;> simp at h ⊢
theorem mid_tk {n : Int} {r : Rw} {X : List Tk} (hk : (shp r.kind).isSome = true) (hf : fitB r (shR r) = true) :
    midP n (shR r) (nameT r (shR r) ++ (argsT r.args ++ (numTk r (shR r) ++ [tkS (lastS (shR r))])) ++ X) = .ok ((r.name, r.args, r.num.toNat, 0), X) := by
  unfold fitB at hf
  simp only [Bool.and_eq_true] at hf
  obtain ⟨⟨⟨hf1, hf2⟩, hf3⟩, hf4⟩ := hf
  have h1 : optName n (shR r).name (nameT r (shR r) ++ (argsT r.args ++ (numTk r (shR r) ++ [tkS (lastS (shR r))])) ++ X) = .ok (r.name, argsT r.args ++ (numTk r (shR r) ++ tkS (lastS (shR r)) :: X)) := by
    have e : argsT r.args ++ (numTk r (shR r) ++ [tkS (lastS (shR r))]) ++ X = argsT r.args ++ (numTk r (shR r) ++ tkS (lastS (shR r)) :: X) := by simp
    unfold optName nameT
    rw [List.append_assoc, e]
    cases hb : (shR r).name with
    | true => rw [hb, if_pos rfl] at hf1; rw [if_pos rfl, if_pos rfl]; exact nameP_tk hf1
    | false => rw [hb] at hf1; rw [if_neg (by simp), if_neg (by simp)]; rw [of_decide_eq_true hf1]; rfl
  have h3 : optNum n (shR r).num (numTk r (shR r) ++ tkS (lastS (shR r)) :: X) = .ok (r.num.toNat, tkS (lastS (shR r)) :: X) := by
    unfold optNum numTk
    cases hb : (shR r).num with
    | true => rw [hb, if_pos rfl] at hf2; rw [if_pos rfl, if_pos rfl]; exact numP_tk hf2
    | false => rw [hb] at hf2; rw [if_neg (by simp), if_neg (by simp)]; rw [of_decide_eq_true hf2]; rfl
  have h2 : argsP n (shR r) ((argsT r.args ++ (numTk r (shR r) ++ tkS (lastS (shR r)) :: X)).length + 1) [] (argsT r.args ++ (numTk r (shR r) ++ tkS (lastS (shR r)) :: X)) = .ok (r.args, numTk r (shR r) ++ tkS (lastS (shR r)) :: X) := by
    have hlen : r.args.length ≤ (argsT r.args).length := by
      unfold argsT
      induction r.args with
      | nil => exact Nat.le_refl _
      | cons a l ih =>
        have : 1 ≤ (argK a).length := by unfold argK; rw [List.length_cons]; omega
        rw [List.flatMap_cons, List.length_append, List.length_cons]
        omega
    by_cases e : (shR r).args = -1
    · have hn : (shR r).num = false := by
        rcases shR_cases hk with h | h | h | h | h | h | h <;> rw [h] at e ⊢ <;> first | rfl | (simp at e)
      have hY : numTk r (shR r) ++ tkS (lastS (shR r)) :: X = tkS (lastS (shR r)) :: X := by unfold numTk; rw [hn]; rfl
      rw [hY]
      refine args_tk r.args [] _ _ hf4 (by rw [List.length_append]; omega) ?_ (fun _ => by show decide (lastS (shR r) = lastS (shR r)) = true; simp) (fun h => absurd e h)
      show decide (lastS (shR r) = wLeft) = false
      unfold lastS
      by_cases hb : (shR r).body = true
      · rw [if_pos hb]; decide
      · rw [if_neg hb]; decide
    · have hl : ((r.args.length : Nat) : Int) = (shR r).args := by
        rcases Bool.or_eq_true _ _ ▸ hf3 with h | h
        · exact absurd (of_decide_eq_true h) e
        · exact of_decide_eq_true h
      by_cases h0 : r.args = []
      · rw [h0] at hl ⊢
        show argsP n (shR r) (_ + 1) [] (numTk r (shR r) ++ tkS (lastS (shR r)) :: X) = _
        unfold argsP
        have hm : moreB (shR r) ([] : List Ar).length (numTk r (shR r) ++ tkS (lastS (shR r)) :: X) = false := by
          unfold moreB
          rw [decide_eq_false e, ← hl]
          rfl
        rw [hm]
        rfl
      · have hn : (shR r).num = false := by
          have : (shR r).args ≠ 0 := fun e0 => h0 (by rw [e0] at hl; exact List.length_eq_zero_iff.1 (by omega))
          rcases shR_cases hk with h | h | h | h | h | h | h <;> rw [h] at this ⊢ <;> first | rfl | (simp at this)
        have hY : numTk r (shR r) ++ tkS (lastS (shR r)) :: X = tkS (lastS (shR r)) :: X := by unfold numTk; rw [hn]; rfl
        rw [hY]
        refine args_tk r.args [] _ _ hf4 (by rw [List.length_append]; omega) ?_ (fun h => absurd h e) (fun _ => by simpa using hl)
        show decide (lastS (shR r) = wLeft) = false
        unfold lastS
        by_cases hb : (shR r).body = true
        · rw [if_pos hb]; decide
        · rw [if_neg hb]; decide
  unfold midP
  rw [h1]
  simp only [h2, h3, signP_tk]
  rfl
/-- A row's first token, and what is behind it. -/
theorem head_tk {r : Rw} (hk : (shp r.kind).isSome = true) (hf : fitB r (shR r) = true) : ∃ t u, headK r (shR r) = t :: u ∧ shK t = shR r ∧ kindK t = r.kind ∧ t.p = 0 ∧ t.t ≠ wShut ∧ ∀ X, restK t (u ++ X) = nameT r (shR r) ++ (argsT r.args ++ (numTk r (shR r) ++ [tkS (lastS (shR r))])) ++ X := by
  by_cases hu : r.kind = wUse
  · have hs : shR r = shUse := by unfold shR; rw [hu]; rfl
    have hn : plnN r.name = true := by
      unfold fitB at hf
      simp only [Bool.and_eq_true] at hf
      have := hf.1.1.1
      rwa [hs, if_pos rfl] at this
    have ho := (plnN_p.1 hn).2
    refine ⟨tkN r.name, argsT r.args ++ (numTk r (shR r) ++ [tkS (lastS (shR r))]), ?_, ?_, ?_, rfl, ?_, fun X => ?_⟩
    · unfold headK kindT nameT; rw [if_pos hu, hs]; rfl
    · unfold shK kindK; show (shp (if ownB r.name = true then r.name else wUse)).getD shNone = _; rw [ho, hs, if_neg (by simp)]; rfl
    · unfold kindK; show (if ownB r.name = true then _ else _) = _; rw [ho, hu]; rfl
    · exact nm_ne (plnN_p.1 hn).1 125 (by decide) []
    · unfold restK; show (if ownB r.name = true then _ else _) = _; rw [ho]; unfold nameT; rw [hs]; rfl
  · have ho : ownB r.kind = true := by
      rcases shp_cases r.kind with ⟨_, _, o⟩ | ⟨_, _, o⟩ | ⟨_, _, o⟩ | ⟨_, _, o⟩ | ⟨_, _, o⟩ | ⟨_, _, o⟩ | ⟨_, _, o⟩ | ⟨e, _, _⟩ | ⟨_, _, _, _, _, _, _, _, e, _⟩
      all_goals first | exact o | exact absurd e hu | (rw [e] at hk; cases hk)
    refine ⟨tkN r.kind, nameT r (shR r) ++ (argsT r.args ++ (numTk r (shR r) ++ [tkS (lastS (shR r))])), ?_, ?_, ?_, rfl, ?_, fun X => ?_⟩
    · unfold headK kindT; rw [if_neg hu]; rfl
    · unfold shK kindK shR; show (shp (if ownB r.kind = true then r.kind else _)).getD _ = _; rw [if_pos ho]
    · unfold kindK; show (if ownB r.kind = true then r.kind else _) = _; rw [if_pos ho]
    · intro e
      have e : r.kind = wShut := e
      rw [e] at ho
      revert ho
      decide
    · unfold restK; show (if ownB r.kind = true then _ else _) = _; rw [if_pos ho]
/-- A statement. -/
theorem chk_cons {f d : Nat} {r : Rw} {rs : List Rw} (h : chk (f + 1) d (r :: rs) = true) : (shp r.kind).isSome = true ∧ fitB r (shR r) = true ∧ 0 ≤ r.rows ∧ r.rows ≤ (rs.length : Int) ∧ (((shR r).body = true ∧ d < 32 ∧ chk f (d + 1) (rs.take r.rows.toNat) = true) ∨ ((shR r).body = false ∧ r.rows = 0)) ∧ chk f d (rs.drop r.rows.toNat) = true := by
  unfold chk at h
  simp only [Bool.and_eq_true, decide_eq_true_eq] at h
  obtain ⟨⟨⟨⟨⟨h1, h2⟩, h3⟩, h4⟩, h5⟩, h6⟩ := h
  refine ⟨h1, h2, h3, h4, ?_, h6⟩
  cases hb : (shR r).body with
  | true => rw [hb, if_pos rfl] at h5; simp only [Bool.and_eq_true, decide_eq_true_eq] at h5; exact .inl ⟨rfl, h5.1, h5.2⟩
  | false => rw [hb] at h5; exact .inr ⟨rfl, by simpa using h5⟩
theorem stmt_tk {n : Int} {F g d : Nat} {r : Rw} {X : List Tk} {rest : List Rw} (h : chk (F + 1) d (r :: rest) = true)
    (hrec : (shR r).body = true → ∀ Z, stmtsP n g (d + 1) (bodyK F (rest.take r.rows.toNat) ++ tkS wShut :: Z) = .ok ((rest.take r.rows.toNat).map rk, tkS wShut :: Z)) :
    stmtP n (stmtsP n g) d (headK r (shR r) ++ ((if (shR r).body = true then bodyK F (rest.take r.rows.toNat) ++ [tkS wShut] else []) ++ X)) = .ok ((r :: rest.take r.rows.toNat).map rk, X) := by
  obtain ⟨h1, h2, h3, h4, h5, h6⟩ := chk_cons h
  obtain ⟨t, u, e, hsh, hkd, hp, _, hr⟩ := head_tk h1 h2
  have hnum : ((r.num.toNat : Nat) : Int) = r.num := by
    unfold fitB at h2
    simp only [Bool.and_eq_true] at h2
    have := h2.1.1.2
    cases hb : (shR r).num with
    | true => rw [hb, if_pos rfl] at this; exact Int.toNat_of_nonneg (numOk_p.1 this).1
    | false => rw [hb] at this; have : r.num = 0 := by simpa using this
               rw [this]; rfl
  rw [e, List.cons_append]
  show (match midP n (shK t) (restK t _) with | .error e => _ | .ok ((nm, aa, x, p), l4) => _) = _
  rw [hsh, hr, mid_tk h1 h2]
  simp only
  rcases h5 with ⟨hb, hd, hc⟩ | ⟨hb, h0⟩
  · rw [hb, if_pos rfl, if_neg (by omega), if_pos rfl, List.append_assoc, List.singleton_append, hrec hb X]
    simp only [List.tail_cons, List.map_cons, hkd, hp]
    have hl : (((rest.take r.rows.toNat).map rk).length : Int) = r.rows := by rw [List.length_map, List.length_take]; omega
    rw [hl, hnum]
    rfl
  · rw [hb, if_neg (by simp), if_neg (by simp), List.nil_append, h0, hkd, hp, hnum]
    show Except.ok ([(⟨r.kind, r.name, r.args, r.num, 0, 0⟩ : Rw)], X) = .ok ([rk r], X)
    unfold rk
    rw [h0]
theorem body_tk {n : Int} : ∀ (F d : Nat) (rs : List Rw) (f : Nat) (Z : List Tk), rs.length ≤ F → chk F d rs = true → rs.length < f → stmtsP n f d (bodyK F rs ++ tkS wShut :: Z) = .ok (rs.map rk, tkS wShut :: Z) := by
  have hsh : ∀ (f d : Nat) (Z : List Tk), stmtsP n (f + 1) d (tkS wShut :: Z) = .ok ([], tkS wShut :: Z) := fun f d Z => by
    unfold stmtsP
    rw [if_pos (show seesB wShut (tkS wShut :: Z) = true by show decide (wShut = wShut) = true; simp)]
  intro F
  induction F with
  | zero =>
    intro d rs f Z hl _ hf
    obtain rfl : rs = [] := List.length_eq_zero_iff.1 (by omega)
    obtain ⟨g, rfl⟩ : ∃ g, f = g + 1 := ⟨f - 1, by simp at hf; omega⟩
    exact hsh g d Z
  | succ F ih =>
    intro d rs f Z hl hc hf
    obtain ⟨g, rfl⟩ : ∃ g, f = g + 1 := ⟨f - 1, by omega⟩
    cases rs with
    | nil => exact hsh g d Z
    | cons r rs =>
      simp only [List.length_cons] at hl hf
      obtain ⟨h1, h2, h3, h4, h5, h6⟩ := chk_cons hc
      obtain ⟨t, u, e, _, _, _, hns, _⟩ := head_tk h1 h2
      have ht : (rs.take r.rows.toNat).length ≤ rs.length := by rw [List.length_take]; omega
      have hdr : (rs.drop r.rows.toNat).length ≤ rs.length := by rw [List.length_drop]; omega
      have E : bodyK (F + 1) (r :: rs) ++ tkS wShut :: Z = headK r (shR r) ++ ((if (shR r).body = true then bodyK F (rs.take r.rows.toNat) ++ [tkS wShut] else []) ++ (bodyK F (rs.drop r.rows.toNat) ++ tkS wShut :: Z)) := by
        show (headK r (shR r) ++ (_ ++ _)) ++ _ = _
        simp only [List.append_assoc]
      have S := stmt_tk (n := n) (F := F) (g := g) (X := bodyK F (rs.drop r.rows.toNat) ++ tkS wShut :: Z) hc (fun hb Z => by
        rcases h5 with ⟨_, _, hcc⟩ | ⟨hb', _⟩
        · exact ih (d + 1) _ g Z (by omega) hcc (by omega)
        · rw [hb] at hb'; cases hb')
      rw [E]
      unfold stmtsP
      rw [if_neg (show ¬ seesB wShut (headK r (shR r) ++ _) = true by rw [e]; show ¬ decide (t.t = wShut) = true; simpa using hns), S]
      simp only
      rw [ih d _ g Z (by omega) h6 (by omega)]
      simp only [← List.map_append]
      rw [List.cons_append, List.take_append_drop]
theorem prog_tk {n : Int} : ∀ (F : Nat) (rs : List Rw) (f : Nat), rs.length ≤ F → chk F 0 rs = true → rs.length < f → progP n f (bodyK F rs) = .ok (rs.map rk) := by
  have hno : ∀ (f : Nat), progP n (f + 1) [] = .ok [] := fun f => rfl
  intro F
  induction F with
  | zero =>
    intro rs f hl _ hf
    obtain rfl : rs = [] := List.length_eq_zero_iff.1 (by omega)
    obtain ⟨g, rfl⟩ : ∃ g, f = g + 1 := ⟨f - 1, by simp at hf; omega⟩
    exact hno g
  | succ F ih =>
    intro rs f hl hc hf
    obtain ⟨g, rfl⟩ : ∃ g, f = g + 1 := ⟨f - 1, by omega⟩
    cases rs with
    | nil => exact hno g
    | cons r rs =>
      simp only [List.length_cons] at hl hf
      obtain ⟨h1, h2, h3, h4, h5, h6⟩ := chk_cons hc
      have ht : (rs.take r.rows.toNat).length ≤ rs.length := by rw [List.length_take]; omega
      have hdr : (rs.drop r.rows.toNat).length ≤ rs.length := by rw [List.length_drop]; omega
      have S := stmt_tk (n := n) (F := F) (g := g) (X := bodyK F (rs.drop r.rows.toNat)) hc (fun hb Z => by
        rcases h5 with ⟨_, _, hcc⟩ | ⟨hb', _⟩
        · exact body_tk F (0 + 1) _ g Z (by omega) hcc (by omega)
        · rw [hb] at hb'; cases hb')
      show progP n (g + 1) (headK r (shR r) ++ (_ ++ _)) = _
      have := prog_step S (ih _ g (by omega) h6 (by omega))
      rw [this, ← List.map_append, List.cons_append, List.take_append_drop]
end Go.Proofs.YtiepbfeliehjnaaDoor
