/-
  Put together of: GU GV GX GY GP.
-/
import Derived.Test.YtdjfpghgklkejaaGreatDoorXO
import Derived.Test.YtdjfpghgklkejaaGreatDoorXQ
namespace Go.Proofs.YtdjfpghgklkejaaGreatDoor

/-- But for where it stands: what the ifs want alone is left. -/
def er (t : TO) : TO := ⟨t.k, t.n, t.qs, t.b, t.st.map fun s => ⟨0, 0, false, s.m, s.v⟩⟩
def Eqv (a b : List TO) : Prop := a.map er = b.map er
theorem opT_er (t : TO) : opT (er t) = opT t := by
  unfold opT sdT er
  cases t.st <;> rfl
theorem Eqv.op {a b : List TO} (h : Eqv a b) : a.map opT = b.map opT := by
  have e : ∀ l : List TO, l.map opT = (l.map er).map opT := fun l => by
    rw [List.map_map]
    exact List.map_congr_left fun t _ => (opT_er t).symm
  rw [e a, e b, h]
theorem Eqv.refl (a : List TO) : Eqv a a := rfl
theorem Eqv.app {a b c d : List TO} (h : Eqv a b) (g : Eqv c d) : Eqv (a ++ c) (b ++ d) := by
  unfold Eqv at *
  rw [List.map_append, List.map_append, h, g]
theorem Eqv.len {a b : List TO} (h : Eqv a b) : a.length = b.length := by
  have := congrArg List.length h
  rwa [List.length_map, List.length_map] at this
theorem Eqv.rep {a b : List TO} (h : Eqv a b) : ∀ n, Eqv (List.replicate n a).flatten (List.replicate n b).flatten
  | 0 => rfl
  | n + 1 => by
    rw [List.replicate_succ, List.replicate_succ, List.flatten_cons, List.flatten_cons]
    exact h.app (h.rep n)
/-- The same for the ifs, outside of definitions. -/
structure Shl (a b : Sd) : Prop where
  ga : a.g = false
  gb : b.g = false
  m : b.m = a.m
  v : b.v = a.v
  n : b.n ≤ a.n
theorem st_er {a b : Sd} (h : Shl a b) (k : Int) (n : ByteArray) (qs : List Int) (c : Int) : er ⟨k, n, qs, c, stO a⟩ = er ⟨k, n, qs, c, stO b⟩ := by
  unfold er stO
  rw [h.ga, h.gb]
  simp [h.m, h.v]
theorem use_er {a b : Sd} (h : Shl a b) (en : En) (r : Rw) : Eqv (useL en a r) (useL en b r) := by
  unfold useL
  rw [h.ga, h.gb]
  split
  · split
    · exact congrArg (fun x => [x]) (st_er h _ _ _ _)
    · unfold Eqv
      rw [List.map_map, List.map_map]
      refine List.map_congr_left fun t _ => ?_
      simp only [Function.comp, er, subT]
      cases t.st with
      | some s => rfl
      | none => simp [stO, h.ga, h.gb, h.m, h.v]
  · rfl
theorem use_shl {a b : Sd} (h : Shl a b) (en : En) (r : Rw) : useE en b r = useE en a r ∧ useD en b r = en.d ∧ useD en a r = en.d := by
  refine ⟨?_, ?_, ?_⟩
  · unfold useE; rw [h.ga, h.gb]
  · unfold useD; rw [h.gb]; simp
  · unfold useD; rw [h.ga]; simp
/-- Looked at less deep. -/
def RecSh (rec : RecT) : Prop := ∀ en a b rs en1 L, rec en a rs = .ok (en1, L) → Shl a b → 1 ≤ a.n → en1 = en ∧ ∃ L', rec en b rs = .ok (en, L') ∧ Eqv L L'
theorem row_sh {rec : RecT} (hr : RecSh rec) {en en1 : En} {a b : Sd} {r : Rw} {body : List Rw} {L : List TO} (h : rowR rec en a r body = .ok (en1, L)) (hs : Shl a b)
    (k1 : ¬ r.kind = wQubits) (k2 : ¬ r.kind = wBits) (k3 : ¬ r.kind = wGate) : en1 = en ∧ ∃ L', rowR rec en b r body = .ok (en, L') ∧ Eqv L L' := by
  unfold rowR at h ⊢
  rw [if_neg k1, if_neg k2, if_neg k3] at h ⊢
  split at h
  · rename_i hk
    rw [if_pos hk]
    split at h
    · cases h
    · rename_i hn
      rw [if_neg hn]
      split at h
      · cases h
      · rename_i h2
        cases h
        obtain ⟨rfl, L', e, hE⟩ := hr _ _ (deeper b) _ _ _ h2 ⟨hs.ga, hs.gb, hs.m, hs.v, Nat.succ_le_succ hs.n⟩ (Nat.succ_le_succ (Nat.zero_le _))
        rw [e]
        exact ⟨rfl, _, rfl, hE.rep _⟩
  rename_i hk
  rw [if_neg hk]
  split at h
  · rename_i hk
    rw [if_pos hk]
    split at h
    · cases h
    · rename_i m hm
      try rw [hm]
      split at h
      · cases h
      · rename_i h1
        split at h
        · cases h
        · rename_i h2
          split at h
          · cases h
          · rename_i h3
            cases h
            obtain ⟨rfl, L', e, hE⟩ := hr _ _ ⟨b.p, b.n + 1, b.g, b.m ||| mskN m, b.v ||| valN m r.num.toNat⟩ _ _ _ h3 ⟨hs.ga, hs.gb, by rw [hs.m], by rw [hs.v], Nat.succ_le_succ hs.n⟩ (Nat.succ_le_succ (Nat.zero_le _))
            refine ⟨rfl, _, by simp only [if_neg h1, if_neg h2, e]; rfl, ?_⟩
            rw [hs.m, hs.v]
            split
            · rfl
            · exact hE
  rename_i hk
  rw [if_neg hk]
  split at h
  · rename_i hk
    rw [if_pos hk]
    split at h
    · rename_i x c hx
      try rw [hx]
      split at h
      · cases h
      · rename_i h1
        split at h
        · cases h
        · rename_i h2
          cases h
          exact ⟨rfl, _, rfl, congrArg (fun x => [x]) (st_er hs _ _ _ _)⟩
    · cases h
  rename_i hk
  rw [if_neg hk]
  split at h
  · rename_i hk
    rw [if_pos hk]
    split at h
    · rename_i x hx
      try rw [hx]
      split at h
      · cases h
      · rename_i h1
        cases h
        exact ⟨rfl, _, rfl, congrArg (fun x => [x]) (st_er hs _ _ _ _)⟩
    · cases h
  rename_i hk
  rw [if_neg hk]
  obtain ⟨u1, u2, u3⟩ := use_shl hs en r
  split at h
  · cases h
  · rename_i h1
    cases h
    rw [u1, if_neg h1, u2, u3]
    exact ⟨rfl, _, rfl, use_er hs en r⟩
theorem form_sh {a b : Sd} (hs : Shl a b) (h1 : 1 ≤ a.n) {r : Rw} {n : Nat} (h : ¬ formE r n a ≠ 0) : (¬ formE r n b ≠ 0) ∧ ¬ r.kind = wQubits ∧ ¬ r.kind = wBits ∧ ¬ r.kind = wGate := by
  unfold formE at *
  split at h
  · exact absurd (by decide) h
  · split at h
    · exact absurd (by decide) h
    · split at h
      · rename_i c1 c2 c3
        rw [if_neg c1, if_neg (by have := hs.n; omega)]
        unfold mayB at *
        split at c3
        · rename_i c4
          rw [if_pos c4]
          refine ⟨by simp, ?_, ?_, ?_⟩ <;> (intro e; rw [e] at c4; revert c4; decide)
        · rename_i c4
          rw [if_neg c4]
          split at c3
          · have := of_decide_eq_true c3; omega
          · rename_i c5
            rw [if_neg c5, hs.gb]
            refine ⟨by simp, ?_, ?_, ?_⟩ <;> (intro e; rw [e] at c5; revert c5; decide)
      · exact absurd (by decide) h
theorem lookB_sh : ∀ k, RecSh (lookB k)
  | 0 => fun en a b rs en1 L h _ _ => by unfold lookB at h ⊢; cases h; exact ⟨rfl, _, rfl, rfl⟩
  | k + 1 => fun en a b rs en1 L h hs hn => by
    cases rs with
    | nil => unfold lookB at h ⊢; cases h; exact ⟨rfl, _, rfl, rfl⟩
    | cons r rs =>
      unfold lookB at h ⊢
      split at h
      · cases h
      · rename_i hf
        obtain ⟨f1, f2, f3, f4⟩ := form_sh hs hn hf
        rw [if_neg f1]
        split at h
        · cases h
        · rename_i e1 L1 h1
          obtain ⟨rfl, L1', g1, q1⟩ := row_sh (b := ⟨r.place, b.n, b.g, b.m, b.v⟩) (lookB_sh k) h1 ⟨hs.ga, hs.gb, hs.m, hs.v, hs.n⟩ f2 f3 f4
          rw [g1]
          split at h
          · cases h
          · rename_i e2 L2 h2
            cases h
            obtain ⟨rfl, L2', g2, q2⟩ := lookB_sh k _ _ b _ _ _ h2 hs hn
            exact ⟨rfl, _, by simp only [g2], q1.app q2⟩
/-- A row's body lies in what is behind it. -/
theorem form_rows {sd : Sd} {r : Rw} {n : Nat} (h : ¬ formE r n sd ≠ 0) : 0 ≤ r.rows ∧ r.rows ≤ n := by
  unfold formE at h
  split at h
  · exact absurd (by decide) h
  · rename_i hb
    unfold badF at hb
    split at hb
    · simp only [Bool.or_eq_true, decide_eq_true_eq, not_or] at hb
      omega
    · split at hb
      · simp only [decide_eq_true_eq, ne_eq, Decidable.not_not] at hb
        omega
      · exact absurd rfl hb
theorem form_more {sd : Sd} {r : Rw} {n n' : Nat} (h : ¬ formE r n sd ≠ 0) (hn : r.rows ≤ n') : ¬ formE r n' sd ≠ 0 := by
  have h0 := (form_rows h).1
  have e : badF r n' = badF r n := by
    have h1 := (form_rows h).2
    unfold badF
    by_cases hb : hasB r.kind = true
    · rw [if_pos hb, if_pos hb]
      have a1 : decide ((n' : Int) < r.rows) = false := by simp; omega
      have a2 : decide ((n : Int) < r.rows) = false := by simp; omega
      rw [a1, a2]
    · rw [if_neg hb, if_neg hb]
  unfold formE at *
  rwa [e]
/-- Rows behind closed rows. -/
theorem look_app : ∀ (k : Nat) (A B : List Rw) (en en1 en2 : En) (sd : Sd) (L1 L2 : List TO), A.length < k → lookB k en sd A = .ok (en1, L1) → (∀ K, B.length < K → lookB K en1 sd B = .ok (en2, L2)) →
    ∀ K, (A ++ B).length < K → lookB K en sd (A ++ B) = .ok (en2, L1 ++ L2)
  | 0, A, _, _, _, _, _, _, _, h, _, _, _, _ => absurd h (Nat.not_lt_zero _)
  | k + 1, [], B, en, en1, en2, sd, L1, L2, _, h, hB, K, hK => by
    unfold lookB at h
    cases h
    exact hB K hK
  | k + 1, r :: rs, B, en, en1, en2, sd, L1, L2, hk, h, hB, K, hK => by
    rw [List.length_cons] at hk
    obtain ⟨K', rfl⟩ : ∃ K', K = K' + 1 := ⟨K - 1, by omega⟩
    rw [List.cons_append, List.length_cons] at hK
    rw [List.cons_append]
    unfold lookB at h ⊢
    split at h
    · cases h
    · rename_i hf
      obtain ⟨r0, r1⟩ := form_rows hf
      have hrl : r.rows.toNat ≤ rs.length := by omega
      rw [if_neg (form_more hf (by rw [List.length_append]; omega)), List.take_append_of_le_length hrl, List.drop_append_of_le_length hrl]
      rw [List.length_append] at hK
      split at h
      · cases h
      · rename_i e1 M1 h1
        have hrec : rowR (lookB K') en ⟨r.place, sd.n, sd.g, sd.m, sd.v⟩ r (rs.take r.rows.toNat) = rowR (lookB k) en ⟨r.place, sd.n, sd.g, sd.m, sd.v⟩ r (rs.take r.rows.toNat) := by
          have e : ∀ en sd, lookB K' en sd (rs.take r.rows.toNat) = lookB k en sd (rs.take r.rows.toNat) := fun en sd => lookB_fuel _ _ _ (by rw [List.length_take]; omega) (by rw [List.length_take]; omega) en sd
          unfold rowR
          simp only [e]
        rw [hrec, h1]
        split at h
        · cases h
        · rename_i e2 M2 h2
          cases h
          have g := look_app k (rs.drop r.rows.toNat) B _ _ _ sd _ _ (by rw [List.length_drop]; omega) h2 hB K' (by rw [List.length_append, List.length_drop]; omega)
          simp only [g, List.append_assoc]
/-- A body, some times. -/
theorem look_rep (A B : List Rw) (en en2 : En) (sd : Sd) (L1 L2 : List TO) (hA : ∀ K, A.length < K → lookB K en sd A = .ok (en, L1)) (hB : ∀ K, B.length < K → lookB K en sd B = .ok (en2, L2)) : ∀ n K, ((List.replicate n A).flatten ++ B).length < K → lookB K en sd ((List.replicate n A).flatten ++ B) = .ok (en2, (List.replicate n L1).flatten ++ L2)
  | 0, K, hK => by simpa using hB K (by simpa using hK)
  | n + 1, K, hK => by
    rw [List.replicate_succ, List.replicate_succ, List.flatten_cons, List.flatten_cons, List.append_assoc, List.append_assoc] at *
    exact look_app (A.length + 1) A _ en en en2 sd L1 _ (Nat.lt_succ_self _) (hA _ (Nat.lt_succ_self _)) (look_rep A B en en2 sd L1 L2 hA hB n) K hK
end Go.Proofs.YtdjfpghgklkejaaGreatDoor
namespace Go.Proofs.YtdjfpghgklkejaaGreatDoor

/-- A row with another body. -/
def wrow (r : Rw) (n : Int) : Rw := ⟨r.kind, r.name, r.args, r.num, n, r.place⟩
/-- The first repeat of at most twenty outside of definitions, written out: its number, the rows. -/
def unr : List Rw → Option (Nat × List Rw)
  | [] => none
  | r :: rs =>
    if r.kind = wGate then (unr (rs.drop r.rows.toNat)).map fun x => (1 + (rs.take r.rows.toNat).length + x.1, r :: (rs.take r.rows.toNat ++ x.2))
    else if r.kind = wRepeat ∧ r.num ≤ 20 then some (0, (List.replicate r.num.toNat (rs.take r.rows.toNat)).flatten ++ rs.drop r.rows.toNat)
    else (unr rs).map fun x => (1 + x.1, (if x.1 < r.rows.toNat then wrow r (r.rows + ((x.2.length : Int) - rs.length)) else r) :: x.2)
  termination_by l => l.length
  decreasing_by
    · rw [List.length_drop, List.length_cons]; omega
    · simp
/-- Rows without definitions that hold their bodies. -/
def Cl : List Rw → Prop
  | [] => True
  | r :: rs => ¬ r.kind = wGate ∧ r.rows.toNat ≤ rs.length ∧ Cl rs
theorem Cl.app : ∀ {A B : List Rw}, Cl A → Cl B → Cl (A ++ B)
  | [], _, _, h => h
  | r :: rs, B, h, g => ⟨h.1, by have e : (rs ++ B).length = rs.length + B.length := List.length_append; have := h.2.1; show _ ≤ (rs ++ B).length; omega, Cl.app h.2.2 g⟩
theorem unr_split : ∀ (A B : List Rw) (j : Nat) (x : List Rw), Cl A → unr (A ++ B) = some (j, x) →
    (∃ A', unr A = some (j, A') ∧ x = A' ++ B ∧ j < A.length) ∨ (∃ x', unr B = some (j - A.length, x') ∧ A.length ≤ j ∧ x = A ++ x')
  | [], B, j, x, _, h => .inr ⟨x, by simpa using h, Nat.zero_le _, rfl⟩
  | r :: rs, B, j, x, hc, h => by
    obtain ⟨c1, c2, c3⟩ := hc
    rw [List.cons_append, unr, if_neg c1] at h
    split at h
    · rename_i hk
      rw [List.take_append_of_le_length c2, List.drop_append_of_le_length c2] at h
      cases h
      refine .inl ⟨_, by rw [unr, if_neg c1, if_pos hk], by rw [List.append_assoc], by simp⟩
    · rename_i hk
      cases hu : unr (rs ++ B) with
      | none => rw [hu] at h; cases h
      | some y =>
        obtain ⟨i, y⟩ := y
        rw [hu] at h
        simp only [Option.map_some, Option.some.injEq, Prod.mk.injEq] at h
        obtain ⟨rfl, rfl⟩ := h
        rcases unr_split rs B i y c3 hu with ⟨A', h1, rfl, h3⟩ | ⟨x', h1, h2, rfl⟩
        · refine .inl ⟨(if i < r.rows.toNat then wrow r (r.rows + ((A'.length : Int) - rs.length)) else r) :: A', ?_, ?_, ?_⟩
          · rw [unr, if_neg c1, if_neg hk, h1]
            rfl
          · rw [List.cons_append, List.length_append, List.length_append]
            have e : (r.rows + (((A'.length + B.length : Nat) : Int) - ((rs.length + B.length : Nat) : Int))) = r.rows + ((A'.length : Int) - rs.length) := by omega
            rw [e]
          · rw [List.length_cons]; omega
        · refine .inr ⟨x', ?_, ?_, ?_⟩
          · rw [List.length_cons, show 1 + i - (rs.length + 1) = i - rs.length by omega]
            exact h1
          · rw [List.length_cons]; omega
          · rw [if_neg (by omega)]; rfl
/-- A row and what is behind it, taken apart. -/
theorem cons_look {k : Nat} {r : Rw} {rs : List Rw} {en e2 : En} {sd : Sd} {L : List TO} (hk : rs.length + 1 < k) (h : lookB k en sd (r :: rs) = .ok (e2, L)) :
    (¬ formE r rs.length sd ≠ 0) ∧ 0 ≤ r.rows ∧ r.rows.toNat ≤ rs.length ∧ ∃ e1 M1 M2, rowR (lookB ((rs.take r.rows.toNat).length + 1)) en ⟨r.place, sd.n, sd.g, sd.m, sd.v⟩ r (rs.take r.rows.toNat) = .ok (e1, M1) ∧
      (∀ K, (rs.drop r.rows.toNat).length < K → lookB K e1 sd (rs.drop r.rows.toNat) = .ok (e2, M2)) ∧ L = M1 ++ M2 := by
  obtain ⟨k, rfl⟩ : ∃ k', k = k' + 1 := ⟨k - 1, by omega⟩
  unfold lookB at h
  split at h
  · cases h
  · rename_i hf
    obtain ⟨r0, r1⟩ := form_rows hf
    refine ⟨hf, r0, by omega, ?_⟩
    split at h
    · cases h
    · rename_i e1 M1 h1
      split at h
      · cases h
      · rename_i e2' M2 h2
        cases h
        refine ⟨e1, M1, M2, ?_, fun K hK => ?_, rfl⟩
        · rw [← h1]
          have e : ∀ en sd, lookB ((rs.take r.rows.toNat).length + 1) en sd (rs.take r.rows.toNat) = lookB k en sd (rs.take r.rows.toNat) := fun en sd => lookB_fuel _ _ _ (by omega) (by rw [List.length_take]; omega) en sd
          unfold rowR
          simp only [e]
        · rw [← h2]
          exact lookB_fuel _ _ _ hK (by rw [List.length_drop]; omega) _ _
theorem look_cons {r : Rw} {body rest : List Rw} {en e1 e2 : En} {sd : Sd} {M1 M2 : List TO} (hf : ¬ formE r (body.length + rest.length) sd ≠ 0) (hb : body.length = r.rows.toNat)
    (hr : rowR (lookB (body.length + 1)) en ⟨r.place, sd.n, sd.g, sd.m, sd.v⟩ r body = .ok (e1, M1)) (hB : ∀ K, rest.length < K → lookB K e1 sd rest = .ok (e2, M2)) :
    ∀ K, (r :: (body ++ rest)).length < K → lookB K en sd (r :: (body ++ rest)) = .ok (e2, M1 ++ M2) := fun K hK => by
  obtain ⟨K, rfl⟩ : ∃ k', K = k' + 1 := ⟨K - 1, by omega⟩
  rw [List.length_cons, List.length_append] at hK
  unfold lookB
  rw [List.length_append, if_neg hf, ← hb, List.take_left, List.drop_left]
  have hrec : rowR (lookB K) en ⟨r.place, sd.n, sd.g, sd.m, sd.v⟩ r body = rowR (lookB (body.length + 1)) en ⟨r.place, sd.n, sd.g, sd.m, sd.v⟩ r body := by
    have e : ∀ en sd, lookB K en sd body = lookB (body.length + 1) en sd body := fun en sd => lookB_fuel _ _ _ (by omega) (by omega) en sd
    unfold rowR
    simp only [e]
  rw [hrec, hr]
  simp only [hB K (by omega)]
/-- The rows of a row without body. -/
theorem form_none {sd : Sd} {r : Rw} {n : Nat} (h : ¬ formE r n sd ≠ 0) (hb : ¬ hasB r.kind = true) : r.rows = 0 := by
  unfold formE at h
  split at h
  · exact absurd (by decide) h
  · rename_i h1
    unfold badF at h1
    rw [if_neg hb] at h1
    split at h1
    · simpa using h1
    · exact absurd rfl h1
theorem has_of {r : Rw} (h : hasB r.kind = true) (hg : ¬ r.kind = wGate) : r.kind = wRepeat ∨ r.kind = wIf := by
  unfold hasB at h
  simp only [Bool.or_eq_true, decide_eq_true_eq] at h
  rcases h with (h | h) | h
  · exact absurd h hg
  · exact .inl h
  · exact .inr h
/-- A body's answer, carried over to another body. -/
theorem row_over {f g : RecT} {en e1 : En} {sd : Sd} {r : Rw} {A A' : List Rw} {n : Int} {M : List TO} (h : rowR f en sd r A = .ok (e1, M)) (hk : r.kind = wRepeat ∨ r.kind = wIf) (hg : sd.g = false)
    (hx : ∀ en a e L, f en a A = .ok (e, L) → a.g = false → 1 ≤ a.n → ∃ L', g en a A' = .ok (e, L') ∧ Eqv L L') : (∃ a e L, f en a A = .ok (e, L) ∧ a.g = false ∧ 1 ≤ a.n) ∧ ∃ M', rowR g en sd (wrow r n) A' = .ok (e1, M') ∧ Eqv M M' := by
  rcases hk with hk | hk
  · rw [rowR_repeat _ _ _ _ _ hk] at h
    rw [rowR_repeat g en sd (wrow r n) A' hk]
    unfold repR at *
    show _ ∧ ∃ M', (if r.num < 0 then _ else _) = _ ∧ _
    split at h
    · cases h
    · rename_i hn
      rw [if_neg hn]
      split at h
      · cases h
      · rename_i h2
        cases h
        obtain ⟨L', e, hE⟩ := hx _ _ _ _ h2 hg (Nat.succ_le_succ (Nat.zero_le _))
        refine ⟨⟨_, _, _, h2, hg, Nat.succ_le_succ (Nat.zero_le _)⟩, _, by rw [e]; rfl, hE.rep _⟩
  · rw [rowR_if _ _ _ _ _ hk] at h
    rw [rowR_if g en sd (wrow r n) A' hk]
    unfold whenR at *
    simp only [show (wrow r n).name = r.name from rfl, show (wrow r n).num = r.num from rfl]
    split at h
    · cases h
    · rename_i m hm
      split at h
      · cases h
      · rename_i h1
        split at h
        · cases h
        · rename_i h2
          split at h
          · cases h
          · rename_i h3
            cases h
            obtain ⟨L', e, hE⟩ := hx _ _ _ _ h3 hg (Nat.succ_le_succ (Nat.zero_le _))
            refine ⟨⟨_, _, _, h3, hg, Nat.succ_le_succ (Nat.zero_le _)⟩, (if sd.m &&& mskN m ≠ 0 ∧ sd.v &&& mskN m ≠ valN m r.num.toNat then [] else L'), ?_, ?_⟩
            · simp only [if_neg h1, if_neg h2, e]
            · split
              · rfl
              · exact hE
/-- What is looked at in a body holds no definition. -/
theorem cl_look : ∀ (N : Nat) (A : List Rw), A.length ≤ N → ∀ (en e : En) (a : Sd) (L : List TO), lookB (A.length + 1) en a A = .ok (e, L) → a.g = false → 1 ≤ a.n → Cl A
  | _, [], _, _, _, _, _, _, _, _ => trivial
  | 0, r :: rs, h, _, _, _, _, _, _, _ => absurd h (by simp)
  | N + 1, r :: rs, hN, en, e, a, L, h, hg, hn => by
    rw [List.length_cons] at hN h
    obtain ⟨hf, r0, r1, e1, M1, M2, h1, h2, _⟩ := cons_look (by omega) h
    obtain ⟨_, k1, k2, k3⟩ := form_sh (b := a) ⟨hg, hg, rfl, rfl, Nat.le_refl _⟩ hn hf
    refine ⟨k3, r1, ?_⟩
    have hd : Cl (rs.drop r.rows.toNat) := cl_look N _ (by rw [List.length_drop]; omega) _ _ _ _ (h2 _ (Nat.lt_succ_self _)) hg hn
    have ht : Cl (rs.take r.rows.toNat) := by
      by_cases hb : hasB r.kind = true
      · obtain ⟨⟨a', e', L', g1, g2, g3⟩, _⟩ := row_over (n := 0) (g := lookB ((rs.take r.rows.toNat).length + 1)) (A' := rs.take r.rows.toNat) h1 (has_of hb k3) hg (fun en a e L hh _ _ => ⟨L, hh, rfl⟩)
        exact cl_look N _ (by rw [List.length_take]; omega) _ _ _ _ g1 g2 g3
      · rw [form_none hf hb]
        exact trivial
    have := ht.app hd
    rwa [List.take_append_drop] at this
/-- The rows with the repeat written out lead to the same operations but for where their rows stand. -/
theorem unr_look : ∀ (N : Nat) (rs : List Rw), rs.length ≤ N → ∀ (en e : En) (sd : Sd) (L : List TO), lookB (rs.length + 1) en sd rs = .ok (e, L) → sd.g = false → ∀ i more, unr rs = some (i, more) →
    ∃ L', (∀ K, more.length < K → lookB K en sd more = .ok (e, L')) ∧ Eqv L L'
  | _, [], _, _, _, _, _, _, _, i, more, hu => by rw [unr] at hu; cases hu
  | 0, r :: rs, h, _, _, _, _, _, _, _, _, _ => absurd h (by simp)
  | N + 1, r :: rs, hN, en, e, sd, L, h, hg, i, more, hu => by
    rw [List.length_cons] at hN h
    obtain ⟨hf, r0, r1, e1, M1, M2, h1, h2, rfl⟩ := cons_look (by omega) h
    have hbl : (rs.take r.rows.toNat).length = r.rows.toNat := by rw [List.length_take]; omega
    have hdl : (rs.drop r.rows.toNat).length = rs.length - r.rows.toNat := List.length_drop
    rw [unr] at hu
    split at hu
    · cases hx : unr (rs.drop r.rows.toNat) with
      | none => rw [hx] at hu; cases hu
      | some x =>
        rw [hx] at hu
        simp only [Option.map_some, Option.some.injEq, Prod.mk.injEq] at hu
        obtain ⟨_, rfl⟩ := hu
        obtain ⟨L', g, hE⟩ := unr_look N _ (by omega) _ _ _ _ (h2 _ (Nat.lt_succ_self _)) hg x.1 x.2 hx
        exact ⟨M1 ++ L', look_cons (form_more hf (by omega)) hbl h1 g, (Eqv.refl _).app hE⟩
    · rename_i hk
      split at hu
      · rename_i hr
        cases hu
        rw [rowR_repeat _ _ _ _ _ hr.1] at h1
        unfold repR at h1
        split at h1
        · cases h1
        · split at h1
          · cases h1
          · rename_i eb Lb hb
            cases h1
            obtain ⟨rfl, L', g, hE⟩ := lookB_sh _ _ _ sd _ _ _ hb ⟨hg, hg, rfl, rfl, Nat.le_succ _⟩ (Nat.succ_le_succ (Nat.zero_le _))
            refine ⟨(List.replicate r.num.toNat L').flatten ++ M2, look_rep _ _ _ _ sd L' M2 (fun K hK => ?_) h2 _, (hE.rep _).app (Eqv.refl _)⟩
            rw [← g]
            exact lookB_fuel _ _ _ hK (Nat.lt_succ_self _) _ _
      · rename_i hr
        cases hx : unr rs with
        | none => rw [hx] at hu; cases hu
        | some x =>
          obtain ⟨j, x⟩ := x
          rw [hx] at hu
          simp only [Option.map_some, Option.some.injEq, Prod.mk.injEq] at hu
          obtain ⟨_, rfl⟩ := hu
          by_cases hb : hasB r.kind = true
          · have hkk := has_of hb hk
            obtain ⟨⟨a', e', L', g1, g2, g3⟩, _⟩ := row_over (n := 0) (g := lookB ((rs.take r.rows.toNat).length + 1)) (A' := rs.take r.rows.toNat) h1 hkk hg (fun en a e L hh _ _ => ⟨L, hh, rfl⟩)
            have hcl := cl_look _ _ (Nat.le_refl _) _ _ _ _ g1 g2 g3
            have hx' : unr (rs.take r.rows.toNat ++ rs.drop r.rows.toNat) = some (j, x) := by rw [List.take_append_drop]; exact hx
            rcases unr_split _ _ _ _ hcl hx' with ⟨A', q1, rfl, q3⟩ | ⟨x', q1, q2, rfl⟩
            · rw [if_pos (by omega)]
              have hrows : r.rows + (((A' ++ rs.drop r.rows.toNat).length : Int) - rs.length) = A'.length := by rw [List.length_append]; omega
              rw [hrows]
              obtain ⟨_, M', q4, hE⟩ := row_over (n := (A'.length : Int)) (g := lookB (A'.length + 1)) (A' := A') h1 hkk hg (fun en a e L hh hag _ => by
                obtain ⟨L', g, hE⟩ := unr_look N (rs.take r.rows.toNat) (by omega) en e a L hh hag j A' q1
                exact ⟨L', g _ (Nat.lt_succ_self _), hE⟩)
              refine ⟨M' ++ M2, look_cons ?_ (by show _ = ((A'.length : Int)).toNat; omega) q4 h2, hE.app (Eqv.refl _)⟩
              have hbad : badF (wrow r (A'.length : Int)) (A'.length + (rs.drop r.rows.toNat).length) = false := by
                unfold badF
                rw [if_pos (show hasB (wrow r (A'.length : Int)).kind = true from hb)]
                have a1 : decide ((wrow r (A'.length : Int)).rows < 0) = false := decide_eq_false (by show ¬ ((A'.length : Int) < 0); omega)
                have a2 : decide (((A'.length + (rs.drop r.rows.toNat).length : Nat) : Int) < (wrow r (A'.length : Int)).rows) = false := decide_eq_false (by show ¬ (((A'.length + (rs.drop r.rows.toNat).length : Nat) : Int) < (A'.length : Int)); omega)
                rw [a1, a2]; rfl
              unfold formE at hf ⊢
              split at hf
              · exact absurd (by decide) hf
              · rw [hbad, if_neg (by decide : ¬ false = true)]
                exact hf
            · rw [if_neg (by omega)]
              obtain ⟨L', g, hE⟩ := unr_look N _ (by omega) _ _ _ _ (h2 _ (Nat.lt_succ_self _)) hg _ _ q1
              exact ⟨M1 ++ L', look_cons (form_more hf (by omega)) hbl h1 g, (Eqv.refl _).app hE⟩
          · have hz := form_none hf hb
            have hz' : r.rows.toNat = 0 := by rw [hz]; rfl
            rw [hz', List.take_zero] at h1
            rw [hz', List.drop_zero] at h2
            rw [if_neg (by omega)]
            obtain ⟨L', g, hE⟩ := unr_look N _ (by omega) _ _ _ _ (h2 _ (Nat.lt_succ_self _)) hg _ _ hx
            exact ⟨M1 ++ L', look_cons (body := []) (form_more hf (by omega)) (by rw [hz']; rfl) h1 g, (Eqv.refl _).app hE⟩
end Go.Proofs.YtdjfpghgklkejaaGreatDoor
namespace Go.Proofs.YtdjfpghgklkejaaGreatDoor

/-- A body was looked at, deeper. -/
theorem row_body {f : RecT} {en e1 : En} {sd : Sd} {r : Rw} {A : List Rw} {M : List TO} (h : rowR f en sd r A = .ok (e1, M)) (hb : hasB r.kind = true) : ∃ en a e L, f en a A = .ok (e, L) ∧ 1 ≤ a.n := by
  unfold hasB at hb
  simp only [Bool.or_eq_true, decide_eq_true_eq] at hb
  rcases hb with (hk | hk) | hk
  · unfold rowR at h
    rw [if_neg (by rw [hk]; decide), if_neg (by rw [hk]; decide), if_pos hk] at h
    split at h
    · cases h
    · split at h
      · cases h
      · rename_i h2
        exact ⟨_, _, _, _, h2, Nat.succ_le_succ (Nat.zero_le _)⟩
  · rw [rowR_repeat _ _ _ _ _ hk] at h
    unfold repR at h
    split at h
    · cases h
    · split at h
      · cases h
      · rename_i h2
        exact ⟨_, _, _, _, h2, Nat.succ_le_succ (Nat.zero_le _)⟩
  · rw [rowR_if _ _ _ _ _ hk] at h
    unfold whenR at h
    split at h
    · cases h
    · split at h
      · cases h
      · split at h
        · cases h
        · split at h
          · cases h
          · rename_i h2
            exact ⟨_, _, _, _, h2, Nat.succ_le_succ (Nat.zero_le _)⟩
theorem form_ng {sd : Sd} {r : Rw} {n : Nat} (h : ¬ formE r n sd ≠ 0) (hn : 1 ≤ sd.n) : ¬ r.kind = wGate := fun hk => by
  unfold formE at h
  split at h
  · exact absurd (by decide) h
  · split at h
    · exact absurd (by decide) h
    · split at h
      · rename_i hm
        unfold mayB at hm
        rw [if_neg (by rw [hk]; decide), if_pos (by rw [hk]; decide)] at hm
        have := of_decide_eq_true hm
        omega
      · exact absurd (by decide) h
theorem cl_any : ∀ (N : Nat) (A : List Rw), A.length ≤ N → ∀ (en e : En) (a : Sd) (L : List TO), lookB (A.length + 1) en a A = .ok (e, L) → 1 ≤ a.n → Cl A
  | _, [], _, _, _, _, _, _, _ => trivial
  | 0, r :: rs, h, _, _, _, _, _, _ => absurd h (by simp)
  | N + 1, r :: rs, hN, en, e, a, L, h, hn => by
    rw [List.length_cons] at hN h
    obtain ⟨hf, r0, r1, e1, M1, M2, h1, h2, _⟩ := cons_look (by omega) h
    refine ⟨form_ng hf hn, r1, ?_⟩
    have hd : Cl (rs.drop r.rows.toNat) := cl_any N _ (by rw [List.length_drop]; omega) _ _ _ _ (h2 _ (Nat.lt_succ_self _)) hn
    have ht : Cl (rs.take r.rows.toNat) := by
      by_cases hb : hasB r.kind = true
      · obtain ⟨en', a', e', L', g1, g3⟩ := row_body h1 hb
        exact cl_any N _ (by rw [List.length_take]; omega) _ _ _ _ g1 g3
      · rw [form_none hf hb]
        exact trivial
    have := ht.app hd
    rwa [List.take_append_drop] at this
/-- The rows ahead of the one that is written out: those in whose bodies it stands are longer by d. -/
def adj (d : Int) : Nat → List Rw → List Rw
  | n + 1, r :: rs => (if ((n + 1 : Nat) : Int) ≤ r.rows then wrow r (r.rows + d) else r) :: adj d n rs
  | _, _ => []
theorem adj_cl (d : Int) : ∀ (A B : List Rw) (n : Nat), Cl A → adj d (A.length + n) (A ++ B) = A ++ adj d n B
  | [], B, n, _ => by rw [List.length_nil, Nat.zero_add]; rfl
  | r :: rs, B, n, h => by
    obtain ⟨_, h2, h3⟩ := h
    rw [List.length_cons, show rs.length + 1 + n = (rs.length + n) + 1 by omega, List.cons_append]
    show (if _ then _ else _) :: adj d (rs.length + n) (rs ++ B) = r :: (rs ++ adj d n B)
    rw [if_neg (by omega), adj_cl d rs B n h3]
/-- The repeat that is written out. -/
structure Unf (rs : List Rw) (i : Nat) (more : List Rw) (t : Rw) : Prop where
  at_ : rs[i]? = some t
  kind : t.kind = wRepeat
  num : 0 ≤ t.num ∧ t.num ≤ 20
  rows : 0 ≤ t.rows ∧ i + 1 + t.rows.toNat ≤ rs.length
  is : more = adj ((t.num - 1) * t.rows - 1) i rs ++ ((List.replicate t.num.toNat ((rs.drop (i + 1)).take t.rows.toNat)).flatten ++ rs.drop (i + 1 + t.rows.toNat))
theorem rep_len (n : Nat) (l : List Rw) : (List.replicate n l).flatten.length = n * l.length := by
  induction n with
  | zero => simp
  | succ n ih => rw [List.replicate_succ, List.flatten_cons, List.length_append, ih, Nat.succ_mul, Nat.add_comm]
theorem adj_len (d : Int) : ∀ (n : Nat) (l : List Rw), n ≤ l.length → (adj d n l).length = n
  | 0, l, _ => by unfold adj; rfl
  | n + 1, [], h => absurd h (by simp)
  | n + 1, r :: rs, h => by
    show (adj d n rs).length + 1 = n + 1
    rw [adj_len d n rs (by rw [List.length_cons] at h; omega)]
theorem Unf.len {rs : List Rw} {i : Nat} {more : List Rw} {t : Rw} (h : Unf rs i more t) : (more.length : Int) - rs.length = (t.num - 1) * t.rows - 1 := by
  obtain ⟨h1, _, h3, h4, h5⟩ := h
  have a1 : more.length = i + (t.num.toNat * t.rows.toNat + (rs.length - (i + 1 + t.rows.toNat))) := by
    rw [h5, List.length_append, List.length_append, rep_len, adj_len _ _ _ (by omega), List.length_take, List.length_drop, List.length_drop, Nat.min_eq_left (by omega)]
  obtain ⟨a, ha⟩ : ∃ a : Nat, t.num = a := ⟨t.num.toNat, by omega⟩
  obtain ⟨b, hb⟩ : ∃ b : Nat, t.rows = b := ⟨t.rows.toNat, by omega⟩
  have a2 : t.num.toNat = a := by omega
  have b2 : t.rows.toNat = b := by omega
  rw [a2, b2] at a1
  rw [b2] at h4
  rw [ha, hb]
  have e : ((a : Int) - 1) * b = (a * b : Nat) - b := by rw [Int.sub_mul]; simp
  rw [e, a1]
  omega
theorem adj_app (d : Int) : ∀ (A B : List Rw) (n : Nat), n ≤ A.length → adj d n (A ++ B) = adj d n A
  | A, B, 0, _ => by unfold adj; rfl
  | [], B, n + 1, h => absurd h (by simp)
  | r :: rs, B, n + 1, h => by
    rw [List.cons_append]
    show (_ :: adj d n (rs ++ B)) = _ :: adj d n rs
    rw [adj_app d rs B n (by rw [List.length_cons] at h; omega)]
theorem Unf.app {A B : List Rw} {i : Nat} {more : List Rw} {t : Rw} (h : Unf A i more t) : Unf (A ++ B) i (more ++ B) t := by
  have hr := h.rows
  refine ⟨?_, h.kind, h.num, ⟨hr.1, by rw [List.length_append]; omega⟩, ?_⟩
  · rw [List.getElem?_append_left (by omega)]; exact h.at_
  · rw [adj_app _ _ _ _ (by omega), List.drop_append_of_le_length (by omega), List.drop_append_of_le_length (by omega), List.take_append_of_le_length (by rw [List.length_drop]; omega)]
    conv => lhs; rw [h.is]
    simp only [List.append_assoc]
theorem Unf.pre {A B : List Rw} {i : Nat} {more : List Rw} {t : Rw} (h : Unf B i more t) (hc : Cl A) : Unf (A ++ B) (A.length + i) (A ++ more) t := by
  have hr := h.rows
  refine ⟨?_, h.kind, h.num, ⟨hr.1, by rw [List.length_append]; omega⟩, ?_⟩
  · rw [List.getElem?_append_right (by omega), Nat.add_sub_cancel_left]; exact h.at_
  · rw [adj_cl _ _ _ _ hc, show A.length + i + 1 = A.length + (i + 1) by omega, show A.length + (i + 1) + t.rows.toNat = A.length + (i + 1 + t.rows.toNat) by omega, List.drop_append, List.drop_append]
    have d1 : A.drop (A.length + (i + 1)) = [] := List.drop_eq_nil_of_le (by omega)
    have d2 : A.drop (A.length + (i + 1 + t.rows.toNat)) = [] := List.drop_eq_nil_of_le (by omega)
    conv => lhs; rw [h.is]
    simp [List.append_assoc, d1, d2]
theorem Unf.cons {rs : List Rw} {i : Nat} {more : List Rw} {t r : Rw} (h : Unf rs i more t) : Unf (r :: rs) (1 + i) ((if i < r.rows.toNat then wrow r (r.rows + ((more.length : Int) - rs.length)) else r) :: more) t := by
  have hr := h.rows
  rw [h.len, Nat.add_comm 1 i]
  refine ⟨by rw [List.getElem?_cons_succ]; exact h.at_, h.kind, h.num, ⟨hr.1, by rw [List.length_cons]; omega⟩, ?_⟩
  show _ = ((if _ then _ else _) :: adj _ i rs) ++ _
  rw [List.drop_succ_cons, show i + 1 + 1 + t.rows.toNat = (i + 1 + t.rows.toNat) + 1 by omega, List.drop_succ_cons, List.cons_append, ← h.is]
  congr 1
  by_cases hi : i < r.rows.toNat
  · rw [if_pos hi, if_pos (by omega)]
  · rw [if_neg hi, if_neg (by omega)]
theorem unr_flat : ∀ (N : Nat) (rs : List Rw), rs.length ≤ N → ∀ (en e : En) (sd : Sd) (L : List TO), lookB (rs.length + 1) en sd rs = .ok (e, L) → ∀ i more, unr rs = some (i, more) → ∃ t, Unf rs i more t
  | _, [], _, _, _, _, _, _, i, more, hu => by rw [unr] at hu; cases hu
  | 0, r :: rs, h, _, _, _, _, _, _, _, _ => absurd h (by simp)
  | N + 1, r :: rs, hN, en, e, sd, L, h, i, more, hu => by
    rw [List.length_cons] at hN h
    obtain ⟨hf, r0, r1, e1, M1, M2, h1, h2, rfl⟩ := cons_look (by omega) h
    have hbl : (rs.take r.rows.toNat).length = r.rows.toNat := by rw [List.length_take]; omega
    have hdl : (rs.drop r.rows.toNat).length = rs.length - r.rows.toNat := List.length_drop
    rw [unr] at hu
    split at hu
    · rename_i hk
      cases hx : unr (rs.drop r.rows.toNat) with
      | none => rw [hx] at hu; cases hu
      | some x =>
        obtain ⟨j, x⟩ := x
        rw [hx] at hu
        simp only [Option.map_some, Option.some.injEq, Prod.mk.injEq] at hu
        obtain ⟨rfl, rfl⟩ := hu
        obtain ⟨t, ht⟩ := unr_flat N _ (by omega) _ _ _ _ (h2 _ (Nat.lt_succ_self _)) j x hx
        obtain ⟨en', a', e', L', g1, g3⟩ := row_body h1 (by unfold hasB; rw [hk]; decide)
        have hcl := cl_any _ _ (Nat.le_refl _) _ _ _ _ g1 g3
        refine ⟨t, ?_, ht.kind, ht.num, ?_, ?_⟩
        · have := ht.at_
          rw [List.getElem?_drop] at this
          rw [hbl, show 1 + r.rows.toNat + j = (r.rows.toNat + j) + 1 by omega, List.getElem?_cons_succ]
          exact this
        · have := ht.rows
          rw [List.length_cons, hbl]
          omega
        · rw [ht.is, hbl, show 1 + r.rows.toNat + j = (r.rows.toNat + j) + 1 by omega]
          show _ = ((if _ then _ else _) :: adj _ (r.rows.toNat + j) rs) ++ _
          have e2 : adj ((t.num - 1) * t.rows - 1) (r.rows.toNat + j) rs = rs.take r.rows.toNat ++ adj ((t.num - 1) * t.rows - 1) j (rs.drop r.rows.toNat) := by
            have := adj_cl ((t.num - 1) * t.rows - 1) (rs.take r.rows.toNat) (rs.drop r.rows.toNat) j hcl
            rwa [List.take_append_drop, hbl] at this
          rw [if_neg (by omega), e2, List.drop_drop, List.drop_drop]
          simp only [List.cons_append, List.append_assoc, List.drop_succ_cons]
          rw [show r.rows.toNat + (j + 1) = r.rows.toNat + j + 1 by omega, show r.rows.toNat + (j + 1 + t.rows.toNat) = r.rows.toNat + j + 1 + t.rows.toNat by omega, show r.rows.toNat + j + 1 + 1 + t.rows.toNat = (r.rows.toNat + j + 1 + t.rows.toNat) + 1 by omega, List.drop_succ_cons]
    · rename_i hk
      split at hu
      · rename_i hr
        cases hu
        have hnum : 0 ≤ r.num := by
          rw [rowR_repeat _ _ _ _ _ hr.1] at h1
          unfold repR at h1
          split at h1
          · cases h1
          · omega
        refine ⟨r, rfl, hr.1, ⟨hnum, hr.2⟩, ⟨r0, by rw [List.length_cons]; omega⟩, ?_⟩
        rw [show 0 + 1 + r.rows.toNat = r.rows.toNat + 1 by omega, List.drop_succ_cons, List.drop_succ_cons, List.drop_zero]
        unfold adj
        rfl
      · rename_i hr
        cases hx : unr rs with
        | none => rw [hx] at hu; cases hu
        | some x =>
          obtain ⟨j, x⟩ := x
          rw [hx] at hu
          simp only [Option.map_some, Option.some.injEq, Prod.mk.injEq] at hu
          obtain ⟨rfl, rfl⟩ := hu
          have hU : ∃ t, Unf rs j x t := by
            by_cases hb : hasB r.kind = true
            · obtain ⟨en', a', e', L', g1, g3⟩ := row_body h1 hb
              have hcl := cl_any _ _ (Nat.le_refl _) _ _ _ _ g1 g3
              have hx' : unr (rs.take r.rows.toNat ++ rs.drop r.rows.toNat) = some (j, x) := by rw [List.take_append_drop]; exact hx
              rcases unr_split _ _ _ _ hcl hx' with ⟨A', q1, rfl, q3⟩ | ⟨x', q1, q2, rfl⟩
              · obtain ⟨t, ht⟩ := unr_flat N _ (by omega) _ _ _ _ g1 j A' q1
                have := ht.app (B := rs.drop r.rows.toNat)
                rw [List.take_append_drop] at this
                exact ⟨t, this⟩
              · obtain ⟨t, ht⟩ := unr_flat N _ (by omega) _ _ _ _ (h2 _ (Nat.lt_succ_self _)) _ _ q1
                have := ht.pre hcl
                rw [List.take_append_drop, show (rs.take r.rows.toNat).length + (j - (rs.take r.rows.toNat).length) = j by omega] at this
                exact ⟨t, this⟩
            · have hz' : r.rows.toNat = 0 := by rw [form_none hf hb]; rfl
              rw [hz', List.drop_zero] at h2
              exact unr_flat N _ (by omega) _ _ _ _ (h2 _ (Nat.lt_succ_self _)) _ _ hx
          obtain ⟨t, ht⟩ := hU
          exact ⟨t, ht.cons⟩
end Go.Proofs.YtdjfpghgklkejaaGreatDoor
namespace Go.Proofs.YtdjfpghgklkejaaGreatDoor

/-- Rows that hold their bodies. -/
def Cw : List Rw → Prop
  | [] => True
  | r :: rs => 0 ≤ r.rows ∧ r.rows.toNat ≤ rs.length ∧ Cw rs
theorem Cw.app : ∀ {A B : List Rw}, Cw A → Cw B → Cw (A ++ B)
  | [], _, _, h => h
  | r :: rs, B, h, g => ⟨h.1, by have e : (rs ++ B).length = rs.length + B.length := List.length_append; have := h.2.1; show _ ≤ (rs ++ B).length; omega, Cw.app h.2.2 g⟩
theorem cw_look : ∀ (N : Nat) (A : List Rw), A.length ≤ N → ∀ (en e : En) (a : Sd) (L : List TO), lookB (A.length + 1) en a A = .ok (e, L) → Cw A
  | _, [], _, _, _, _, _, _ => trivial
  | 0, r :: rs, h, _, _, _, _, _ => absurd h (by simp)
  | N + 1, r :: rs, hN, en, e, a, L, h => by
    rw [List.length_cons] at hN h
    obtain ⟨hf, r0, r1, e1, M1, M2, h1, h2, _⟩ := cons_look (by omega) h
    refine ⟨r0, r1, ?_⟩
    have hd : Cw (rs.drop r.rows.toNat) := cw_look N _ (by rw [List.length_drop]; omega) _ _ _ _ (h2 _ (Nat.lt_succ_self _))
    have ht : Cw (rs.take r.rows.toNat) := by
      by_cases hb : hasB r.kind = true
      · obtain ⟨en', a', e', L', g1, _⟩ := row_body h1 hb
        exact cw_look N _ (by rw [List.length_take]; omega) _ _ _ _ g1
      · rw [form_none hf hb]
        exact trivial
    have := ht.app hd
    rwa [List.take_append_drop] at this
theorem Cw.at_ : ∀ {rs : List Rw} (_ : Cw rs) (k : Nat) (hk : k < rs.length), 0 ≤ rs[k].rows ∧ k + 1 + rs[k].rows.toNat ≤ rs.length
  | r :: rs, h, 0, _ => ⟨h.1, by rw [List.length_cons]; have := h.2.1; show 0 + 1 + r.rows.toNat ≤ _; omega⟩
  | r :: rs, h, k + 1, hk => by
    have := Cw.at_ h.2.2 k (by rw [List.length_cons] at hk; omega)
    rw [List.length_cons]
    show 0 ≤ rs[k].rows ∧ k + 1 + 1 + rs[k].rows.toNat ≤ _
    omega
/-- The scan has come to k: what is found behind k is what is found at all. -/
structure Rch (rs : List Rw) (k : Nat) : Prop where
  le : k ≤ rs.length
  no : unr (rs.drop k) = none → unr rs = none
  yes : ∀ i x, unr (rs.drop k) = some (i, x) → ∃ more, unr rs = some (k + i, more)
theorem Rch.zero (rs : List Rw) : Rch rs 0 := ⟨Nat.zero_le _, fun h => h, fun i x h => ⟨x, by rw [Nat.zero_add]; exact h⟩⟩
theorem Rch.end_ {rs : List Rw} (h : Rch rs rs.length) : unr rs = none := h.no (by rw [List.drop_length, unr])
theorem Rch.hit {rs : List Rw} {k : Nat} (h : Rch rs k) (hk : k < rs.length) (h1 : rs[k].kind = wRepeat) (h2 : rs[k].num ≤ 20) : ∃ more, unr rs = some (k, more) := by
  have e : ∃ y, unr (rs.drop k) = some (0, y) := by
    rw [List.drop_eq_getElem_cons hk, unr, if_neg (by rw [h1]; decide), if_pos ⟨h1, h2⟩]
    exact ⟨_, rfl⟩
  obtain ⟨y, e⟩ := e
  exact h.yes 0 y e
theorem Rch.next {rs : List Rw} {k : Nat} (h : Rch rs k) (hk : k < rs.length) (h1 : ¬ rs[k].kind = wGate) (h2 : ¬ (rs[k].kind = wRepeat ∧ rs[k].num ≤ 20)) : Rch rs (k + 1) := by
  refine ⟨hk, fun hn => h.no ?_, fun i x hi => ?_⟩
  · rw [List.drop_eq_getElem_cons hk, unr, if_neg h1, if_neg h2, hn]; rfl
  · have e : ∃ y, unr (rs.drop k) = some (1 + i, y) := by
      rw [List.drop_eq_getElem_cons hk, unr, if_neg h1, if_neg h2, hi]
      exact ⟨_, rfl⟩
    obtain ⟨y, e⟩ := e
    obtain ⟨more, hm⟩ := h.yes _ _ e
    exact ⟨more, by rw [hm]; congr 2; omega⟩
theorem Rch.gate {rs : List Rw} {k : Nat} (h : Rch rs k) (hk : k < rs.length) (h1 : rs[k].kind = wGate) (hr : k + 1 + rs[k].rows.toNat ≤ rs.length) : Rch rs (k + rs[k].rows.toNat + 1) := by
  have ed : rs.drop (k + rs[k].rows.toNat + 1) = (rs.drop (k + 1)).drop rs[k].rows.toNat := by rw [List.drop_drop]; congr 1; omega
  have el : ((rs.drop (k + 1)).take rs[k].rows.toNat).length = rs[k].rows.toNat := by rw [List.length_take, List.length_drop]; omega
  refine ⟨by omega, fun hn => h.no ?_, fun i x hi => ?_⟩
  · rw [List.drop_eq_getElem_cons hk, unr, if_pos h1, ← ed, hn]; rfl
  · have e : ∃ y, unr (rs.drop k) = some (1 + rs[k].rows.toNat + i, y) := by
      rw [List.drop_eq_getElem_cons hk, unr, if_pos h1, ← ed, hi, el]
      exact ⟨_, rfl⟩
    obtain ⟨y, e⟩ := e
    obtain ⟨more, hm⟩ := h.yes _ _ e
    exact ⟨more, by rw [hm]; congr 2; omega⟩
theorem adj_at (d : Int) : ∀ (n : Nat) (rs : List Rw) (k : Nat) (_ : k < n) (hl : k < rs.length), (adj d n rs)[k]? = some (if (n : Int) ≤ (k : Int) + rs[k].rows then wrow rs[k] (rs[k].rows + d) else rs[k])
  | 0, _, _, hk, _ => absurd hk (Nat.not_lt_zero _)
  | n + 1, [], _, _, hl => absurd hl (Nat.not_lt_zero _)
  | n + 1, r :: rs, 0, _, _ => by
    show some (if ((n + 1 : Nat) : Int) ≤ r.rows then wrow r (r.rows + d) else r) = some (if ((n + 1 : Nat) : Int) ≤ ((0 : Nat) : Int) + r.rows then wrow r (r.rows + d) else r)
    rw [show ((0 : Nat) : Int) + r.rows = r.rows by omega]
  | n + 1, r :: rs, k + 1, hk, hl => by
    have hl' : k < rs.length := by rw [List.length_cons] at hl; omega
    have ih := adj_at d n rs k (by omega) hl'
    show (adj d n rs)[k]? = some (if ((n + 1 : Nat) : Int) ≤ ((k + 1 : Nat) : Int) + rs[k].rows then wrow rs[k] (rs[k].rows + d) else rs[k])
    rw [ih]
    by_cases h : (n : Int) ≤ (k : Int) + rs[k].rows
    · rw [if_pos h, if_pos (by omega)]
    · rw [if_neg h, if_neg (by omega)]
end Go.Proofs.YtdjfpghgklkejaaGreatDoor
namespace Go.Proofs.YtdjfpghgklkejaaGreatDoor
open Go.RowKit Go.Sort

/-- Rows, each with the value that its Args have. -/
abbrev RVs := List (Rw × Value)
def rz (ts : RVs) : List Value := rws (ts.map Prod.fst) (ts.map Prod.snd)
theorem rz_cons (t : Rw × Value) (ts : RVs) : rz (t :: ts) = rwc t.1 t.2 ++ rz ts := rfl
theorem rz_app : ∀ (a b : RVs), rz (a ++ b) = rz a ++ rz b
  | [], b => rfl
  | t :: a, b => by rw [List.cons_append, rz_cons, rz_cons, rz_app a b, List.append_assoc]
theorem rz_len (ts : RVs) : (rz ts).length = ts.length * 6 := by
  rw [rz, rws_length _ _ (by rw [List.length_map, List.length_map]), List.length_map]
theorem rz_set (ts : RVs) (j : Nat) (h : j < ts.length) (x : Int) : (rz ts).set (j * 6 + 4) (.int .i64 x) = rz (ts.set j (wrow ts[j].1 x, ts[j].2)) := by
  rw [rz, rws_set _ _ (by rw [List.length_map, List.length_map]) j (by rw [List.length_map]; exact h) x, rz, List.map_set, List.map_set, List.getElem_map]
  congr 1
  apply List.ext_getElem?
  intro i
  rw [List.getElem?_set]
  by_cases e : j = i
  · subst e
    rw [if_pos rfl, if_pos (by rw [List.length_map]; exact h), List.getElem?_map, List.getElem?_eq_getElem h]
    rfl
  · rw [if_neg e]
theorem rz_get (ts : RVs) (j : Nat) (h : j < ts.length) : (rz ts)[j * 6 + 4]? = some (.int .i64 ts[j].1.rows) := by
  have := (rws_at (ts.map Prod.fst) (ts.map Prod.snd) (by rw [List.length_map, List.length_map]) j (by rw [List.length_map]; exact h) (by rw [List.length_map]; exact h)).2.2.2.2.1
  rw [rz, this, List.getElem_map]
theorem rz_one (ts : RVs) (h : ∀ t ∈ ts, ∃ a n c, t.2 = .slice a n c) : ∀ u ∈ rz ts, u.oneCell' = true := by
  induction ts with
  | nil => intro u hu; cases hu
  | cons t ts ih =>
    obtain ⟨r, v⟩ := t
    obtain ⟨a, n, c, e⟩ := h _ List.mem_cons_self
    intro u hu
    rw [rz_cons, List.mem_append] at hu
    rcases hu with hu | hu
    · have e : v = .slice a n c := e
      subst e
      simp only [rwc, List.mem_cons, List.not_mem_nil, or_false] at hu
      rcases hu with rfl | rfl | rfl | rfl | rfl | rfl <;> rfl
    · exact ih (fun t ht => h t (List.mem_cons_of_mem _ ht)) u hu
theorem rr_news {W : World} {b o : Nat} {rs : List Rw} {vs : List Value} (h : RR W b o rs vs) (hl : rs.length = vs.length) : ∀ j u, (rws rs vs)[j]? = some u → W.cell? ⟨b, o + j, none⟩ = some u := by
  intro j u hu
  have hj : j < (rws rs vs).length := (List.getElem?_eq_some_iff.1 hu).1
  rw [rws_length _ _ hl] at hj
  obtain ⟨q, hq, hc⟩ : ∃ q, q < rs.length ∧ (j = q * 6 ∨ j = q * 6 + 1 ∨ j = q * 6 + 2 ∨ j = q * 6 + 3 ∨ j = q * 6 + 4 ∨ j = q * 6 + 5) := ⟨j / 6, by omega, by omega⟩
  obtain ⟨a0, a1, a2, a3, a4, a5⟩ := rws_at rs vs hl q hq (by omega)
  rcases hc with rfl | rfl | rfl | rfl | rfl | rfl
  · rw [a0] at hu; rw [h.c0 q hq]; exact hu
  · rw [a1] at hu; rw [← Nat.add_assoc, h.c1 q hq]; exact hu
  · rw [a2] at hu; rw [← Nat.add_assoc, h.c2 q hq (by omega)]; exact hu
  · rw [a3] at hu; rw [← Nat.add_assoc, h.c3 q hq]; exact hu
  · rw [a4] at hu; rw [← Nat.add_assoc, h.c4 q hq]; exact hu
  · rw [a5] at hu; rw [← Nat.add_assoc, h.c5 q hq]; exact hu
theorem add_pl (b o j : Nat) : (⟨b, o, none⟩ : Addr).add j = ⟨b, o + j, none⟩ := WideShapes.add_plain ..
/-- Rows that lie at b from o on. -/
structure RZ (W : World) (b o : Nat) (ts : RVs) : Prop where
  at_ : RR W b o (ts.map Prod.fst) (ts.map Prod.snd)
  sa : ∀ t ∈ ts, SA W t.2 t.1.args
theorem RZ.on {W W' : World} {b o : Nat} {ts : RVs} (h : RZ W b o ts) (hb : Below W.heap.size W W') : RZ W' b o ts := ⟨h.at_.below hb, fun t ht => (h.sa t ht).below hb⟩
theorem RZ.one {W : World} {b o : Nat} {ts : RVs} (h : RZ W b o ts) : ∀ t ∈ ts, ∃ a n c, t.2 = .slice a n c := fun t ht => by
  obtain ⟨a, c, e, _⟩ := h.sa t ht
  exact ⟨a, _, c, e⟩
theorem RZ.drop {W : World} {b o : Nat} {ts : RVs} (h : RZ W b o ts) (k : Nat) : RZ W b (o + k * 6) (ts.drop k) :=
  ⟨by rw [List.map_drop, List.map_drop]; exact h.at_.drop k, fun t ht => h.sa t (List.mem_of_mem_drop ht)⟩
theorem RZ.take {W : World} {b o : Nat} {ts : RVs} (h : RZ W b o ts) (k : Nat) : RZ W b o (ts.take k) :=
  ⟨by rw [List.map_take, List.map_take]; exact h.at_.take k, fun t ht => h.sa t (List.mem_of_mem_take ht)⟩
theorem RZ.news {W : World} {b o : Nat} {ts : RVs} (h : RZ W b o ts) : ∀ j u, (rz ts)[j]? = some u → W.cell? ((⟨b, o, none⟩ : Addr).add j) = some u := fun j u hu => by
  rw [add_pl]
  exact rr_news h.at_ (by rw [List.length_map, List.length_map]) j u hu
/-- Where a cut of a slice lies: at its end, with no room left, it lies where the slice does. -/
def cutO (o c k : Nat) : Nat := if c = k then o else o + k * 6
theorem RZ.cut {W : World} {b o : Nat} {ts : RVs} (h : RZ W b o ts) {c : Nat} (hc : ts.length ≤ c) (k : Nat) : RZ W b (cutO o c k) (ts.drop k) := by
  unfold cutO
  split
  · rename_i e
    have e0 : ts.drop k = [] := List.drop_eq_nil_of_le (by omega)
    have := h.take 0
    rw [e0]
    exact this
  · exact h.drop k
theorem run_cut_lo (b o n c k : Nat) (hk : k ≤ n) (w : World) : (Instr.slice 22 (.slice (some ⟨b, o, none⟩) n c) (some (.int .i64 (k : Int))) none none).run Tryz.prog w = .ok (.slice (some ⟨b, cutO o c k, none⟩) (n - k) (c - k)) w := by
  rw [run_slice_l w 22 _ n c (by kernel_rfl) .i64 (k : Int) (by omega) (by omega), show Tryz.prog.elem 22 = 79 by kernel_rfl, Tryz.sizeOf79]
  simp only [Result.andThen, sliced, Int.toNat_natCast, cutO]
  split
  · rfl
  · rw [Option.map_some, add_pl]
theorem run_cut_hi (b o n c k : Nat) (hk : k ≤ c) (w : World) : (Instr.slice 22 (.slice (some ⟨b, o, none⟩) n c) none (some (.int .i64 (k : Int))) none).run Tryz.prog w = .ok (.slice (some ⟨b, o, none⟩) k c) w := by
  rw [run_slice_h w 22 _ n c (by kernel_rfl) .i64 (k : Int) (by omega) (by omega), show Tryz.prog.elem 22 = 79 by kernel_rfl, Tryz.sizeOf79]
  simp only [Result.andThen, sliced, Int.toNat_natCast]
  split
  · rfl
  · rw [Option.map_some, add_pl, Nat.zero_mul]; rfl
theorem run_cut_both (b o n c k m : Nat) (hk : k ≤ m) (hm : m ≤ c) (w : World) : (Instr.slice 22 (.slice (some ⟨b, o, none⟩) n c) (some (.int .i64 (k : Int))) (some (.int .i64 (m : Int))) none).run Tryz.prog w = .ok (.slice (some ⟨b, cutO o c k, none⟩) (m - k) (c - k)) w := by
  rw [run_slice_lh w 22 _ n c (by kernel_rfl) .i64 .i64 (k : Int) (m : Int) (by omega) (by omega) (by omega), show Tryz.prog.elem 22 = 79 by kernel_rfl, Tryz.sizeOf79]
  simp only [Result.andThen, sliced, Int.toNat_natCast, cutO]
  split
  · rfl
  · rw [Option.map_some, add_pl]
/-- The rows ahead of the repeat, longer where it stands in them; all behind as it is. -/
def adjT (d : Int) : Nat → RVs → RVs
  | n + 1, t :: ts => (if ((n + 1 : Nat) : Int) ≤ t.1.rows then (wrow t.1 (t.1.rows + d), t.2) else t) :: adjT d n ts
  | _, ts => ts
theorem adjT_len (d : Int) : ∀ (n : Nat) (ts : RVs), (adjT d n ts).length = ts.length
  | 0, ts => by cases ts <;> rfl
  | n + 1, [] => rfl
  | n + 1, t :: ts => by
    show (_ :: adjT d n ts).length = _
    rw [List.length_cons, adjT_len d n ts, List.length_cons]
theorem adjT_app (d : Int) : ∀ (a b : RVs), (adjT d a.length (a ++ b)) = adjT d a.length a ++ b
  | [], b => by cases b <;> rfl
  | t :: a, b => by
    show _ :: adjT d a.length (a ++ b) = (_ :: adjT d a.length a) ++ b
    rw [adjT_app d a b]
    rfl
theorem adjT_fst (d : Int) : ∀ (a : RVs), (adjT d a.length a).map Prod.fst = adj d a.length (a.map Prod.fst)
  | [] => rfl
  | t :: a => by
    show List.map Prod.fst (_ :: adjT d a.length a) = _ :: adj d a.length (a.map Prod.fst)
    rw [List.map_cons, adjT_fst d a]
    congr 1
    show Prod.fst (if _ then _ else _) = (if ((a.length + 1 : Nat) : Int) ≤ t.1.rows then wrow t.1 (t.1.rows + d) else t.1)
    split <;> rfl
theorem adjT_at (d : Int) : ∀ (n : Nat) (ts : RVs) (k : Nat) (hk : k < ts.length), k < n → (adjT d n ts)[k]? = some (if (n : Int) ≤ (k : Int) + ts[k].1.rows then (wrow ts[k].1 (ts[k].1.rows + d), ts[k].2) else ts[k])
  | 0, _, _, _, h => absurd h (Nat.not_lt_zero _)
  | n + 1, [], k, hk, _ => absurd hk (Nat.not_lt_zero _)
  | n + 1, t :: ts, 0, _, _ => by
    show some _ = some _
    congr 1
    show (if ((n + 1 : Nat) : Int) ≤ t.1.rows then _ else _) = (if ((n + 1 : Nat) : Int) ≤ ((0 : Nat) : Int) + t.1.rows then _ else _)
    by_cases e : ((n + 1 : Nat) : Int) ≤ t.1.rows
    · rw [if_pos e, if_pos (by omega)]; rfl
    · rw [if_neg e, if_neg (by omega)]; rfl
  | n + 1, t :: ts, k + 1, hk, hn => by
    have hk' : k < ts.length := by rw [List.length_cons] at hk; omega
    have := adjT_at d n ts k hk' (by omega)
    show (adjT d n ts)[k]? = _
    rw [this]
    congr 1
    show _ = (if ((n + 1 : Nat) : Int) ≤ ((k + 1 : Nat) : Int) + ts[k].1.rows then _ else _)
    by_cases e : (n : Int) ≤ (k : Int) + ts[k].1.rows
    · rw [if_pos e, if_pos (by omega)]; rfl
    · rw [if_neg e, if_neg (by omega)]; rfl
theorem adjT_sa {W : World} (d : Int) : ∀ (n : Nat) (ts : RVs), (∀ t ∈ ts, SA W t.2 t.1.args) → ∀ t ∈ adjT d n ts, SA W t.2 t.1.args
  | 0, [], h => h
  | 0, _ :: _, h => h
  | n + 1, [], h => h
  | n + 1, t :: ts, h => by
    intro x hx
    rcases List.mem_cons.1 (show x ∈ _ :: adjT d n ts from hx) with rfl | hx
    · have := h t List.mem_cons_self
      split
      · exact this
      · exact this
    · exact adjT_sa d n ts (fun t ht => h t (List.mem_cons_of_mem _ ht)) x hx
/-- The rows while they are gone over: k of them are done. -/
def adjK (d : Int) (i k : Nat) (ts : RVs) : RVs := (adjT d i ts).take k ++ ts.drop k
theorem adjK_zero (d : Int) (i : Nat) (ts : RVs) : adjK d i 0 ts = ts := rfl
theorem adjK_len (d : Int) (i k : Nat) (ts : RVs) : (adjK d i k ts).length = ts.length := by
  rw [adjK, List.length_append, List.length_take, List.length_drop, adjT_len]; omega
theorem adjK_at (d : Int) (i k : Nat) (ts : RVs) (h : k < ts.length) : (adjK d i k ts)[k]? = some ts[k] := by
  rw [adjK, List.getElem?_append_right (by rw [List.length_take]; omega), List.length_take, adjT_len, Nat.min_eq_left (by omega), Nat.sub_self, List.getElem?_drop, Nat.add_zero, List.getElem?_eq_getElem h]
theorem adjK_next (d : Int) (i k : Nat) (ts : RVs) (h : k < ts.length) (hi : k < i) : adjK d i (k + 1) ts = (adjK d i k ts).set k (if (i : Int) ≤ (k : Int) + ts[k].1.rows then (wrow ts[k].1 (ts[k].1.rows + d), ts[k].2) else ts[k]) := by
  have hl : k < (adjT d i ts).length := by rw [adjT_len]; exact h
  have e := adjT_at d i ts k h hi
  rw [List.getElem?_eq_getElem hl] at e
  have e := Option.some.inj e
  rw [← e, adjK, adjK, List.set_append_right _ _ (by rw [List.length_take]; omega), List.length_take, Nat.min_eq_left (by omega), Nat.sub_self, List.take_succ_eq_append_getElem hl, List.append_assoc]
  congr 1
  rw [List.drop_eq_getElem_cons h]
  rfl
theorem adjK_same (d : Int) (i k : Nat) (ts : RVs) (h : k < ts.length) (hi : k < i) (hn : ¬ (i : Int) ≤ (k : Int) + ts[k].1.rows) : adjK d i (k + 1) ts = adjK d i k ts := by
  rw [adjK_next d i k ts h hi, if_neg hn]
  have hk := adjK_at d i k ts h
  apply List.ext_getElem?
  intro j
  rw [List.getElem?_set]
  by_cases e : k = j
  · subst e
    rw [if_pos rfl, if_pos (by rw [adjK_len]; exact h), hk]
  · rw [if_neg e]
theorem adjK_end (d : Int) (a b : RVs) : adjK d a.length a.length (a ++ b) = adjT d a.length a ++ b := by
  rw [adjK, adjT_app, List.take_left' (adjT_len d _ _), List.drop_left]
/-- Owned rows can be read. -/
theorem own_rz {W : World} {B : Nat} {v : Value} {ts : RVs} (h : W.ownsRow B 79 6 v ts.length (rz ts)) (hs : ∀ t ∈ ts, SA W t.2 t.1.args) : SR W v (ts.map Prod.fst) := by
  have hl : (ts.map Prod.fst).length = (ts.map Prod.snd).length := by rw [List.length_map, List.length_map]
  have hsa : ∀ k (h : k < (ts.map Prod.fst).length) (h' : k < (ts.map Prod.snd).length), SA W (ts.map Prod.snd)[k] (ts.map Prod.fst)[k].args := fun k h h' => by
    rw [List.getElem_map, List.getElem_map]
    exact hs _ (List.getElem_mem _)
  have hn : (ts.map Prod.fst).length = ts.length := List.length_map _
  rcases Nat.eq_zero_or_pos ts.length with h0 | h0
  · obtain ⟨a, c, rfl⟩ := own_shape h
    exact ⟨a, c, ts.map Prod.snd, by rw [hn], by omega, hl, hsa, fun k hk => by omega⟩
  · obtain ⟨g, cap, rfl, hc, _, hcell, _, hl'⟩ := own_at h h0
    have hlen := rz_len ts
    have get : ∀ (i : Nat) (x : Value), i < ts.length * 6 → (rws (ts.map Prod.fst) (ts.map Prod.snd))[i]? = some x → W.cell? ⟨g, 0 + i, none⟩ = some x := fun i x hi e => by
      have e : (rz ts)[i]? = some x := e
      rw [List.getElem?_eq_getElem (by omega)] at e
      rw [Nat.zero_add, hcell i (by omega), Option.some.inj e]
    refine ⟨_, cap, ts.map Prod.snd, by rw [hn], by rw [hn]; exact hc, hl, hsa, fun _ _ => ⟨g, 0, rfl, ?_, ?_, ?_, ?_, ?_, ?_, hl'⟩⟩
    · intro j hj; exact get _ _ (by omega) (rws_at _ _ hl j hj (by omega)).1
    · intro j hj; exact get _ _ (by omega) (rws_at _ _ hl j hj (by omega)).2.1
    · intro j hj hj'; exact get _ _ (by omega) (rws_at _ _ hl j hj hj').2.2.1
    · intro j hj; exact get _ _ (by omega) (rws_at _ _ hl j hj (by omega)).2.2.2.1
    · intro j hj; exact get _ _ (by omega) (rws_at _ _ hl j hj (by omega)).2.2.2.2.1
    · intro j hj; exact get _ _ (by omega) (rws_at _ _ hl j hj (by omega)).2.2.2.2.2
/-- Rows that are handed in, as pairs. -/
theorem sr_rz {W : World} {a : Option Addr} {n c : Nat} {rs : List Rw} (h : SR W (.slice a n c) rs) (h0 : 0 < rs.length) : ∃ b o, ∃ ts : RVs, a = some ⟨b, o, none⟩ ∧ n = ts.length ∧ ts.length ≤ c ∧ ts.map Prod.fst = rs ∧ b < W.heap.size ∧ RZ W b o ts := by
  obtain ⟨a', c', vs, e, hc, hl, hs, hr⟩ := h
  cases e
  obtain ⟨b, o, rfl, r⟩ := hr 0 h0
  have e1 : (rs.zip vs).map Prod.fst = rs := List.map_fst_zip (Nat.le_of_eq hl)
  have e2 : (rs.zip vs).map Prod.snd = vs := List.map_snd_zip (Nat.le_of_eq hl.symm)
  have e3 : (rs.zip vs).length = rs.length := by rw [List.length_zip]; omega
  refine ⟨b, o, rs.zip vs, rfl, e3.symm, by omega, e1, r.lt, by rw [e1, e2]; exact r, fun t ht => ?_⟩
  obtain ⟨k, hk, e⟩ := List.getElem_of_mem ht
  rw [List.getElem_zip] at e
  subst e
  exact hs k (by omega) (by omega)
end Go.Proofs.YtdjfpghgklkejaaGreatDoor
