/-
  Put together of: GU GV GX GY GP.
-/
import Derived.Test.YtdjfpghgklkejaaGreatDoorXO
import Derived.Test.YtdjfpghgklkejaaGreatDoorXQ
namespace Go.Proofs.YtdjfpghgklkejaaGreatDoor
def er (t : TO) : TO := ⟨t.k, t.n, t.qs, t.b, t.st.map fun s => ⟨0, 0, false, s.m, s.v⟩⟩
def Eqv (a b : List TO) : Prop := a.map er = b.map er
structure Shl (a b : Sd) : Prop where
 ga : a.g = false
 gb : b.g = false
 m : b.m = a.m
 v : b.v = a.v
 n : b.n ≤ a.n
def RecSh (rec : RecT) : Prop := ∀ en a b rs en1 L, rec en a rs = .ok (en1, L) → Shl a b → 1 ≤ a.n → en1 = en ∧ ∃ L', rec en b rs = .ok (en, L') ∧ Eqv L L'
theorem form_rows {sd : Sd} {r : Rw} {n : Nat} (h : ¬ formE r n sd ≠ 0) : 0 ≤ r.rows ∧ r.rows ≤ n := by
 unfold formE at h
 split at h
 ·exact absurd (by decide) h
 ·rename_i hb
  unfold badF at hb
  split at hb
  ·simp only [Bool.or_eq_true, decide_eq_true_eq, not_or] at hb
   omega
  ·split at hb
   ·simp only [decide_eq_true_eq, ne_eq, Decidable.not_not] at hb
    omega
   ·exact absurd rfl hb
theorem form_more {sd : Sd} {r : Rw} {n n' : Nat} (h : ¬ formE r n sd ≠ 0) (hn : r.rows ≤ n') : ¬ formE r n' sd ≠ 0 := by
 have h0 := (form_rows h).1
 have e : badF r n' = badF r n := by
  have h1 := (form_rows h).2
  unfold badF
  by_cases hb : hasB r.kind = true
  ·rw [if_pos hb, if_pos hb]
   have a1 : decide ((n' : Int) < r.rows) = false := by simp; omega
   have a2 : decide ((n : Int) < r.rows) = false := by simp; omega
   rw [a1, a2]
  ·rw [if_neg hb, if_neg hb]
 unfold formE at *
 rwa [e]
theorem look_app : ∀ (k : Nat) (A B : List Rw) (en en1 en2 : En) (sd : Sd) (L1 L2 : List TO), A.length < k → lookB k en sd A = .ok (en1, L1) → (∀ K, B.length < K → lookB K en1 sd B = .ok (en2, L2)) →
  ∀ K, (A ++ B).length < K → lookB K en sd (A ++ B) = .ok (en2, L1 ++ L2)
 | 0, A, _, _, _, _, _, _, _, h, _, _, _, _ => absurd h (Nat.not_lt_zero _)
 | k + 1, [], B, en, en1, en2, sd, L1, L2, _, h, hB, K, hK => by
  unfold lookB at h
  cases h
  exact hB K hK
 | k + 1, r :: rs, B, en, en1, en2, sd, L1, L2, hk, h, hB, K, hK => by
  rw [List.length_cons] at hk
  obtain ⟨K', rfl⟩ : ∃ K', K = K' + 1 := ⟨K - 1, by omega⟩
  rw [List.cons_append, List.length_cons] at hK
  rw [List.cons_append]
  unfold lookB at h ⊢
  split at h
  ·cases h
  ·rename_i hf
   obtain ⟨r0, r1⟩ := form_rows hf
   have hrl : r.rows.toNat ≤ rs.length := by omega
   rw [if_neg (form_more hf (by rw [List.length_append]; omega)), List.take_append_of_le_length hrl, List.drop_append_of_le_length hrl]
   rw [List.length_append] at hK
   split at h
   ·cases h
   ·rename_i e1 M1 h1
    have hrec : rowR (lookB K') en ⟨r.place, sd.n, sd.g, sd.m, sd.v⟩ r (rs.take r.rows.toNat) = rowR (lookB k) en ⟨r.place, sd.n, sd.g, sd.m, sd.v⟩ r (rs.take r.rows.toNat) := by
     have e : ∀ en sd, lookB K' en sd (rs.take r.rows.toNat) = lookB k en sd (rs.take r.rows.toNat) := fun en sd => lookB_fuel _ _ _ (by rw [List.length_take]; omega) (by rw [List.length_take]; omega) en sd
     unfold rowR
     simp only [e]
    rw [hrec, h1]
    split at h
    ·cases h
    ·rename_i e2 M2 h2
     cases h
     have g := look_app k (rs.drop r.rows.toNat) B _ _ _ sd _ _ (by rw [List.length_drop]; omega) h2 hB K' (by rw [List.length_append, List.length_drop]; omega)
     simp only [g, List.append_assoc]
end Go.Proofs.YtdjfpghgklkejaaGreatDoor
namespace Go.Proofs.YtdjfpghgklkejaaGreatDoor
def wrow (r : Rw) (n : Int) : Rw := ⟨r.kind, r.name, r.args, r.num, n, r.place⟩
def unr : List Rw → Option (Nat × List Rw)
 | [] => none
 | r :: rs =>
  if r.kind = wGate then (unr (rs.drop r.rows.toNat)).map fun x => (1 + (rs.take r.rows.toNat).length + x.1, r :: (rs.take r.rows.toNat ++ x.2))
  else if r.kind = wRepeat ∧ r.num ≤ 20 then some (0, (List.replicate r.num.toNat (rs.take r.rows.toNat)).flatten ++ rs.drop r.rows.toNat)
  else (unr rs).map fun x => (1 + x.1, (if x.1 < r.rows.toNat then wrow r (r.rows + ((x.2.length : Int) - rs.length)) else r) :: x.2)
  termination_by l => l.length
  decreasing_by
   ·rw [List.length_drop, List.length_cons]; omega
   ·simp
def Cl : List Rw → Prop
 | [] => True
 | r :: rs => ¬ r.kind = wGate ∧ r.rows.toNat ≤ rs.length ∧ Cl rs
theorem look_cons {r : Rw} {body rest : List Rw} {en e1 e2 : En} {sd : Sd} {M1 M2 : List TO} (hf : ¬ formE r (body.length + rest.length) sd ≠ 0) (hb : body.length = r.rows.toNat)
  (hr : rowR (lookB (body.length + 1)) en ⟨r.place, sd.n, sd.g, sd.m, sd.v⟩ r body = .ok (e1, M1)) (hB : ∀ K, rest.length < K → lookB K e1 sd rest = .ok (e2, M2)) :
  ∀ K, (r :: (body ++ rest)).length < K → lookB K en sd (r :: (body ++ rest)) = .ok (e2, M1 ++ M2) := fun K hK => by
 obtain ⟨K, rfl⟩ : ∃ k', K = k' + 1 := ⟨K - 1, by omega⟩
 rw [List.length_cons, List.length_append] at hK
 unfold lookB
 rw [List.length_append, if_neg hf, ← hb, List.take_left, List.drop_left]
 have hrec : rowR (lookB K) en ⟨r.place, sd.n, sd.g, sd.m, sd.v⟩ r body = rowR (lookB (body.length + 1)) en ⟨r.place, sd.n, sd.g, sd.m, sd.v⟩ r body := by
  have e : ∀ en sd, lookB K en sd body = lookB (body.length + 1) en sd body := fun en sd => lookB_fuel _ _ _ (by omega) (by omega) en sd
  unfold rowR
  simp only [e]
 rw [hrec, hr]
 simp only [hB K (by omega)]
end Go.Proofs.YtdjfpghgklkejaaGreatDoor
namespace Go.Proofs.YtdjfpghgklkejaaGreatDoor
def adj (d : Int) : Nat → List Rw → List Rw
 | n + 1, r :: rs => (if ((n + 1 : Nat) : Int) ≤ r.rows then wrow r (r.rows + d) else r) :: adj d n rs
 | _, _ => []
structure Unf (rs : List Rw) (i : Nat) (more : List Rw) (t : Rw) : Prop where
 at_ : rs[i]? = some t
 kind : t.kind = wRepeat
 num : 0 ≤ t.num ∧ t.num ≤ 20
 rows : 0 ≤ t.rows ∧ i + 1 + t.rows.toNat ≤ rs.length
 is : more = adj ((t.num - 1) * t.rows - 1) i rs ++ ((List.replicate t.num.toNat ((rs.drop (i + 1)).take t.rows.toNat)).flatten ++ rs.drop (i + 1 + t.rows.toNat))
end Go.Proofs.YtdjfpghgklkejaaGreatDoor
namespace Go.Proofs.YtdjfpghgklkejaaGreatDoor
def Cw : List Rw → Prop
 | [] => True
 | r :: rs => 0 ≤ r.rows ∧ r.rows.toNat ≤ rs.length ∧ Cw rs
structure Rch (rs : List Rw) (k : Nat) : Prop where
 le : k ≤ rs.length
 no : unr (rs.drop k) = none → unr rs = none
 yes : ∀ i x, unr (rs.drop k) = some (i, x) → ∃ more, unr rs = some (k + i, more)
end Go.Proofs.YtdjfpghgklkejaaGreatDoor
namespace Go.Proofs.YtdjfpghgklkejaaGreatDoor
open Go.RowKit Go.Sort
abbrev RVs := List (Rw × Value)
def rz (ts : RVs) : List Value := rws (ts.map Prod.fst) (ts.map Prod.snd)
theorem rz_cons (t : Rw × Value) (ts : RVs) : rz (t :: ts) = rwc t.1 t.2 ++ rz ts := rfl
theorem rz_app : ∀ (a b : RVs), rz (a ++ b) = rz a ++ rz b
 | [], b => rfl
 | t :: a, b => by rw [List.cons_append, rz_cons, rz_cons, rz_app a b, List.append_assoc]
theorem rz_len (ts : RVs) : (rz ts).length = ts.length * 6 := by
 rw [rz, rws_length _ _ (by rw [List.length_map, List.length_map]), List.length_map]
theorem rz_one (ts : RVs) (h : ∀ t ∈ ts, ∃ a n c, t.2 = .slice a n c) : ∀ u ∈ rz ts, u.oneCell' = true := by
 induction ts with
 | nil => intro u hu; cases hu
 | cons t ts ih =>
  obtain ⟨r, v⟩ := t
  obtain ⟨a, n, c, e⟩ := h _ List.mem_cons_self
  intro u hu
  rw [rz_cons, List.mem_append] at hu
  rcases hu with hu | hu
  ·have e : v = .slice a n c := e
   subst e
   simp only [rwc, List.mem_cons, List.not_mem_nil, or_false] at hu
   rcases hu with rfl | rfl | rfl | rfl | rfl | rfl <;> rfl
  ·exact ih (fun t ht => h t (List.mem_cons_of_mem _ ht)) u hu
structure RZ (W : World) (b o : Nat) (ts : RVs) : Prop where
 at_ : RR W b o (ts.map Prod.fst) (ts.map Prod.snd)
 sa : ∀ t ∈ ts, SA W t.2 t.1.args
def cutO (o c k : Nat) : Nat := if c = k then o else o + k * 6
def adjT (d : Int) : Nat → RVs → RVs
 | n + 1, t :: ts => (if ((n + 1 : Nat) : Int) ≤ t.1.rows then (wrow t.1 (t.1.rows + d), t.2) else t) :: adjT d n ts
 | _, ts => ts
def adjK (d : Int) (i k : Nat) (ts : RVs) : RVs := (adjT d i ts).take k ++ ts.drop k
theorem own_rz {W : World} {B : Nat} {v : Value} {ts : RVs} (h : W.ownsRow B 79 6 v ts.length (rz ts)) (hs : ∀ t ∈ ts, SA W t.2 t.1.args) : SR W v (ts.map Prod.fst) := by
 have hl : (ts.map Prod.fst).length = (ts.map Prod.snd).length := by rw [List.length_map, List.length_map]
 have hsa : ∀ k (h : k < (ts.map Prod.fst).length) (h' : k < (ts.map Prod.snd).length), SA W (ts.map Prod.snd)[k] (ts.map Prod.fst)[k].args := fun k h h' => by
  rw [List.getElem_map, List.getElem_map]
  exact hs _ (List.getElem_mem _)
 have hn : (ts.map Prod.fst).length = ts.length := List.length_map _
 rcases Nat.eq_zero_or_pos ts.length with h0 | h0
 ·obtain ⟨a, c, rfl⟩ := own_shape h
  exact ⟨a, c, ts.map Prod.snd, by rw [hn], by omega, hl, hsa, fun k hk => by omega⟩
 ·obtain ⟨g, cap, rfl, hc, _, hcell, _, hl'⟩ := own_at h h0
  have hlen := rz_len ts
  have get : ∀ (i : Nat) (x : Value), i < ts.length * 6 → (rws (ts.map Prod.fst) (ts.map Prod.snd))[i]? = some x → W.cell? ⟨g, 0 + i, none⟩ = some x := fun i x hi e => by
   have e : (rz ts)[i]? = some x := e
   rw [List.getElem?_eq_getElem (by omega)] at e
   rw [Nat.zero_add, hcell i (by omega), Option.some.inj e]
  refine ⟨_, cap, ts.map Prod.snd, by rw [hn], by rw [hn]; exact hc, hl, hsa, fun _ _ => ⟨g, 0, rfl, ?_, ?_, ?_, ?_, ?_, ?_, hl'⟩⟩
  ·intro j hj; exact get _ _ (by omega) (rws_at _ _ hl j hj (by omega)).1
  ·intro j hj; exact get _ _ (by omega) (rws_at _ _ hl j hj (by omega)).2.1
  ·intro j hj hj'; exact get _ _ (by omega) (rws_at _ _ hl j hj hj').2.2.1
  ·intro j hj; exact get _ _ (by omega) (rws_at _ _ hl j hj (by omega)).2.2.2.1
  ·intro j hj; exact get _ _ (by omega) (rws_at _ _ hl j hj (by omega)).2.2.2.2.1
  ·intro j hj; exact get _ _ (by omega) (rws_at _ _ hl j hj (by omega)).2.2.2.2.2
end Go.Proofs.YtdjfpghgklkejaaGreatDoor
