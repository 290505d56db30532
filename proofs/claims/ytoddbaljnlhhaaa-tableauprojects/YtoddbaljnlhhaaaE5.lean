/-
  tableau: rows written over; applied, Apply.
-/
import Derived.Test.YtoddbaljnlhhaaaE4
namespace Go.Proofs.Ytoddbaljnlhhaaa
open Go.RowKit Go.Sort
open PL (pv PS bt cgk cgT)

theorem prz_set (rs : List Pr) (j : Nat) (r : Pr) : prz (rs.set j r) = if j < rs.length then ((((prz rs).set (j * 4) (.int .i64 r.n)).set (j * 4 + 1) (.int .u64 (r.x : Int))).set (j * 4 + 2) (.int .u64 (r.z : Int))).set (j * 4 + 3) (.int .i64 r.f) else prz rs := by
  induction rs generalizing j with
  | nil => rfl
  | cons s rs ih =>
    cases j with
    | zero => rw [if_pos (by simp)]; rfl
    | succ j =>
      have h := ih j
      have e : prz ((s :: rs).set (j + 1) r) = s.cs ++ prz (rs.set j r) := rfl
      rw [e, h]
      by_cases hj : j < rs.length
      · rw [if_pos hj, if_pos (by rw [List.length_cons]; omega), Nat.succ_mul]
        rfl
      · rw [if_neg hj, if_neg (by rw [List.length_cons]; omega)]
        rfl
theorem OT.set {W : World} {B g c : Nat} {rs : List Pr} (h : OT W B (.slice (some ⟨g, 0, none⟩) rs.length c) rs) {j : Nat} (hj : j < rs.length) (r : Pr) (hr : r.w64) :
    OT ((((W.setCell ⟨g, j * 4, none⟩ (.int .i64 r.n)).setCell ⟨g, j * 4 + 1, none⟩ (.int .u64 (r.x : Int))).setCell ⟨g, j * 4 + 2, none⟩ (.int .u64 (r.z : Int))).setCell ⟨g, j * 4 + 3, none⟩ (.int .i64 r.f)) B (.slice (some ⟨g, 0, none⟩) rs.length c) (rs.set j r) := by
  refine ⟨?_, ?_, by rw [List.length_set]; exact h.l⟩
  · rw [List.length_set, prz_set, if_pos hj]
    exact own_setc (own_setc (own_setc (own_setc h.own (by omega) _) (by omega) _) (by omega) _) (by omega) _
  · intro k hk
    rw [List.length_set] at hk
    by_cases e : j = k
    · subst e; rw [List.getElem_set_self]; exact hr
    · rw [List.getElem_set_ne e]; exact h.w64 k hk
/-- The first j rows turned. -/
def mixR (f : Pr → Pr) (rs : List Pr) (j : Nat) : List Pr := (rs.take j).map f ++ rs.drop j
theorem mixR_len (f : Pr → Pr) (rs : List Pr) (j : Nat) : (mixR f rs j).length = rs.length := by unfold mixR; simp; omega
theorem mixR_zero (f : Pr → Pr) (rs : List Pr) : mixR f rs 0 = rs := rfl
theorem mixR_all (f : Pr → Pr) (rs : List Pr) : mixR f rs rs.length = rs.map f := by unfold mixR; simp
theorem mixR_at (f : Pr → Pr) (rs : List Pr) (j : Nat) (h : j < rs.length) : (mixR f rs j)[j]? = some rs[j] := by
  unfold mixR
  rw [List.getElem?_append_right (by simp; omega)]
  simp [Nat.min_eq_left (Nat.le_of_lt h), h]
theorem mixR_set (f : Pr → Pr) (rs : List Pr) (j : Nat) (h : j < rs.length) : (mixR f rs j).set j (f rs[j]) = mixR f rs (j + 1) := by
  have e : rs.take (j + 1) = rs.take j ++ [rs[j]] := by rw [List.take_succ_eq_append_getElem h]
  have e2 : rs.drop j = rs[j] :: rs.drop (j + 1) := List.drop_eq_getElem_cons h
  unfold mixR
  rw [e, e2, List.map_append, List.append_assoc, List.set_append_right _ _ (by simp; omega), List.length_map, List.length_take, Nat.min_eq_left (Nat.le_of_lt h), Nat.sub_self]
  rfl
/-- A row turned. -/
def trR (i : Nat) (q : Nat → Int) (r : Pr) : Pr := ⟨(trP i q r.ps).n, (trP i q r.ps).x, (trP i q r.ps).z, (trP i q r.ps).f⟩
theorem plc_lt {q : Nat → Int} {k n : Nat} (hP : BL.Plc q k) (hn : ∀ j, j < k → q j < (n : Int)) : ∀ j, j < k → (q j).toNat < n := fun j hj => by have h1 := hn j hj; have h2 := (hP j hj).1; omega
theorem lt_4 {i : Nat} (hi : i < 17) {x z f : Nat} (hx : x < 2 ^ cgk i) (hz : z < 2 ^ cgk i) : (PL.lt (cgT i) (cgk i) x z f).1 < 2 ^ cgk i ∧ (PL.lt (cgT i) (cgk i) x z f).2.1 < 2 ^ cgk i ∧ (PL.lt (cgT i) (cgk i) x z f).2.2 < 4 := by
  rw [PL.lt_f]
  have h := (PL.cg_hom i hi).lo x z hx hz
  exact ⟨h.1, h.2.1, Nat.mod_lt _ (by decide)⟩
theorem trP_ok {i : Nat} (hi : i < 17) {q : Nat → Int} {p : PS} (hp : p.ok) (hP : BL.Plc q (cgk i)) (hn : ∀ j, j < cgk i → q j < (p.n : Int)) : (trP i q p).ok := by
  have hq := plc_lt hP hn
  exact ⟨hp.n1, PL.put_ltn hq hp.x1, PL.put_ltn hq hp.z1, (lt_4 hi (BL.pickN_low _ _ _) (BL.pickN_low _ _ _)).2.2⟩
end Go.Proofs.Ytoddbaljnlhhaaa
