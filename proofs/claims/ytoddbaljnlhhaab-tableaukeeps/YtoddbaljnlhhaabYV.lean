/-
  Put together of: JE JZ LP.
-/
import Derived.Test.YtoddbaljnlhhaabYO
import Derived.Test.YtoddbaljnlhhaabXK
import Derived.Test.YtoddbaljnlhhaabYD
import Derived.Test.YtoddbaljnlhhaabYS
namespace Go.Proofs.Ytoddbaljnlhhaab
open Go.RowKit Go.Sort
open PL (pv PS bt cgk cgT)

/-- Apply of the code and of the reference tell the same. -/
theorem apply_pair (t : Tb) (a : Option Addr) (c : Nat) (s : ByteArray) (q : Nat → Int) (aq : Option Addr) (m cq : Nat) (w : World) (H : TS w a c t.rows) (HQ : BL.Row aq q m w) (hm : m ≤ cq) (hc : cq ≤ 9223372036854775807) : ∃ (T : Tb) (E : Int),
    (∀ w', Below w.heap.size w w' → Calls Try.prog 8 #[t.v a c, .string s, .slice aq m cq] w' fun e w2 => ∃ v, e = .returned (.tuple #[.agg #[.int .i64 T.n, v], .int .i64 E]) ∧ OT w2 w'.heap.size v T.rows ∧ Below w'.heap.size w' w2) ∧
    (∀ w', Below w.heap.size w w' → Calls Try.prog 5 #[t.v a c, .string s, .slice aq m cq] w' fun e w2 => ∃ v, e = .returned (.tuple #[.agg #[.int .i64 T.n, v], .int .i64 E]) ∧ OT w2 w'.heap.size v T.rows ∧ Below w'.heap.size w' w2) := by
  by_cases hR : Rt t
  case neg =>
    refine ⟨⟨0, []⟩, 180, fun w' h => (rapply_bad t a c s aq m cq w' (H.below h) hR).mono ?_, fun w' h => (apply_bad t a c s aq m cq w' (H.below h) hR).mono ?_⟩
    all_goals
      rintro e w2 ⟨rfl, hB⟩
      exact ⟨_, rfl, OT.nil _ _, hB⟩
  by_cases hE : gE t.n s q m = 0
  case neg =>
    refine ⟨⟨0, []⟩, gE t.n s q m, fun w' h => (rapply_no t a c s q aq m cq w' (H.below h) hR (HQ.below h) hm hc hE).mono ?_, fun w' h => (apply_no t a c s q aq m cq w' (H.below h) hR (HQ.below h) hm hc hE).mono ?_⟩
    all_goals
      rintro e w2 ⟨rfl, hB⟩
      exact ⟨_, rfl, OT.nil _ _, hB⟩
  obtain ⟨i, hi, rfl, rfl, hP, hq⟩ := gE_ok (by have := hR.n1; omega) hE
  exact ⟨⟨t.n, t.rows.map (trR i q)⟩, 0, fun w' h => rapply_yes t a c i hi q aq cq w' (H.below h) hR (HQ.below h) hm hc hE hP hq, fun w' h => apply_yes t a c i hi q aq cq w' (H.below h) hR (HQ.below h) hm hc hE hP hq⟩
end Go.Proofs.Ytoddbaljnlhhaab
namespace Go.Proofs.Ytoddbaljnlhhaab
open Go.RowKit Go.Sort
open PL (pv PS bt)

theorem rproject_t (t : Tb) (a : Option Addr) (c : Nat) (q bit : Int) (w : World) (H : TS w a c t.rows) (hR : Rt t) :
    Calls Try.prog 9 #[t.v a c, .int .i64 q, .int .i64 bit] w fun e w' => ∃ v, e = .returned (.tuple #[.agg #[.int .i64 (prjT t q bit).1.n, v], .int .i64 (prjT t q bit).2]) ∧ OT w' w.heap.size v (prjT t q bit).1.rows ∧ Below w.heap.size w w' := by
  have ZZ : ∀ E, prjT t q bit = (⟨0, []⟩, E) → (Calls Try.prog 9 #[t.v a c, .int .i64 q, .int .i64 bit] w fun e w' => e = .returned (.tuple #[.agg #[.int .i64 0, .slice none 0 0], .int .i64 E]) ∧ Below w.heap.size w w') → Calls Try.prog 9 #[t.v a c, .int .i64 q, .int .i64 bit] w fun e w' => ∃ v, e = .returned (.tuple #[.agg #[.int .i64 (prjT t q bit).1.n, v], .int .i64 (prjT t q bit).2]) ∧ OT w' w.heap.size v (prjT t q bit).1.rows ∧ Below w.heap.size w w' := fun E e h => by
    rw [e]
    refine h.mono ?_
    rintro e w' ⟨rfl, hB⟩
    exact ⟨_, rfl, OT.nil _ _, hB⟩
  by_cases hq : 0 ≤ q ∧ q < t.n
  case neg =>
    have e : (fndT t q).2.2 = 112 := by unfold fndT; rw [if_neg hq]
    exact ZZ 112 (by unfold prjT; rw [e, if_pos (by decide)]) (rproject_bad t a c q bit 112 w H hR (.inl ⟨by omega, rfl⟩))
  have h1' : (fndT t q).2.2 = 0 := by
    unfold fndT
    rw [if_pos hq]
    split
    · rfl
    · split <;> rfl
  have h1 : ¬ (fndT t q).2.2 ≠ 0 := fun h => h h1'
  by_cases h2 : bit = 0 ∨ bit = 1
  case neg => exact ZZ 2 (by unfold prjT; rw [if_neg h1, if_pos h2]) (rproject_bad t a c q bit 2 w H hR (.inr ⟨hq, by omega, rfl⟩))
  by_cases h3 : (fndT t q).2.1 = false
  · have e : prjT t q bit = (⟨t.n, chR t.rows t.n.toNat q.toNat bit (ffN q.toNat (t.rows.drop t.n.toNat)) (t.rows.getD (t.n.toNat + ffN q.toNat (t.rows.drop t.n.toNat)) ⟨0, 0, 0, 0⟩)⟩, 0) := by
      unfold prjT; rw [if_neg h1, if_neg (fun h => h h2), if_pos h3]
    rw [e]
    obtain ⟨q', N, hqq, hN, hqN, hff⟩ := fnd_free hR h1' h3
    obtain ⟨n, rs⟩ := t
    have hN : n = (N : Int) := hN
    subst hN
    subst hqq
    have hl : rs.length = 2 * N := by have h : ((rs.length : Nat) : Int) = 2 * (N : Nat) := hR.len; omega
    have hff : ffN q' (rs.drop N) < N := hff
    exact rproject_free N rs a c q' bit w H hR hqN h2 _ rfl hff _ (by
      show rs[N + ffN q' (rs.drop N)]? = some (rs.getD (N + ffN q' (rs.drop N)) ⟨0, 0, 0, 0⟩)
      rw [List.getD_eq_getElem?_getD, List.getElem?_eq_getElem (by omega)]
      rfl)
  have h3' : (fndT t q).2.1 = true := by cases h : (fndT t q).2.1 with
    | true => rfl
    | false => exact absurd h h3
  by_cases h4 : (fndT t q).1 = bit
  · have e : prjT t q bit = (t, 0) := by unfold prjT; rw [if_neg h1, if_neg (fun h => h h2), if_neg h3, if_neg (fun h => h h4)]
    rw [e]
    exact rproject_same t a c q bit w H hR (Prod.ext h4 (Prod.ext h3' h1')) h2
  · exact ZZ 131 (by unfold prjT; rw [if_neg h1, if_neg (fun h => h h2), if_neg h3, if_pos h4]) (rproject_null t a c q (fndT t q).1 bit w H hR (Prod.ext rfl (Prod.ext h3' h1')) h2 h4)
/-- Project of the code and of the reference tell the same. -/
theorem project_pair (t : Tb) (a : Option Addr) (c : Nat) (q bit : Int) (w : World) (H : TS w a c t.rows) : ∃ (T : Tb) (E : Int),
    (∀ w', Below w.heap.size w w' → Calls Try.prog 9 #[t.v a c, .int .i64 q, .int .i64 bit] w' fun e w2 => ∃ v, e = .returned (.tuple #[.agg #[.int .i64 T.n, v], .int .i64 E]) ∧ OT w2 w'.heap.size v T.rows ∧ Below w'.heap.size w' w2) ∧
    (∀ w', Below w.heap.size w w' → Calls Try.prog 6 #[t.v a c, .int .i64 q, .int .i64 bit] w' fun e w2 => ∃ v, e = .returned (.tuple #[.agg #[.int .i64 T.n, v], .int .i64 E]) ∧ OT w2 w'.heap.size v T.rows ∧ Below w'.heap.size w' w2) := by
  by_cases hR : Rt t
  · exact ⟨(prjT t q bit).1, (prjT t q bit).2, fun w' h => rproject_t t a c q bit w' (H.below h) hR, fun w' h => project_t t a c q bit w' (H.below h) hR⟩
  · refine ⟨⟨0, []⟩, 180, fun w' h => (rproject_f t a c q bit w' (H.below h) hR).mono ?_, fun w' h => (project_f t a c q bit w' (H.below h) hR).mono ?_⟩
    all_goals
      rintro e w2 ⟨rfl, hB⟩
      exact ⟨_, rfl, OT.nil _ _, hB⟩
end Go.Proofs.Ytoddbaljnlhhaab
namespace Go.Proofs.Ytoddbaljnlhhaab
open Go.RowKit Go.Sort
open PL (pv PS bt cgk cgT)

theorem apply_two (t : Tb) (s : ByteArray) (q : Nat → Int) (m : Nat) : ∃ (T : Tb) (E : Int),
    (∀ a c aq cq w, TS w a c t.rows → BL.Row aq q m w → m ≤ cq → cq ≤ 9223372036854775807 → Calls Try.prog 8 #[t.v a c, .string s, .slice aq m cq] w fun e w2 => ∃ v, e = .returned (.tuple #[.agg #[.int .i64 T.n, v], .int .i64 E]) ∧ OT w2 w.heap.size v T.rows ∧ Below w.heap.size w w2) ∧
    (∀ a c aq cq w, TS w a c t.rows → BL.Row aq q m w → m ≤ cq → cq ≤ 9223372036854775807 → Calls Try.prog 5 #[t.v a c, .string s, .slice aq m cq] w fun e w2 => ∃ v, e = .returned (.tuple #[.agg #[.int .i64 T.n, v], .int .i64 E]) ∧ OT w2 w.heap.size v T.rows ∧ Below w.heap.size w w2) := by
  by_cases hR : Rt t
  case neg =>
    refine ⟨⟨0, []⟩, 180, fun a c aq cq w H _ _ _ => (rapply_bad t a c s aq m cq w H hR).mono ?_, fun a c aq cq w H _ _ _ => (apply_bad t a c s aq m cq w H hR).mono ?_⟩
    all_goals
      rintro e w2 ⟨rfl, hB⟩
      exact ⟨_, rfl, OT.nil _ _, hB⟩
  by_cases hE : gE t.n s q m = 0
  case neg =>
    refine ⟨⟨0, []⟩, gE t.n s q m, fun a c aq cq w H HQ hm hc => (rapply_no t a c s q aq m cq w H hR HQ hm hc hE).mono ?_, fun a c aq cq w H HQ hm hc => (apply_no t a c s q aq m cq w H hR HQ hm hc hE).mono ?_⟩
    all_goals
      rintro e w2 ⟨rfl, hB⟩
      exact ⟨_, rfl, OT.nil _ _, hB⟩
  obtain ⟨i, hi, rfl, rfl, hP, hq⟩ := gE_ok (by have := hR.n1; omega) hE
  exact ⟨⟨t.n, t.rows.map (trR i q)⟩, 0, fun a c aq cq w H HQ hm hc => rapply_yes t a c i hi q aq cq w H hR HQ hm hc hE hP hq, fun a c aq cq w H HQ hm hc => apply_yes t a c i hi q aq cq w H hR HQ hm hc hE hP hq⟩
theorem prjT_len (t : Tb) (q bit : Int) (n : Nat) (h : t.rows.length ≤ n) : (prjT t q bit).1.rows.length ≤ n := by
  unfold prjT
  split
  · exact Nat.zero_le _
  · split
    · exact Nat.zero_le _
    · split
      · rw [chR_len]; exact h
      · split
        · exact Nat.zero_le _
        · exact h
theorem project_two (t : Tb) (q bit : Int) (hl : t.rows.length ≤ 500) : ∃ (T : Tb) (E : Int), T.rows.length ≤ 500 ∧
    (∀ a c w, TS w a c t.rows → Calls Try.prog 9 #[t.v a c, .int .i64 q, .int .i64 bit] w fun e w2 => ∃ v, e = .returned (.tuple #[.agg #[.int .i64 T.n, v], .int .i64 E]) ∧ OT w2 w.heap.size v T.rows ∧ Below w.heap.size w w2) ∧
    (∀ a c w, TS w a c t.rows → Calls Try.prog 6 #[t.v a c, .int .i64 q, .int .i64 bit] w fun e w2 => ∃ v, e = .returned (.tuple #[.agg #[.int .i64 T.n, v], .int .i64 E]) ∧ OT w2 w.heap.size v T.rows ∧ Below w.heap.size w w2) := by
  by_cases hR : Rt t
  · exact ⟨(prjT t q bit).1, (prjT t q bit).2, prjT_len t q bit 500 hl, fun a c w H => rproject_t t a c q bit w H hR, fun a c w H => project_t t a c q bit w H hR⟩
  · refine ⟨⟨0, []⟩, 180, Nat.zero_le _, fun a c w H => (rproject_f t a c q bit w H hR).mono ?_, fun a c w H => (project_f t a c q bit w H hR).mono ?_⟩
    all_goals
      rintro e w2 ⟨rfl, hB⟩
      exact ⟨_, rfl, OT.nil _ _, hB⟩
end Go.Proofs.Ytoddbaljnlhhaab
