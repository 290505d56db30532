/-
  Put together of: JE.
-/
import Derived.Test.YtoddbaljnlhhaaaYH
import Derived.Test.YtoddbaljnlhhaaaYI
import Derived.Test.YtoddbaljnlhhaaaXK
namespace Go.Proofs.Ytoddbaljnlhhaaa
open Go.RowKit Go.Sort
open PL (pv PS bt)

theorem rproject_t (t : Tb) (a : Option Addr) (c : Nat) (q bit : Int) (w : World) (H : TS w a c t.rows) (hR : Rt t) :
    Calls Try.prog 23 #[t.v a c, .int .i64 q, .int .i64 bit] w fun e w' => ∃ v, e = .returned (.tuple #[.agg #[.int .i64 (prjT t q bit).1.n, v], .int .i64 (prjT t q bit).2]) ∧ OT w' w.heap.size v (prjT t q bit).1.rows ∧ Below w.heap.size w w' := by
  have ZZ : ∀ E, prjT t q bit = (⟨0, []⟩, E) → (Calls Try.prog 23 #[t.v a c, .int .i64 q, .int .i64 bit] w fun e w' => e = .returned (.tuple #[.agg #[.int .i64 0, .slice none 0 0], .int .i64 E]) ∧ Below w.heap.size w w') → Calls Try.prog 23 #[t.v a c, .int .i64 q, .int .i64 bit] w fun e w' => ∃ v, e = .returned (.tuple #[.agg #[.int .i64 (prjT t q bit).1.n, v], .int .i64 (prjT t q bit).2]) ∧ OT w' w.heap.size v (prjT t q bit).1.rows ∧ Below w.heap.size w w' := fun E e h => by
    rw [e]
    refine h.mono ?_
    rintro e w' ⟨rfl, hB⟩
    exact ⟨_, rfl, OT.nil _ _, hB⟩
  by_cases hq : 0 ≤ q ∧ q < t.n
  case neg =>
    have e : (fndT t q).2.2 = 112 := by unfold fndT; rw [if_neg hq]
    exact ZZ 112 (by unfold prjT; rw [e, if_pos (by decide)]) (rproject_bad t a c q bit 112 w H hR (.inl ⟨by omega, rfl⟩))
  have h1' : (fndT t q).2.2 = 0 := by
    unfold fndT
    rw [if_pos hq]
    split
    · rfl
    · split <;> rfl
  have h1 : ¬ (fndT t q).2.2 ≠ 0 := fun h => h h1'
  by_cases h2 : bit = 0 ∨ bit = 1
  case neg => exact ZZ 2 (by unfold prjT; rw [if_neg h1, if_pos h2]) (rproject_bad t a c q bit 2 w H hR (.inr ⟨hq, by omega, rfl⟩))
  by_cases h3 : (fndT t q).2.1 = false
  · have e : prjT t q bit = (⟨t.n, chR t.rows t.n.toNat q.toNat bit (ffN q.toNat (t.rows.drop t.n.toNat)) (t.rows.getD (t.n.toNat + ffN q.toNat (t.rows.drop t.n.toNat)) ⟨0, 0, 0, 0⟩)⟩, 0) := by
      unfold prjT; rw [if_neg h1, if_neg (fun h => h h2), if_pos h3]
    rw [e]
    obtain ⟨q', N, hqq, hN, hqN, hff⟩ := fnd_free hR h1' h3
    obtain ⟨n, rs⟩ := t
    have hN : n = (N : Int) := hN
    subst hN
    subst hqq
    have hl : rs.length = 2 * N := by have h : ((rs.length : Nat) : Int) = 2 * (N : Nat) := hR.len; omega
    have hff : ffN q' (rs.drop N) < N := hff
    exact rproject_free N rs a c q' bit w H hR hqN h2 _ rfl hff _ (by
      show rs[N + ffN q' (rs.drop N)]? = some (rs.getD (N + ffN q' (rs.drop N)) ⟨0, 0, 0, 0⟩)
      rw [List.getD_eq_getElem?_getD, List.getElem?_eq_getElem (by omega)]
      rfl)
  have h3' : (fndT t q).2.1 = true := by cases h : (fndT t q).2.1 with
    | true => rfl
    | false => exact absurd h h3
  by_cases h4 : (fndT t q).1 = bit
  · have e : prjT t q bit = (t, 0) := by unfold prjT; rw [if_neg h1, if_neg (fun h => h h2), if_neg h3, if_neg (fun h => h h4)]
    rw [e]
    exact rproject_same t a c q bit w H hR (Prod.ext h4 (Prod.ext h3' h1')) h2
  · exact ZZ 131 (by unfold prjT; rw [if_neg h1, if_neg (fun h => h h2), if_neg h3, if_pos h4]) (rproject_null t a c q (fndT t q).1 bit w H hR (Prod.ext rfl (Prod.ext h3' h1')) h2 h4)
/-- Project of the code and of the reference tell the same. -/
theorem project_pair (t : Tb) (a : Option Addr) (c : Nat) (q bit : Int) (w : World) (H : TS w a c t.rows) : ∃ (T : Tb) (E : Int),
    (∀ w', Below w.heap.size w w' → Calls Try.prog 23 #[t.v a c, .int .i64 q, .int .i64 bit] w' fun e w2 => ∃ v, e = .returned (.tuple #[.agg #[.int .i64 T.n, v], .int .i64 E]) ∧ OT w2 w'.heap.size v T.rows ∧ Below w'.heap.size w' w2) ∧
    (∀ w', Below w.heap.size w w' → Calls Try.prog 24 #[t.v a c, .int .i64 q, .int .i64 bit] w' fun e w2 => ∃ v, e = .returned (.tuple #[.agg #[.int .i64 T.n, v], .int .i64 E]) ∧ OT w2 w'.heap.size v T.rows ∧ Below w'.heap.size w' w2) := by
  by_cases hR : Rt t
  · exact ⟨(prjT t q bit).1, (prjT t q bit).2, fun w' h => rproject_t t a c q bit w' (H.below h) hR, fun w' h => project_t t a c q bit w' (H.below h) hR⟩
  · refine ⟨⟨0, []⟩, 180, fun w' h => (rproject_f t a c q bit w' (H.below h) hR).mono ?_, fun w' h => (project_f t a c q bit w' (H.below h) hR).mono ?_⟩
    all_goals
      rintro e w2 ⟨rfl, hB⟩
      exact ⟨_, rfl, OT.nil _ _, hB⟩
set_option maxHeartbeats 4000000 in
set_option maxRecDepth 100000 in
theorem projects_any (t : Tb) (a : Option Addr) (c : Nat) (q bit : Int) (w : World) (H : TS w a c t.rows) :
    Calls Try.prog 5 #[t.v a c, .int .i64 q, .int .i64 bit] w fun e w' => e = .returned (.bool true) ∧ Below w.heap.size w w' := by
  have AW := hid (fun w' => awake_any w')
  obtain ⟨T, E, P1, P2⟩ := project_pair t a c q bit w H
  have P1 := hid P1
  have P2 := hid P2
  have HB := hid (bal (Below.refl w.heap.size w) (.cells #[.int .i64 t.n, .slice a t.rows.length c] 24))
  have K3 := hid (bk_new w #[.int .i64 t.n, .slice a t.rows.length c] 24)
  have hEE : (E == E) = true := by simp
  have EQ := fun (a1 a2 : Option Addr) (c1 c2 : Nat) (W : World) (h1 : TS W a1 c1 T.rows) (h2 : TS W a2 c2 T.rows) => requal_any T T a1 a2 c1 c2 W h1 h2 true (fun _ => rfl) (fun h => absurd rfl h)
  have EQ := hid EQ
  clear H
  obtain ⟨n, rs⟩ := t
  obtain ⟨m, us⟩ := T
  simp only at *
  go_enter Try.func5, Try.ntmps5
  go_wp2_with (go_at_call 9; refine Hid.out ?_)
  refine hid ?_
  refine (AW.out _).mono ?_
  rintro e w1 ⟨rfl, hN⟩
  replace HB := hid (btr HB.out hN)
  replace K3 := hid (bk_on K3.out hN)
  clear hN AW
  have d3 := K3.out.cell
  have l3 := K3.out.lt
  go_wp2_with (go_at_call 23; refine Hid.out ?_)
  refine hid ?_
  refine (P1.out _ HB.out).mono ?_
  rintro e w2 ⟨v, rfl, hO, hN⟩
  obtain ⟨a1, c1, rfl, hT⟩ := hO.ts
  have hA := bal (Below.refl w2.heap.size w2) (.cells #[.int .i64 m, .slice a1 us.length c1] 24)
  have K7 := hid (bk_new w2 #[.int .i64 m, .slice a1 us.length c1] 24)
  have T7 := hid (hT.below hA)
  replace HB := hid (btr (btr HB.out hN) hA)
  replace K3 := hid (bk_on K3.out (btr hN hA))
  clear hN hA hO hT d3 l3 P1
  generalize hV : w2.alloc (.cells #[.int .i64 m, .slice a1 us.length c1] 24) = V at *
  have d3 := K3.out.cell
  have l3 := K3.out.lt
  go_wp2_with (go_at_call 24; refine Hid.out ?_)
  refine hid ?_
  refine (P2.out _ HB.out).mono ?_
  rintro e w3 ⟨v, rfl, hO, hN⟩
  obtain ⟨a2, c2, rfl, hT⟩ := hO.ts
  have hA := bal (Below.refl w3.heap.size w3) (.cells #[.int .i64 m, .slice a2 us.length c2] 24)
  have K9 := hid (bk_new w3 #[.int .i64 m, .slice a2 us.length c2] 24)
  have T9 := hid (hT.below hA)
  replace HB := hid (btr (btr HB.out hN) hA)
  replace K7 := hid (bk_on K7.out (btr hN hA))
  replace T7 := hid (T7.out.below (btr hN hA))
  clear hN hA hO hT d3 l3 P2 K3
  generalize hZ : w3.alloc (.cells #[.int .i64 m, .slice a2 us.length c2] 24) = Z at *
  have d7 := K7.out.cell
  have l7 := K7.out.lt
  have d9 := K9.out.cell
  have l9 := K9.out.lt
  go_wp2_with (go_at_call 20; refine Hid.out ?_)
  refine hid ?_
  refine (EQ.out _ _ _ _ _ T9.out T7.out).mono ?_
  rintro e w4 ⟨rfl, hN⟩
  go_wp2
  go_ret
  exact ⟨rfl, btr HB.out hN⟩
end Go.Proofs.Ytoddbaljnlhhaaa
