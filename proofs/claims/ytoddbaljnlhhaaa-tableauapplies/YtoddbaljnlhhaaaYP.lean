/-
  Put together of: JZ.
-/
import Derived.Test.YtoddbaljnlhhaaaYO
import Derived.Test.YtoddbaljnlhhaaaXK
import Derived.Test.YtoddbaljnlhhaaaYD
namespace Go.Proofs.Ytoddbaljnlhhaaa
open Go.RowKit Go.Sort
open PL (pv PS bt cgk cgT)

/-- Apply of the code and of the reference tell the same. -/
theorem apply_pair (t : Tb) (a : Option Addr) (c : Nat) (s : ByteArray) (q : Nat → Int) (aq : Option Addr) (m cq : Nat) (w : World) (H : TS w a c t.rows) (HQ : BL.Row aq q m w) (hm : m ≤ cq) (hc : cq ≤ 9223372036854775807) : ∃ (T : Tb) (E : Int),
    (∀ w', Below w.heap.size w w' → Calls Try.prog 21 #[t.v a c, .string s, .slice aq m cq] w' fun e w2 => ∃ v, e = .returned (.tuple #[.agg #[.int .i64 T.n, v], .int .i64 E]) ∧ OT w2 w'.heap.size v T.rows ∧ Below w'.heap.size w' w2) ∧
    (∀ w', Below w.heap.size w w' → Calls Try.prog 22 #[t.v a c, .string s, .slice aq m cq] w' fun e w2 => ∃ v, e = .returned (.tuple #[.agg #[.int .i64 T.n, v], .int .i64 E]) ∧ OT w2 w'.heap.size v T.rows ∧ Below w'.heap.size w' w2) := by
  by_cases hR : Rt t
  case neg =>
    refine ⟨⟨0, []⟩, 180, fun w' h => (rapply_bad t a c s aq m cq w' (H.below h) hR).mono ?_, fun w' h => (apply_bad t a c s aq m cq w' (H.below h) hR).mono ?_⟩
    all_goals
      rintro e w2 ⟨rfl, hB⟩
      exact ⟨_, rfl, OT.nil _ _, hB⟩
  by_cases hE : gE t.n s q m = 0
  case neg =>
    refine ⟨⟨0, []⟩, gE t.n s q m, fun w' h => (rapply_no t a c s q aq m cq w' (H.below h) hR (HQ.below h) hm hc hE).mono ?_, fun w' h => (apply_no t a c s q aq m cq w' (H.below h) hR (HQ.below h) hm hc hE).mono ?_⟩
    all_goals
      rintro e w2 ⟨rfl, hB⟩
      exact ⟨_, rfl, OT.nil _ _, hB⟩
  obtain ⟨i, hi, rfl, rfl, hP, hq⟩ := gE_ok (by have := hR.n1; omega) hE
  exact ⟨⟨t.n, t.rows.map (trR i q)⟩, 0, fun w' h => rapply_yes t a c i hi q aq cq w' (H.below h) hR (HQ.below h) hm hc hE hP hq, fun w' h => apply_yes t a c i hi q aq cq w' (H.below h) hR (HQ.below h) hm hc hE hP hq⟩
set_option maxHeartbeats 4000000 in
set_option maxRecDepth 100000 in
theorem applies_any (t : Tb) (a : Option Addr) (c : Nat) (s : ByteArray) (q : Nat → Int) (aq : Option Addr) (m cq : Nat) (w : World) (H : TS w a c t.rows) (HQ : BL.Row aq q m w) (hm : m ≤ cq) (hc : cq ≤ 9223372036854775807) :
    Calls Try.prog 4 #[t.v a c, .string s, .slice aq m cq] w fun e w' => e = .returned (.bool true) ∧ Below w.heap.size w w' := by
  have AW := hid (fun w' => awake_any w')
  obtain ⟨T, E, P1, P2⟩ := apply_pair t a c s q aq m cq w H HQ hm hc
  have P1 := hid P1
  have P2 := hid P2
  have HB := hid (bal (Below.refl w.heap.size w) (.cells #[.int .i64 t.n, .slice a t.rows.length c] 24))
  have K3 := hid (bk_new w #[.int .i64 t.n, .slice a t.rows.length c] 24)
  have hEE : (E == E) = true := by simp
  have EQ := fun (a1 a2 : Option Addr) (c1 c2 : Nat) (W : World) (h1 : TS W a1 c1 T.rows) (h2 : TS W a2 c2 T.rows) => requal_any T T a1 a2 c1 c2 W h1 h2 true (fun _ => rfl) (fun h => absurd rfl h)
  have EQ := hid EQ
  clear H HQ
  obtain ⟨n, rs⟩ := t
  obtain ⟨N2, us⟩ := T
  simp only at *
  go_enter Try.func4, Try.ntmps4
  go_wp2_with (go_at_call 9; refine Hid.out ?_)
  refine hid ?_
  refine (AW.out _).mono ?_
  rintro e w1 ⟨rfl, hN⟩
  replace HB := hid (btr HB.out hN)
  replace K3 := hid (bk_on K3.out hN)
  clear hN AW
  have d3 := K3.out.cell
  have l3 := K3.out.lt
  go_wp2_with (go_at_call 21; refine Hid.out ?_)
  refine hid ?_
  refine (P1.out _ HB.out).mono ?_
  rintro e w2 ⟨v, rfl, hO, hN⟩
  obtain ⟨a1, c1, rfl, hT⟩ := hO.ts
  have hA := bal (Below.refl w2.heap.size w2) (.cells #[.int .i64 N2, .slice a1 us.length c1] 24)
  have K7 := hid (bk_new w2 #[.int .i64 N2, .slice a1 us.length c1] 24)
  have T7 := hid (hT.below hA)
  replace HB := hid (btr (btr HB.out hN) hA)
  replace K3 := hid (bk_on K3.out (btr hN hA))
  clear hN hA hO hT d3 l3 P1
  generalize hV : w2.alloc (.cells #[.int .i64 N2, .slice a1 us.length c1] 24) = V at *
  have d3 := K3.out.cell
  have l3 := K3.out.lt
  go_wp2_with (go_at_call 22; refine Hid.out ?_)
  refine hid ?_
  refine (P2.out _ HB.out).mono ?_
  rintro e w3 ⟨v, rfl, hO, hN⟩
  obtain ⟨a2, c2, rfl, hT⟩ := hO.ts
  have hA := bal (Below.refl w3.heap.size w3) (.cells #[.int .i64 N2, .slice a2 us.length c2] 24)
  have K9 := hid (bk_new w3 #[.int .i64 N2, .slice a2 us.length c2] 24)
  have T9 := hid (hT.below hA)
  replace HB := hid (btr (btr HB.out hN) hA)
  replace K7 := hid (bk_on K7.out (btr hN hA))
  replace T7 := hid (T7.out.below (btr hN hA))
  clear hN hA hO hT d3 l3 P2 K3
  generalize hZ : w3.alloc (.cells #[.int .i64 N2, .slice a2 us.length c2] 24) = Z at *
  have d7 := K7.out.cell
  have l7 := K7.out.lt
  have d9 := K9.out.cell
  have l9 := K9.out.lt
  go_wp2_with (go_at_call 20; refine Hid.out ?_)
  refine hid ?_
  refine (EQ.out _ _ _ _ _ T9.out T7.out).mono ?_
  rintro e w4 ⟨rfl, hN⟩
  go_wp2
  go_ret
  exact ⟨rfl, btr HB.out hN⟩
end Go.Proofs.Ytoddbaljnlhhaaa
