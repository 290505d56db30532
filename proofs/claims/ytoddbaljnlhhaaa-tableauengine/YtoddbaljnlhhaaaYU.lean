/-
  Put together of: JE LB LD.
-/
import Derived.Test.YtoddbaljnlhhaaaYT
import Derived.Test.YtoddbaljnlhhaaaXM
import Derived.Test.YtoddbaljnlhhaaaYQ
import Derived.Test.YtoddbaljnlhhaaaYB
import Derived.Test.YtoddbaljnlhhaaaYS
import Derived.Test.YtoddbaljnlhhaaaYD
import Derived.Test.YtoddbaljnlhhaaaXK
import Derived.Test.YtoddbaljnlhhaaaYO
namespace Go.Proofs.Ytoddbaljnlhhaaa
open Go.RowKit Go.Sort
open PL (pv PS bt)

/-- What a method leaves: on an error nothing is changed; else the engine has the new tableau. -/
def EP (X : Nat) (W W' : World) (T : Tb) (E : Int) : Prop :=
  (E ≠ 0 ∧ Below W.heap.size W W') ∨ (E = 0 ∧ ∃ W1 v, Below W.heap.size W W1 ∧ OT W1 W.heap.size v T.rows ∧ W' = (W1.setCell ⟨X, 0, none⟩ (.int .i64 T.n)).setCell ⟨X, 1, none⟩ v)
theorem become_ep {X : Nat} {W w1 : World} {n' : Int} {v' : Value} (T : Tb) (a : Option Addr) (c : Nat) (E : Int) (K : BK W X #[.int .i64 n', v'] 101) (hB : Below W.heap.size W w1) (hO : OT w1 W.heap.size (.slice a T.rows.length c) T.rows) :
    Calls Try.prog 54 #[.pointer (some ⟨X, 0, none⟩), .agg #[.int .i64 T.n, .slice a T.rows.length c], .int .i64 E] w1 fun e W' => e = .returned (.int .i64 E) ∧ EP X W W' T E := by
  by_cases hE : E = 0
  · subst hE
    refine (become_yes X T.n n' v' a T.rows.length c w1 (bk_on K hB)).mono ?_
    rintro e w2 ⟨rfl, rfl⟩
    exact ⟨rfl, .inr ⟨rfl, _, _, bal hB _, hO.below (bal (Below.refl _ _) _), rfl⟩⟩
  · refine (become_no _ T.n a T.rows.length c E hE w1).mono ?_
    rintro e w2 ⟨rfl, h⟩
    exact ⟨rfl, .inl ⟨hE, btr hB h⟩⟩
set_option maxHeartbeats 1000000 in
set_option maxRecDepth 100000 in
theorem en26_any (X : Nat) (n : Int) (a : Option Addr) (l c : Nat) (s : ByteArray) (aq : Option Addr) (m cq : Nat) (T : Tb) (E : Int) (W : World) (K : BK W X #[.int .i64 n, .slice a l c] 101)
    (AP : Calls Try.prog 51 #[.agg #[.int .i64 n, .slice a l c], .string s, .slice aq m cq] W fun e w2 => ∃ v, e = .returned (.tuple #[.agg #[.int .i64 T.n, v], .int .i64 E]) ∧ OT w2 W.heap.size v T.rows ∧ Below W.heap.size W w2) :
    Calls Try.prog 26 #[.pointer (some ⟨X, 0, none⟩), .string s, .slice aq m cq] W fun e W' => e = .returned (.int .i64 E) ∧ EP X W W' T E := by
  have d0 := K.cell
  have l0 := K.lt
  have BE := hid (fun (a' : Option Addr) (c' : Nat) w1 hB hO => become_ep (w1 := w1) T a' c' E K hB hO)
  have HAP := hid AP
  clear AP
  obtain ⟨N, rs⟩ := T
  simp only at *
  go_enter Try.func26, Try.ntmps26
  go_wp2_with (go_at_call 51; refine Hid.out ?_)
  refine hid ?_
  refine HAP.out.mono ?_
  rintro e w2 ⟨v, rfl, hO, hN⟩
  obtain ⟨a1, c1, rfl⟩ := own_shape hO.own
  have B2 := hid (BE.out a1 c1 w2 hN hO)
  clear BE HAP hO hN d0 l0 K
  go_wp2_with (go_at_call 54; refine Hid.out ?_)
  refine hid ?_
  refine B2.out.mono ?_
  rintro e w3 ⟨rfl, hE⟩
  have HE := hid hE
  clear hE
  go_wp2
  go_ret
  exact ⟨rfl, HE.out⟩
set_option maxHeartbeats 1000000 in
set_option maxRecDepth 100000 in
theorem en27_any (X : Nat) (n : Int) (a : Option Addr) (l c : Nat) (q b : Int) (T : Tb) (E : Int) (W : World) (K : BK W X #[.int .i64 n, .slice a l c] 101)
    (AP : Calls Try.prog 53 #[.agg #[.int .i64 n, .slice a l c], .int .i64 q, .int .i64 b] W fun e w2 => ∃ v, e = .returned (.tuple #[.agg #[.int .i64 T.n, v], .int .i64 E]) ∧ OT w2 W.heap.size v T.rows ∧ Below W.heap.size W w2) :
    Calls Try.prog 27 #[.pointer (some ⟨X, 0, none⟩), .int .i64 q, .int .i64 b] W fun e W' => e = .returned (.int .i64 E) ∧ EP X W W' T E := by
  have d0 := K.cell
  have l0 := K.lt
  have BE := hid (fun (a' : Option Addr) (c' : Nat) w1 hB hO => become_ep (w1 := w1) T a' c' E K hB hO)
  have HAP := hid AP
  clear AP
  obtain ⟨N, rs⟩ := T
  simp only at *
  go_enter Try.func27, Try.ntmps27
  go_wp2_with (go_at_call 53; refine Hid.out ?_)
  refine hid ?_
  refine HAP.out.mono ?_
  rintro e w2 ⟨v, rfl, hO, hN⟩
  obtain ⟨a1, c1, rfl⟩ := own_shape hO.own
  have B2 := hid (BE.out a1 c1 w2 hN hO)
  clear BE HAP hO hN d0 l0 K
  go_wp2_with (go_at_call 54; refine Hid.out ?_)
  refine hid ?_
  refine B2.out.mono ?_
  rintro e w3 ⟨rfl, hE⟩
  have HE := hid hE
  clear hE
  go_wp2
  go_ret
  exact ⟨rfl, HE.out⟩
/-- The engine's tableau is a copy. -/
theorem en28_any (X : Nat) (t : Tb) (a : Option Addr) (c : Nat) (W : World) (K : BK W X #[.int .i64 t.n, .slice a t.rows.length c] 101) (H : TS W a c t.rows) (hl : t.rows.length ≤ 1000) :
    Calls Try.prog 28 #[.pointer (some ⟨X, 0, none⟩)] W fun e W' => ∃ v, e = .returned (.agg #[.int .i64 t.n, v]) ∧ OT W' W.heap.size v t.rows ∧ Below W.heap.size W W' := by
  have hB0 := bal (Below.refl W.heap.size W) (.cells #[.int .i64 0, .slice none 0 0] 24)
  have k0 := K.alloc (.cells #[.int .i64 0, .slice none 0 0] 24)
  have d0 := k0.cell
  have l0 := k0.lt
  have K2 := hid (bk_new W #[.int .i64 0, .slice none 0 0] 24)
  have CO := hid (copied_any t a c _ (H.below hB0) hl)
  have HB := hid hB0
  clear H K
  obtain ⟨n, rs⟩ := t
  simp only at *
  go_enter Try.func28, Try.ntmps28
  go_wp2_with (go_at_call 55; refine Hid.out ?_)
  refine hid ?_
  refine CO.out.mono ?_
  rintro e w2 ⟨v, rfl, hO, hN⟩
  obtain ⟨a1, c1, rfl⟩ := own_shape hO.own
  have k2 := bk_on K2.out hN
  have d2 := k2.cell
  have f2 := k2.free
  have l2 := k2.lt
  have r0 := k2.set 0 (.int .i64 n)
  have r1 := r0.set 1 (.slice a1 rs.length c1)
  have HO2 := hid (((hO.put k2 (by decide) 0 (.int .i64 n)).put r0 (by decide) 1 (.slice a1 rs.length c1)).mono (show W.heap.size ≤ _ from hB0.size))
  have HBf := hid (bset (bset (btr hB0 hN) W.heap.size 0 (.int .i64 n) (Nat.le_refl _)) W.heap.size 1 (.slice a1 rs.length c1) (Nat.le_refl _))
  have q0 : ((w2.setCell ⟨W.heap.size, 0, none⟩ (.int .i64 n)).setCell ⟨W.heap.size, 1, none⟩ (.slice a1 rs.length c1)).cell? ⟨W.heap.size, 0, none⟩ = some (.int .i64 n) := r1.cell 0
  have q1 : ((w2.setCell ⟨W.heap.size, 0, none⟩ (.int .i64 n)).setCell ⟨W.heap.size, 1, none⟩ (.slice a1 rs.length c1)).cell? ⟨W.heap.size, 1, none⟩ = some (.slice a1 rs.length c1) := r1.cell 1
  clear hO hN CO k0 d0 l0
  go_wp2
  exact bodyPost_ret (v := .agg #[.int .i64 n, .slice a1 rs.length c1]) (by simp [results, Try.results28, go_sem, q0, q1]) rfl ⟨_, rfl, HO2.out, HBf.out⟩
end Go.Proofs.Ytoddbaljnlhhaaa
namespace Go.Proofs.Ytoddbaljnlhhaaa
open Go.RowKit Go.Sort
open PL (pv PS bt)

theorem rproject_t (t : Tb) (a : Option Addr) (c : Nat) (q bit : Int) (w : World) (H : TS w a c t.rows) (hR : Rt t) :
    Calls Try.prog 23 #[t.v a c, .int .i64 q, .int .i64 bit] w fun e w' => ∃ v, e = .returned (.tuple #[.agg #[.int .i64 (prjT t q bit).1.n, v], .int .i64 (prjT t q bit).2]) ∧ OT w' w.heap.size v (prjT t q bit).1.rows ∧ Below w.heap.size w w' := by
  have ZZ : ∀ E, prjT t q bit = (⟨0, []⟩, E) → (Calls Try.prog 23 #[t.v a c, .int .i64 q, .int .i64 bit] w fun e w' => e = .returned (.tuple #[.agg #[.int .i64 0, .slice none 0 0], .int .i64 E]) ∧ Below w.heap.size w w') → Calls Try.prog 23 #[t.v a c, .int .i64 q, .int .i64 bit] w fun e w' => ∃ v, e = .returned (.tuple #[.agg #[.int .i64 (prjT t q bit).1.n, v], .int .i64 (prjT t q bit).2]) ∧ OT w' w.heap.size v (prjT t q bit).1.rows ∧ Below w.heap.size w w' := fun E e h => by
    rw [e]
    refine h.mono ?_
    rintro e w' ⟨rfl, hB⟩
    exact ⟨_, rfl, OT.nil _ _, hB⟩
  by_cases hq : 0 ≤ q ∧ q < t.n
  case neg =>
    have e : (fndT t q).2.2 = 112 := by unfold fndT; rw [if_neg hq]
    exact ZZ 112 (by unfold prjT; rw [e, if_pos (by decide)]) (rproject_bad t a c q bit 112 w H hR (.inl ⟨by omega, rfl⟩))
  have h1' : (fndT t q).2.2 = 0 := by
    unfold fndT
    rw [if_pos hq]
    split
    · rfl
    · split <;> rfl
  have h1 : ¬ (fndT t q).2.2 ≠ 0 := fun h => h h1'
  by_cases h2 : bit = 0 ∨ bit = 1
  case neg => exact ZZ 2 (by unfold prjT; rw [if_neg h1, if_pos h2]) (rproject_bad t a c q bit 2 w H hR (.inr ⟨hq, by omega, rfl⟩))
  by_cases h3 : (fndT t q).2.1 = false
  · have e : prjT t q bit = (⟨t.n, chR t.rows t.n.toNat q.toNat bit (ffN q.toNat (t.rows.drop t.n.toNat)) (t.rows.getD (t.n.toNat + ffN q.toNat (t.rows.drop t.n.toNat)) ⟨0, 0, 0, 0⟩)⟩, 0) := by
      unfold prjT; rw [if_neg h1, if_neg (fun h => h h2), if_pos h3]
    rw [e]
    obtain ⟨q', N, hqq, hN, hqN, hff⟩ := fnd_free hR h1' h3
    obtain ⟨n, rs⟩ := t
    have hN : n = (N : Int) := hN
    subst hN
    subst hqq
    have hl : rs.length = 2 * N := by have h : ((rs.length : Nat) : Int) = 2 * (N : Nat) := hR.len; omega
    have hff : ffN q' (rs.drop N) < N := hff
    exact rproject_free N rs a c q' bit w H hR hqN h2 _ rfl hff _ (by
      show rs[N + ffN q' (rs.drop N)]? = some (rs.getD (N + ffN q' (rs.drop N)) ⟨0, 0, 0, 0⟩)
      rw [List.getD_eq_getElem?_getD, List.getElem?_eq_getElem (by omega)]
      rfl)
  have h3' : (fndT t q).2.1 = true := by cases h : (fndT t q).2.1 with
    | true => rfl
    | false => exact absurd h h3
  by_cases h4 : (fndT t q).1 = bit
  · have e : prjT t q bit = (t, 0) := by unfold prjT; rw [if_neg h1, if_neg (fun h => h h2), if_neg h3, if_neg (fun h => h h4)]
    rw [e]
    exact rproject_same t a c q bit w H hR (Prod.ext h4 (Prod.ext h3' h1')) h2
  · exact ZZ 131 (by unfold prjT; rw [if_neg h1, if_neg (fun h => h h2), if_neg h3, if_pos h4]) (rproject_null t a c q (fndT t q).1 bit w H hR (Prod.ext rfl (Prod.ext h3' h1')) h2 h4)
/-- Project of the code and of the reference tell the same. -/
theorem project_pair (t : Tb) (a : Option Addr) (c : Nat) (q bit : Int) (w : World) (H : TS w a c t.rows) : ∃ (T : Tb) (E : Int),
    (∀ w', Below w.heap.size w w' → Calls Try.prog 23 #[t.v a c, .int .i64 q, .int .i64 bit] w' fun e w2 => ∃ v, e = .returned (.tuple #[.agg #[.int .i64 T.n, v], .int .i64 E]) ∧ OT w2 w'.heap.size v T.rows ∧ Below w'.heap.size w' w2) ∧
    (∀ w', Below w.heap.size w w' → Calls Try.prog 24 #[t.v a c, .int .i64 q, .int .i64 bit] w' fun e w2 => ∃ v, e = .returned (.tuple #[.agg #[.int .i64 T.n, v], .int .i64 E]) ∧ OT w2 w'.heap.size v T.rows ∧ Below w'.heap.size w' w2) := by
  by_cases hR : Rt t
  · exact ⟨(prjT t q bit).1, (prjT t q bit).2, fun w' h => rproject_t t a c q bit w' (H.below h) hR, fun w' h => project_t t a c q bit w' (H.below h) hR⟩
  · refine ⟨⟨0, []⟩, 180, fun w' h => (rproject_f t a c q bit w' (H.below h) hR).mono ?_, fun w' h => (project_f t a c q bit w' (H.below h) hR).mono ?_⟩
    all_goals
      rintro e w2 ⟨rfl, hB⟩
      exact ⟨_, rfl, OT.nil _ _, hB⟩
set_option maxHeartbeats 4000000 in
set_option maxRecDepth 100000 in
theorem projects_any (t : Tb) (a : Option Addr) (c : Nat) (q bit : Int) (w : World) (H : TS w a c t.rows) :
    Calls Try.prog 5 #[t.v a c, .int .i64 q, .int .i64 bit] w fun e w' => e = .returned (.bool true) ∧ Below w.heap.size w w' := by
  have AW := hid (fun w' => awake_any w')
  obtain ⟨T, E, P1, P2⟩ := project_pair t a c q bit w H
  have P1 := hid P1
  have P2 := hid P2
  have HB := hid (bal (Below.refl w.heap.size w) (.cells #[.int .i64 t.n, .slice a t.rows.length c] 24))
  have K3 := hid (bk_new w #[.int .i64 t.n, .slice a t.rows.length c] 24)
  have hEE : (E == E) = true := by simp
  have EQ := fun (a1 a2 : Option Addr) (c1 c2 : Nat) (W : World) (h1 : TS W a1 c1 T.rows) (h2 : TS W a2 c2 T.rows) => requal_any T T a1 a2 c1 c2 W h1 h2 true (fun _ => rfl) (fun h => absurd rfl h)
  have EQ := hid EQ
  clear H
  obtain ⟨n, rs⟩ := t
  obtain ⟨m, us⟩ := T
  simp only at *
  go_enter Try.func5, Try.ntmps5
  go_wp2_with (go_at_call 9; refine Hid.out ?_)
  refine hid ?_
  refine (AW.out _).mono ?_
  rintro e w1 ⟨rfl, hN⟩
  replace HB := hid (btr HB.out hN)
  replace K3 := hid (bk_on K3.out hN)
  clear hN AW
  have d3 := K3.out.cell
  have l3 := K3.out.lt
  go_wp2_with (go_at_call 23; refine Hid.out ?_)
  refine hid ?_
  refine (P1.out _ HB.out).mono ?_
  rintro e w2 ⟨v, rfl, hO, hN⟩
  obtain ⟨a1, c1, rfl, hT⟩ := hO.ts
  have hA := bal (Below.refl w2.heap.size w2) (.cells #[.int .i64 m, .slice a1 us.length c1] 24)
  have K7 := hid (bk_new w2 #[.int .i64 m, .slice a1 us.length c1] 24)
  have T7 := hid (hT.below hA)
  replace HB := hid (btr (btr HB.out hN) hA)
  replace K3 := hid (bk_on K3.out (btr hN hA))
  clear hN hA hO hT d3 l3 P1
  generalize hV : w2.alloc (.cells #[.int .i64 m, .slice a1 us.length c1] 24) = V at *
  have d3 := K3.out.cell
  have l3 := K3.out.lt
  go_wp2_with (go_at_call 24; refine Hid.out ?_)
  refine hid ?_
  refine (P2.out _ HB.out).mono ?_
  rintro e w3 ⟨v, rfl, hO, hN⟩
  obtain ⟨a2, c2, rfl, hT⟩ := hO.ts
  have hA := bal (Below.refl w3.heap.size w3) (.cells #[.int .i64 m, .slice a2 us.length c2] 24)
  have K9 := hid (bk_new w3 #[.int .i64 m, .slice a2 us.length c2] 24)
  have T9 := hid (hT.below hA)
  replace HB := hid (btr (btr HB.out hN) hA)
  replace K7 := hid (bk_on K7.out (btr hN hA))
  replace T7 := hid (T7.out.below (btr hN hA))
  clear hN hA hO hT d3 l3 P2 K3
  generalize hZ : w3.alloc (.cells #[.int .i64 m, .slice a2 us.length c2] 24) = Z at *
  have d7 := K7.out.cell
  have l7 := K7.out.lt
  have d9 := K9.out.cell
  have l9 := K9.out.lt
  go_wp2_with (go_at_call 20; refine Hid.out ?_)
  refine hid ?_
  refine (EQ.out _ _ _ _ _ T9.out T7.out).mono ?_
  rintro e w4 ⟨rfl, hN⟩
  go_wp2
  go_ret
  exact ⟨rfl, btr HB.out hN⟩
end Go.Proofs.Ytoddbaljnlhhaaa
namespace Go.Proofs.Ytoddbaljnlhhaaa
open Go.RowKit Go.Sort
open PL (pv PS bt cgk cgT)

theorem zUp_two (N : Nat) : zUp N 2 = zPart N 0 N ++ zPart N 1 N := by
  show ([] ++ zPart N 0 N) ++ zPart N 1 N = _
  rw [List.nil_append]
theorem zUp_lo {N j : Nat} (h : j < N) (hj : j < (zUp N 2).length) : (zUp N 2)[j] = ⟨(N : Nat), 2 ^ j, 0, 0⟩ := by
  have e : (zUp N 2)[j]? = some (zRow N 0 j) := by
    rw [zUp_two, List.getElem?_append_left (by rw [zPart_len]; exact h)]
    unfold zPart
    rw [List.getElem?_map, List.getElem?_range h]
    rfl
  rw [List.getElem?_eq_getElem hj] at e
  exact Option.some.inj e
theorem zUp_hi {N j : Nat} (h : N ≤ j) (h2 : j < 2 * N) (hj : j < (zUp N 2).length) : (zUp N 2)[j] = ⟨(N : Nat), 0, 2 ^ (j - N), 0⟩ := by
  have e : (zUp N 2)[j]? = some (zRow N 1 (j - N)) := by
    rw [zUp_two, List.getElem?_append_right (by rw [zPart_len]; exact h), zPart_len]
    unfold zPart
    rw [List.getElem?_map, List.getElem?_range (by omega)]
    rfl
  rw [List.getElem?_eq_getElem hj] at e
  exact Option.some.inj e
theorem zero_rt (n : Int) (h : (zrT n).2 = 0) : Rt (zrT n).1 := by
  unfold zrT at h ⊢
  by_cases hn : 0 ≤ n ∧ n ≤ 64
  case neg => rw [if_neg hn] at h; cases h
  rw [if_pos hn]
  obtain ⟨N, rfl⟩ := Int.eq_ofNat_of_zero_le hn.1
  have hN : N ≤ 64 := by omega
  show Rt ⟨((N : Nat) : Int), zUp N 2⟩
  have hl : (zUp N 2).length = 2 * N := zUp_len N 2
  have hp : ∀ k, k < N → 2 ^ k < 2 ^ N := fun k hk => Nat.pow_lt_pow_right (by omega) hk
  refine ⟨by show (0 : Int) ≤ (N : Nat); omega, by show ((N : Nat) : Int) ≤ 64; omega, by show ((zUp N 2).length : Int) = 2 * (N : Nat); omega, fun j hj => ?_, fun j hj k hk => ?_⟩
  · have hj : j < (zUp N 2).length := hj
    show rowOk (N : Nat) (zUp N 2)[j]
    by_cases h1 : j < N
    · rw [zUp_lo h1 hj]
      exact ⟨⟨by show (0 : Int) ≤ (N : Nat); omega, by show ((N : Nat) : Int) ≤ 64; omega, hp j h1, Nat.two_pow_pos _, by show (0 : Int) ≤ 0; omega, by show (0 : Int) ≤ 3; omega⟩, rfl, rfl⟩
    · rw [zUp_hi (by omega) (by omega) hj]
      exact ⟨⟨by show (0 : Int) ≤ (N : Nat); omega, by show ((N : Nat) : Int) ≤ 64; omega, Nat.two_pow_pos _, hp (j - N) (by omega), by show (0 : Int) ≤ 0; omega, by show (0 : Int) ≤ 3; omega⟩, rfl, rfl⟩
  · have hj : j < (zUp N 2).length := hj
    show comP (zUp N 2)[j] ((zUp N 2)[k]'(Nat.lt_trans hk hj)) ↔ ¬ ((j : Nat) : Int) = (k : Int) + (N : Nat)
    by_cases h1 : j < N
    · rw [zUp_lo h1 hj, zUp_lo (by omega) (Nat.lt_trans hk hj)]
      have e : PL.comB (2 ^ j) 0 (2 ^ k) 0 = 0 := by simp [PL.comB_is, PL.pop_zero]
      exact ⟨fun _ => by omega, fun _ => e⟩
    · rw [zUp_hi (by omega) (by omega) hj]
      by_cases h2 : k < N
      · rw [zUp_lo h2 (Nat.lt_trans hk hj)]
        have e : PL.comB 0 (2 ^ (j - N)) (2 ^ k) 0 = if j - N = k then 1 else 0 := by rw [com_z' _ _ _ (by omega), PL.bt_pow]
        show PL.comB 0 (2 ^ (j - N)) (2 ^ k) 0 = 0 ↔ _
        rw [e]
        by_cases h3 : j - N = k
        · rw [if_pos h3]; constructor <;> intro h <;> omega
        · rw [if_neg h3]; constructor <;> intro h <;> omega
      · rw [zUp_hi (by omega) (by omega) (Nat.lt_trans hk hj)]
        have e : PL.comB 0 (2 ^ (j - N)) 0 (2 ^ (k - N)) = 0 := by simp [PL.comB_is, PL.pop_zero]
        exact ⟨fun _ => by omega, fun _ => e⟩
/-- New where it refuses. -/
theorem new_no (n : Int) (w : World) (h : (zrT n).2 ≠ 0) : Calls Try.prog 29 #[.int .i64 n] w fun e w' => e = .returned (.tuple #[.pointer none, .int .i64 (zrT n).2]) ∧ Below w.heap.size w w' := by
  have Z := hid (zero_any n w)
  obtain ⟨T, E, hE⟩ : ∃ T E, zrT n = (T, E) := ⟨_, _, rfl⟩
  rw [hE] at Z h ⊢
  clear hE
  simp only at *
  have hb : (E == 0) = false := beq_eq_false_iff_ne.2 h
  obtain ⟨m, rs⟩ := T
  simp only at *
  go_enter Try.func29, Try.ntmps29
  go_wp2_with (go_at_call 14; refine Hid.out ?_)
  refine hid ?_
  refine Z.out.mono ?_
  rintro e w1 ⟨v, rfl, hO, hN⟩
  obtain ⟨a, c, rfl⟩ := own_shape hO.own
  have HB := hid (bal hN (.cells #[.int .i64 m, .slice a rs.length c] 24))
  clear hO hN Z
  go_wp2
  go_ret2
  exact ⟨rfl, HB.out⟩
/-- New where it makes an engine. -/
theorem new_yes (n : Int) (w : World) (h : (zrT n).2 = 0) : Calls Try.prog 29 #[.int .i64 n] w fun e w' => ∃ X v, e = .returned (.tuple #[.pointer (some ⟨X, 0, none⟩), .int .i64 0]) ∧ Below w.heap.size w w' ∧ w.heap.size ≤ X ∧ BK w' X #[.int .i64 (zrT n).1.n, v] 101 ∧ OT w' w.heap.size v (zrT n).1.rows := by
  have Z := hid (zero_any n w)
  obtain ⟨T, E, hE⟩ : ∃ T E, zrT n = (T, E) := ⟨_, _, rfl⟩
  rw [hE] at Z h ⊢
  clear hE
  simp only at *
  subst h
  obtain ⟨m, rs⟩ := T
  simp only at *
  go_enter Try.func29, Try.ntmps29
  go_wp2_with (go_at_call 14; refine Hid.out ?_)
  refine hid ?_
  refine Z.out.mono ?_
  rintro e w1 ⟨v, rfl, hO, hN⟩
  obtain ⟨a, c, rfl⟩ := own_shape hO.own
  have k4 := bk_new w1 #[.int .i64 m, .slice a rs.length c] 24
  have d4 := k4.cell
  have l4 := k4.lt
  have kX := bk_new (w1.alloc (.cells #[.int .i64 m, .slice a rs.length c] 24)) #[.int .i64 m, .slice a rs.length c] 101
  rw [PL.alz] at kX
  have KX := hid kX
  have hA := bal (bal (Below.refl w1.heap.size w1) (.cells #[.int .i64 m, .slice a rs.length c] 24)) (.cells #[.int .i64 m, .slice a rs.length c] 101)
  have HO := hid (hO.below hA)
  have HB := hid (btr hN hA)
  have hz : Hid (w.heap.size ≤ w1.heap.size + 1) := Nat.le_succ_of_le hN.size
  clear hO hN Z hA k4 kX
  go_wp2
  go_ret2
  exact ⟨_, _, rfl, HB.out, hz.out, KX.out, HO.out⟩
/-- Apply: what it makes of a right tableau. -/
theorem ap_step {t : Tb} (hR : Rt t) (s : ByteArray) (q : Nat → Int) (m : Nat) : ∃ (T : Tb) (E : Int), (E = 0 → Rt T) ∧
    (∀ a c aq cq w, TS w a c t.rows → BL.Row aq q m w → m ≤ cq → cq ≤ 9223372036854775807 → Calls Try.prog 21 #[t.v a c, .string s, .slice aq m cq] w fun e w2 => ∃ v, e = .returned (.tuple #[.agg #[.int .i64 T.n, v], .int .i64 E]) ∧ OT w2 w.heap.size v T.rows ∧ Below w.heap.size w w2) ∧
    (∀ a c aq cq w, TS w a c t.rows → BL.Row aq q m w → m ≤ cq → cq ≤ 9223372036854775807 → Calls Try.prog 51 #[t.v a c, .string s, .slice aq m cq] w fun e w2 => ∃ v, e = .returned (.tuple #[.agg #[.int .i64 T.n, v], .int .i64 E]) ∧ OT w2 w.heap.size v T.rows ∧ Below w.heap.size w w2) := by
  by_cases hE : gE t.n s q m = 0
  case neg =>
    refine ⟨⟨0, []⟩, gE t.n s q m, fun h => absurd h hE, fun a c aq cq w H HQ hm hc => (rapply_no t a c s q aq m cq w H hR HQ hm hc hE).mono ?_, fun a c aq cq w H HQ hm hc => (applied_no t a c s q aq m cq w HQ hm hc hE).mono ?_⟩
    all_goals
      rintro e w2 ⟨rfl, hB⟩
      exact ⟨_, rfl, OT.nil _ _, hB⟩
  obtain ⟨i, hi, rfl, rfl, hP, hq⟩ := gE_ok (by have := hR.n1; omega) hE
  exact ⟨⟨t.n, t.rows.map (trR i q)⟩, 0, fun _ => hR.turn hi hP hq, fun a c aq cq w H HQ hm hc => rapply_yes t a c i hi q aq cq w H hR HQ hm hc hE hP hq, fun a c aq cq w H HQ hm hc => applied_yes t a c i hi q aq cq w H hR HQ hm hc hE hP hq⟩
theorem prj_rt {t : Tb} (hR : Rt t) (q bit : Int) (h : (prjT t q bit).2 = 0) : Rt (prjT t q bit).1 := by
  by_cases h1 : (fndT t q).2.2 ≠ 0
  · unfold prjT at h; rw [if_pos h1] at h; exact absurd h h1
  have h1' : (fndT t q).2.2 = 0 := Classical.not_not.1 h1
  by_cases h2 : bit = 0 ∨ bit = 1
  case neg => unfold prjT at h; rw [if_neg h1, if_pos h2] at h; cases h
  by_cases h3 : (fndT t q).2.1 = false
  · obtain ⟨q', N, i, p, _, hC, e⟩ := chs_of hR h1' h3 h2
    rw [e]
    exact hC.rt
  by_cases h4 : (fndT t q).1 ≠ bit
  · unfold prjT at h; rw [if_neg h1, if_neg (fun h => h h2), if_neg h3, if_pos h4] at h; cases h
  · have e : prjT t q bit = (t, 0) := by unfold prjT; rw [if_neg h1, if_neg (fun h => h h2), if_neg h3, if_neg h4]
    rw [e]
    exact hR
/-- Project: likewise. -/
theorem pr_step {t : Tb} (hR : Rt t) (q bit : Int) : ∃ (T : Tb) (E : Int), (E = 0 → Rt T) ∧
    (∀ a c w, TS w a c t.rows → Calls Try.prog 23 #[t.v a c, .int .i64 q, .int .i64 bit] w fun e w2 => ∃ v, e = .returned (.tuple #[.agg #[.int .i64 T.n, v], .int .i64 E]) ∧ OT w2 w.heap.size v T.rows ∧ Below w.heap.size w w2) ∧
    (∀ a c w, TS w a c t.rows → Calls Try.prog 53 #[t.v a c, .int .i64 q, .int .i64 bit] w fun e w2 => ∃ v, e = .returned (.tuple #[.agg #[.int .i64 T.n, v], .int .i64 E]) ∧ OT w2 w.heap.size v T.rows ∧ Below w.heap.size w w2) :=
  ⟨(prjT t q bit).1, (prjT t q bit).2, prj_rt hR q bit, fun a c w H => rproject_t t a c q bit w H hR, fun a c w H => projected_any t a c q bit w H hR⟩
/-- What stands between two steps: the engine in block X, the law's own tableau in block G. -/
structure EN (w0 W : World) (X G : Nat) (t : Tb) (a a' : Option Addr) (c c' : Nat) : Prop where
  b : Below w0.heap.size w0 W
  hX : w0.heap.size ≤ X
  hG : w0.heap.size ≤ G
  rt : Rt t
  kX : BK W X #[.int .i64 t.n, .slice a t.rows.length c] 101
  oX : OT W w0.heap.size (.slice a t.rows.length c) t.rows
  kG : BK W G #[.int .i64 t.n, .slice a' t.rows.length c'] 24
  oG : OT W w0.heap.size (.slice a' t.rows.length c') t.rows
theorem OT.ts' {W : World} {B : Nat} {a : Option Addr} {c : Nat} {rs : List Pr} (h : OT W B (.slice a rs.length c) rs) : TS W a c rs := by
  obtain ⟨a', c', e, h'⟩ := h.ts
  cases e
  exact h'
theorem EN.on {w0 W W' : World} {X G : Nat} {t : Tb} {a a' : Option Addr} {c c' : Nat} (h : EN w0 W X G t a a' c c') (hb : Below W.heap.size W W') : EN w0 W' X G t a a' c c' :=
  ⟨btr h.b hb, h.hX, h.hG, h.rt, bk_on h.kX hb, h.oX.below hb, bk_on h.kG hb, h.oG.below hb⟩
theorem EN.ne {w0 W : World} {X G : Nat} {t : Tb} {a a' : Option Addr} {c c' : Nat} (h : EN w0 W X G t a a' c c') : X ≠ G := fun e => by
  have h1 := h.kX
  have h2 := h.kG
  rw [e] at h1
  have h3 := h1.symm.trans h2
  have h4 := Option.some.inj h3
  injection h4 with _ h5
  exact absurd h5 (by decide)
theorem EN.tX {w0 W : World} {X G : Nat} {t : Tb} {a a' : Option Addr} {c c' : Nat} (h : EN w0 W X G t a a' c c') : TS W a c t.rows := h.oX.ts'
theorem EN.tG {w0 W : World} {X G : Nat} {t : Tb} {a a' : Option Addr} {c c' : Nat} (h : EN w0 W X G t a a' c c') : TS W a' c' t.rows := h.oG.ts'
/-- A method that changed the engine, and then the law's own box. -/
theorem EN.up {w0 W W1 : World} {X G : Nat} {t T : Tb} {a a' a1 a2 : Option Addr} {c c' c1 c2 : Nat} (h : EN w0 W X G t a a' c c') (hR : Rt T) (hb : Below W.heap.size W W1)
    (h1 : OT W1 w0.heap.size (.slice a1 T.rows.length c1) T.rows) (h2 : OT W1 w0.heap.size (.slice a2 T.rows.length c2) T.rows) :
    EN w0 ((((W1.setCell ⟨X, 0, none⟩ (.int .i64 T.n)).setCell ⟨X, 1, none⟩ (.slice a1 T.rows.length c1)).setCell ⟨G, 0, none⟩ (.int .i64 T.n)).setCell ⟨G, 1, none⟩ (.slice a2 T.rows.length c2)) X G T a1 a2 c1 c2 := by
  have hne := h.ne
  have kx := bk_on h.kX hb
  have kg := bk_on h.kG hb
  have x1 := kx.set 0 (.int .i64 T.n)
  have x2 := x1.set 1 (.slice a1 T.rows.length c1)
  have g1 := kg.far hne 0 (.int .i64 T.n)
  have g2 := g1.far hne 1 (.slice a1 T.rows.length c1)
  have g3 := g2.set 0 (.int .i64 T.n)
  have g4 := g3.set 1 (.slice a2 T.rows.length c2)
  have x3 := x2.far hne.symm 0 (.int .i64 T.n)
  have x4 := x3.far hne.symm 1 (.slice a2 T.rows.length c2)
  have p1 := (((h1.put kx (by decide) 0 (.int .i64 T.n)).put x1 (by decide) 1 (.slice a1 T.rows.length c1)).put g2 (by decide) 0 (.int .i64 T.n)).put g3 (by decide) 1 (.slice a2 T.rows.length c2)
  have p2 := (((h2.put kx (by decide) 0 (.int .i64 T.n)).put x1 (by decide) 1 (.slice a1 T.rows.length c1)).put g2 (by decide) 0 (.int .i64 T.n)).put g3 (by decide) 1 (.slice a2 T.rows.length c2)
  exact ⟨bset (bset (bset (bset (btr h.b hb) X 0 _ h.hX) X 1 _ h.hX) G 0 _ h.hG) G 1 _ h.hG, h.hX, h.hG, hR, x4, p1, g4, p2⟩
end Go.Proofs.Ytoddbaljnlhhaaa
