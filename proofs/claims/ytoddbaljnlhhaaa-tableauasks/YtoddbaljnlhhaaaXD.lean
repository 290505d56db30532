/-
  Put together of: J2 J5 J6 Row1 PRow0.
-/
import Derived.Test.YtoddbaljnlhhaaaXC
import Derived.Test.YtoddbaljnlhhaaaA6
import Derived.BigRegion
import Derived.Test.YtoddbaljnlhhaaaXA
import Derived.Test.YtoddbaljnlhhaaaB2
import Derived.Test.YtoddbaljnlhhaaaA0
import Derived.Test.YtoddbaljnlhhaaaBList
import Derived.ProofKit
import Derived.OpenShut
import Derived.Carry
import Derived.ChangeMaps5
import Derived.Deep.Strs
import Derived.Deep.Fields
import Derived.Test.YtoddbaljnlhhaaaRows
import Derived.Test.YtoddbaljnlhhaaaPP1
import Derived.Lib.SmallJoins
namespace Go.Proofs.Ytoddbaljnlhhaaa
open Go.RowKit Go.Sort
open PL (pv PS bt)

/-- What found tells, by the value of Z on the qubit. -/
theorem fnd_is {t : Tb} {N q : Nat} (hR : Rt t) (hN : t.n = (N : Int)) (hq : q < N) : fndT t (q : Nat) = if valT t (zP N q) = 0 then (0, false, 0) else if valT t (zP N q) = 1 then (0, true, 0) else (1, true, 0) := by
  have hl := hR.len
  have h64 := hR.n1
  have hz : (0 ≤ ffI q (t.rows.drop N)) ↔ valT t (zP N q) = 0 := by
    rw [valT_zero hN]
    constructor
    · intro g
      unfold ffI at g
      by_cases g2 : ffN q (t.rows.drop N) < (t.rows.drop N).length
      · have h1 := ffN_at q _ g2
        rw [List.length_drop] at g2
        generalize ffN q (t.rows.drop N) = k at *
        rw [List.getElem_drop] at h1
        refine ⟨k, by omega, fun hc => ?_⟩
        rw [nthP_at (show N + k < t.rows.length by omega)] at hc
        have hc : PL.comB (t.rows[N + k]).ps.x (t.rows[N + k]).ps.z 0 (2 ^ q) = 0 := hc
        rw [com_z _ _ _ (by omega)] at hc
        have h2 : bt (t.rows[N + k]).ps.x q = 1 := by unfold flp at h1; exact beq_iff_eq.1 h1
        omega
      · rw [if_neg g2] at g
        omega
    · rintro ⟨j, hj, hc⟩
      unfold ffI
      by_cases g2 : ffN q (t.rows.drop N) < (t.rows.drop N).length
      · rw [if_pos g2]; omega
      · exfalso
        have hd : j < (t.rows.drop N).length := by rw [List.length_drop]; omega
        have hle := ffN_le q (t.rows.drop N)
        have h1 := ffN_not q (t.rows.drop N) j hd (by omega)
        rw [List.getElem_drop] at h1
        apply hc
        rw [nthP_at (show N + j < t.rows.length by omega)]
        show PL.comB (t.rows[N + j]).ps.x (t.rows[N + j]).ps.z 0 (2 ^ q) = 0
        rw [com_z _ _ _ (by omega)]
        have hb := PL.bt_le (t.rows[N + j]).ps.x q
        have hne : ¬ bt (t.rows[N + j]).ps.x q = 1 := fun e => by
          have e : bt (t.rows[N + j]).x q = 1 := e
          unfold flp at h1
          rw [e] at h1
          cases h1
        omega
  unfold fndT
  rw [if_pos ⟨by omega, by omega⟩, hN, Int.toNat_natCast, Int.toNat_natCast]
  by_cases h : valT t (zP N q) = 0
  · rw [if_pos h, if_pos (hz.2 h)]
  · rw [if_neg h, if_neg (fun g => h (hz.1 g))]
set_option maxHeartbeats 4000000 in
set_option maxRecDepth 100000 in
theorem rfnd_walk (N l A X Z F : Nat) (b : Bool) (o : Int) (a : Option Addr) (c : Nat) (q qz : Nat) (w : World)
    (ON : ∀ w, Calls Try.prog 36 #[.int .i64 (N : Nat), .int .i64 (q : Nat), .int .u8 90, .int .i64 0] w fun e w' => e = .returned (pv (N : Nat) 0 qz 0) ∧ Below w.heap.size w w')
    (IG : Hid (∀ w', Below w.heap.size w w' → Calls Try.prog 39 #[.agg #[.int .i64 (N : Nat), .slice a l c], pv (N : Nat) 0 qz 0] w' fun e w'' => e = .returned (.tuple #[pv (A : Nat) X Z (F : Nat), .bool b]) ∧ Below w'.heap.size w' w''))
    (hF : Hid (b = false ∧ F = 0 ∧ o = 0 ∨ b = true ∧ F = 0 ∧ o = 0 ∨ b = true ∧ F = 2 ∧ o = 1)) :
    Calls Try.prog 37 #[.agg #[.int .i64 (N : Nat), .slice a l c], .int .i64 (q : Nat)] w fun e w' => e = .returned (.tuple #[.int .i64 o, .bool b]) ∧ Below w.heap.size w w' := by
  have B0 := hid (below_drew (bal (Below.refl w.heap.size w) (.cells #[.int .i64 (N : Int), .slice a l c] 24)))
  have K0 := hid (bk_on (bk_new w #[.int .i64 (N : Int), .slice a l c] 24) drew_ofr)
  have BA := hid (below_drew (bal (bal (Below.refl w.heap.size w) (.cells #[.int .i64 (N : Int), .slice a l c] 24)) (.cells #[.int .i64 0, .int .u64 0, .int .u64 0, .int .i64 0] 27)))
  have KA := hid (bk_on ((bk_new w #[.int .i64 (N : Int), .slice a l c] 24).alloc (.cells #[.int .i64 0, .int .u64 0, .int .u64 0, .int .i64 0] 27)) drew_ofr)
  have ZN : Hid (∀ W : World, PL.PB (W.alloc (.cells #[.int .i64 0, .int .u64 0, .int .u64 0, .int .i64 0] 27)) W.heap.size 0 0 0 0) := fun W => PL.PB.new W 0 0 0 0
  have ZD : Hid (PL.PB (((w.alloc (.cells #[.int .i64 (N : Int), .slice a l c] 24)).alloc (.cells #[.int .i64 0, .int .u64 0, .int .u64 0, .int .i64 0] 27)).drew) (w.heap.size + 1) 0 0 0 0) := by
    have h := (PL.PB.new (w.alloc (.cells #[.int .i64 (N : Int), .slice a l c] 24)) 0 0 0 0).drew
    rw [PL.alz] at h
    exact h
  go_enter Try.func37, Try.ntmps37
  go_upto_region 1 with (fail)
  go_region_with (first
      | (go_at_call 36; (refine (ON _).mono ?_); rintro e w1 ⟨rfl, hN1⟩; first
        | ((have k1 := bk_on KA.out hN1); (have d1 := k1.cell); (have l1 := k1.lt); (have z1 := hid (ZD.out.below hN1)); have hB1 := btr BA.out hN1)
        | ((have k1 := bk_on K0.out hN1); (have d1 := k1.cell); (have l1 := k1.lt); have hB1 := btr B0.out hN1))
      | (go_at_call 39; first
        | ((refine (IG.out _ hB1).mono ?_); rintro e w2 ⟨rfl, hN2⟩; (have hB2 := btr hB1 hN2); first
          | ((have z2 := z1.out.below hN2); (have zl := z2.lt); obtain ⟨x0, x1, x2, x3, y0, y1, y2, y3⟩ := z2)
          | skip)
        | ((refine (IG.out _ (bal hB1 _)).mono ?_); rintro e w2 ⟨rfl, hN2⟩; (have hB2 := btr (bal hB1 _) hN2); (have z2 := (ZN.out _).below hN2); (have zl := z2.lt); obtain ⟨x0, x1, x2, x3, y0, y1, y2, y3⟩ := z2)))
  all_goals
    first
      | (have r := ((((z1.out.below hN2).set0 (A : Int)).set1 X).set2 Z).set3 (F : Int)
         obtain ⟨q0, q1, q2, q3, _, _, _, _⟩ := r
         have hs1 := hB1.size
         have hs2 := hB2.size
         have hBf := hid (bset (bset (bset (bset hB2 (w.heap.size + 1) 0 (.int .i64 (A : Int)) (by omega)) (w.heap.size + 1) 1 (.int .u64 (X : Int)) (by omega)) (w.heap.size + 1) 2 (.int .u64 (Z : Int)) (by omega)) (w.heap.size + 1) 3 (.int .i64 (F : Int)) (by omega))
         clear hs1 hs2
         rcases hF.out with ⟨rfl, rfl, rfl⟩ | ⟨rfl, rfl, rfl⟩ | ⟨rfl, rfl, rfl⟩
         · go_wp2
           exact bodyPost_ret (v := .tuple #[.int .i64 0, .bool false]) (by simp [results, Try.results37, go_sem]) rfl ⟨rfl, hBf.out⟩
         · go_wp2
           exact bodyPost_ret (v := .tuple #[.int .i64 0, .bool true]) (by simp [results, Try.results37, go_sem]) rfl ⟨rfl, hBf.out⟩
         · go_wp2
           exact bodyPost_ret (v := .tuple #[.int .i64 1, .bool true]) (by simp [results, Try.results37, go_sem]) rfl ⟨rfl, hBf.out⟩)
      | (have r := (((((ZN.out _).below hN2).set0 (A : Int)).set1 X).set2 Z).set3 (F : Int)
         obtain ⟨q0, q1, q2, q3, _, _, _, _⟩ := r
         have hs1 := hB1.size
         have hs2 := hB2.size
         have hBf := hid (bset (bset (bset (bset hB2 (w1.heap.size) 0 (.int .i64 (A : Int)) (by omega)) (w1.heap.size) 1 (.int .u64 (X : Int)) (by omega)) (w1.heap.size) 2 (.int .u64 (Z : Int)) (by omega)) (w1.heap.size) 3 (.int .i64 (F : Int)) (by omega))
         clear hs1 hs2
         rcases hF.out with ⟨rfl, rfl, rfl⟩ | ⟨rfl, rfl, rfl⟩ | ⟨rfl, rfl, rfl⟩
         · go_wp2
           exact bodyPost_ret (v := .tuple #[.int .i64 0, .bool false]) (by simp [results, Try.results37, go_sem]) rfl ⟨rfl, hBf.out⟩
         · go_wp2
           exact bodyPost_ret (v := .tuple #[.int .i64 0, .bool true]) (by simp [results, Try.results37, go_sem]) rfl ⟨rfl, hBf.out⟩
         · go_wp2
           exact bodyPost_ret (v := .tuple #[.int .i64 1, .bool true]) (by simp [results, Try.results37, go_sem]) rfl ⟨rfl, hBf.out⟩)
      | (have r := PL.PB.new w2 (A : Nat) X Z (F : Nat)
         obtain ⟨q0, q1, q2, q3, _, _, _, _⟩ := r
         have hs1 := hB1.size
         have hs2 := hB2.size
         have hBf := hid (bal hB2 (PL.pc (A : Nat) X Z (F : Nat)))
         clear hs1 hs2
         rcases hF.out with ⟨rfl, rfl, rfl⟩ | ⟨rfl, rfl, rfl⟩ | ⟨rfl, rfl, rfl⟩
         · go_wp2
           exact bodyPost_ret (v := .tuple #[.int .i64 0, .bool false]) (by simp [results, Try.results37, go_sem]) rfl ⟨rfl, hBf.out⟩
         · go_wp2
           exact bodyPost_ret (v := .tuple #[.int .i64 0, .bool true]) (by simp [results, Try.results37, go_sem]) rfl ⟨rfl, hBf.out⟩
         · go_wp2
           exact bodyPost_ret (v := .tuple #[.int .i64 1, .bool true]) (by simp [results, Try.results37, go_sem]) rfl ⟨rfl, hBf.out⟩)

theorem rfnd_any (N : Nat) (rs : List Pr) (a : Option Addr) (c : Nat) (q : Nat) (w : World) (H : TS w a c rs) (hR : Rt ⟨(N : Nat), rs⟩) (hq : q < N) :
    Calls Try.prog 37 #[Tb.v ⟨(N : Nat), rs⟩ a c, .int .i64 (q : Nat)] w fun e w' => e = .returned (.tuple #[.int .i64 (fndT ⟨(N : Nat), rs⟩ (q : Nat)).1, .bool (fndT ⟨(N : Nat), rs⟩ (q : Nat)).2.1]) ∧ Below w.heap.size w w' := by
  have hn1 : ((N : Nat) : Int) ≤ 64 := hR.n1
  have hN : N ≤ 64 := by omega
  have ON : ∀ w, Calls Try.prog 36 #[.int .i64 (N : Nat), .int .i64 (q : Nat), .int .u8 90, .int .i64 0] w fun e w' => e = .returned (pv (N : Nat) 0 (2 ^ q : Nat) 0) ∧ Below w.heap.size w w' := fun w => ron_any (N : Nat) (q : Nat) 90 0 (2 ^ q) N 0 w (fun w => PL.rone_z N q w hN hq)
  have IG := fun w' (h : Below w.heap.size w w') => inGroup_any N rs a c (zP N q) w' (H.below h) hR (zP_ok hN hq) rfl
  have hfi := fnd_is (N := N) (q := q) hR rfl hq
  by_cases hv : valT ⟨(N : Nat), rs⟩ (zP N q) = 0
  · rw [if_pos hv] at hfi
    rw [hfi]
    rw [inG_no hv] at IG
    exact rfnd_walk N rs.length 0 0 0 0 false 0 a c q (2 ^ q) w ON IG (.inl ⟨rfl, rfl, rfl⟩)
  · obtain ⟨f, hf4, hf2, hig, hvv⟩ := inG_yes hR (zP_ok hN hq) rfl hv
    rw [hig] at IG
    rw [if_neg hv] at hfi
    by_cases hf : f = 0
    · rw [if_pos (show f = (zP N q).f from hf)] at hvv
      rw [if_pos hvv] at hfi
      rw [hfi]
      exact rfnd_walk N rs.length N (zP N q).x (zP N q).z f true 0 a c q (2 ^ q) w ON IG (.inr (.inl ⟨rfl, hf, rfl⟩))
    · rw [if_neg (show ¬ f = (zP N q).f from hf)] at hvv
      rw [if_neg (show ¬ valT ⟨(N : Nat), rs⟩ (zP N q) = 1 by rw [hvv]; decide)] at hfi
      rw [hfi]
      exact rfnd_walk N rs.length N (zP N q).x (zP N q).z f true 1 a c q (2 ^ q) w ON IG (.inr (.inr ⟨rfl, by omega, rfl⟩))
end Go.Proofs.Ytoddbaljnlhhaaa
namespace Go.Proofs.Ytoddbaljnlhhaaa
open Go.RowKit Go.Sort
open PL (pv PS bt)

set_option maxHeartbeats 1000000 in
set_option maxRecDepth 100000 in
theorem rcert_t (t : Tb) (a : Option Addr) (c : Nat) (q : Int) (w : World) (H : TS w a c t.rows) (hR : Rt t) :
    Calls Try.prog 11 #[t.v a c, .int .i64 q] w fun e w' => e = .returned (fndV (fndT t q)) ∧ Below w.heap.size w w' := by
  have CK := fun w' (h : Below w.heap.size w w') => rcheck_t t a c w' (H.below h) hR
  have hB0 := bal (Below.refl w.heap.size w) (.cells #[.int .i64 t.n, .slice a t.rows.length c] 24)
  have hK0 := bk_new w #[.int .i64 t.n, .slice a t.rows.length c] 24
  by_cases hq : 0 ≤ q ∧ q < t.n
  case neg =>
    have e : fndT t q = (0, false, 112) := by unfold fndT; rw [if_neg hq]
    rw [e]
    clear e H hR
    obtain ⟨n, rs⟩ := t
    simp only at *
    by_cases h0 : q < 0
    · clear hq
      go_enter Try.func11, Try.ntmps11
      go_wp2_with (go_at_call 19; (with_reducible refine (CK _ hB0).mono ?_); rintro e w1 ⟨rfl, hB1⟩; (have k1 := bk_on hK0 hB1); (have d1 := k1.cell); have l1 := k1.lt)
      exact bodyPost_ret (v := .tuple #[.int .i64 0, .bool false, .int .i64 112]) (by simp [results, Try.results11, go_sem]) rfl ⟨rfl, btr hB0 hB1⟩
    · have h1 : n ≤ q := by omega
      clear hq
      go_enter Try.func11, Try.ntmps11
      go_wp2_with (go_at_call 19; (with_reducible refine (CK _ hB0).mono ?_); rintro e w1 ⟨rfl, hB1⟩; (have k1 := bk_on hK0 hB1); (have d1 := k1.cell); have l1 := k1.lt)
      exact bodyPost_ret (v := .tuple #[.int .i64 0, .bool false, .int .i64 112]) (by simp [results, Try.results11, go_sem]) rfl ⟨rfl, btr hB0 hB1⟩
  obtain ⟨q, rfl⟩ := Int.eq_ofNat_of_zero_le hq.1
  obtain ⟨N, hN⟩ := Int.eq_ofNat_of_zero_le hR.n0
  obtain ⟨n, rs⟩ := t
  have hN : n = (N : Int) := hN
  subst hN
  have hqN : q < N := by have h : ((q : Nat) : Int) < (N : Int) := hq.2; omega
  have FO := hid (fun w' (h : Below w.heap.size w w') => rfnd_any N rs a c q w' (H.below h) hR hqN)
  have h3 : (fndT ⟨(N : Nat), rs⟩ (q : Nat)).2.2 = 0 := by
    rw [fnd_is hR rfl hqN]
    split
    · rfl
    · split <;> rfl
  clear H hR hq
  have g1 : ¬ ((q : Nat) : Int) < 0 := by omega
  have g2 : ¬ ((N : Nat) : Int) ≤ (q : Nat) := by omega
  have hqn : ((q : Nat) : Int) < (N : Nat) := by omega
  generalize fndT ⟨(N : Nat), rs⟩ (q : Nat) = r at *
  obtain ⟨r1, r2, r3⟩ := r
  obtain rfl : r3 = 0 := h3
  simp only at *
  go_enter Try.func11, Try.ntmps11
  go_wp2_with (first
    | (go_at_call 19; (with_reducible refine (CK _ hB0).mono ?_); rintro e w1 ⟨rfl, hB1⟩; (have k1 := bk_on hK0 hB1); (have d1 := k1.cell); have l1 := k1.lt)
    | (go_at_call 37; refine Hid.out ?_))
  refine hid ?_
  refine (FO.out _ (btr hB0 hB1)).mono ?_
  rintro e w2 ⟨rfl, hB2⟩
  go_wp2
  refine bodyPost_ret (v := .tuple #[.int .i64 r1, .bool r2, .int .i64 0]) (by simp [results, Try.results11, go_sem]) rfl ⟨rfl, btr (btr hB0 hB1) hB2⟩
set_option maxHeartbeats 1000000 in
set_option maxRecDepth 100000 in
theorem rcert_f (t : Tb) (a : Option Addr) (c : Nat) (q : Int) (w : World) (H : TS w a c t.rows) (hR : ¬ Rt t) :
    Calls Try.prog 11 #[t.v a c, .int .i64 q] w fun e w' => e = .returned (fndV (0, false, 180)) ∧ Below w.heap.size w w' := by
  have CK := fun w' (h : Below w.heap.size w w') => rcheck_f t a c w' (H.below h) hR
  have hB0 := bal (Below.refl w.heap.size w) (.cells #[.int .i64 t.n, .slice a t.rows.length c] 24)
  clear H hR
  obtain ⟨n, rs⟩ := t
  simp only at *
  go_enter Try.func11, Try.ntmps11
  go_wp2_with (go_at_call 19; (with_reducible refine (CK _ hB0).mono ?_); rintro e w1 ⟨rfl, hB1⟩)
  refine bodyPost_ret (v := .tuple #[.int .i64 0, .bool false, .int .i64 180]) (by simp [results, Try.results11, go_sem]) rfl ⟨rfl, btr hB0 hB1⟩
end Go.Proofs.Ytoddbaljnlhhaaa
namespace Go.Proofs.Ytoddbaljnlhhaaa
open Go.RowKit Go.Sort
open PL (pv PS bt)

theorem ValA.det {t : Tb} {p : Pr} {v e v' e' : Int} (h : ValA t p v e) (h' : ValA t p v' e') : v' = v ∧ e' = e := by
  rcases h with ⟨h1, rfl, rfl⟩ | ⟨h1, h2, rfl, rfl⟩ | ⟨h1, h2, h3, rfl, rfl⟩ | ⟨h1, h2, h3, h4, rfl, rfl⟩ <;>
    rcases h' with ⟨g1, rfl, rfl⟩ | ⟨g1, g2, rfl, rfl⟩ | ⟨g1, g2, g3, rfl, rfl⟩ | ⟨g1, g2, g3, g4, rfl, rfl⟩ <;>
    first
    | exact ⟨rfl, rfl⟩
    | exact absurd g1 h1
    | exact absurd h1 g1
    | exact absurd g2 h2
    | exact absurd h2 g2
    | (exfalso; rcases g3 with g3 | g3 <;> first | exact g3 h3 | omega)
    | (exfalso; rcases h3 with h3 | h3 <;> first | exact h3 g3 | omega)
theorem SamA.det {t u : Tb} {r r' : Bool} {e e' : Int} (h : SamA t u r e) (h' : SamA t u r' e') : r' = r ∧ e' = e := by
  rcases h with ⟨h1, rfl, rfl⟩ | ⟨h1, h2, h3, rfl, rfl⟩ | ⟨h1, h2, h3, h4, rfl, rfl⟩ <;>
    rcases h' with ⟨g1, rfl, rfl⟩ | ⟨g1, g2, g3, rfl, rfl⟩ | ⟨g1, g2, g3, g4, rfl, rfl⟩ <;>
    first
    | exact ⟨rfl, rfl⟩
    | exact absurd ⟨g1, g2⟩ h1
    | exact absurd ⟨h1, h2⟩ g1
    | exact absurd ⟨g3, g4⟩ h3
    | exact absurd ⟨h3, h4⟩ g3
/-- The boxes of the law. -/
theorem asks_boxes (w : World) (n m : Int) (v u : Value) (pn : Int) (px pz : Nat) (pf : Int) :
    Below w.heap.size w (((w.alloc (.cells #[.int .i64 n, v] 24)).alloc (.cells #[.int .i64 m, u] 24)).alloc (PL.pc pn px pz pf)) ∧ BK (((w.alloc (.cells #[.int .i64 n, v] 24)).alloc (.cells #[.int .i64 m, u] 24)).alloc (PL.pc pn px pz pf)) w.heap.size #[.int .i64 n, v] 24 ∧ BK (((w.alloc (.cells #[.int .i64 n, v] 24)).alloc (.cells #[.int .i64 m, u] 24)).alloc (PL.pc pn px pz pf)) (w.heap.size + 1) #[.int .i64 m, u] 24 ∧ PL.PB (((w.alloc (.cells #[.int .i64 n, v] 24)).alloc (.cells #[.int .i64 m, u] 24)).alloc (PL.pc pn px pz pf)) (w.heap.size + 2) pn px pz pf := by
  obtain ⟨h1, h2, h3⟩ := tt_boxes w n m v u
  refine ⟨bal h1 _, h2.alloc _, h3.alloc _, ?_⟩
  have h := PL.PB.new ((w.alloc (.cells #[.int .i64 n, v] 24)).alloc (.cells #[.int .i64 m, u] 24)) pn px pz pf
  rwa [PL.alz, PL.alz] at h
/-- What the comparisons read. -/
abbrev KC (V W : World) (h x y : Nat) (n : Int) (a : Option Addr) (l c : Nat) (z : Int) (a1 : Option Addr) (k c1 : Nat) (a2 : Option Addr) (c2 : Nat) : Prop := Below V.heap.size V W ∧ W.cell? ⟨h, 0, none⟩ = some (.int .i64 n) ∧ W.cell? ⟨h, 1, none⟩ = some (.slice a l c) ∧ W.cell? ⟨x, 0, none⟩ = some (.int .i64 z) ∧ W.cell? ⟨x, 1, none⟩ = some (.slice a1 k c1) ∧ W.cell? ⟨y, 0, none⟩ = some (.int .i64 z) ∧ W.cell? ⟨y, 1, none⟩ = some (.slice a2 k c2)
theorem kc_keep {V W : World} {h x y : Nat} {n : Int} {a : Option Addr} {l c : Nat} {z : Int} {a1 : Option Addr} {k c1 : Nat} {a2 : Option Addr} {c2 : Nat} (H : KC V V h x y n a l c z a1 k c1 a2 c2) (h1 : h < V.heap.size) (h2 : x < V.heap.size) (h3 : y < V.heap.size) (hb : Below V.heap.size V W) : KC V W h x y n a l c z a1 k c1 a2 c2 := by
  obtain ⟨_, c0, c1, e0, e1, f0, f1⟩ := H
  have g : ∀ x y, x < V.heap.size → W.cell? ⟨x, y, none⟩ = V.cell? ⟨x, y, none⟩ := fun x y hx => hb.cell (p := ⟨x, y, none⟩) hx
  exact ⟨hb, (g _ _ h1).trans c0, (g _ _ h1).trans c1, (g _ _ h2).trans e0, (g _ _ h2).trans e1, (g _ _ h3).trans f0, (g _ _ h3).trans f1⟩
set_option maxHeartbeats 4000000 in
set_option maxRecDepth 100000 in
theorem asks_walk (t u : Tb) (p : Pr) (a a' : Option Addr) (c c' : Nat) (N E r1 r3 : Int) (r2 : Bool) (w : World) (H : TS w a c t.rows) (H' : TS w a' c' u.rows) (hw : p.w64)
    (C18 : Hid (∀ w', Below w.heap.size w w' → Calls Try.prog 18 #[t.v a c] w' fun e w'' => e = .returned (.int .i64 E) ∧ Below w'.heap.size w' w''))
    (C19 : Hid (∀ w', Below w.heap.size w w' → Calls Try.prog 19 #[t.v a c] w' fun e w'' => e = .returned (.int .i64 E) ∧ Below w'.heap.size w' w''))
    (C11 : Hid (∀ w', Below w.heap.size w w' → Calls Try.prog 11 #[t.v a c, .int .i64 N] w' fun e w'' => e = .returned (.tuple #[.int .i64 r1, .bool r2, .int .i64 r3]) ∧ Below w'.heap.size w' w''))
    (C15 : Hid (∀ w', Below w.heap.size w w' → Calls Try.prog 15 #[t.v a c, .int .i64 N] w' fun e w'' => e = .returned (.tuple #[.int .i64 r1, .bool r2, .int .i64 r3]) ∧ Below w'.heap.size w' w'')) :
    Calls Try.prog 3 #[t.v a c, u.v a' c', .int .i64 N, p.v] w fun e w' => e = .returned (.bool true) ∧ Below w.heap.size w w' := by
  have AW := hid (fun w' => awake_any w')
  have RZ := hid (fun w' => rzero_any N w')
  have ZE := hid (fun w' => zero_any N w')
  have RV := hid (fun w' (h' : Below w.heap.size w w') => rvalue_any t a c p w' (H.below h') hw)
  have VA := hid (fun w' (h' : Below w.heap.size w w') => valuePub_any t a c p w' (H.below h') hw)
  have RS := hid (fun w' (h' : Below w.heap.size w w') => rsame_any t u a a' c c' w' (H.below h') (H'.below h'))
  have SA := hid (fun w' (h' : Below w.heap.size w w') => same_any t u a a' c c' w' (H.below h') (H'.below h'))
  have DV : Hid (∀ v e v' e', ValA t p v e → ValA t p v' e' → v' = v ∧ e' = e) := fun _ _ _ _ h h' => h.det h'
  have DS : Hid (∀ v e v' e', SamA t u v e → SamA t u v' e' → v' = v ∧ e' = e) := fun _ _ _ _ h h' => h.det h'
  obtain ⟨hB0, hK0, hL0, hP0⟩ := asks_boxes w t.n u.n (.slice a t.rows.length c) (.slice a' u.rows.length c') p.n p.x p.z p.f
  have HB0 := hid hB0
  have K4 := hid hK0
  have K5 := hid hL0
  have P7 := hid hP0
  have hEE : (E != E) = false := by simp
  clear hB0 hK0 hL0 hP0 H H' hw
  obtain ⟨⟨⟨zn, zs⟩, f⟩, hz⟩ : ∃ r, zrT N = r := ⟨_, rfl⟩
  rw [hz] at RZ ZE
  clear hz
  generalize hPV : ValA t p = PV at *
  generalize hPS : SamA t u = PS' at *
  clear hPV hPS
  obtain ⟨n, rs⟩ := t
  obtain ⟨m, us⟩ := u
  obtain ⟨pn, px, pz, pf⟩ := p
  simp only at *
  go_enter Try.func3, Try.ntmps3
  go_wp2_with (go_at_call 9; refine Hid.out ?_)
  refine hid ?_
  refine (AW.out _).mono ?_
  rintro e w1 ⟨rfl, hB1⟩
  have HB1 := hid (btr HB0.out hB1)
  have K4_1 := hid (bk_on K4.out hB1)
  have K5_1 := hid (bk_on K5.out hB1)
  have P7_1 := hid (P7.out.below hB1)
  go_wp2_with (go_at_call 10; refine Hid.out ?_)
  refine hid ?_
  refine (RZ.out _).mono ?_
  rintro e w2 ⟨v1, rfl, HO1, hB2⟩
  have HB2 := hid (btr HB1.out hB2)
  have K4_2 := hid (bk_on K4_1.out hB2)
  have K5_2 := hid (bk_on K5_1.out hB2)
  have P7_2 := hid (P7_1.out.below hB2)
  obtain ⟨a1, c1, rfl, hT1⟩ := HO1.ts
  have HT1 := hid hT1
  clear hT1 HO1
  have K4_a2 := hid (K4_2.out.alloc (.cells #[.int .i64 zn, .slice a1 zs.length c1] 24))
  have K5_a2 := hid (K5_2.out.alloc (.cells #[.int .i64 zn, .slice a1 zs.length c1] 24))
  have P7_a2 := hid (P7_2.out.alloc (.cells #[.int .i64 zn, .slice a1 zs.length c1] 24))
  have B9 := hid (bk_new w2 #[.int .i64 zn, .slice a1 zs.length c1] 24)
  have HA2 := hid (bal HB2.out (.cells #[.int .i64 zn, .slice a1 zs.length c1] 24))
  have hst2 := hid (bal (Below.refl w2.heap.size w2) (.cells #[.int .i64 zn, .slice a1 zs.length c1] 24))
  have dK42 := K4_a2.out.cell
  have lK42 := K4_a2.out.lt
  go_wp2_with (go_at_call 11; refine Hid.out ?_)
  refine hid ?_
  refine (C11.out _ HA2.out).mono ?_
  rintro e w3 ⟨rfl, hB3⟩
  have HB3 := hid (btr HA2.out hB3)
  have K4_3 := hid (bk_on K4_a2.out hB3)
  have K5_3 := hid (bk_on K5_a2.out hB3)
  have P7_3 := hid (P7_a2.out.below hB3)
  have B9_3 := hid (bk_on B9.out hB3)
  have dK43 := K4_3.out.cell
  have lK43 := K4_3.out.lt
  have pP3 := P7_3.out
  obtain ⟨x30, x31, x32, x33, _, _, _, _⟩ := pP3
  have lP3 := P7_3.out.lt
  go_wp2_with (go_at_call 12; refine Hid.out ?_)
  refine hid ?_
  refine (RV.out _ HB3.out).mono ?_
  rintro e w4 ⟨v, er, rfl, HV1, hB4⟩
  have HB4 := hid (btr HB3.out hB4)
  have K4_4 := hid (bk_on K4_3.out hB4)
  have K5_4 := hid (bk_on K5_3.out hB4)
  have P7_4 := hid (P7_3.out.below hB4)
  have B9_4 := hid (bk_on B9_3.out hB4)
  have HV1 := hid HV1
  have dK44 := K4_4.out.cell
  have lK44 := K4_4.out.lt
  have dK54 := K5_4.out.cell
  have lK54 := K5_4.out.lt
  go_wp2_with (go_at_call 13; refine Hid.out ?_)
  refine hid ?_
  refine (RS.out _ HB4.out).mono ?_
  rintro e w5 ⟨s, es, rfl, HS1, hB5⟩
  have HB5 := hid (btr HB4.out hB5)
  have K4_5 := hid (bk_on K4_4.out hB5)
  have K5_5 := hid (bk_on K5_4.out hB5)
  have P7_5 := hid (P7_4.out.below hB5)
  have B9_5 := hid (bk_on B9_4.out hB5)
  have HS1 := hid HS1
  go_wp2_with (go_at_call 14; refine Hid.out ?_)
  refine hid ?_
  refine (ZE.out _).mono ?_
  rintro e w6 ⟨v2, rfl, HO2, hB6⟩
  have HB6 := hid (btr HB5.out hB6)
  have K4_6 := hid (bk_on K4_5.out hB6)
  have K5_6 := hid (bk_on K5_5.out hB6)
  have P7_6 := hid (P7_5.out.below hB6)
  have B9_6 := hid (bk_on B9_5.out hB6)
  obtain ⟨a2, c2, rfl, hT2⟩ := HO2.ts
  have HT2 := hid hT2
  clear hT2 HO2
  have HT6 := hid ((((((HT1.out.below hst2.out).below hB3).below hB4).below hB5)).below hB6)
  have K4_a6 := hid (K4_6.out.alloc (.cells #[.int .i64 zn, .slice a2 zs.length c2] 24))
  have K5_a6 := hid (K5_6.out.alloc (.cells #[.int .i64 zn, .slice a2 zs.length c2] 24))
  have P7_a6 := hid (P7_6.out.alloc (.cells #[.int .i64 zn, .slice a2 zs.length c2] 24))
  have B9_a6 := hid (B9_6.out.alloc (.cells #[.int .i64 zn, .slice a2 zs.length c2] 24))
  have B18 := hid (bk_new w6 #[.int .i64 zn, .slice a2 zs.length c2] 24)
  have HA6 := hid (bal HB6.out (.cells #[.int .i64 zn, .slice a2 zs.length c2] 24))
  have hst6 := hid (bal (Below.refl w6.heap.size w6) (.cells #[.int .i64 zn, .slice a2 zs.length c2] 24))
  have dK46 := K4_a6.out.cell
  have lK46 := K4_a6.out.lt
  go_wp2_with (go_at_call 15; refine Hid.out ?_)
  refine hid ?_
  refine (C15.out _ HA6.out).mono ?_
  rintro e w7 ⟨rfl, hB7⟩
  have HB7 := hid (btr HA6.out hB7)
  have K4_7 := hid (bk_on K4_a6.out hB7)
  have K5_7 := hid (bk_on K5_a6.out hB7)
  have P7_7 := hid (P7_a6.out.below hB7)
  have B9_7 := hid (bk_on B9_a6.out hB7)
  have B18_7 := hid (bk_on B18.out hB7)
  have dK47 := K4_7.out.cell
  have lK47 := K4_7.out.lt
  have pP7 := P7_7.out
  obtain ⟨x70, x71, x72, x73, _, _, _, _⟩ := pP7
  have lP7 := P7_7.out.lt
  go_wp2_with (go_at_call 16; refine Hid.out ?_)
  refine hid ?_
  refine (VA.out _ HB7.out).mono ?_
  rintro e w8 ⟨v', er', rfl, HV2, hB8⟩
  have HB8 := hid (btr HB7.out hB8)
  have K4_8 := hid (bk_on K4_7.out hB8)
  have K5_8 := hid (bk_on K5_7.out hB8)
  have P7_8 := hid (P7_7.out.below hB8)
  have B9_8 := hid (bk_on B9_7.out hB8)
  have B18_8 := hid (bk_on B18_7.out hB8)
  obtain ⟨rfl, rfl⟩ := DV.out _ _ _ _ HV1.out HV2
  clear HV1 HV2
  have dK48 := K4_8.out.cell
  have lK48 := K4_8.out.lt
  have dK58 := K5_8.out.cell
  have lK58 := K5_8.out.lt
  go_wp2_with (go_at_call 17; refine Hid.out ?_)
  refine hid ?_
  refine (SA.out _ HB8.out).mono ?_
  rintro e w9 ⟨s', es', rfl, HS2, hB9⟩
  have HB9 := hid (btr HB8.out hB9)
  have K4_9 := hid (bk_on K4_8.out hB9)
  have K5_9 := hid (bk_on K5_8.out hB9)
  have P7_9 := hid (P7_8.out.below hB9)
  have B9_9 := hid (bk_on B9_8.out hB9)
  have B18_9 := hid (bk_on B18_8.out hB9)
  obtain ⟨rfl, rfl⟩ := DS.out _ _ _ _ HS1.out HS2
  clear HS1 HS2
  have HTa := hid ((((HT6.out.below hst6.out).below hB7).below hB8).below hB9)
  have HTb := hid ((((HT2.out.below hst6.out).below hB7).below hB8).below hB9)
  have EQ := hid (fun W (h : Below w9.heap.size w9 W) => requal_any ⟨zn, zs⟩ ⟨zn, zs⟩ a2 a1 c2 c1 W (HTb.out.below h) (HTa.out.below h) true (fun _ => rfl) (fun h => absurd rfl h))
  have HOC : Hid (KC w9 w9 w.heap.size w6.heap.size w2.heap.size n a rs.length c zn a2 zs.length c2 a1 c1) := ⟨Below.refl _ _, K4_9.out.cell 0, K4_9.out.cell 1, B18_9.out.cell 0, B18_9.out.cell 1, B9_9.out.cell 0, B9_9.out.cell 1⟩
  have z1 := K4_9.out.lt
  have z2 := B18_9.out.lt
  have z3 := B9_9.out.lt
  have hRf := Below.refl w9.heap.size w9
  go_upto_region 11 with (fail)
  go_region_held3 (fun w' => KC w9 w' w.heap.size w6.heap.size w2.heap.size n a rs.length c zn a2 zs.length c2 a1 c1)
    ((refine kc_keep HOC.out z1 z2 z3 ?_; first | exact below_drew hRf | exact btr (And.left (by assumption)) hN))
    (first
      | (go_at_call 18; (refine (C18.out _ (btr HB9.out (by first | exact And.left (by assumption) | exact drew_ofr))).mono ?_); rintro e wc ⟨rfl, hN⟩)
      | (go_at_call 19; (refine (C19.out _ (btr HB9.out (by first | exact And.left (by assumption) | exact drew_ofr))).mono ?_); rintro e wc ⟨rfl, hN⟩)
      | (go_at_call 20; (refine (EQ.out _ (by first | exact And.left (by assumption) | exact drew_ofr)).mono ?_); rintro e wc ⟨rfl, hN⟩))
  all_goals
    have hbf : Below w9.heap.size w9 wc := by first | exact And.left (by assumption) | exact btr (And.left (by assumption)) hN
    have HBF := hid (btr HB9.out hbf)
    go_wp2
    go_ret
    exact ⟨rfl, HBF.out⟩
/-- The law TableauAsks. -/
theorem asks_any (t u : Tb) (p : Pr) (a a' : Option Addr) (c c' : Nat) (N : Int) (w : World) (H : TS w a c t.rows) (H' : TS w a' c' u.rows) (hw : p.w64) :
    Calls Try.prog 3 #[t.v a c, u.v a' c', .int .i64 N, p.v] w fun e w' => e = .returned (.bool true) ∧ Below w.heap.size w w' := by
  by_cases hR : Rt t
  · exact asks_walk t u p a a' c c' N 0 _ _ _ w H H' hw (fun w' h => check_t t a c w' (H.below h) hR) (fun w' h => rcheck_t t a c w' (H.below h) hR) (fun w' h => rcert_t t a c N w' (H.below h) hR) (fun w' h => certain_t t a c N w' (H.below h) hR)
  · exact asks_walk t u p a a' c c' N 180 0 180 false w H H' hw (fun w' h => check_f t a c w' (H.below h) hR) (fun w' h => rcheck_f t a c w' (H.below h) hR) (fun w' h => rcert_f t a c N w' (H.below h) hR) (fun w' h => certain_f t a c N w' (H.below h) hR)
end Go.Proofs.Ytoddbaljnlhhaaa
namespace Go.Proofs.Ytoddbaljnlhhaaa
open Go.ChangeShapes Go.WideShapes Go.ChangeAt Go.ChangeMaps Go.RowKit Go.Sort
open PL (pv)

theorem Try.laidOut1 : laidOutB Try.prog = true := by kernel_rfl
theorem Try.cells27r : Try.prog.cellsOf 27 = 4 := by kernel_rfl
theorem Try.cells24r : Try.prog.cellsOf 24 = 2 := by kernel_rfl
theorem Try.cells3r : Try.prog.cellsOf 3 = 1 := by kernel_rfl
theorem wf_u64r {x : Int} (h : (Lit.int .u64 x).wf = true) : 0 ≤ x ∧ x ≤ 18446744073709551615 := by
  have h2 : (decide (IntKind.u64.min ≤ x) && decide (x ≤ IntKind.u64.max)) = true := h
  rw [show IntKind.u64.min = 0 by decide, show IntKind.u64.max = 18446744073709551615 by decide, Bool.and_eq_true, decide_eq_true_iff, decide_eq_true_iff] at h2
  exact h2
section
variable {H : Type} {enc : TypeId × Value → H} {W : World}
theorem trod_fieldsr {ts : TypeId} {fs : Array Field} {fuel : Nat} {cs : List Value} {x : DataW H × List MemPlace} (hs : Try.prog.underlying ts = some (.struct fs))
    (hone : ∀ (i : Nat) (f : Field), fs[i]? = some f → f.offset = i ∧ Try.prog.cellsOf f.type = 1) (hC : Try.prog.cellsOf ts = fs.size) (h : DataW.trod enc Try.prog W 0 (fun _ => true) true fuel ts cs = some x) :
    cs.length = fs.size ∧ ∃ (n : Nat) (Y : Nat → DataW H × List MemPlace), ∀ (i : Nat) (f : Field), fs[i]? = some f → DataW.trod enc Try.prog W 0 (fun _ => true) true n f.type [cs.getD i undef] = some (Y i) := by
  obtain ⟨xs, n, _, rfl, hlen, hxl, hf⟩ := DataW.trod_struct hs h
  rw [hC] at hlen
  refine ⟨hlen, n, fun i => xs.getD i (.nil, []), fun i f hi => ?_⟩
  have hlt : i < fs.size := (Array.getElem?_eq_some_iff.1 hi).1
  obtain ⟨ho, hc1⟩ := hone i f hi
  have g := hf i f hi
  rw [ho, hc1, Go.Deep.take1_drop cs i undef (by omega), List.getElem?_eq_getElem (by omega)] at g
  rw [g]
  simp [List.getD, List.getElem?_eq_getElem (show i < xs.length by omega)]
theorem ints_of_trod {fuel : Nat} {cs : List Value} {x : DataW H × List MemPlace} (h : DataW.trod enc Try.prog W 0 (fun _ => true) true fuel 50 cs = some x) :
    ∃ (a : Option Addr) (c m : Nat) (q : Nat → Int), cs = [.slice a m c] ∧ BL.Row a q m W ∧ m ≤ c ∧ c ≤ 9223372036854775807 := by
  rcases open_ints Try.underlying50 Try.underlying3 Try.cells3r h with ⟨rfl, _⟩ | ⟨a, len, cap, zs, rfl, _, hl, hm, hz, _, hc, _⟩
  · exact ⟨none, 0, 0, fun _ => 0, rfl, ⟨fun k hk => absurd hk (Nat.not_lt_zero _)⟩, Nat.le_refl _, by omega⟩
  · simp only [if_true] at hz
    unfold maxLen at hm
    refine ⟨some a, cap, len, fun j => zs.getD j 0, rfl, ⟨fun j hj => ?_⟩, by omega, by omega⟩
    obtain ⟨b, off, spot⟩ := a
    have hspot : spot = none := by simpa [Addr.add] using World.cell?_spot (hc 0 (by omega))
    subst hspot
    refine ⟨b, off, rfl, ?_⟩
    have := hc j (by omega)
    rw [add_plain] at this
    rw [this]
theorem row_of_trod {fuel : Nat} {cs : List Value} {x : DataW H × List MemPlace} (h : DataW.trod enc Try.prog W 0 (fun _ => true) true fuel 27 cs = some x) :
    ∃ r : Pr, cs = r.cs ∧ r.w64 := by
  obtain ⟨hlen, n, Y, hY⟩ := trod_fieldsr Try.underlying27 (Go.Deep.hone_of (by kernel_rfl)) Try.cells27r h
  match cs, hlen with
  | [v0, v1, v2, v3], _ =>
    obtain ⟨x0, e0, _, _⟩ := DataW.trod_int Try.underlying3 (hY 0 _ rfl)
    obtain ⟨x1, e1, _, w1⟩ := DataW.trod_int Try.underlying25 (hY 1 _ rfl)
    obtain ⟨x2, e2, _, w2⟩ := DataW.trod_int Try.underlying25 (hY 2 _ rfl)
    obtain ⟨x3, e3, _, _⟩ := DataW.trod_int Try.underlying3 (hY 3 _ rfl)
    simp at e0 e1 e2 e3
    subst e0 e1 e2 e3
    have b1 := wf_u64r w1
    have b2 := wf_u64r w2
    obtain ⟨y1, rfl⟩ := Int.eq_ofNat_of_zero_le b1.1
    obtain ⟨y2, rfl⟩ := Int.eq_ofNat_of_zero_le b2.1
    exact ⟨⟨x0, y1, y2, x3⟩, rfl, by show y1 < 18446744073709551616; omega, by show y2 < 18446744073709551616; omega⟩
theorem rows_of_trod {fuel : Nat} {cs : List Value} {x : DataW H × List MemPlace} (h : DataW.trod enc Try.prog W 0 (fun _ => true) true fuel 22 cs = some x) :
    ∃ (a : Option Addr) (c : Nat) (rs : List Pr), cs = [.slice a rs.length c] ∧ TS W a c rs := by
  rcases Go.Deep.open_slice Try.underlying22 h with ⟨rfl, _⟩ | ⟨a, len, cap, m, n, D, Pl, rfl, _, hl, hm, hmm, hx, hcell⟩
  · exact ⟨none, 0, [], rfl, Nat.le_refl _, fun k hk => absurd hk (Nat.not_lt_zero _), fun k hk => absurd hk (Nat.not_lt_zero _), by omega⟩
  · simp only [if_true] at hmm
    unfold maxLen at hm
    rw [Try.cells27r] at hcell
    have each : ∀ i, i < len → ∃ r : Pr, (∀ j, j < 4 → W.cell? (a.add (i * 4 + j)) = r.cs[j]?) ∧ r.w64 := by
      intro i hi
      obtain ⟨cs', h1, h2⟩ := hcell i (by omega)
      obtain ⟨_, hlen, hc⟩ := World.cells?_some h1
      obtain ⟨r, rfl, hw⟩ := row_of_trod h2
      refine ⟨r, fun j hj => ?_, hw⟩
      have e0 := hc j hj
      rw [Go.Deep.add_add] at e0
      exact e0
    haveI : Inhabited Pr := ⟨⟨0, 0, 0, 0⟩⟩
    obtain ⟨T, hT⟩ := Go.Deep.choose_lt each
    have hln : ((List.range len).map T).length = len := by simp
    refine ⟨some a, cap, (List.range len).map T, by rw [hln], by omega, fun k hk => ?_, fun k hk => ?_, by omega⟩
    · rw [hln] at hk
      obtain ⟨b, off, spot⟩ := a
      have h00 := (hT 0 (by omega)).1 0 (by omega)
      have hspot : spot = none := by simpa [Addr.add] using World.cell?_spot h00
      subst hspot
      have get : ∀ j d, j < len → d < 4 → W.cell? ⟨b, off + (j * 4 + d), none⟩ = (T j).cs[d]? := fun j d hj hd => by
        have := (hT j hj).1 d hd
        rwa [add_plain] at this
      refine ⟨b, off, rfl, fun j hj => ?_, fun j hj => ?_, fun j hj => ?_, fun j hj => ?_, ?_⟩
      · rw [hln] at hj; have := get j 0 hj (by omega); simpa [Nat.add_assoc] using this
      · rw [hln] at hj; have := get j 1 hj (by omega); simpa [Nat.add_assoc] using this
      · rw [hln] at hj; have := get j 2 hj (by omega); simpa [Nat.add_assoc] using this
      · rw [hln] at hj; have := get j 3 hj (by omega); simpa [Nat.add_assoc] using this
      · exact World.block_lt_of_cell? W _ (get 0 0 (by omega) (by omega))
    · rw [hln] at hk
      simpa using (hT k hk).2
set_option maxRecDepth 100000 in
theorem tab_of_trod {base : Nat} {v : Value} {d : DataW H} {p : List MemPlace} (hval : Value.okWide Try.prog W .any base 24 v) (h : DataW.Trod enc Try.prog W 0 (fun _ => true) true 24 v d p) :
    ∃ (t : Tb) (a : Option Addr) (c : Nat), v = t.v a c ∧ TS W a c t.rows := by
  obtain ⟨cs, rfl, hsz⟩ := okWide_struct Try.underlying24 hval
  obtain ⟨fuel, hf⟩ := h
  obtain ⟨hlen, n, Y, hY⟩ := trod_fieldsr Try.underlying24 (Go.Deep.hone_of (by kernel_rfl)) Try.cells24r hf
  obtain ⟨cs⟩ := cs
  match cs, hlen with
  | [v0, v1], _ =>
    obtain ⟨x0, e0, _, _⟩ := DataW.trod_int Try.underlying3 (hY 0 _ rfl)
    obtain ⟨a, c, rs, e1, hO⟩ := rows_of_trod (hY 1 _ rfl)
    simp [Value.cells] at e0 e1
    subst e0 e1
    exact ⟨⟨x0, rs⟩, a, c, rfl, hO⟩
set_option maxRecDepth 100000 in
theorem list_of_trod {base : Nat} {v : Value} {d : DataW H} {p : List MemPlace} (hval : Value.okWide Try.prog W .any base 50 v) (h : DataW.Trod enc Try.prog W 0 (fun _ => true) true 50 v d p) :
    ∃ (a : Option Addr) (c m : Nat) (q : Nat → Int), v = .slice a m c ∧ BL.Row a q m W ∧ m ≤ c ∧ c ≤ 9223372036854775807 := by
  obtain ⟨a0, len, cap, rfl⟩ := okWide_slice Try.underlying50 hval
  obtain ⟨fuel, hf⟩ := h
  obtain ⟨a, c, m, q, e, hq, hl⟩ := ints_of_trod hf
  simp [Value.cells] at e
  obtain ⟨rfl, rfl, rfl⟩ := e
  exact ⟨_, _, _, q, rfl, hq, hl⟩
end
end Go.Proofs.Ytoddbaljnlhhaaa
namespace Go.Proofs.Ytoddbaljnlhhaaa.PL
open Go.ChangeShapes Go.WideShapes Go.ChangeAt Go.RowKit Go.Joins

theorem Try.own : ownKnob Try.prog.godebug = none := by kernel_rfl
theorem Try.laidOut : laidOutB Try.prog = true := by kernel_rfl
theorem Try.cells27 : Try.prog.cellsOf 27 = 4 := by kernel_rfl
set_option maxRecDepth 100000 in
theorem open_pauli {H : Type} {enc : TypeId × Value → H} {W : World} {base b0 : Nat} {sp : Nat → Bool} {held : Bool} {r : Reach} {v : Value} {d : DataW H} {p : List MemPlace}
    (hv : Value.okWide Try.prog W r b0 27 v) (h : DataW.Trod enc Try.prog W base sp held 27 v d p) :
    ∃ (a : Int) (b c : Nat) (e : Int), v = pv a b c e ∧ d = .agg [.lit (.int .i64 a), .lit (.int .u64 (b : Int)), .lit (.int .u64 (c : Int)), .lit (.int .i64 e)] ∧ p = [] ∧ (Lit.int .i64 a).wf = true ∧ (Lit.int .u64 (b : Int)).wf = true ∧ (Lit.int .u64 (c : Int)).wf = true ∧ (Lit.int .i64 e).wf = true ∧ b < 18446744073709551616 ∧ c < 18446744073709551616 := by
  obtain ⟨c0, c1, c2, c3, y0, y1, y2, y3, m, rfl, rfl, rfl, h0, h1, h2, h3⟩ := open_agg4 Try.underlying27 (by kernel_rfl) Try.cells27 hv h
  obtain ⟨a, e0, rfl, wa⟩ := DataW.trod_int Try.underlying3 h0
  obtain ⟨b, e1, rfl, wb⟩ := DataW.trod_int Try.underlying25 h1
  obtain ⟨c, e2, rfl, wc⟩ := DataW.trod_int Try.underlying25 h2
  obtain ⟨e, e3, rfl, we⟩ := DataW.trod_int Try.underlying3 h3
  simp at e0 e1 e2 e3
  subst e0 e1 e2 e3
  have hb := bounds_u64 wb
  have hc := bounds_u64 wc
  obtain ⟨b, rfl⟩ := Int.eq_ofNat_of_zero_le (show 0 ≤ b by omega)
  obtain ⟨c, rfl⟩ := Int.eq_ofNat_of_zero_le (show 0 ≤ c by omega)
  exact ⟨a, b, c, e, rfl, rfl, rfl, wa, wb, wc, we, by omega, by omega⟩
set_option maxRecDepth 100000 in
theorem shut_pauli {H : Type} {enc : TypeId × Value → H} {W : World} {base : Nat} {sp : Nat → Bool} {held : Bool} {a : Int} {b c : Nat} {e : Int} (wa : (Lit.int .i64 a).wf = true) (wb : (Lit.int .u64 (b : Int)).wf = true) (wc : (Lit.int .u64 (c : Int)).wf = true) (we : (Lit.int .i64 e).wf = true) :
    DataW.Trod enc Try.prog W base sp held 27 (pv a b c e) (.agg [.lit (.int .i64 a), .lit (.int .u64 (b : Int)), .lit (.int .u64 (c : Int)), .lit (.int .i64 e)]) [] :=
  shut_agg4 (y0 := (.lit (.int .i64 a), [])) (y1 := (.lit (.int .u64 (b : Int)), [])) (y2 := (.lit (.int .u64 (c : Int)), [])) (y3 := (.lit (.int .i64 e), [])) Try.underlying27 (by kernel_rfl) Try.cells27
    ⟨1, by simp [DataW.trod, Try.underlying3, wa]⟩ ⟨1, by simp [DataW.trod, Try.underlying25, wb]⟩ ⟨1, by simp [DataW.trod, Try.underlying25, wc]⟩ ⟨1, by simp [DataW.trod, Try.underlying3, we]⟩
end Go.Proofs.Ytoddbaljnlhhaaa.PL
