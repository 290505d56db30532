/-
  Put together of: J2.
-/
import Derived.Test.YtoddbaljnlhhaabXZ
import Derived.Test.YtoddbaljnlhhaabXJ
import Derived.BigRegion
namespace Go.Proofs.Ytoddbaljnlhhaab
open Go.RowKit Go.Sort
open PL (pv PS bt)

/-- What found tells, by the value of Z on the qubit. -/
theorem fnd_is {t : Tb} {N q : Nat} (hR : Rt t) (hN : t.n = (N : Int)) (hq : q < N) : fndT t (q : Nat) = if valT t (zP N q) = 0 then (0, false, 0) else if valT t (zP N q) = 1 then (0, true, 0) else (1, true, 0) := by
  have hl := hR.len
  have h64 := hR.n1
  have hz : (0 ≤ ffI q (t.rows.drop N)) ↔ valT t (zP N q) = 0 := by
    rw [valT_zero hN]
    constructor
    · intro g
      unfold ffI at g
      by_cases g2 : ffN q (t.rows.drop N) < (t.rows.drop N).length
      · have h1 := ffN_at q _ g2
        rw [List.length_drop] at g2
        generalize ffN q (t.rows.drop N) = k at *
        rw [List.getElem_drop] at h1
        refine ⟨k, by omega, fun hc => ?_⟩
        rw [nthP_at (show N + k < t.rows.length by omega)] at hc
        have hc : PL.comB (t.rows[N + k]).ps.x (t.rows[N + k]).ps.z 0 (2 ^ q) = 0 := hc
        rw [com_z _ _ _ (by omega)] at hc
        have h2 : bt (t.rows[N + k]).ps.x q = 1 := by unfold flp at h1; exact beq_iff_eq.1 h1
        omega
      · rw [if_neg g2] at g
        omega
    · rintro ⟨j, hj, hc⟩
      unfold ffI
      by_cases g2 : ffN q (t.rows.drop N) < (t.rows.drop N).length
      · rw [if_pos g2]; omega
      · exfalso
        have hd : j < (t.rows.drop N).length := by rw [List.length_drop]; omega
        have hle := ffN_le q (t.rows.drop N)
        have h1 := ffN_not q (t.rows.drop N) j hd (by omega)
        rw [List.getElem_drop] at h1
        apply hc
        rw [nthP_at (show N + j < t.rows.length by omega)]
        show PL.comB (t.rows[N + j]).ps.x (t.rows[N + j]).ps.z 0 (2 ^ q) = 0
        rw [com_z _ _ _ (by omega)]
        have hb := PL.bt_le (t.rows[N + j]).ps.x q
        have hne : ¬ bt (t.rows[N + j]).ps.x q = 1 := fun e => by
          have e : bt (t.rows[N + j]).x q = 1 := e
          unfold flp at h1
          rw [e] at h1
          cases h1
        omega
  unfold fndT
  rw [if_pos ⟨by omega, by omega⟩, hN, Int.toNat_natCast, Int.toNat_natCast]
  by_cases h : valT t (zP N q) = 0
  · rw [if_pos h, if_pos (hz.2 h)]
  · rw [if_neg h, if_neg (fun g => h (hz.1 g))]
set_option maxHeartbeats 4000000 in
set_option maxRecDepth 100000 in
theorem rfnd_walk (N l A X Z F : Nat) (b : Bool) (o : Int) (a : Option Addr) (c : Nat) (q qz : Nat) (w : World)
    (ON : ∀ w, Calls Try.prog 22 #[.int .i64 (N : Nat), .int .i64 (q : Nat), .int .u8 90, .int .i64 0] w fun e w' => e = .returned (pv (N : Nat) 0 qz 0) ∧ Below w.heap.size w w')
    (IG : Hid (∀ w', Below w.heap.size w w' → Calls Try.prog 41 #[.agg #[.int .i64 (N : Nat), .slice a l c], pv (N : Nat) 0 qz 0] w' fun e w'' => e = .returned (.tuple #[pv (A : Nat) X Z (F : Nat), .bool b]) ∧ Below w'.heap.size w' w''))
    (hF : Hid (b = false ∧ F = 0 ∧ o = 0 ∨ b = true ∧ F = 0 ∧ o = 0 ∨ b = true ∧ F = 2 ∧ o = 1)) :
    Calls Try.prog 20 #[.agg #[.int .i64 (N : Nat), .slice a l c], .int .i64 (q : Nat)] w fun e w' => e = .returned (.tuple #[.int .i64 o, .bool b]) ∧ Below w.heap.size w w' := by
  have B0 := hid (below_drew (bal (Below.refl w.heap.size w) (.cells #[.int .i64 (N : Int), .slice a l c] 24)))
  have K0 := hid (bk_on (bk_new w #[.int .i64 (N : Int), .slice a l c] 24) drew_ofr)
  have BA := hid (below_drew (bal (bal (Below.refl w.heap.size w) (.cells #[.int .i64 (N : Int), .slice a l c] 24)) (.cells #[.int .i64 0, .int .u64 0, .int .u64 0, .int .i64 0] 29)))
  have KA := hid (bk_on ((bk_new w #[.int .i64 (N : Int), .slice a l c] 24).alloc (.cells #[.int .i64 0, .int .u64 0, .int .u64 0, .int .i64 0] 29)) drew_ofr)
  have ZN : Hid (∀ W : World, PL.PB (W.alloc (.cells #[.int .i64 0, .int .u64 0, .int .u64 0, .int .i64 0] 29)) W.heap.size 0 0 0 0) := fun W => PL.PB.new W 0 0 0 0
  have ZD : Hid (PL.PB (((w.alloc (.cells #[.int .i64 (N : Int), .slice a l c] 24)).alloc (.cells #[.int .i64 0, .int .u64 0, .int .u64 0, .int .i64 0] 29)).drew) (w.heap.size + 1) 0 0 0 0) := by
    have h := (PL.PB.new (w.alloc (.cells #[.int .i64 (N : Int), .slice a l c] 24)) 0 0 0 0).drew
    rw [PL.alz] at h
    exact h
  go_enter Try.func20, Try.ntmps20
  go_upto_region 1 with (fail)
  go_region_with (first
      | (go_at_call 22; (refine (ON _).mono ?_); rintro e w1 ⟨rfl, hN1⟩; first
        | ((have k1 := bk_on KA.out hN1); (have d1 := k1.cell); (have l1 := k1.lt); (have z1 := hid (ZD.out.below hN1)); have hB1 := btr BA.out hN1)
        | ((have k1 := bk_on K0.out hN1); (have d1 := k1.cell); (have l1 := k1.lt); have hB1 := btr B0.out hN1))
      | (go_at_call 41; first
        | ((refine (IG.out _ hB1).mono ?_); rintro e w2 ⟨rfl, hN2⟩; (have hB2 := btr hB1 hN2); first
          | ((have z2 := z1.out.below hN2); (have zl := z2.lt); obtain ⟨x0, x1, x2, x3, y0, y1, y2, y3⟩ := z2)
          | skip)
        | ((refine (IG.out _ (bal hB1 _)).mono ?_); rintro e w2 ⟨rfl, hN2⟩; (have hB2 := btr (bal hB1 _) hN2); (have z2 := (ZN.out _).below hN2); (have zl := z2.lt); obtain ⟨x0, x1, x2, x3, y0, y1, y2, y3⟩ := z2)))
  all_goals
    first
      | (have r := ((((z1.out.below hN2).set0 (A : Int)).set1 X).set2 Z).set3 (F : Int)
         obtain ⟨q0, q1, q2, q3, _, _, _, _⟩ := r
         have hs1 := hB1.size
         have hs2 := hB2.size
         have hBf := hid (bset (bset (bset (bset hB2 (w.heap.size + 1) 0 (.int .i64 (A : Int)) (by omega)) (w.heap.size + 1) 1 (.int .u64 (X : Int)) (by omega)) (w.heap.size + 1) 2 (.int .u64 (Z : Int)) (by omega)) (w.heap.size + 1) 3 (.int .i64 (F : Int)) (by omega))
         clear hs1 hs2
         rcases hF.out with ⟨rfl, rfl, rfl⟩ | ⟨rfl, rfl, rfl⟩ | ⟨rfl, rfl, rfl⟩
         · go_wp2
           exact bodyPost_ret (v := .tuple #[.int .i64 0, .bool false]) (by simp [results, Try.results20, go_sem]) rfl ⟨rfl, hBf.out⟩
         · go_wp2
           exact bodyPost_ret (v := .tuple #[.int .i64 0, .bool true]) (by simp [results, Try.results20, go_sem]) rfl ⟨rfl, hBf.out⟩
         · go_wp2
           exact bodyPost_ret (v := .tuple #[.int .i64 1, .bool true]) (by simp [results, Try.results20, go_sem]) rfl ⟨rfl, hBf.out⟩)
      | (have r := (((((ZN.out _).below hN2).set0 (A : Int)).set1 X).set2 Z).set3 (F : Int)
         obtain ⟨q0, q1, q2, q3, _, _, _, _⟩ := r
         have hs1 := hB1.size
         have hs2 := hB2.size
         have hBf := hid (bset (bset (bset (bset hB2 (w1.heap.size) 0 (.int .i64 (A : Int)) (by omega)) (w1.heap.size) 1 (.int .u64 (X : Int)) (by omega)) (w1.heap.size) 2 (.int .u64 (Z : Int)) (by omega)) (w1.heap.size) 3 (.int .i64 (F : Int)) (by omega))
         clear hs1 hs2
         rcases hF.out with ⟨rfl, rfl, rfl⟩ | ⟨rfl, rfl, rfl⟩ | ⟨rfl, rfl, rfl⟩
         · go_wp2
           exact bodyPost_ret (v := .tuple #[.int .i64 0, .bool false]) (by simp [results, Try.results20, go_sem]) rfl ⟨rfl, hBf.out⟩
         · go_wp2
           exact bodyPost_ret (v := .tuple #[.int .i64 0, .bool true]) (by simp [results, Try.results20, go_sem]) rfl ⟨rfl, hBf.out⟩
         · go_wp2
           exact bodyPost_ret (v := .tuple #[.int .i64 1, .bool true]) (by simp [results, Try.results20, go_sem]) rfl ⟨rfl, hBf.out⟩)
      | (have r := PL.PB.new w2 (A : Nat) X Z (F : Nat)
         obtain ⟨q0, q1, q2, q3, _, _, _, _⟩ := r
         have hs1 := hB1.size
         have hs2 := hB2.size
         have hBf := hid (bal hB2 (PL.pc (A : Nat) X Z (F : Nat)))
         clear hs1 hs2
         rcases hF.out with ⟨rfl, rfl, rfl⟩ | ⟨rfl, rfl, rfl⟩ | ⟨rfl, rfl, rfl⟩
         · go_wp2
           exact bodyPost_ret (v := .tuple #[.int .i64 0, .bool false]) (by simp [results, Try.results20, go_sem]) rfl ⟨rfl, hBf.out⟩
         · go_wp2
           exact bodyPost_ret (v := .tuple #[.int .i64 0, .bool true]) (by simp [results, Try.results20, go_sem]) rfl ⟨rfl, hBf.out⟩
         · go_wp2
           exact bodyPost_ret (v := .tuple #[.int .i64 1, .bool true]) (by simp [results, Try.results20, go_sem]) rfl ⟨rfl, hBf.out⟩)

theorem rfnd_any (N : Nat) (rs : List Pr) (a : Option Addr) (c : Nat) (q : Nat) (w : World) (H : TS w a c rs) (hR : Rt ⟨(N : Nat), rs⟩) (hq : q < N) :
    Calls Try.prog 20 #[Tb.v ⟨(N : Nat), rs⟩ a c, .int .i64 (q : Nat)] w fun e w' => e = .returned (.tuple #[.int .i64 (fndT ⟨(N : Nat), rs⟩ (q : Nat)).1, .bool (fndT ⟨(N : Nat), rs⟩ (q : Nat)).2.1]) ∧ Below w.heap.size w w' := by
  have hn1 : ((N : Nat) : Int) ≤ 64 := hR.n1
  have hN : N ≤ 64 := by omega
  have ON : ∀ w, Calls Try.prog 22 #[.int .i64 (N : Nat), .int .i64 (q : Nat), .int .u8 90, .int .i64 0] w fun e w' => e = .returned (pv (N : Nat) 0 (2 ^ q : Nat) 0) ∧ Below w.heap.size w w' := fun w => ron_any (N : Nat) (q : Nat) 90 0 (2 ^ q) N 0 w (fun w => PL.rone_z N q w hN hq)
  have IG := fun w' (h : Below w.heap.size w w') => inGroup_any N rs a c (zP N q) w' (H.below h) hR (zP_ok hN hq) rfl
  have hfi := fnd_is (N := N) (q := q) hR rfl hq
  by_cases hv : valT ⟨(N : Nat), rs⟩ (zP N q) = 0
  · rw [if_pos hv] at hfi
    rw [hfi]
    rw [inG_no hv] at IG
    exact rfnd_walk N rs.length 0 0 0 0 false 0 a c q (2 ^ q) w ON IG (.inl ⟨rfl, rfl, rfl⟩)
  · obtain ⟨f, hf4, hf2, hig, hvv⟩ := inG_yes hR (zP_ok hN hq) rfl hv
    rw [hig] at IG
    rw [if_neg hv] at hfi
    by_cases hf : f = 0
    · rw [if_pos (show f = (zP N q).f from hf)] at hvv
      rw [if_pos hvv] at hfi
      rw [hfi]
      exact rfnd_walk N rs.length N (zP N q).x (zP N q).z f true 0 a c q (2 ^ q) w ON IG (.inr (.inl ⟨rfl, hf, rfl⟩))
    · rw [if_neg (show ¬ f = (zP N q).f from hf)] at hvv
      rw [if_neg (show ¬ valT ⟨(N : Nat), rs⟩ (zP N q) = 1 by rw [hvv]; decide)] at hfi
      rw [hfi]
      exact rfnd_walk N rs.length N (zP N q).x (zP N q).z f true 1 a c q (2 ^ q) w ON IG (.inr (.inr ⟨rfl, by omega, rfl⟩))
end Go.Proofs.Ytoddbaljnlhhaab
