/-
  Put together of: J2 LA LC.
-/
import Derived.Test.YtoddbaljnlhhaaaYC
import Derived.Test.YtoddbaljnlhhaaaXZ
import Derived.Test.YtoddbaljnlhhaaaXJ
import Derived.BigRegion
import Derived.Test.YtoddbaljnlhhaaaYA
namespace Go.Proofs.Ytoddbaljnlhhaaa
open Go.RowKit Go.Sort
open PL (pv PS bt)

/-- A root as a value. -/
abbrev rtV (p q k : Int) : Value := .agg #[.int .i64 p, .int .i64 q, .int .i64 k]
abbrev rtC (p q k : Int) : Obj := .cells #[.int .i64 p, .int .i64 q, .int .i64 k] 60
set_option maxHeartbeats 1000000 in
set_option maxRecDepth 100000 in
theorem en25_nil (q : Int) (w : World) : Calls Try.prog 25 #[.pointer none, .int .i64 q] w fun e w' => e = .returned (.tuple #[rtV 0 0 0, rtV 0 0 0, .int .i64 2]) ∧ Below w.heap.size w w' := by
  have k1 := (bk_new w #[.int .i64 0, .int .i64 0, .int .i64 0] 60).alloc (rtC 0 0 0)
  have k2 := bk_new (w.alloc (rtC 0 0 0)) #[.int .i64 0, .int .i64 0, .int .i64 0] 60
  rw [PL.alz] at k2
  have hB := bal (bal (Below.refl w.heap.size w) (rtC 0 0 0)) (rtC 0 0 0)
  go_enter Try.func25, Try.ntmps25
  go_wp2
  have q10 : ((w.alloc (rtC 0 0 0)).alloc (rtC 0 0 0)).cell? ⟨w.heap.size, 0, none⟩ = some (.int .i64 0) := k1.cell 0
  have q11 : ((w.alloc (rtC 0 0 0)).alloc (rtC 0 0 0)).cell? ⟨w.heap.size, 1, none⟩ = some (.int .i64 0) := k1.cell 1
  have q12 : ((w.alloc (rtC 0 0 0)).alloc (rtC 0 0 0)).cell? ⟨w.heap.size, 2, none⟩ = some (.int .i64 0) := k1.cell 2
  have q20 : ((w.alloc (rtC 0 0 0)).alloc (rtC 0 0 0)).cell? ⟨w.heap.size + 1, 0, none⟩ = some (.int .i64 0) := k2.cell 0
  have q21 : ((w.alloc (rtC 0 0 0)).alloc (rtC 0 0 0)).cell? ⟨w.heap.size + 1, 1, none⟩ = some (.int .i64 0) := k2.cell 1
  have q22 : ((w.alloc (rtC 0 0 0)).alloc (rtC 0 0 0)).cell? ⟨w.heap.size + 1, 2, none⟩ = some (.int .i64 0) := k2.cell 2
  exact bodyPost_ret (v := .tuple #[rtV 0 0 0, rtV 0 0 0, .int .i64 2]) (by simp [results, Try.results25, go_sem, q10, q11, q12, q20, q21, q22]) rfl ⟨rfl, hB⟩
set_option maxHeartbeats 1000000 in
set_option maxRecDepth 100000 in
theorem en26_nil (s : ByteArray) (a : Option Addr) (m c : Nat) (w : World) : Calls Try.prog 26 #[.pointer none, .string s, .slice a m c] w fun e w' => e = .returned (.int .i64 2) ∧ w' = w := by
  go_enter Try.func26, Try.ntmps26
  go_wp2
  go_ret
  exact ⟨rfl, rfl⟩
theorem en27_nil (q b : Int) (w : World) : Calls Try.prog 27 #[.pointer none, .int .i64 q, .int .i64 b] w fun e w' => e = .returned (.int .i64 2) ∧ w' = w := by
  go_enter Try.func27, Try.ntmps27
  go_wp2
  go_ret
  exact ⟨rfl, rfl⟩
theorem en28_nil (w : World) : Calls Try.prog 28 #[.pointer none] w fun e w' => e = .returned (.agg #[.int .i64 0, .slice none 0 0]) ∧ Below w.heap.size w w' := by
  have k1 := bk_new w #[.int .i64 0, .slice none 0 0] 24
  have hB := bal (Below.refl w.heap.size w) (.cells #[.int .i64 0, .slice none 0 0] 24)
  have q0 := k1.cell 0
  have q1 := k1.cell 1
  go_enter Try.func28, Try.ntmps28
  go_wp2
  exact bodyPost_ret (v := .agg #[.int .i64 0, .slice none 0 0]) (by simp [results, Try.results28, go_sem, q0, q1]) rfl ⟨rfl, hB⟩
/-- An error changes nothing. -/
theorem become_no (p : Option Addr) (n : Int) (a : Option Addr) (l c : Nat) (E : Int) (hE : E ≠ 0) (w : World) : Calls Try.prog 54 #[.pointer p, .agg #[.int .i64 n, .slice a l c], .int .i64 E] w fun e w' => e = .returned (.int .i64 E) ∧ Below w.heap.size w w' := by
  have hb : (E == 0) = false := beq_eq_false_iff_ne.2 hE
  have hB := bal (Below.refl w.heap.size w) (.cells #[.int .i64 n, .slice a l c] 24)
  go_enter Try.func54, Try.ntmps54
  go_wp2
  go_ret
  exact ⟨rfl, hB⟩
/-- Else the engine has the new tableau. -/
theorem become_yes (X : Nat) (n n' : Int) (v : Value) (a : Option Addr) (l c : Nat) (w : World) (K : BK w X #[.int .i64 n', v] 101) : Calls Try.prog 54 #[.pointer (some ⟨X, 0, none⟩), .agg #[.int .i64 n, .slice a l c], .int .i64 0] w fun e w' => e = .returned (.int .i64 0) ∧ w' = ((w.alloc (.cells #[.int .i64 n, .slice a l c] 24)).setCell ⟨X, 0, none⟩ (.int .i64 n)).setCell ⟨X, 1, none⟩ (.slice a l c) := by
  have k1 := K.alloc (.cells #[.int .i64 n, .slice a l c] 24)
  have d1 := k1.cell
  have f1 := k1.free
  have l1 := k1.lt
  have k0 := bk_new w #[.int .i64 n, .slice a l c] 24
  have d0 := k0.cell
  go_enter Try.func54, Try.ntmps54
  go_wp2
  go_ret
  exact ⟨rfl, rfl⟩
end Go.Proofs.Ytoddbaljnlhhaaa
namespace Go.Proofs.Ytoddbaljnlhhaaa
open Go.RowKit Go.Sort
open PL (pv PS bt)

/-- What found tells, by the value of Z on the qubit. -/
theorem fnd_is {t : Tb} {N q : Nat} (hR : Rt t) (hN : t.n = (N : Int)) (hq : q < N) : fndT t (q : Nat) = if valT t (zP N q) = 0 then (0, false, 0) else if valT t (zP N q) = 1 then (0, true, 0) else (1, true, 0) := by
  have hl := hR.len
  have h64 := hR.n1
  have hz : (0 ≤ ffI q (t.rows.drop N)) ↔ valT t (zP N q) = 0 := by
    rw [valT_zero hN]
    constructor
    · intro g
      unfold ffI at g
      by_cases g2 : ffN q (t.rows.drop N) < (t.rows.drop N).length
      · have h1 := ffN_at q _ g2
        rw [List.length_drop] at g2
        generalize ffN q (t.rows.drop N) = k at *
        rw [List.getElem_drop] at h1
        refine ⟨k, by omega, fun hc => ?_⟩
        rw [nthP_at (show N + k < t.rows.length by omega)] at hc
        have hc : PL.comB (t.rows[N + k]).ps.x (t.rows[N + k]).ps.z 0 (2 ^ q) = 0 := hc
        rw [com_z _ _ _ (by omega)] at hc
        have h2 : bt (t.rows[N + k]).ps.x q = 1 := by unfold flp at h1; exact beq_iff_eq.1 h1
        omega
      · rw [if_neg g2] at g
        omega
    · rintro ⟨j, hj, hc⟩
      unfold ffI
      by_cases g2 : ffN q (t.rows.drop N) < (t.rows.drop N).length
      · rw [if_pos g2]; omega
      · exfalso
        have hd : j < (t.rows.drop N).length := by rw [List.length_drop]; omega
        have hle := ffN_le q (t.rows.drop N)
        have h1 := ffN_not q (t.rows.drop N) j hd (by omega)
        rw [List.getElem_drop] at h1
        apply hc
        rw [nthP_at (show N + j < t.rows.length by omega)]
        show PL.comB (t.rows[N + j]).ps.x (t.rows[N + j]).ps.z 0 (2 ^ q) = 0
        rw [com_z _ _ _ (by omega)]
        have hb := PL.bt_le (t.rows[N + j]).ps.x q
        have hne : ¬ bt (t.rows[N + j]).ps.x q = 1 := fun e => by
          have e : bt (t.rows[N + j]).x q = 1 := e
          unfold flp at h1
          rw [e] at h1
          cases h1
        omega
  unfold fndT
  rw [if_pos ⟨by omega, by omega⟩, hN, Int.toNat_natCast, Int.toNat_natCast]
  by_cases h : valT t (zP N q) = 0
  · rw [if_pos h, if_pos (hz.2 h)]
  · rw [if_neg h, if_neg (fun g => h (hz.1 g))]
set_option maxHeartbeats 4000000 in
set_option maxRecDepth 100000 in
theorem rfnd_walk (N l A X Z F : Nat) (b : Bool) (o : Int) (a : Option Addr) (c : Nat) (q qz : Nat) (w : World)
    (ON : ∀ w, Calls Try.prog 36 #[.int .i64 (N : Nat), .int .i64 (q : Nat), .int .u8 90, .int .i64 0] w fun e w' => e = .returned (pv (N : Nat) 0 qz 0) ∧ Below w.heap.size w w')
    (IG : Hid (∀ w', Below w.heap.size w w' → Calls Try.prog 39 #[.agg #[.int .i64 (N : Nat), .slice a l c], pv (N : Nat) 0 qz 0] w' fun e w'' => e = .returned (.tuple #[pv (A : Nat) X Z (F : Nat), .bool b]) ∧ Below w'.heap.size w' w''))
    (hF : Hid (b = false ∧ F = 0 ∧ o = 0 ∨ b = true ∧ F = 0 ∧ o = 0 ∨ b = true ∧ F = 2 ∧ o = 1)) :
    Calls Try.prog 37 #[.agg #[.int .i64 (N : Nat), .slice a l c], .int .i64 (q : Nat)] w fun e w' => e = .returned (.tuple #[.int .i64 o, .bool b]) ∧ Below w.heap.size w w' := by
  have B0 := hid (below_drew (bal (Below.refl w.heap.size w) (.cells #[.int .i64 (N : Int), .slice a l c] 24)))
  have K0 := hid (bk_on (bk_new w #[.int .i64 (N : Int), .slice a l c] 24) drew_ofr)
  have BA := hid (below_drew (bal (bal (Below.refl w.heap.size w) (.cells #[.int .i64 (N : Int), .slice a l c] 24)) (.cells #[.int .i64 0, .int .u64 0, .int .u64 0, .int .i64 0] 27)))
  have KA := hid (bk_on ((bk_new w #[.int .i64 (N : Int), .slice a l c] 24).alloc (.cells #[.int .i64 0, .int .u64 0, .int .u64 0, .int .i64 0] 27)) drew_ofr)
  have ZN : Hid (∀ W : World, PL.PB (W.alloc (.cells #[.int .i64 0, .int .u64 0, .int .u64 0, .int .i64 0] 27)) W.heap.size 0 0 0 0) := fun W => PL.PB.new W 0 0 0 0
  have ZD : Hid (PL.PB (((w.alloc (.cells #[.int .i64 (N : Int), .slice a l c] 24)).alloc (.cells #[.int .i64 0, .int .u64 0, .int .u64 0, .int .i64 0] 27)).drew) (w.heap.size + 1) 0 0 0 0) := by
    have h := (PL.PB.new (w.alloc (.cells #[.int .i64 (N : Int), .slice a l c] 24)) 0 0 0 0).drew
    rw [PL.alz] at h
    exact h
  go_enter Try.func37, Try.ntmps37
  go_upto_region 1 with (fail)
  go_region_with (first
      | (go_at_call 36; (refine (ON _).mono ?_); rintro e w1 ⟨rfl, hN1⟩; first
        | ((have k1 := bk_on KA.out hN1); (have d1 := k1.cell); (have l1 := k1.lt); (have z1 := hid (ZD.out.below hN1)); have hB1 := btr BA.out hN1)
        | ((have k1 := bk_on K0.out hN1); (have d1 := k1.cell); (have l1 := k1.lt); have hB1 := btr B0.out hN1))
      | (go_at_call 39; first
        | ((refine (IG.out _ hB1).mono ?_); rintro e w2 ⟨rfl, hN2⟩; (have hB2 := btr hB1 hN2); first
          | ((have z2 := z1.out.below hN2); (have zl := z2.lt); obtain ⟨x0, x1, x2, x3, y0, y1, y2, y3⟩ := z2)
          | skip)
        | ((refine (IG.out _ (bal hB1 _)).mono ?_); rintro e w2 ⟨rfl, hN2⟩; (have hB2 := btr (bal hB1 _) hN2); (have z2 := (ZN.out _).below hN2); (have zl := z2.lt); obtain ⟨x0, x1, x2, x3, y0, y1, y2, y3⟩ := z2)))
  all_goals
    first
      | (have r := ((((z1.out.below hN2).set0 (A : Int)).set1 X).set2 Z).set3 (F : Int)
         obtain ⟨q0, q1, q2, q3, _, _, _, _⟩ := r
         have hs1 := hB1.size
         have hs2 := hB2.size
         have hBf := hid (bset (bset (bset (bset hB2 (w.heap.size + 1) 0 (.int .i64 (A : Int)) (by omega)) (w.heap.size + 1) 1 (.int .u64 (X : Int)) (by omega)) (w.heap.size + 1) 2 (.int .u64 (Z : Int)) (by omega)) (w.heap.size + 1) 3 (.int .i64 (F : Int)) (by omega))
         clear hs1 hs2
         rcases hF.out with ⟨rfl, rfl, rfl⟩ | ⟨rfl, rfl, rfl⟩ | ⟨rfl, rfl, rfl⟩
         · go_wp2
           exact bodyPost_ret (v := .tuple #[.int .i64 0, .bool false]) (by simp [results, Try.results37, go_sem]) rfl ⟨rfl, hBf.out⟩
         · go_wp2
           exact bodyPost_ret (v := .tuple #[.int .i64 0, .bool true]) (by simp [results, Try.results37, go_sem]) rfl ⟨rfl, hBf.out⟩
         · go_wp2
           exact bodyPost_ret (v := .tuple #[.int .i64 1, .bool true]) (by simp [results, Try.results37, go_sem]) rfl ⟨rfl, hBf.out⟩)
      | (have r := (((((ZN.out _).below hN2).set0 (A : Int)).set1 X).set2 Z).set3 (F : Int)
         obtain ⟨q0, q1, q2, q3, _, _, _, _⟩ := r
         have hs1 := hB1.size
         have hs2 := hB2.size
         have hBf := hid (bset (bset (bset (bset hB2 (w1.heap.size) 0 (.int .i64 (A : Int)) (by omega)) (w1.heap.size) 1 (.int .u64 (X : Int)) (by omega)) (w1.heap.size) 2 (.int .u64 (Z : Int)) (by omega)) (w1.heap.size) 3 (.int .i64 (F : Int)) (by omega))
         clear hs1 hs2
         rcases hF.out with ⟨rfl, rfl, rfl⟩ | ⟨rfl, rfl, rfl⟩ | ⟨rfl, rfl, rfl⟩
         · go_wp2
           exact bodyPost_ret (v := .tuple #[.int .i64 0, .bool false]) (by simp [results, Try.results37, go_sem]) rfl ⟨rfl, hBf.out⟩
         · go_wp2
           exact bodyPost_ret (v := .tuple #[.int .i64 0, .bool true]) (by simp [results, Try.results37, go_sem]) rfl ⟨rfl, hBf.out⟩
         · go_wp2
           exact bodyPost_ret (v := .tuple #[.int .i64 1, .bool true]) (by simp [results, Try.results37, go_sem]) rfl ⟨rfl, hBf.out⟩)
      | (have r := PL.PB.new w2 (A : Nat) X Z (F : Nat)
         obtain ⟨q0, q1, q2, q3, _, _, _, _⟩ := r
         have hs1 := hB1.size
         have hs2 := hB2.size
         have hBf := hid (bal hB2 (PL.pc (A : Nat) X Z (F : Nat)))
         clear hs1 hs2
         rcases hF.out with ⟨rfl, rfl, rfl⟩ | ⟨rfl, rfl, rfl⟩ | ⟨rfl, rfl, rfl⟩
         · go_wp2
           exact bodyPost_ret (v := .tuple #[.int .i64 0, .bool false]) (by simp [results, Try.results37, go_sem]) rfl ⟨rfl, hBf.out⟩
         · go_wp2
           exact bodyPost_ret (v := .tuple #[.int .i64 0, .bool true]) (by simp [results, Try.results37, go_sem]) rfl ⟨rfl, hBf.out⟩
         · go_wp2
           exact bodyPost_ret (v := .tuple #[.int .i64 1, .bool true]) (by simp [results, Try.results37, go_sem]) rfl ⟨rfl, hBf.out⟩)

theorem rfnd_any (N : Nat) (rs : List Pr) (a : Option Addr) (c : Nat) (q : Nat) (w : World) (H : TS w a c rs) (hR : Rt ⟨(N : Nat), rs⟩) (hq : q < N) :
    Calls Try.prog 37 #[Tb.v ⟨(N : Nat), rs⟩ a c, .int .i64 (q : Nat)] w fun e w' => e = .returned (.tuple #[.int .i64 (fndT ⟨(N : Nat), rs⟩ (q : Nat)).1, .bool (fndT ⟨(N : Nat), rs⟩ (q : Nat)).2.1]) ∧ Below w.heap.size w w' := by
  have hn1 : ((N : Nat) : Int) ≤ 64 := hR.n1
  have hN : N ≤ 64 := by omega
  have ON : ∀ w, Calls Try.prog 36 #[.int .i64 (N : Nat), .int .i64 (q : Nat), .int .u8 90, .int .i64 0] w fun e w' => e = .returned (pv (N : Nat) 0 (2 ^ q : Nat) 0) ∧ Below w.heap.size w w' := fun w => ron_any (N : Nat) (q : Nat) 90 0 (2 ^ q) N 0 w (fun w => PL.rone_z N q w hN hq)
  have IG := fun w' (h : Below w.heap.size w w') => inGroup_any N rs a c (zP N q) w' (H.below h) hR (zP_ok hN hq) rfl
  have hfi := fnd_is (N := N) (q := q) hR rfl hq
  by_cases hv : valT ⟨(N : Nat), rs⟩ (zP N q) = 0
  · rw [if_pos hv] at hfi
    rw [hfi]
    rw [inG_no hv] at IG
    exact rfnd_walk N rs.length 0 0 0 0 false 0 a c q (2 ^ q) w ON IG (.inl ⟨rfl, rfl, rfl⟩)
  · obtain ⟨f, hf4, hf2, hig, hvv⟩ := inG_yes hR (zP_ok hN hq) rfl hv
    rw [hig] at IG
    rw [if_neg hv] at hfi
    by_cases hf : f = 0
    · rw [if_pos (show f = (zP N q).f from hf)] at hvv
      rw [if_pos hvv] at hfi
      rw [hfi]
      exact rfnd_walk N rs.length N (zP N q).x (zP N q).z f true 0 a c q (2 ^ q) w ON IG (.inr (.inl ⟨rfl, hf, rfl⟩))
    · rw [if_neg (show ¬ f = (zP N q).f from hf)] at hvv
      rw [if_neg (show ¬ valT ⟨(N : Nat), rs⟩ (zP N q) = 1 by rw [hvv]; decide)] at hfi
      rw [hfi]
      exact rfnd_walk N rs.length N (zP N q).x (zP N q).z f true 1 a c q (2 ^ q) w ON IG (.inr (.inr ⟨rfl, by omega, rfl⟩))
end Go.Proofs.Ytoddbaljnlhhaaa
namespace Go.Proofs.Ytoddbaljnlhhaaa
open Go.RowKit Go.Sort
open PL (pv PS bt)

/-- What Weights tells of what was found. -/
def wtV (r : Int × Bool × Int) : Value := if r.2.2 = 0 then (if r.2.1 = true then .tuple #[rtV r.1 0 0, rtV 1 0 0, .int .i64 0] else .tuple #[rtV 1 0 1, rtV 1 0 0, .int .i64 0]) else .tuple #[rtV 0 0 0, rtV 0 0 0, .int .i64 r.2.2]
theorem rt_put {W : World} {b : Nat} {p q k : Value} {T : TypeId} (h : BK W b #[p, q, k] T) (p' q' k' : Value) : BK (((W.setCell ⟨b, 0, none⟩ p').setCell ⟨b, 1, none⟩ q').setCell ⟨b, 2, none⟩ k') b #[p', q', k'] T := ((h.set 0 p').set 1 q').set 2 k'
theorem rt_far {W : World} {b c : Nat} {cs : Array Value} {T : TypeId} (h : BK W b cs T) (hne : c ≠ b) (p q k : Value) : BK (((W.setCell ⟨c, 0, none⟩ p).setCell ⟨c, 1, none⟩ q).setCell ⟨c, 2, none⟩ k) b cs T := ((h.far hne 0 p).far hne 1 q).far hne 2 k
theorem rt_bset {a w : World} (h : Below a.heap.size a w) (b : Nat) (p q k : Value) (hb : a.heap.size ≤ b) : Below a.heap.size a (((w.setCell ⟨b, 0, none⟩ p).setCell ⟨b, 1, none⟩ q).setCell ⟨b, 2, none⟩ k) := bset (bset (bset h b 0 p hb) b 1 q hb) b 2 k hb
theorem rt_boxes (w : World) : BK ((w.alloc (rtC 0 0 0)).alloc (rtC 0 0 0)) w.heap.size #[.int .i64 0, .int .i64 0, .int .i64 0] 60 ∧ BK ((w.alloc (rtC 0 0 0)).alloc (rtC 0 0 0)) (w.heap.size + 1) #[.int .i64 0, .int .i64 0, .int .i64 0] 60 ∧ Below w.heap.size w ((w.alloc (rtC 0 0 0)).alloc (rtC 0 0 0)) := by
  have k1 := (bk_new w #[.int .i64 0, .int .i64 0, .int .i64 0] 60).alloc (rtC 0 0 0)
  have k2 := bk_new (w.alloc (rtC 0 0 0)) #[.int .i64 0, .int .i64 0, .int .i64 0] 60
  rw [PL.alz] at k2
  exact ⟨k1, k2, bal (bal (Below.refl w.heap.size w) (rtC 0 0 0)) (rtC 0 0 0)⟩

set_option maxHeartbeats 2000000 in
set_option maxRecDepth 100000 in
theorem en25_any (X : Nat) (t : Tb) (a : Option Addr) (c : Nat) (q : Int) (w : World) (K : BK w X #[.int .i64 t.n, .slice a t.rows.length c] 101) (H : TS w a c t.rows) (hR : Rt t) :
    Calls Try.prog 25 #[.pointer (some ⟨X, 0, none⟩), .int .i64 q] w fun e w' => e = .returned (wtV (fndT t q)) ∧ Below w.heap.size w w' := by
  obtain ⟨k4, k5, hB⟩ := rt_boxes w
  obtain ⟨b5, h5⟩ : ∃ b5, b5 = w.heap.size + 1 := ⟨_, rfl⟩
  obtain ⟨b4, h4⟩ : ∃ b4, b4 = w.heap.size := ⟨_, rfl⟩
  rw [← h5] at k5
  rw [← h4] at k4
  have N45 : Hid (b4 ≠ b5) := by show b4 ≠ b5; omega
  have N54 : Hid (b5 ≠ b4) := by show b5 ≠ b4; omega
  have H4 : Hid (w.heap.size ≤ b4) := by show w.heap.size ≤ b4; omega
  have H5 : Hid (w.heap.size ≤ b5) := by show w.heap.size ≤ b5; omega
  have G4 := hid h4
  have G5 := hid h5
  clear h4 h5
  have FO := hid (found_any t a c q _ (H.below hB) hR)
  have K4 := hid k4
  have K5 := hid k5
  have HB := hid hB
  have k0 := bk_on K hB
  have d0 := k0.cell
  have l0 := k0.lt
  clear k4 k5 hB K H hR k0
  obtain ⟨o, is, E, hr⟩ : ∃ o is E, fndT t q = (o, is, E) := ⟨_, _, _, rfl⟩
  rw [hr] at FO ⊢
  clear hr
  obtain ⟨n, rs⟩ := t
  unfold fndV at FO
  simp only at *
  obtain ⟨R, hR⟩ : ∃ R, wtV (o, is, E) = R := ⟨_, rfl⟩
  rw [hR]
  have HW := hid hR
  clear hR
  go_enter Try.func25, Try.ntmps25
  go_wp2_with (go_at_call 42; refine Hid.out ?_)
  refine hid ?_
  refine FO.out.mono ?_
  rintro e V ⟨rfl, hN⟩
  rw [← G5.out, ← G4.out]
  have n45 := N45.out
  have n54 := N54.out
  replace K4 := hid (bk_on K4.out hN)
  replace K5 := hid (bk_on K5.out hN)
  replace HB := hid (btr HB.out hN)
  clear hN FO d0 l0
  by_cases hE : E = 0
  case neg =>
    obtain rfl : R = .tuple #[rtV 0 0 0, rtV 0 0 0, .int .i64 E] := by rw [← HW.out]; unfold wtV; simp only; rw [if_neg hE]
    have hb : (E == 0) = false := beq_eq_false_iff_ne.2 hE
    have d4 := K4.out.cell
    have f4 := K4.out.free
    have l4 := K4.out.lt
    have d5 := K5.out.cell
    have f5 := K5.out.free
    have l5 := K5.out.lt
    go_wp2
    have Y4 := rt_put K4.out (.int .i64 0) (.int .i64 0) (.int .i64 0)
    have Y5 := rt_far K5.out N45.out (.int .i64 0) (.int .i64 0) (.int .i64 0)
    have Z4 := rt_far Y4 N54.out (.int .i64 0) (.int .i64 0) (.int .i64 0)
    have Z5 := rt_put Y5 (.int .i64 0) (.int .i64 0) (.int .i64 0)
    have ZB := hid (rt_bset (rt_bset HB.out b4 (.int .i64 0) (.int .i64 0) (.int .i64 0) H4.out) b5 (.int .i64 0) (.int .i64 0) (.int .i64 0) H5.out)
    have ZZ4 := hid Z4
    have ZZ5 := hid Z5
    have q10 := ZZ4.out.cell 0
    have q11 := ZZ4.out.cell 1
    have q12 := ZZ4.out.cell 2
    have q20 := ZZ5.out.cell 0
    have q21 := ZZ5.out.cell 1
    have q22 := ZZ5.out.cell 2
    simp only [List.getElem?_toArray, List.getElem?_cons_zero, List.getElem?_cons_succ] at q10 q11 q12 q20 q21 q22
    exact bodyPost_ret (v := .tuple #[rtV 0 0 0, rtV 0 0 0, .int .i64 E]) (by simp [results, Try.results25, go_sem, q10, q11, q12, q20, q21, q22]) rfl ⟨rfl, ZB.out⟩
  subst hE
  have d5 := K5.out.cell
  have f5 := K5.out.free
  have l5 := K5.out.lt
  replace K4 := hid (rt_far K4.out N54.out (.int .i64 1) (.int .i64 0) (.int .i64 0))
  replace K5 := hid (rt_put K5.out (.int .i64 1) (.int .i64 0) (.int .i64 0))
  replace HB := hid (rt_bset HB.out b5 (.int .i64 1) (.int .i64 0) (.int .i64 0) H5.out)
  cases is with
  | false =>
    obtain rfl : R = .tuple #[rtV 1 0 1, rtV 1 0 0, .int .i64 0] := by rw [← HW.out]; rfl
    go_wp2
    clear d5 f5 l5 n45 n54
    generalize (((V.setCell ⟨b5, 0, none⟩ (.int .i64 1)).setCell ⟨b5, 1, none⟩ (.int .i64 0)).setCell ⟨b5, 2, none⟩ (.int .i64 0)) = V at *
    refine wp_region_noPanic ?_
    refine region_z (S := fun Y => BK Y b5 #[.int .i64 1, .int .i64 0, .int .i64 0] 60) 3 (by kernel_rfl) K5.out (fun hHeld => ?_)
    clear hHeld
    have KX4 : Hid (BK V.drew b4 #[.int .i64 0, .int .i64 0, .int .i64 0] 60) := hid K4.out
    have KX5 : Hid (BK V.drew b5 #[.int .i64 1, .int .i64 0, .int .i64 0] 60) := hid K5.out
    have HX := hid (below_drew HB.out)
    clear K4 K5 HB
    generalize V.drew = X at *
    have n45 := N45.out
    have n54 := N54.out
    refine zAny_take (i := 0) (oi := { dst := some 31, op := Op.build 60 #[(0, Operand.const (Value.int IntKind.i64 1)), (2, Operand.const (Value.int IntKind.i64 1))], type := 60, pos := "engine.go:39", after := #[], guard := none }) (v := ?_) rfl (by kernel_rfl) (by kernel_rfl) (by kernel_rfl) (by kernel_rfl) (fun _ _ _ h => h) (Or.inl ⟨by rfl, ?_⟩) KX5.out ?_
    rotate_left
    (intro w0 hSw; clear hSw; go_simp; try (with_reducible rfl))
    (try simp only [Act.put, List.setIfInBounds_toArray, List.set_cons_zero, List.set_cons_succ])
    refine zAny_take (i := 1) (oi := { dst := some 32, op := Op.load 60 (Operand.tmp 5), type := 60, pos := "engine.go:39", after := #[{ on := 2, ground := Ground.gcOnly Departure.lateStores }], guard := none }) (v := ?_) rfl (by kernel_rfl) (by kernel_rfl) (by kernel_rfl) (by kernel_rfl) (fun _ _ _ h => h) (Or.inl ⟨by rfl, ?_⟩) KX5.out ?_
    rotate_left
    (intro w0 hSw; have e4 := BK.cell hSw; clear hSw; go_simp; try (with_reducible rfl))
    (try simp only [Act.put, List.setIfInBounds_toArray, List.set_cons_zero, List.set_cons_succ])
    refine zAny_ready (rs := [2]) (by kernel_rfl) (by simp) (zReady.cons (o := { dst := none, op := Op.store 60 (Operand.tmp 4) (Operand.tmp 31), type := 0, pos := "engine.go:39", after := #[{ on := 0, ground := Ground.data }, { on := 0, ground := Ground.phase }, { on := 1, ground := Ground.textOnly Departure.lateStores }], guard := none }) rfl (fun K hK => ?_) zReady.nil)
    have d4 := KX4.out.cell
    have f4 := KX4.out.free
    have l4 := KX4.out.lt
    go_simp
    have Y4 := hid (rt_put KX4.out (.int .i64 1) (.int .i64 0) (.int .i64 1))
    have Y5 := hid (rt_far KX5.out N45.out (.int .i64 1) (.int .i64 0) (.int .i64 1))
    have YB := hid (rt_bset HX.out b4 (.int .i64 1) (.int .i64 0) (.int .i64 1) H4.out)
    refine hK.out _ _ (fun _ => Y5.out) (fun _ => ?_)
    clear hK K d4 f4 l4 KX4 KX5 HX
    generalize (((X.setCell ⟨b4, 0, none⟩ (.int .i64 1)).setCell ⟨b4, 1, none⟩ (.int .i64 0)).setCell ⟨b4, 2, none⟩ (.int .i64 1)) = X1 at *
    (try simp only [Act.put, List.setIfInBounds_toArray, List.set_cons_zero, List.set_cons_succ])
    refine zAny_ready (rs := [3]) (by kernel_rfl) (by simp) (zReady.cons (o := { dst := none, op := Op.store 60 (Operand.tmp 5) (Operand.tmp 32), type := 0, pos := "engine.go:39", after := #[{ on := 1, ground := Ground.data }, { on := 2, ground := Ground.chain }, { on := 0, ground := Ground.phase }, { on := 1, ground := Ground.phase }, { on := 2, ground := Ground.phase }], guard := none }) rfl (fun K hK => ?_) zReady.nil)
    have d5 := Y5.out.cell
    have f5 := Y5.out.free
    have l5 := Y5.out.lt
    go_simp
    have Z4 := hid (rt_far Y4.out N54.out (.int .i64 1) (.int .i64 0) (.int .i64 0))
    have Z5 := hid (rt_put Y5.out (.int .i64 1) (.int .i64 0) (.int .i64 0))
    have ZB := hid (rt_bset YB.out b5 (.int .i64 1) (.int .i64 0) (.int .i64 0) H5.out)
    refine hK.out _ _ (fun h => absurd rfl h) (fun _ => ?_)
    clear hK K d5 f5 l5 Y4 Y5 YB
    generalize (((X1.setCell ⟨b5, 0, none⟩ (.int .i64 1)).setCell ⟨b5, 1, none⟩ (.int .i64 0)).setCell ⟨b5, 2, none⟩ (.int .i64 0)) = X2 at *
    (try simp only [Act.put, List.setIfInBounds_toArray, List.set_cons_zero, List.set_cons_succ])
    refine zAny_ready (rs := [4]) (by kernel_rfl) (by simp) (zReady.cons (o := { dst := some 6, op := Op.assign (Operand.const (Value.int IntKind.i64 0)), type := 37, pos := "engine.go:39", after := #[{ on := 3, ground := Ground.chain }, { on := 0, ground := Ground.phase }, { on := 1, ground := Ground.phase }, { on := 2, ground := Ground.phase }, { on := 3, ground := Ground.phase }], guard := none }) rfl (fun K hK => ?_) zReady.nil)
    go_simp
    refine hK.out _ _ (fun _ => Z5.out) (fun _ => ?_)
    clear hK K
    (try simp only [Act.put, List.setIfInBounds_toArray, List.set_cons_zero, List.set_cons_succ])
    refine zAny_done (by kernel_rfl) ?_ _
    refine NoPanic.normal ?_
    have q10 := Z4.out.cell 0
    have q11 := Z4.out.cell 1
    have q12 := Z4.out.cell 2
    have q20 := Z5.out.cell 0
    have q21 := Z5.out.cell 1
    have q22 := Z5.out.cell 2
    simp only [List.getElem?_toArray, List.getElem?_cons_zero, List.getElem?_cons_succ] at q10 q11 q12 q20 q21 q22
    go_wp2
    exact bodyPost_ret (v := .tuple #[rtV 1 0 1, rtV 1 0 0, .int .i64 0]) (by simp [results, Try.results25, go_sem, q10, q11, q12, q20, q21, q22]) rfl ⟨rfl, ZB.out⟩
  | true =>
    obtain rfl : R = .tuple #[rtV o 0 0, rtV 1 0 0, .int .i64 0] := by rw [← HW.out]; rfl
    go_wp2
    clear d5 f5 l5 n45 n54
    generalize (((V.setCell ⟨b5, 0, none⟩ (.int .i64 1)).setCell ⟨b5, 1, none⟩ (.int .i64 0)).setCell ⟨b5, 2, none⟩ (.int .i64 0)) = V at *
    refine wp_region_noPanic ?_
    refine region_z (S := fun Y => BK Y b5 #[.int .i64 1, .int .i64 0, .int .i64 0] 60) 4 (by kernel_rfl) K5.out (fun hHeld => ?_)
    clear hHeld
    have KX4 : Hid (BK V.drew b4 #[.int .i64 0, .int .i64 0, .int .i64 0] 60) := hid K4.out
    have KX5 : Hid (BK V.drew b5 #[.int .i64 1, .int .i64 0, .int .i64 0] 60) := hid K5.out
    have HX := hid (below_drew HB.out)
    clear K4 K5 HB
    generalize V.drew = X at *
    have n45 := N45.out
    have n54 := N54.out
    refine zAny_take (i := 0) (oi := { dst := some 33, op := Op.move (Operand.tmp 7), type := 3, pos := "engine.go:41", after := #[], guard := none }) (v := ?_) rfl (by kernel_rfl) (by kernel_rfl) (by kernel_rfl) (by kernel_rfl) (fun _ _ _ h => h) (Or.inl ⟨by rfl, ?_⟩) KX5.out ?_
    rotate_left
    (intro w0 hSw; clear hSw; go_simp; try (with_reducible rfl))
    (try simp only [Act.put, List.setIfInBounds_toArray, List.set_cons_zero, List.set_cons_succ])
    refine zAny_take (i := 1) (oi := { dst := some 34, op := Op.build 60 #[(0, Operand.tmp 33)], type := 60, pos := "engine.go:41", after := #[{ on := 0, ground := Ground.data }], guard := none }) (v := ?_) rfl (by kernel_rfl) (by kernel_rfl) (by kernel_rfl) (by kernel_rfl) (fun _ _ _ h => h) (Or.inl ⟨by rfl, ?_⟩) KX5.out ?_
    rotate_left
    (intro w0 hSw; clear hSw; go_simp; try (with_reducible rfl))
    (try simp only [Act.put, List.setIfInBounds_toArray, List.set_cons_zero, List.set_cons_succ])
    refine zAny_take (i := 2) (oi := { dst := some 35, op := Op.load 60 (Operand.tmp 5), type := 60, pos := "engine.go:41", after := #[{ on := 3, ground := Ground.gcOnly Departure.lateStores }], guard := none }) (v := ?_) rfl (by kernel_rfl) (by kernel_rfl) (by kernel_rfl) (by kernel_rfl) (fun _ _ _ h => h) (Or.inl ⟨by rfl, ?_⟩) KX5.out ?_
    rotate_left
    (intro w0 hSw; have e4 := BK.cell hSw; clear hSw; go_simp; try (with_reducible rfl))
    (try simp only [Act.put, List.setIfInBounds_toArray, List.set_cons_zero, List.set_cons_succ])
    refine zAny_ready (rs := [3]) (by kernel_rfl) (by simp) (zReady.cons (o := { dst := none, op := Op.store 60 (Operand.tmp 4) (Operand.tmp 34), type := 0, pos := "engine.go:41", after := #[{ on := 1, ground := Ground.data }, { on := 0, ground := Ground.phase }, { on := 1, ground := Ground.phase }, { on := 2, ground := Ground.textOnly Departure.lateStores }], guard := none }) rfl (fun K hK => ?_) zReady.nil)
    have d4 := KX4.out.cell
    have f4 := KX4.out.free
    have l4 := KX4.out.lt
    go_simp
    have Y4 := hid (rt_put KX4.out (.int .i64 o) (.int .i64 0) (.int .i64 0))
    have Y5 := hid (rt_far KX5.out N45.out (.int .i64 o) (.int .i64 0) (.int .i64 0))
    have YB := hid (rt_bset HX.out b4 (.int .i64 o) (.int .i64 0) (.int .i64 0) H4.out)
    refine hK.out _ _ (fun _ => Y5.out) (fun _ => ?_)
    clear hK K d4 f4 l4 KX4 KX5 HX
    generalize (((X.setCell ⟨b4, 0, none⟩ (.int .i64 o)).setCell ⟨b4, 1, none⟩ (.int .i64 0)).setCell ⟨b4, 2, none⟩ (.int .i64 0)) = X1 at *
    (try simp only [Act.put, List.setIfInBounds_toArray, List.set_cons_zero, List.set_cons_succ])
    refine zAny_ready (rs := [4]) (by kernel_rfl) (by simp) (zReady.cons (o := { dst := none, op := Op.store 60 (Operand.tmp 5) (Operand.tmp 35), type := 0, pos := "engine.go:41", after := #[{ on := 2, ground := Ground.data }, { on := 3, ground := Ground.chain }, { on := 0, ground := Ground.phase }, { on := 1, ground := Ground.phase }, { on := 2, ground := Ground.phase }, { on := 3, ground := Ground.phase }], guard := none }) rfl (fun K hK => ?_) zReady.nil)
    have d5 := Y5.out.cell
    have f5 := Y5.out.free
    have l5 := Y5.out.lt
    go_simp
    have Z4 := hid (rt_far Y4.out N54.out (.int .i64 1) (.int .i64 0) (.int .i64 0))
    have Z5 := hid (rt_put Y5.out (.int .i64 1) (.int .i64 0) (.int .i64 0))
    have ZB := hid (rt_bset YB.out b5 (.int .i64 1) (.int .i64 0) (.int .i64 0) H5.out)
    refine hK.out _ _ (fun h => absurd rfl h) (fun _ => ?_)
    clear hK K d5 f5 l5 Y4 Y5 YB
    generalize (((X1.setCell ⟨b5, 0, none⟩ (.int .i64 1)).setCell ⟨b5, 1, none⟩ (.int .i64 0)).setCell ⟨b5, 2, none⟩ (.int .i64 0)) = X2 at *
    (try simp only [Act.put, List.setIfInBounds_toArray, List.set_cons_zero, List.set_cons_succ])
    refine zAny_ready (rs := [5]) (by kernel_rfl) (by simp) (zReady.cons (o := { dst := some 6, op := Op.assign (Operand.const (Value.int IntKind.i64 0)), type := 37, pos := "engine.go:41", after := #[{ on := 4, ground := Ground.chain }, { on := 0, ground := Ground.phase }, { on := 1, ground := Ground.phase }, { on := 2, ground := Ground.phase }, { on := 3, ground := Ground.phase }, { on := 4, ground := Ground.phase }], guard := none }) rfl (fun K hK => ?_) zReady.nil)
    go_simp
    refine hK.out _ _ (fun _ => Z5.out) (fun _ => ?_)
    clear hK K
    (try simp only [Act.put, List.setIfInBounds_toArray, List.set_cons_zero, List.set_cons_succ])
    refine zAny_done (by kernel_rfl) ?_ _
    refine NoPanic.normal ?_
    have q10 := Z4.out.cell 0
    have q11 := Z4.out.cell 1
    have q12 := Z4.out.cell 2
    have q20 := Z5.out.cell 0
    have q21 := Z5.out.cell 1
    have q22 := Z5.out.cell 2
    simp only [List.getElem?_toArray, List.getElem?_cons_zero, List.getElem?_cons_succ] at q10 q11 q12 q20 q21 q22
    go_wp2
    exact bodyPost_ret (v := .tuple #[rtV o 0 0, rtV 1 0 0, .int .i64 0]) (by simp [results, Try.results25, go_sem, q10, q11, q12, q20, q21, q22]) rfl ⟨rfl, ZB.out⟩

theorem rw_boxes (w : World) (n : Int) (v : Value) : BK (((w.alloc (.cells #[.int .i64 n, v] 24)).alloc (rtC 0 0 0)).alloc (rtC 0 0 0)) w.heap.size #[.int .i64 n, v] 24 ∧ BK (((w.alloc (.cells #[.int .i64 n, v] 24)).alloc (rtC 0 0 0)).alloc (rtC 0 0 0)) (w.heap.size + 1) #[.int .i64 0, .int .i64 0, .int .i64 0] 60 ∧ BK (((w.alloc (.cells #[.int .i64 n, v] 24)).alloc (rtC 0 0 0)).alloc (rtC 0 0 0)) (w.heap.size + 1 + 1) #[.int .i64 0, .int .i64 0, .int .i64 0] 60 ∧ Below w.heap.size w (((w.alloc (.cells #[.int .i64 n, v] 24)).alloc (rtC 0 0 0)).alloc (rtC 0 0 0)) := by
  have k0 := ((bk_new w #[.int .i64 n, v] 24).alloc (rtC 0 0 0)).alloc (rtC 0 0 0)
  obtain ⟨k1, k2, hB⟩ := rt_boxes (w.alloc (.cells #[.int .i64 n, v] 24))
  rw [PL.alz] at k1 k2
  exact ⟨k0, k1, k2, bal (bal (bal (Below.refl w.heap.size w) _) _) _⟩
set_option maxHeartbeats 2000000 in
set_option maxRecDepth 100000 in
theorem rw30_any (t : Tb) (a : Option Addr) (c : Nat) (q : Int) (w : World) (H : TS w a c t.rows) (hR : Rt t) :
    Calls Try.prog 30 #[t.v a c, .int .i64 q] w fun e w' => e = .returned (wtV (fndT t q)) ∧ Below w.heap.size w w' := by
  obtain ⟨N, hN⟩ := Int.eq_ofNat_of_zero_le hR.n0
  obtain ⟨n, rs⟩ := t
  simp only at hN
  subst hN
  obtain ⟨k2, k4, k5, hB⟩ := rw_boxes w (N : Nat) (.slice a rs.length c)
  obtain ⟨b7, h7⟩ : ∃ b7, b7 = w.heap.size + 1 + 1 + 1 := ⟨_, rfl⟩
  obtain ⟨b5, h5⟩ : ∃ b5, b5 = w.heap.size + 1 + 1 := ⟨_, rfl⟩
  obtain ⟨b4, h4⟩ : ∃ b4, b4 = w.heap.size + 1 := ⟨_, rfl⟩
  rw [← h5] at k5
  rw [← h4] at k4
  have N45 : Hid (b4 ≠ b5) := by show b4 ≠ b5; omega
  have N54 : Hid (b5 ≠ b4) := by show b5 ≠ b4; omega
  have N47 : Hid (b4 ≠ b7) := by show b4 ≠ b7; omega
  have N57 : Hid (b5 ≠ b7) := by show b5 ≠ b7; omega
  have H4 : Hid (w.heap.size ≤ b4) := by show w.heap.size ≤ b4; omega
  have H5 : Hid (w.heap.size ≤ b5) := by show w.heap.size ≤ b5; omega
  have G4 := hid h4
  have G5 := hid h5
  have G7 := hid h7
  clear h4 h5 h7
  have K2 := hid k2
  have K4 := hid k4
  have K5 := hid k5
  have HB := hid hB
  have d0 := k2.cell
  have l0 := k2.lt
  by_cases hq : 0 ≤ q ∧ q < (N : Nat)
  case neg =>
    have er : fndT ⟨(N : Nat), rs⟩ q = (0, false, 112) := by unfold fndT; rw [if_neg hq]
    rw [er]
    have e : wtV (0, false, 112) = .tuple #[rtV 0 0 0, rtV 0 0 0, .int .i64 112] := by unfold wtV; simp only; rw [if_neg (by decide)]
    rw [e]
    clear e
    have d4 := K4.out.cell
    have f4 := K4.out.free
    have l4 := K4.out.lt
    have d5 := K5.out.cell
    have f5 := K5.out.free
    have l5 := K5.out.lt
    clear K2 k2 k4 k5 hB H hR er
    by_cases h0 : q < 0
    · have g0 : decide (q < 0) = true := decide_eq_true h0
      clear hq
      go_enter Try.func30, Try.ntmps30
      go_upto_region 2 with (fail)
      rw [← G5.out, ← G4.out]
      have n45 := N45.out
      have n54 := N54.out
      generalize ((w.alloc (.cells #[.int .i64 (N : Nat), .slice a rs.length c] 24)).alloc (rtC 0 0 0)).alloc (rtC 0 0 0) = V at *
      go_wp2
      have Y4 := rt_put K4.out (.int .i64 0) (.int .i64 0) (.int .i64 0)
      have Y5 := rt_far K5.out N45.out (.int .i64 0) (.int .i64 0) (.int .i64 0)
      have Z4 := rt_far Y4 N54.out (.int .i64 0) (.int .i64 0) (.int .i64 0)
      have Z5 := rt_put Y5 (.int .i64 0) (.int .i64 0) (.int .i64 0)
      have ZB := hid (rt_bset (rt_bset HB.out b4 (.int .i64 0) (.int .i64 0) (.int .i64 0) H4.out) b5 (.int .i64 0) (.int .i64 0) (.int .i64 0) H5.out)
      have ZZ4 := hid Z4
      have ZZ5 := hid Z5
      have q10 := ZZ4.out.cell 0
      have q11 := ZZ4.out.cell 1
      have q12 := ZZ4.out.cell 2
      have q20 := ZZ5.out.cell 0
      have q21 := ZZ5.out.cell 1
      have q22 := ZZ5.out.cell 2
      simp only [List.getElem?_toArray, List.getElem?_cons_zero, List.getElem?_cons_succ] at q10 q11 q12 q20 q21 q22
      exact bodyPost_ret (v := .tuple #[rtV 0 0 0, rtV 0 0 0, .int .i64 112]) (by simp [results, Try.results30, go_sem, q10, q11, q12, q20, q21, q22]) rfl ⟨rfl, ZB.out⟩
    · have h1 : (N : Int) ≤ q := by omega
      have g0 : decide (q < 0) = false := decide_eq_false h0
      have g1 : decide ((N : Int) ≤ q) = true := decide_eq_true h1
      clear hq
      go_enter Try.func30, Try.ntmps30
      go_upto_region 2 with (fail)
      rw [← G5.out, ← G4.out]
      have n45 := N45.out
      have n54 := N54.out
      generalize ((w.alloc (.cells #[.int .i64 (N : Nat), .slice a rs.length c] 24)).alloc (rtC 0 0 0)).alloc (rtC 0 0 0) = V at *
      go_wp2
      have Y4 := rt_put K4.out (.int .i64 0) (.int .i64 0) (.int .i64 0)
      have Y5 := rt_far K5.out N45.out (.int .i64 0) (.int .i64 0) (.int .i64 0)
      have Z4 := rt_far Y4 N54.out (.int .i64 0) (.int .i64 0) (.int .i64 0)
      have Z5 := rt_put Y5 (.int .i64 0) (.int .i64 0) (.int .i64 0)
      have ZB := hid (rt_bset (rt_bset HB.out b4 (.int .i64 0) (.int .i64 0) (.int .i64 0) H4.out) b5 (.int .i64 0) (.int .i64 0) (.int .i64 0) H5.out)
      have ZZ4 := hid Z4
      have ZZ5 := hid Z5
      have q10 := ZZ4.out.cell 0
      have q11 := ZZ4.out.cell 1
      have q12 := ZZ4.out.cell 2
      have q20 := ZZ5.out.cell 0
      have q21 := ZZ5.out.cell 1
      have q22 := ZZ5.out.cell 2
      simp only [List.getElem?_toArray, List.getElem?_cons_zero, List.getElem?_cons_succ] at q10 q11 q12 q20 q21 q22
      exact bodyPost_ret (v := .tuple #[rtV 0 0 0, rtV 0 0 0, .int .i64 112]) (by simp [results, Try.results30, go_sem, q10, q11, q12, q20, q21, q22]) rfl ⟨rfl, ZB.out⟩
  obtain ⟨q, rfl⟩ := Int.eq_ofNat_of_zero_le hq.1
  have hq2 : q < N := by omega
  have FO := hid (fun w' (h : Below w.heap.size w w') => rfnd_any N rs a c q w' (H.below h) hR hq2)
  obtain ⟨o, is, E, hr⟩ : ∃ o is E, fndT ⟨(N : Nat), rs⟩ (q : Nat) = (o, is, E) := ⟨_, _, _, rfl⟩
  have hE : E = 0 := by
    have e := fnd_is (N := N) (q := q) hR rfl hq2
    rw [hr] at e
    split at e
    · injection e with _ e; injection e
    · split at e
      · injection e with _ e; injection e
      · injection e with _ e; injection e
  subst hE
  rw [hr] at FO ⊢
  have h0 : ¬ ((q : Nat) : Int) < 0 := by omega
  have h1 : ¬ ((N : Nat) : Int) ≤ (q : Nat) := by omega
  have g0 : decide (((q : Nat) : Int) < 0) = false := decide_eq_false h0
  have g1 : decide (((N : Nat) : Int) ≤ (q : Nat)) = false := decide_eq_false h1
  clear hr hR H k2 k4 k5 hB hq
  obtain ⟨R, hR⟩ : ∃ R, wtV (o, is, 0) = R := ⟨_, rfl⟩
  rw [hR]
  have HW := hid hR
  clear hR
  have hA := bal HB.out (rtC 1 0 0)
  have k7 := bk_new (((w.alloc (.cells #[.int .i64 (N : Nat), .slice a rs.length c] 24)).alloc (rtC 0 0 0)).alloc (rtC 0 0 0)) #[.int .i64 1, .int .i64 0, .int .i64 0] 60
  have e7 : (((w.alloc (.cells #[.int .i64 (N : Nat), .slice a rs.length c] 24)).alloc (rtC 0 0 0)).alloc (rtC 0 0 0)).heap.size = w.heap.size + 1 + 1 + 1 := by rw [PL.alz, PL.alz, PL.alz]
  rw [e7, ← G7.out] at k7
  have K7 := hid k7
  replace K2 := hid (K2.out.alloc (rtC 1 0 0))
  replace K4 := hid (K4.out.alloc (rtC 1 0 0))
  replace K5 := hid (K5.out.alloc (rtC 1 0 0))
  replace HB := hid hA
  have FO2 := hid (FO.out _ hA)
  have dA := K2.out.cell
  have lA := K2.out.lt
  clear hA k7 e7 FO
  go_enter Try.func30, Try.ntmps30
  go_wp2_with (go_at_call 37; refine Hid.out ?_)
  refine hid ?_
  refine FO2.out.mono ?_
  rintro e V ⟨rfl, hN⟩
  rw [← G7.out, ← G5.out, ← G4.out]
  replace K4 := hid (bk_on K4.out hN)
  replace K5 := hid (bk_on K5.out hN)
  replace K7 := hid (bk_on K7.out hN)
  replace HB := hid (btr HB.out hN)
  clear hN FO2 d0 l0 dA lA K2
  cases is with
  | false =>
    obtain rfl : R = .tuple #[rtV 1 0 1, rtV 1 0 0, .int .i64 0] := by rw [← HW.out]; rfl
    go_wp2
    refine wp_region_noPanic ?_
    refine region_z (S := fun Y => BK Y b7 #[.int .i64 1, .int .i64 0, .int .i64 0] 60) 3 (by kernel_rfl) K7.out (fun hHeld => ?_)
    clear hHeld
    have KX4 : Hid (BK V.drew b4 #[.int .i64 0, .int .i64 0, .int .i64 0] 60) := hid K4.out
    have KX5 : Hid (BK V.drew b5 #[.int .i64 0, .int .i64 0, .int .i64 0] 60) := hid K5.out
    have KX7 : Hid (BK V.drew b7 #[.int .i64 1, .int .i64 0, .int .i64 0] 60) := hid K7.out
    have HX := hid (below_drew HB.out)
    clear K4 K5 HB K7
    generalize V.drew = X at *
    have n45 := N45.out
    have n54 := N54.out
    have n47 := N47.out
    have n57 := N57.out
    refine zAny_take (i := 0) (oi := { dst := some 29, op := Op.build 60 #[(0, Operand.const (Value.int IntKind.i64 1)), (2, Operand.const (Value.int IntKind.i64 1))], type := 60, pos := "ref.go:367", after := #[], guard := none }) (v := ?_) rfl (by kernel_rfl) (by kernel_rfl) (by kernel_rfl) (by kernel_rfl) (fun _ _ _ h => h) (Or.inl ⟨by rfl, ?_⟩) KX7.out ?_
    rotate_left
    (intro w0 hSw; clear hSw; go_simp; try (with_reducible rfl))
    (try simp only [Act.put, List.setIfInBounds_toArray, List.set_cons_zero, List.set_cons_succ])
    refine zAny_take (i := 1) (oi := { dst := some 30, op := Op.load 60 (Operand.tmp 7), type := 60, pos := "ref.go:367", after := #[{ on := 2, ground := Ground.gcOnly Departure.lateStores }], guard := none }) (v := ?_) rfl (by kernel_rfl) (by kernel_rfl) (by kernel_rfl) (by kernel_rfl) (fun _ _ _ h => h) (Or.inl ⟨by rfl, ?_⟩) KX7.out ?_
    rotate_left
    (intro w0 hSw; have e4 := BK.cell hSw; clear hSw; go_simp; try (with_reducible rfl))
    (try simp only [Act.put, List.setIfInBounds_toArray, List.set_cons_zero, List.set_cons_succ])
    refine zAny_ready (rs := [2]) (by kernel_rfl) (by simp) (zReady.cons (o := { dst := none, op := Op.store 60 (Operand.tmp 4) (Operand.tmp 29), type := 0, pos := "ref.go:367", after := #[{ on := 0, ground := Ground.data }, { on := 0, ground := Ground.phase }, { on := 1, ground := Ground.textOnly Departure.lateStores }], guard := none }) rfl (fun K hK => ?_) zReady.nil)
    have d4 := KX4.out.cell
    have f4 := KX4.out.free
    have l4 := KX4.out.lt
    go_simp
    have Y4 := hid (rt_put KX4.out (.int .i64 1) (.int .i64 0) (.int .i64 1))
    have Y5 := hid (rt_far KX5.out N45.out (.int .i64 1) (.int .i64 0) (.int .i64 1))
    have Y7 := hid (rt_far KX7.out N47.out (.int .i64 1) (.int .i64 0) (.int .i64 1))
    have YB := hid (rt_bset HX.out b4 (.int .i64 1) (.int .i64 0) (.int .i64 1) H4.out)
    refine hK.out _ _ (fun _ => Y7.out) (fun _ => ?_)
    clear hK K d4 f4 l4 KX4 KX5 HX KX7
    generalize (((X.setCell ⟨b4, 0, none⟩ (.int .i64 1)).setCell ⟨b4, 1, none⟩ (.int .i64 0)).setCell ⟨b4, 2, none⟩ (.int .i64 1)) = X1 at *
    (try simp only [Act.put, List.setIfInBounds_toArray, List.set_cons_zero, List.set_cons_succ])
    refine zAny_ready (rs := [3]) (by kernel_rfl) (by simp) (zReady.cons (o := { dst := none, op := Op.store 60 (Operand.tmp 5) (Operand.tmp 30), type := 0, pos := "ref.go:367", after := #[{ on := 1, ground := Ground.data }, { on := 2, ground := Ground.chain }, { on := 0, ground := Ground.phase }, { on := 1, ground := Ground.phase }, { on := 2, ground := Ground.phase }], guard := none }) rfl (fun K hK => ?_) zReady.nil)
    have d5 := Y5.out.cell
    have f5 := Y5.out.free
    have l5 := Y5.out.lt
    go_simp
    have Z4 := hid (rt_far Y4.out N54.out (.int .i64 1) (.int .i64 0) (.int .i64 0))
    have Z5 := hid (rt_put Y5.out (.int .i64 1) (.int .i64 0) (.int .i64 0))
    have Z7 := hid (rt_far Y7.out N57.out (.int .i64 1) (.int .i64 0) (.int .i64 0))
    have ZB := hid (rt_bset YB.out b5 (.int .i64 1) (.int .i64 0) (.int .i64 0) H5.out)
    refine hK.out _ _ (fun h => absurd rfl h) (fun _ => ?_)
    clear hK K d5 f5 l5 Y4 Y5 YB Y7
    generalize (((X1.setCell ⟨b5, 0, none⟩ (.int .i64 1)).setCell ⟨b5, 1, none⟩ (.int .i64 0)).setCell ⟨b5, 2, none⟩ (.int .i64 0)) = X2 at *
    (try simp only [Act.put, List.setIfInBounds_toArray, List.set_cons_zero, List.set_cons_succ])
    refine zAny_ready (rs := [4]) (by kernel_rfl) (by simp) (zReady.cons (o := { dst := some 6, op := Op.assign (Operand.const (Value.int IntKind.i64 0)), type := 3, pos := "ref.go:367", after := #[{ on := 3, ground := Ground.chain }, { on := 0, ground := Ground.phase }, { on := 1, ground := Ground.phase }, { on := 2, ground := Ground.phase }, { on := 3, ground := Ground.phase }], guard := none }) rfl (fun K hK => ?_) zReady.nil)
    go_simp
    refine hK.out _ _ (fun _ => Z7.out) (fun _ => ?_)
    clear hK K
    (try simp only [Act.put, List.setIfInBounds_toArray, List.set_cons_zero, List.set_cons_succ])
    refine zAny_done (by kernel_rfl) ?_ _
    refine NoPanic.normal ?_
    have q10 := Z4.out.cell 0
    have q11 := Z4.out.cell 1
    have q12 := Z4.out.cell 2
    have q20 := Z5.out.cell 0
    have q21 := Z5.out.cell 1
    have q22 := Z5.out.cell 2
    simp only [List.getElem?_toArray, List.getElem?_cons_zero, List.getElem?_cons_succ] at q10 q11 q12 q20 q21 q22
    go_wp2
    exact bodyPost_ret (v := .tuple #[rtV 1 0 1, rtV 1 0 0, .int .i64 0]) (by simp [results, Try.results30, go_sem, q10, q11, q12, q20, q21, q22]) rfl ⟨rfl, ZB.out⟩
  | true =>
    obtain rfl : R = .tuple #[rtV o 0 0, rtV 1 0 0, .int .i64 0] := by rw [← HW.out]; rfl
    go_wp2
    refine wp_region_noPanic ?_
    refine region_z (S := fun Y => BK Y b7 #[.int .i64 1, .int .i64 0, .int .i64 0] 60) 4 (by kernel_rfl) K7.out (fun hHeld => ?_)
    clear hHeld
    have KX4 : Hid (BK V.drew b4 #[.int .i64 0, .int .i64 0, .int .i64 0] 60) := hid K4.out
    have KX5 : Hid (BK V.drew b5 #[.int .i64 0, .int .i64 0, .int .i64 0] 60) := hid K5.out
    have KX7 : Hid (BK V.drew b7 #[.int .i64 1, .int .i64 0, .int .i64 0] 60) := hid K7.out
    have HX := hid (below_drew HB.out)
    clear K4 K5 HB K7
    generalize V.drew = X at *
    have n45 := N45.out
    have n54 := N54.out
    have n47 := N47.out
    have n57 := N57.out
    refine zAny_take (i := 0) (oi := { dst := some 31, op := Op.move (Operand.tmp 8), type := 3, pos := "ref.go:369", after := #[], guard := none }) (v := ?_) rfl (by kernel_rfl) (by kernel_rfl) (by kernel_rfl) (by kernel_rfl) (fun _ _ _ h => h) (Or.inl ⟨by rfl, ?_⟩) KX7.out ?_
    rotate_left
    (intro w0 hSw; clear hSw; go_simp; try (with_reducible rfl))
    (try simp only [Act.put, List.setIfInBounds_toArray, List.set_cons_zero, List.set_cons_succ])
    refine zAny_take (i := 1) (oi := { dst := some 32, op := Op.build 60 #[(0, Operand.tmp 31)], type := 60, pos := "ref.go:369", after := #[{ on := 0, ground := Ground.data }], guard := none }) (v := ?_) rfl (by kernel_rfl) (by kernel_rfl) (by kernel_rfl) (by kernel_rfl) (fun _ _ _ h => h) (Or.inl ⟨by rfl, ?_⟩) KX7.out ?_
    rotate_left
    (intro w0 hSw; clear hSw; go_simp; try (with_reducible rfl))
    (try simp only [Act.put, List.setIfInBounds_toArray, List.set_cons_zero, List.set_cons_succ])
    refine zAny_take (i := 2) (oi := { dst := some 33, op := Op.load 60 (Operand.tmp 7), type := 60, pos := "ref.go:369", after := #[{ on := 3, ground := Ground.gcOnly Departure.lateStores }], guard := none }) (v := ?_) rfl (by kernel_rfl) (by kernel_rfl) (by kernel_rfl) (by kernel_rfl) (fun _ _ _ h => h) (Or.inl ⟨by rfl, ?_⟩) KX7.out ?_
    rotate_left
    (intro w0 hSw; have e4 := BK.cell hSw; clear hSw; go_simp; try (with_reducible rfl))
    (try simp only [Act.put, List.setIfInBounds_toArray, List.set_cons_zero, List.set_cons_succ])
    refine zAny_ready (rs := [3]) (by kernel_rfl) (by simp) (zReady.cons (o := { dst := none, op := Op.store 60 (Operand.tmp 4) (Operand.tmp 32), type := 0, pos := "ref.go:369", after := #[{ on := 1, ground := Ground.data }, { on := 0, ground := Ground.phase }, { on := 1, ground := Ground.phase }, { on := 2, ground := Ground.textOnly Departure.lateStores }], guard := none }) rfl (fun K hK => ?_) zReady.nil)
    have d4 := KX4.out.cell
    have f4 := KX4.out.free
    have l4 := KX4.out.lt
    go_simp
    have Y4 := hid (rt_put KX4.out (.int .i64 o) (.int .i64 0) (.int .i64 0))
    have Y5 := hid (rt_far KX5.out N45.out (.int .i64 o) (.int .i64 0) (.int .i64 0))
    have Y7 := hid (rt_far KX7.out N47.out (.int .i64 o) (.int .i64 0) (.int .i64 0))
    have YB := hid (rt_bset HX.out b4 (.int .i64 o) (.int .i64 0) (.int .i64 0) H4.out)
    refine hK.out _ _ (fun _ => Y7.out) (fun _ => ?_)
    clear hK K d4 f4 l4 KX4 KX5 HX KX7
    generalize (((X.setCell ⟨b4, 0, none⟩ (.int .i64 o)).setCell ⟨b4, 1, none⟩ (.int .i64 0)).setCell ⟨b4, 2, none⟩ (.int .i64 0)) = X1 at *
    (try simp only [Act.put, List.setIfInBounds_toArray, List.set_cons_zero, List.set_cons_succ])
    refine zAny_ready (rs := [4]) (by kernel_rfl) (by simp) (zReady.cons (o := { dst := none, op := Op.store 60 (Operand.tmp 5) (Operand.tmp 33), type := 0, pos := "ref.go:369", after := #[{ on := 2, ground := Ground.data }, { on := 3, ground := Ground.chain }, { on := 0, ground := Ground.phase }, { on := 1, ground := Ground.phase }, { on := 2, ground := Ground.phase }, { on := 3, ground := Ground.phase }], guard := none }) rfl (fun K hK => ?_) zReady.nil)
    have d5 := Y5.out.cell
    have f5 := Y5.out.free
    have l5 := Y5.out.lt
    go_simp
    have Z4 := hid (rt_far Y4.out N54.out (.int .i64 1) (.int .i64 0) (.int .i64 0))
    have Z5 := hid (rt_put Y5.out (.int .i64 1) (.int .i64 0) (.int .i64 0))
    have Z7 := hid (rt_far Y7.out N57.out (.int .i64 1) (.int .i64 0) (.int .i64 0))
    have ZB := hid (rt_bset YB.out b5 (.int .i64 1) (.int .i64 0) (.int .i64 0) H5.out)
    refine hK.out _ _ (fun h => absurd rfl h) (fun _ => ?_)
    clear hK K d5 f5 l5 Y4 Y5 YB Y7
    generalize (((X1.setCell ⟨b5, 0, none⟩ (.int .i64 1)).setCell ⟨b5, 1, none⟩ (.int .i64 0)).setCell ⟨b5, 2, none⟩ (.int .i64 0)) = X2 at *
    (try simp only [Act.put, List.setIfInBounds_toArray, List.set_cons_zero, List.set_cons_succ])
    refine zAny_ready (rs := [5]) (by kernel_rfl) (by simp) (zReady.cons (o := { dst := some 6, op := Op.assign (Operand.const (Value.int IntKind.i64 0)), type := 3, pos := "ref.go:369", after := #[{ on := 4, ground := Ground.chain }, { on := 0, ground := Ground.phase }, { on := 1, ground := Ground.phase }, { on := 2, ground := Ground.phase }, { on := 3, ground := Ground.phase }, { on := 4, ground := Ground.phase }], guard := none }) rfl (fun K hK => ?_) zReady.nil)
    go_simp
    refine hK.out _ _ (fun _ => Z7.out) (fun _ => ?_)
    clear hK K
    (try simp only [Act.put, List.setIfInBounds_toArray, List.set_cons_zero, List.set_cons_succ])
    refine zAny_done (by kernel_rfl) ?_ _
    refine NoPanic.normal ?_
    have q10 := Z4.out.cell 0
    have q11 := Z4.out.cell 1
    have q12 := Z4.out.cell 2
    have q20 := Z5.out.cell 0
    have q21 := Z5.out.cell 1
    have q22 := Z5.out.cell 2
    simp only [List.getElem?_toArray, List.getElem?_cons_zero, List.getElem?_cons_succ] at q10 q11 q12 q20 q21 q22
    go_wp2
    exact bodyPost_ret (v := .tuple #[rtV o 0 0, rtV 1 0 0, .int .i64 0]) (by simp [results, Try.results30, go_sem, q10, q11, q12, q20, q21, q22]) rfl ⟨rfl, ZB.out⟩
end Go.Proofs.Ytoddbaljnlhhaaa
