/-
  joinedSize of package lex.
-/
import Derived.Test.YtfjpdekegbnbaaaJ1
import Derived.Test.YtfjpdekegbnbaaaC2
namespace Go.Proofs.Ytfjpdekegbnbaaa
open Go.RowKit Go.Sort

/-- How many bytes the first k tokens have, joined. -/
def jl (l : List Tk) : Nat → Nat
  | 0 => 0
  | k + 1 => jl l k + (if k = 0 then 0 else 1) + ((l[k]?.map fun t => t.t.size).getD 0)
theorem jl_at (l : List Tk) (k : Nat) (h : k < l.length) : jl l (k + 1) = jl l k + (if k = 0 then 0 else 1) + l[k].t.size := by
  show _ + _ + _ = _
  rw [List.getElem?_eq_getElem h]
  rfl
theorem jl_mono (l : List Tk) {k m : Nat} (h : k ≤ m) : jl l k ≤ jl l m := by
  induction m with
  | zero => obtain rfl : k = 0 := by omega
            exact Nat.le_refl _
  | succ m ih =>
    by_cases e : k = m + 1
    · rw [e]; exact Nat.le_refl _
    · have := ih (by omega)
      show _ ≤ _ + _ + _
      omega

set_option maxHeartbeats 1000000 in
theorem size_any (l : List Tk) (v : Value) (w : World) (hv : SF w v l) (hl : l.length ≤ 9223372036854775807) (hz : ∀ k (h : k < l.length), l[k].t.size ≤ 9223372036854775807) :
    Calls Try.prog 30 #[v] w fun e w' => e = .returned (.tuple #[.int .i64 (if jl l l.length ≤ 65536 then jl l l.length else 0 : Nat), .bool (decide (jl l l.length ≤ 65536))]) ∧ Below w.heap.size w w' := by
  obtain ⟨R, hR⟩ : ∃ R : Nat, Hid (R = if jl l l.length ≤ 65536 then jl l l.length else 0) := ⟨_, rfl⟩
  obtain ⟨T, hT⟩ : ∃ T : Bool, Hid (T = decide (jl l l.length ≤ 65536)) := ⟨_, rfl⟩
  rw [← hR.out, ← hT.out]
  obtain ⟨av, cv, rfl, hc, hr⟩ := hv
  have HR : Hid (∀ k, k < l.length → ∃ b o, av = some ⟨b, o, none⟩ ∧ RT w b o l) := hr
  have HZ : Hid (∀ k (h : k < l.length), l[k].t.size ≤ 9223372036854775807) := hz
  clear hr hz
  go_enter Try.func30, Try.ntmps30
  go_upto_region 3 with (fail)
  go_loopw [4, 9] (fun v4 v9 wr => ∃ k : Nat, k ≤ l.length ∧ v9 = .int .i64 k ∧ v4 = .int .i64 (jl l k : Nat) ∧ Hid (Below w.heap.size w wr ∧ jl l k ≤ 65536)) (fun _ v9 _ => l.length - (intOf v9).toNat)
  case atStart => exact ⟨0, by omega, rfl, rfl, Below.refl _ _, by show 0 ≤ _; omega⟩
  case round =>
    obtain ⟨k, hk, rfl, rfl, hH⟩ := hrel
    by_cases hlt : k < l.length
    · obtain ⟨b, o, rfl, r0⟩ := HR.out k hlt
      have r := r0.below hH.out.1
      have d0 := r.c0 k hlt
      have d1 := r.c1 k hlt
      have d2 := r.c2 k hlt
      have hb := r.lt
      have hj := hH.out.2
      have hz := HZ.out k hlt
      have EJ : Hid (jl l (k + 1) = jl l k + (if k = 0 then 0 else 1) + l[k].t.size) := jl_at l k hlt
      have hmo := jl_mono l (show k + 1 ≤ l.length by omega)
      have HM : Hid (jl l (k + 1) ≤ jl l l.length) := hmo
      clear r r0 hmo
      generalize l[k].k = x at *
      generalize l[k].p = y at *
      generalize l[k].t = z at *
      generalize jl l k = q at *
      by_cases h0 : k = 0
      · skip
        have EJ2 : Hid (jl l (k + 1) = q + z.size) := by
          show _ = _
          rw [EJ.out]
          simp [h0]
        have g0 : ¬ (0 : Int) < (k : Int) := by omega
        have g0' : ¬ 0 < k := by omega
        clear h0 EJ
        by_cases hbig : 65536 < q + z.size
        · have g1 : (65536 : Int) - (q : Int) < (z.size : Int) := by omega
          have e1 : R = 0 := by
            have := HM.out
            rw [EJ2.out] at this
            rw [hR.out, if_neg (by omega)]
          have e2 : T = false := by
            have := HM.out
            rw [EJ2.out] at this
            rw [hT.out, decide_eq_false (by omega)]
          clear hR hT HM EJ2
          subst e1 e2
          go_wp2
          go_ret2
          refine ⟨rfl, ?_⟩
          exact bal hH.out.1 _
        · have g1 : ¬ (65536 : Int) - (q : Int) < (z.size : Int) := by omega
          go_wp2
          go_roundw
          case rel =>
            refine ⟨k + 1, by omega, by go_num, by rw [EJ2.out]; go_num, ?_, by rw [EJ2.out]; omega⟩
            exact bal hH.out.1 _
          case measure => simp [intOf]; omega
      · skip
        have EJ2 : Hid (jl l (k + 1) = q + 1 + z.size) := by
          show _ = _
          rw [EJ.out]
          simp [h0]
        have g0 : (0 : Int) < (k : Int) := by omega
        have g0' : 0 < k := by omega
        clear h0 EJ
        by_cases hbig : 65536 < q + 1 + z.size
        · have g1 : (65536 : Int) - ((q : Int) + 1) < (z.size : Int) := by omega
          have e1 : R = 0 := by
            have := HM.out
            rw [EJ2.out] at this
            rw [hR.out, if_neg (by omega)]
          have e2 : T = false := by
            have := HM.out
            rw [EJ2.out] at this
            rw [hT.out, decide_eq_false (by omega)]
          clear hR hT HM EJ2
          subst e1 e2
          go_wp2
          go_ret2
          refine ⟨rfl, ?_⟩
          exact bal hH.out.1 _
        · have g1 : ¬ (65536 : Int) - ((q : Int) + 1) < (z.size : Int) := by omega
          go_wp2
          go_roundw
          case rel =>
            refine ⟨k + 1, by omega, by go_num, by rw [EJ2.out]; go_num, ?_, by rw [EJ2.out]; omega⟩
            exact bal hH.out.1 _
          case measure => simp [intOf]; omega
    · obtain rfl : k = l.length := by omega
      have hj := hH.out.2
      have e1 : R = jl l l.length := by rw [hR.out, if_pos hj]
      have e2 : T = true := by rw [hT.out, decide_eq_true hj]
      subst e1 e2
      go_wp2
      go_ret2
      exact ⟨rfl, hH.out.1⟩
end Go.Proofs.Ytfjpdekegbnbaaa
