/-
  The reference's size and Neg.
-/
import Derived.Test.YtalaacfoaelipaaDoorQ0
import Derived.Test.YtalaacfoaelipaaDoorR5
import Derived.Deep.QuietTactic
import Derived.BigQuiet
namespace Go.Proofs.YtalaacfoaelipaaDoor
open Go.RowKit Go.Sort

theorem drewN_two (w : World) (a b : Nat) : (w.drewN a).drewN b = w.drewN (a + b) := by simp [World.drewN, Nat.add_assoc]
set_option maxHeartbeats 1000000 in
theorem size_eq (la lb : List Nat) (a b : Option Addr) (ca cb : Nat) (w : World) (ha : Row a la w) (hb : Row b lb w) (da : Dg la) (db : Dg lb) (hl : la.length = lb.length) (hn : la.length ≤ 1000) (r : Int) (hr : r = cmpN (nv la) (nv lb)) :
    Calls Tryd.prog 65 #[.slice a la.length ca, .slice b lb.length cb] w fun e w' => e = .returned (.int .i64 r) ∧ ∃ m, w' = w.drewN m := by
  have HA : Hid (Row a la w) := ha
  have HB : Hid (Row b lb w) := hb
  have DA : Hid (Dg la) := da
  have DB : Hid (Dg lb) := db
  have HR : Hid (r = cmpN (nv la) (nv lb)) := hr
  clear ha hb da db hr
  rw [← hl]
  have HL : Hid (la.length = lb.length) := hl
  clear hl
  generalize hk : la.length = n at *
  have HK : Hid (la.length = n) := hk
  clear hk
  go_enter Tryd.func65, Tryd.ntmps65
  go_wp2
  go_loopw [5] (fun i wr => ∃ k m : Nat, k ≤ n ∧ i = .int .i64 ((k : Int) - 1) ∧ Hid (wr = w.drewN m) ∧ Hid (nv (la.drop k) = nv (lb.drop k))) (fun i _ => (intOf i + 1).toNat)
  case atStart => exact ⟨n, 0, by omega, rfl, rfl, by have := HK.out; have := HL.out; show _ = _; rw [nv_drop_ge (by omega), nv_drop_ge (by omega)]⟩
  case round =>
    obtain ⟨k, m, hkn, rfl, hw, he⟩ := hrel
    by_cases hk0 : k = 0
    · subst hk0
      obtain rfl : r = 0 := by
        have h1 := HR.out
        have h2 := he.out
        simp only [List.drop_zero] at h2
        rw [h2] at h1
        rw [h1]; unfold cmpN; simp
      go_wp2
      go_ret
      exact ⟨rfl, m, hw⟩
    · obtain ⟨j, rfl⟩ : ∃ j, k = j + 1 := ⟨k - 1, by omega⟩
      clear hk0
      have hja : j < la.length := by have := HK.out; omega
      have hjb : j < lb.length := by have := HL.out; omega
      obtain ⟨A, rfl, xa, _⟩ := ((hw.out ▸ HA.out.drewN m : Row a la wr)).at_ j hja
      obtain ⟨B, rfl, xb, _⟩ := ((hw.out ▸ HB.out.drewN m : Row b lb wr)).at_ j hjb
      have HX : Hid (gd la j < gd lb j → nv la < nv lb) := fun h => digit_lt DA.out (HK.out.trans HL.out) j hja he.out h
      have HY : Hid (gd lb j < gd la j → nv lb < nv la) := fun h => digit_lt DB.out (HK.out.trans HL.out).symm j hjb he.out.symm h
      have HE : Hid (gd la j = gd lb j → nv (la.drop j) = nv (lb.drop j)) := fun h => by rw [nv_drop la j hja, nv_drop lb j hjb, he.out, h]
      have b1 := DA.out.at_ j
      have b2 := DB.out.at_ j
      clear hja hjb he DA DB HA HB
      generalize gd la j = x at *
      generalize gd lb j = y at *
      have i0 : (0 : Int) ≤ (j : Int) := by omega
      have i1 : (j : Int) < (n : Int) := by omega
      by_cases h1 : x < y
      · obtain rfl : r = -1 := by
          have h3 := HX.out h1
          rw [HR.out]; unfold cmpN; rw [if_pos h3]
        have d1 : decide ((x : Int) < (y : Int)) = true := by simp; omega
        go_wp2
        go_quiet (fail)
        go_wp2
        go_ret
        exact ⟨rfl, _, by rw [hw.out]; exact drewN_two _ _ _⟩
      · have d1 : decide ((x : Int) < (y : Int)) = false := by simp; omega
        by_cases h2 : y < x
        · obtain rfl : r = 1 := by
            have h3 := HY.out h2
            rw [HR.out]; unfold cmpN; rw [if_neg (by omega), if_pos h3]
          have d2 : decide ((y : Int) < (x : Int)) = true := by simp; omega
          go_wp2
          go_quiet (fail)
          go_wp2
          go_quiet (fail)
          go_wp2
          go_ret
          exact ⟨rfl, _, by rw [hw.out, drewN_two, drewN_two]⟩
        · have d2 : decide ((y : Int) < (x : Int)) = false := by simp; omega
          have HE2 : Hid _ := HE.out (by omega)
          go_wp2
          go_quiet (fail)
          go_wp2
          go_quiet (fail)
          go_wp2
          go_roundw
          case rel => exact ⟨j, _, by omega, by go_num, by show _ = _; rw [hw.out, drewN_two], HE2⟩
          case measure => simp [intOf]
theorem size_ne (la lb : List Nat) (a b : Option Addr) (ca cb : Nat) (w : World) (hl : la.length ≠ lb.length) :
    Calls Tryd.prog 65 #[.slice a la.length ca, .slice b lb.length cb] w fun e w' => e = .returned (.int .i64 (if la.length < lb.length then -1 else 1)) ∧ ∃ m, w' = w.drewN m := by
  generalize la.length = n at *
  generalize lb.length = m at *
  by_cases h : n < m
  · rw [if_pos h]
    go_enter Tryd.func65, Tryd.ntmps65
    go_wp2
    go_ret
    exact ⟨rfl, 0, rfl⟩
  · rw [if_neg h]
    go_enter Tryd.func65, Tryd.ntmps65
    go_wp2
    go_ret
    exact ⟨rfl, 0, rfl⟩
/-- Which of two whole numbers' sizes is the greater. -/
theorem size_any2 (x y : Int) (a : Option Addr) (n c : Nat) (a' : Option Addr) (n' c' : Nat) (w : World) (hx : II w a n c x) (hy : II w a' n' c' y) (h1 : n ≤ 1000) :
    Calls Tryd.prog 65 #[.slice a n c, .slice a' n' c'] w fun e w' => e = .returned (.int .i64 (cmpN x.natAbs y.natAbs)) ∧ ∃ m, w' = w.drewN m := by
  obtain ⟨la, rfl, ra, da, ma, va, _, _⟩ := hx.ex
  obtain ⟨lb, rfl, rb, db, mb, vb, _, _⟩ := hy.ex
  rw [← va, ← vb]
  by_cases hl : la.length = lb.length
  · exact size_eq la lb a a' c c' w ra rb da db hl h1 _ rfl
  · have := size_ne la lb a a' c c' w hl
    by_cases h : la.length < lb.length
    · have hlt := len_lt da mb h
      rw [if_pos h] at this
      unfold cmpN
      rw [if_pos hlt]; exact this
    · have hlt := len_lt db ma (by omega)
      rw [if_neg h] at this
      unfold cmpN
      rw [if_neg (by omega), if_pos hlt]; exact this
theorem II.neg {W : World} {a : Option Addr} {n c : Nat} {z : Int} (h : II W a n c z) : II W a n c (-z) := by
  obtain ⟨l, h1, h2, h3, h4, h5, h6⟩ := h.ex
  exact ⟨l, h1, h2, h3, h4, by rw [Int.natAbs_neg]; exact h5, h6⟩
theorem sgn_neg' (z : Int) : -sgn z = sgn (-z) := by
  unfold sgn
  by_cases h : z < 0
  · rw [if_pos h, if_neg (by omega), if_neg (by omega)]; rfl
  · rw [if_neg h]
    by_cases h0 : z = 0
    · rw [if_pos h0, h0]; rfl
    · rw [if_neg h0, if_pos (by omega)]
theorem sgn_b (z : Int) : -1 ≤ sgn z ∧ sgn z ≤ 1 := by unfold sgn; split <;> (try split) <;> omega
theorem neg_any (z : Int) (a : Option Addr) (n c : Nat) (w : World) (h : II w a n c z) :
    Calls Tryd.prog 70 #[.agg #[.int .i64 (sgn z), .slice a n c]] w fun e w' => IRet (-z) e w' ∧ Below w.heap.size w w' := by
  have e := sgn_neg' z
  obtain ⟨b1, b2⟩ := sgn_b z
  have hI : Hid (∀ W, Below w.heap.size w W → II W a n c (-z)) := fun W hb => (h.below hb).neg
  clear h
  generalize sgn z = s at *
  generalize hs : sgn (-z) = t at *
  have HS : Hid (sgn (-z) = t) := hs
  clear hs
  go_enter Tryd.func70, Tryd.ntmps70
  go_wp2
  refine bodyPost_ret (v := .agg #[.int .i64 t, .slice a n c]) (by simp [results, Tryd.results70, go_sem]) rfl ⟨⟨a, n, c, by rw [HS.out], ?_⟩, ?_⟩
  · exact hI.out _ (bal (bal (Below.refl _ _) _) _)
  · exact bal (bal (Below.refl _ _) _) _
end Go.Proofs.YtalaacfoaelipaaDoor
