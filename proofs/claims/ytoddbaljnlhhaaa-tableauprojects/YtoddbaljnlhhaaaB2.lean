/-
  tableau: the reference's Equal.
-/
import Derived.Test.YtoddbaljnlhhaaaXE
namespace Go.Proofs.Ytoddbaljnlhhaaa
open Go.RowKit Go.Sort
open PL (pv PS)

/-- The first k rows of both are the same. -/
def eqTo (rs us : List Pr) (k : Nat) : Prop := ∀ j (h : j < rs.length) (h' : j < us.length), j < k → rs[j] = us[j]
theorem eqTo_all {rs us : List Pr} (hl : rs.length = us.length) (h : eqTo rs us rs.length) : rs = us := List.ext_getElem hl (fun j h1 h2 => h j h1 h2 h1)
set_option maxHeartbeats 2000000 in
set_option maxRecDepth 100000 in
theorem requal_any (t u : Tb) (a a' : Option Addr) (c c' : Nat) (w : World) (H : TS w a c t.rows) (H' : TS w a' c' u.rows) (E : Bool) (hE1 : t = u → E = true) (hE2 : ¬ t = u → E = false) :
    Calls Try.prog 20 #[t.v a c, u.v a' c'] w fun e w' => e = .returned (.bool E) ∧ Below w.heap.size w w' := by
  obtain ⟨hB0, hK0, hL0⟩ := tt_boxes w t.n u.n (.slice a t.rows.length c) (.slice a' u.rows.length c')
  have hcap := H.cap
  have hcap' := H'.cap
  have hcl := H.l
  have hcl' := H'.l
  obtain ⟨n, rs⟩ := t
  obtain ⟨m, us⟩ := u
  simp only at *
  by_cases hn : n = m
  case neg =>
    obtain rfl : E = false := hE2 (fun h => hn (congrArg Tb.n h))
    have hn' : (n != m) = true := bne_iff_ne.2 hn
    clear hE1 hE2 hK0 hL0 hn H H'
    go_enter Try.func20, Try.ntmps20
    go_wp2
    go_ret
    exact ⟨rfl, hB0⟩
  by_cases hl : rs.length = us.length
  case neg =>
    obtain rfl : E = false := hE2 (fun h => hl (congrArg (fun x => x.rows.length) h))
    have hn' : (n != m) = false := bne_eq_false_iff_eq.2 hn
    have hl' : ((rs.length : Int) != (us.length : Int)) = true := bne_iff_ne.2 (by omega)
    clear hE1 hE2 hK0 hL0 hn hl H H'
    go_enter Try.func20, Try.ntmps20
    go_wp2
    go_ret
    exact ⟨rfl, hB0⟩
  have hn' : (n != m) = false := bne_eq_false_iff_eq.2 hn
  have hl' : ((rs.length : Int) != (us.length : Int)) = false := bne_eq_false_iff_eq.2 (by omega)
  have HE1 : Hid (eqTo rs us rs.length → E = true) := fun h => hE1 (by rw [hn, eqTo_all hl h])
  have HE2 : Hid (∀ j (h : j < rs.length) (h' : j < us.length), ¬ rs[j] = us[j] → E = false) := fun j h h' hne => hE2 (fun e => hne (by
    have e2 : rs = us := congrArg Tb.rows e
    subst e2
    rfl))
  have HL := hid hl
  have HH := hid H
  have HH' := hid H'
  have HB0 := hid hB0
  have HK0 := hid hK0
  have HL0 := hid hL0
  clear hE1 hE2 hn hl H H' hB0 hK0 hL0
  go_enter Try.func20, Try.ntmps20
  go_wp2
  go_loopw [5] (fun v5 wx => ∃ k : Nat, k ≤ rs.length ∧ v5 = .int .i64 (k : Nat) ∧ Hid (BK wx w.heap.size #[.int .i64 n, .slice a rs.length c] 24) ∧ Hid (BK wx (w.heap.size + 1) #[.int .i64 m, .slice a' us.length c'] 24) ∧ Hid (Below w.heap.size w wx) ∧ Hid (eqTo rs us k)) (fun v5 _ => rs.length - (intOf v5).toNat)
  case atStart => exact ⟨0, Nat.zero_le _, rfl, HK0, HL0, HB0, fun _ _ _ h => absurd h (Nat.not_lt_zero _)⟩
  case round =>
    clear HK0 HL0 HB0
    obtain ⟨k, hk, rfl, HK, HM, HA, HQ⟩ := hrel
    have d1 := HK.out.cell
    have l1 := HK.out.lt
    by_cases hlt : k < rs.length
    case neg =>
      obtain rfl : k = rs.length := by omega
      obtain rfl : E = true := HE1.out HQ.out
      go_wp2
      go_ret
      exact ⟨rfl, HA.out⟩
    have hlu : k < us.length := by rw [← HL.out]; exact hlt
    have d2 := HM.out.cell
    have l2 := HM.out.lt
    obtain ⟨b1, o1, rfl, r⟩ := (HH.out.below HA.out).at_ k hlt
    obtain ⟨b2, o2, rfl, r'⟩ := (HH'.out.below HA.out).at_ k hlu
    have m0 := r.c0 k hlt
    have m1 := r.c1 k hlt
    have m2 := r.c2 k hlt
    have m3 := r.c3 k hlt
    have n0 := r'.c0 k hlu
    have n1 := r'.c1 k hlu
    have n2 := r'.c2 k hlu
    have n3 := r'.c3 k hlu
    have hb1 := r.lt
    have hb2 := r'.lt
    have HX : Hid (rs[k] = us[k] → eqTo rs us (k + 1)) := fun h j hj hj' hjk => by
      by_cases e : j = k
      · subst e; exact h
      · exact HQ.out j hj hj' (by omega)
    have HY : Hid (¬ rs[k] = us[k] → E = false) := HE2.out k hlt hlu
    have hBd : ∀ n, Below wr.heap.size wr (wr.drewN n) := fun n => below_drewN (Below.refl _ _) n
    clear r r' HQ HE2
    generalize rs[k] = x at *
    generalize us[k] = y at *
    obtain ⟨x0, x1, x2, x3⟩ := x
    obtain ⟨y0, y1, y2, y3⟩ := y
    simp only at *
    by_cases h : x0 = y0 ∧ x1 = y1 ∧ x2 = y2 ∧ x3 = y3
    · obtain ⟨rfl, rfl, rfl, rfl⟩ := h
      have HZ := hid (HX.out rfl)
      go_wp2
      go_quiet (fail)
      go_wp2
      exact ⟨⟨k + 1, by omega, rfl, bk_on HK.out (hBd _), bk_on HM.out (hBd _), btr HA.out (hBd _), HZ⟩, by simp only [intOf]; omega⟩
    · obtain rfl : E = false := HY.out (fun e => h (by cases e; exact ⟨rfl, rfl, rfl, rfl⟩))
      by_cases h0 : x0 = y0
      · subst h0
        by_cases h1 : x1 = y1
        · subst h1
          by_cases h2 : x2 = y2
          · subst h2
            have h3 : ¬ x3 = y3 := fun e => h ⟨rfl, rfl, rfl, e⟩
            go_wp2
            go_quiet (fail)
            go_wp2
            go_ret
            exact ⟨rfl, btr HA.out (hBd _)⟩
          · have h2' : ¬ (x2 : Int) = (y2 : Int) := by omega
            go_wp2
            go_quiet (fail)
            go_wp2
            go_ret
            exact ⟨rfl, btr HA.out (hBd _)⟩
        · have h1' : ¬ (x1 : Int) = (y1 : Int) := by omega
          go_wp2
          go_quiet (fail)
          go_wp2
          go_ret
          exact ⟨rfl, btr HA.out (hBd _)⟩
      · go_wp2
        go_quiet (fail)
        go_wp2
        go_ret
        exact ⟨rfl, btr HA.out (hBd _)⟩
end Go.Proofs.Ytoddbaljnlhhaaa
