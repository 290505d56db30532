/-
  The law CircuitLayers.
-/
import Derived.Test.YtfaoegiignalkaaL8
namespace Go.Proofs.Ytfaoegiignalkaa
open Go.RowKit Go.Shelf
attribute [local go_sem] Oper.semAt_some

theorem odi_all {os : List Oq} {od : List Nat} {n : Nat} (hok : ∀ k (h : k < os.length), Okay os[k]) (h : ODi os n od) (hn : n = (lyF os 0 (fun _ => 0) []).length) : LOrd os od := by
  refine ⟨?_, h.2⟩
  have e : (List.range os.length).filter (fun x => decide (stt os x < n)) = List.range os.length := List.filter_eq_self.2 fun x hx => by
    rw [List.mem_range] at hx
    rw [hn, decide_eq_true_eq, lay_len hok]
    exact ⟨x, hx, Nat.le_refl _⟩
  have := h.1
  rwa [e] at this
section
variable (c : Ci) (a : Option Addr) (cp : Nat) (A : Nat → Option Addr) (C : Nat → Nat) (l : List Int) (al : Option Addr) (cl : Nat) (w : World)
set_option maxHeartbeats 8000000 in
set_option maxRecDepth 100000 in
theorem claw_any (H : OS w a cp c.ops A C) (hq : QS w al cl l) (hl : l.length ≤ 9223372036854775807) (hpr : ∀ x ∈ l, -9223372036854775808 ≤ x ∧ x ≤ 9223372036854775807) :
    Calls Try.prog 7 #[civ c a cp, .slice al l.length cl] w fun e w' => e = .returned (.bool true) ∧ Below w.heap.size w w' := by
  have AW := fun w => awake_any w
  have HO := hid H
  have HQ := hid hq
  have HPR := hid hpr
  have hcl := H.l
  have F25 := fun w1 h => layers_any c a cp A C w1 h
  clear hpr
  by_cases hlen : 300 < c.ops.length
  · have hlen' : (300 : Int) < (c.ops.length : Int) := by omega
    clear F25 H hq
    go_enter Try.func7, Try.ntmps7
    go_wp2_with (go_at_call 9; (with_reducible refine (AW _).mono ?_); rintro e w1 ⟨rfl, hB1⟩; have k1 := one_box hB1; have x1 := k1.cell; have l1 := k1.lt)
    go_ret
    exact ⟨rfl, btr (bal (Below.refl _ _) _) hB1⟩
  have hlen' : ¬ ((300 : Int) < (c.ops.length : Int)) := by omega
  by_cases hE : (lk c).2.2 = 0
  case neg =>
    have hE1 : (((lk c).2.2 : Int) != 0) = true := bne_iff_ne.2 (by omega)
    have HL1 : layers c = [] := by unfold layers; rw [if_neg hE]
    rw [HL1] at F25
    clear H hq hE HL1
    generalize (lk c).2.2 = E at *
    go_enter Try.func7, Try.ntmps7
    go_wp2_with (first
      | (go_at_call 9; (with_reducible refine (AW _).mono ?_); rintro e w1 ⟨rfl, hB1⟩; have k1 := one_box hB1; have x1 := k1.cell; have l1 := k1.lt; have HB : Below w.heap.size w w1 := btr (bal (Below.refl _ _) _) hB1)
      | (go_at_call 25; (with_reducible refine (F25 _ (HO.out.below HB)).mono ?_); rintro e w2 ⟨v2, vs2, rfl, hL2, hB2⟩; obtain ⟨a2, c2, rfl⟩ := hL2.shape))
    go_ret
    exact ⟨rfl, btr HB hB2⟩
  have hok : ∀ k (h : k < c.ops.length), Okay c.ops[k] := fun k hk => (lk_okay hE H.fit k hk).1
  have hly : layers c = lyF c.ops 0 (fun _ => 0) [] := by unfold layers; rw [if_pos hE]
  rw [hE, hly] at F25
  have HE := hid hE
  have HOK := hid hok
  have mk := made_bools c.ops.length (by omega)
  have hcap := hq.cap
  have hcapH := H.cap
  clear hE hok hly H hq
  obtain ⟨q, b, os⟩ := c
  simp only at *
  obtain ⟨ls, hls⟩ : ∃ ls, ls = lyF os 0 (fun _ => 0) [] := ⟨_, rfl⟩
  rw [← hls] at F25
  have HLS := hid hls
  clear hls
  go_enter Try.func7, Try.ntmps7
  show Code.wp Try.prog (Code.seq _ (Code.seq _ (Code.seq _ (Code.seq _ (Code.seq _ (Code.seq _ (Code.seq _ (Code.seq _ (Code.seq (sl (sr (sr (sr (sr (sr (sr (sr (sr (Try.f7.body.getD .skip)))))))))) _))))))))) _ _ _
  go_wp2_with (first
      | (go_at_call 9; (with_reducible refine (AW _).mono ?_); rintro e w1 ⟨rfl, hB1⟩; have k1 := one_box hB1; have x1 := k1.cell; have l1 := k1.lt; have HB : Below w.heap.size w w1 := btr (bal (Below.refl _ _) _) hB1)
      | (go_at_call 25; (with_reducible refine (F25 _ (HO.out.below HB)).mono ?_); rintro e V ⟨v2, vs2, rfl, hL2, hB2⟩; refine Hid.out ?_))
  refine hid ?_
  obtain ⟨a2, c2, rfl, hc2⟩ := own_cap hL2.out
  have kV : BK V w.heap.size _ 24 := (hB2.block _ k1.lt).trans k1
  have x2 : ∀ j, V.cell? ⟨w.heap.size, j, none⟩ = _ := kV.cell
  have l2 := kV.lt
  have hWV := btr HB hB2
  have HWV := hid hWV
  have HC := hid (show CX w V q b os a cp A C ls vs2 _ a2 c2 from ⟨kV, hL2, HO.out.below hWV, by omega, HLS.out, HOK.out⟩)
  have HQV := hid (HQ.out.below hWV)
  clear x1 l1 k1 hB1 hB2 HB hWV hL2 kV F25 AW
  go_wp2
  refine loopA HC.out HQV.out hl HPR.out ⟨bal (Below.refl _ _) _, (World.rowIs_made V (.bool false) os.length 4).congr fun i _ => by simp [Fk], World.ownsRow_nil _ _ _ _⟩ ?_
  intro _ _ _ _ _ _ _ _ _ _ _ _ _ _ _ _ _ _ _ _ _ _ _ _ _ _ _ _ _ _ _ _ _ _ _ _ _ _ _ _ _ _ _ _ _ _ _ _ _ _ _ _ _ _ _ _ _ _ _ _ _ _ _ _ _ _ _ _ _ _ _ _ _ _ _ _ _ _ _ _ _ _ _ _ _ _ _ _ _ _ _ _ _ _ _ _ _ _ _ _ _ _ _ _ _ _ _ _ _ _ _ _ _ _ _ _ _ _ _ _ _ _ _ _ _ _ _ _ _ _ _ _ _ _ _ _ _ _ _ _ _ _ _ _ _ _ _ _ _ _ _ _ _ _ _ _ _ _ _ _ _ _ _ _ _ _ _ v5 od W5 hOD hW5
  have hLO := odi_all HOK.out hOD (by rw [← HLS.out])
  obtain ⟨a5, c5, rfl, hc5⟩ := own_cap hW5.row
  have hol := hLO.len
  have hrow := hW5.row
  have ezl : il od = zl (od.map fun (n : Nat) => (n : Int)) := by simp [il, zl]
  have hqs : QS W5 a5 c5 (od.map fun (n : Nat) => (n : Int)) := by
    rw [ezl, ← List.length_map (fun (n : Nat) => (n : Int))] at hrow
    obtain ⟨a', c', e', hq'⟩ := own_qs hrow
    cases e'
    exact hq'
  have hk5 : BK W5 w.heap.size _ 24 := (hW5.below.block _ HC.out.kv.lt).trans HC.out.kv
  have x5 : ∀ j, W5.cell? ⟨w.heap.size, j, none⟩ = _ := hk5.cell
  have l5 := hk5.lt
  have hB5 : Below w.heap.size w W5 := btr HWV.out hW5.below
  have hOS5 := HO.out.below hB5
  have hR0 : OrS ⟨q, b, os⟩ (od.map fun (n : Nat) => (n : Int)) ⟨q, b, (od.map fun (n : Nat) => (n : Int)).map fun j => os.getD j.toNat noOq⟩ 0 := .inr (.inr ⟨HE.out, ⟨hLO.each, hLO.ordOk HOK.out⟩, rfl, rfl⟩)
  have eR : (od.map fun (n : Nat) => (n : Int)).map (fun j => os.getD j.toNat noOq) = od.map fun i => os.getD i noOq := by rw [List.map_map]; rfl
  rw [eR] at hR0
  have F26 : Calls Try.prog 26 #[.agg #[.int .i64 q, .int .i64 b, .slice a os.length cp], .slice a5 od.length c5] W5 fun e w' => ∃ a' c' vs, e = .returned (.tuple #[civ ⟨q, b, od.map fun i => os.getD i noOq⟩ a' c', .int .i64 0]) ∧ OO w' W5.heap.size (.slice a' (od.map fun i => os.getD i noOq).length c') (od.map fun i => os.getD i noOq) vs ∧ Below W5.heap.size W5 w' := by
    have := order_any ⟨q, b, os⟩ a cp A C (od.map fun (n : Nat) => (n : Int)) a5 c5 W5 hOS5 hqs (by rw [List.length_map]; omega)
    rw [List.length_map] at this
    refine this.mono fun e w' ⟨R, E, a', c', vs, h1, h2, h3, h4⟩ => ?_
    obtain ⟨rfl, rfl⟩ := h1.one hR0
    exact ⟨a', c', vs, h2, h3, h4⟩
  obtain ⟨hy1, hy2⟩ := hLO.layers HOK.out (od.map fun i => os.getD i noOq) rfl
  have hlk := hLO.check (c := ⟨q, b, os⟩) HE.out
  have hlyR : layers ⟨q, b, od.map fun i => os.getD i noOq⟩ = lyF (od.map fun i => os.getD i noOq) 0 (fun _ => 0) [] := by unfold layers; rw [if_pos hlk]
  have F25 := fun a k A C w1 h => layers_any ⟨q, b, od.map fun i => os.getD i noOq⟩ a k A C w1 h
  rw [hlk, hlyR] at F25
  rw [← HLS.out] at hy1 hy2
  have hl2 := (HC.out.l2.below hW5.below)
  have HL2 := hid hl2
  have HB5 := hid hB5
  have hne : ((od.length : Int) != (os.length : Int)) = false := by rw [hol]; simp
  have HY2 := hid hy2
  clear hW5 hrow ezl hqs hOS5 hR0 eR hlyR hlk hl2 hB5 hol hLO hOD hy2 x2 l2 mk
  generalize lyF (od.map fun i => os.getD i noOq) 0 (fun _ => 0) [] = ls7 at *
  generalize hos7 : (od.map fun i => os.getD i noOq) = os7 at *
  go_wp2_with (go_at_call 26; (with_reducible refine F26.mono ?_); rintro e W6 ⟨a6, c6, vs6, rfl, hO6, hB6⟩; refine Hid.out ?_)
  refine hid ?_
  obtain ⟨aX, cX, eX, hS6⟩ := (hO6.alloc (.cells #[.int .i64 q, .int .i64 b, .slice a6 os7.length c6] 24)).read
  cases eX
  have BX6 := hid hS6
  have hb6 := bal hB6 (.cells #[.int .i64 q, .int .i64 b, .slice a6 os7.length c6] 24)
  have HB6 := hid (btr HB5.out hb6)
  have HL6 := hid (HL2.out.below hb6)
  clear hO6 hB6 hb6 F26 x5 l5 hk5 HL2 HB5 hS6
  go_wp2_with (go_at_call 25; (with_reducible refine (F25 _ _ _ _ _ BX6.out).mono ?_); rintro e W7 ⟨v7, vs7, rfl, hL7, hB7⟩; refine Hid.out ?_)
  refine hid ?_
  have HL7 := hid hL7
  have HL8 := hid (HL6.out.below hB7)
  have HB7 := hid (btr HB6.out hB7)
  obtain ⟨a7, c7, rfl, hc7⟩ := own_cap hL7.out
  have hn7 : ((ls7.length : Int) != (ls.length : Int)) = false := by rw [hy1]; simp
  have h7l := ol_size hL7
  have HY1 := hid hy1
  clear hL7 hB7 HL6 HB6 BX6 F25 hy1
  go_wp2
  go_loopw [23] (fun s wr => (∃ n, wr = W7.drewN n) ∧ ∃ i : Nat, i ≤ ls7.length ∧ s = .int .i64 (i : Nat)) (fun s _ => ls7.length - (intOf s).toNat)
  case atStart => exact ⟨⟨0, rfl⟩, 0, Nat.zero_le _, rfl⟩
  case round =>
    obtain ⟨⟨n, rfl⟩, i, hi, rfl⟩ := hrel
    by_cases hlt : i < ls7.length
    case neg =>
      obtain rfl : i = ls7.length := by omega
      go_wp2
      go_ret
      exact ⟨rfl, btr HB7.out (below_d _ _)⟩
    have hlt2 : i < ls.length := by have := HY1.out; omega
    obtain ⟨g1, d1, ra1, rc1, e1, m1, l1, q1, u1, r1⟩ := ol_at HL7.out hlt
    obtain ⟨g2, d2, ra2, rc2, e2, m2, l2, q2, u2, r2⟩ := ol_at HL8.out hlt2
    cases e1
    cases e2
    have hle : ls7[i].length = ls[i].length := by
      have := HY2.out i
      rw [List.getD_eq_getElem?_getD, List.getElem?_eq_getElem hlt, List.getD_eq_getElem?_getD, List.getElem?_eq_getElem hlt2] at this
      exact this
    rw [hle] at m1
    clear r1 r2 hle
    generalize ls[i].length = nn at *
    go_wp2
    go_quiet (fail)
    go_wp2
    go_roundw
    case rel => exact ⟨⟨n + nq, by first | rfl | exact drewN_two _ _ _⟩, i + 1, by omega, by go_num⟩
    case measure => simp [intOf]; omega
end
end Go.Proofs.Ytfaoegiignalkaa
