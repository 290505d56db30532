/-
  Put together of: LB9.
-/
import Derived.Test.YtdjfpghgklkejaaGreatDoorXZ
import Derived.Test.YtdjfpghgklkejaaGreatDoorYA
namespace Go.Proofs.YtdjfpghgklkejaaGreatDoor
open Go.RowKit Go.Sort
theorem sh_cases {kd : ByteArray} {sh : Sh} (h : shp kd = some sh) : sh = shDecl ∨ sh = shGate ∨ sh = shRepeat ∨ sh = shIf ∨ sh = shMeasure ∨ sh = shReset ∨ sh = shUse := by
 rcases shp_cases kd with ⟨_, e, _⟩ | ⟨_, e, _⟩ | ⟨_, e, _⟩ | ⟨_, e, _⟩ | ⟨_, e, _⟩ | ⟨_, e, _⟩ | ⟨_, e, _⟩ | ⟨_, e, _⟩ | ⟨_, _, _, _, _, _, _, _, e, _⟩ <;> rw [e] at h <;> cases h <;> simp
theorem fits_any (kd nm : ByteArray) (ag : List Ar) (nu ro pl : Int) (sh : Sh) (av : Value) (w0 W : World) (hk : shp kd = some sh) (hS : SA w0 av ag) (hB : Below w0.heap.size w0 W) (hn : nm.size ≤ 9223372036854775807) (hl : ag.length ≤ 9223372036854775807) (hz : ∀ a ∈ ag, a.n.size ≤ 9223372036854775807) :
  Calls Tryz.prog 119 #[.agg #[.string kd, .string nm, av, .int .i64 nu, .int .i64 ro, .int .i64 pl], .agg #[.bool sh.name, .int .i64 sh.args, .bool sh.idx, .bool sh.num, .bool sh.body]] W fun e W' => e = .returned (.bool (fitB ⟨kd, nm, ag, nu, ro, pl⟩ sh)) ∧ Below W.heap.size W W' := by
 rcases sh_cases hk with rfl | rfl | rfl | rfl | rfl | rfl | rfl
 ·exact fits_1 kd nm ag nu ro pl 0 false false av w0 W hS hB hn hl hz (by decide)
 ·exact fits_2 kd nm ag nu ro pl false true av w0 W hS hB hn hl hz
 ·exact fits_3 kd nm ag nu ro pl 0 false true av w0 W hS hB hn hl hz (by decide)
 ·exact fits_1 kd nm ag nu ro pl 0 false true av w0 W hS hB hn hl hz (by decide)
 ·exact fits_4 kd nm ag nu ro pl 2 true false av w0 W hS hB hn hl hz (by decide)
 ·exact fits_4 kd nm ag nu ro pl 1 true false av w0 W hS hB hn hl hz (by decide)
 ·exact fits_2 kd nm ag nu ro pl true false av w0 W hS hB hn hl hz
def CK (b : Bool) (e : Ending) : Prop := (b = true ∧ e = .returned (.tuple #[])) ∨ (b = false ∧ e = .panicked [flt (0, 100)])
set_option maxHeartbeats 4000000 in
set_option maxRecDepth 100000 in
theorem chkRows_any : ∀ (F0 : Nat) (F : Nat), F < F0 → ∀ (rs : List Rw) (d : Nat) (v : Value) (w0 W : World), rs.length ≤ F → d ≤ 32 → SR w0 v rs → Below w0.heap.size w0 W → rs.length ≤ 9223372036854775807 → Szs rs →
  Calls Tryz.prog 69 #[v, .int .i64 d] W fun e W' => CK (chk F d rs) e ∧ Below W.heap.size W W' := by
 intro F0
 induction F0 with
 | zero => intro F hF; omega
 | succ F0 ih =>
  intro F hF rs d v w0 W hl hd hS hB hm hz
  obtain ⟨C, hC⟩ : ∃ C, C = chk F d rs := ⟨_, rfl⟩
  have HC : Hid (C = chk F d rs) := hC
  have HIH : Hid (∀ F, F < F0 → ∀ (rs : List Rw) (d : Nat) (v : Value) (w0 W : World), rs.length ≤ F → d ≤ 32 → SR w0 v rs → Below w0.heap.size w0 W → rs.length ≤ 9223372036854775807 → Szs rs →
   Calls Tryz.prog 69 #[v, .int .i64 d] W fun e W' => CK (chk F d rs) e ∧ Below W.heap.size W W') := ih
  have HB : Hid (Below w0.heap.size w0 W) := hB
  have HS0 : Hid (SR w0 v rs) := hS
  have HL0 : Hid (rs.length ≤ F ∧ F < F0 + 1 ∧ rs.length ≤ 9223372036854775807 ∧ Szs rs) := ⟨hl, hF, hm, hz⟩
  rw [← hC]
  clear hC ih hB hS hl hF hm hz
  go_enter Tryz.func69, Tryz.ntmps69
  go_wp2
  go_loopg [0] (F + 1) (fun g v0 wr => ∃ (qs : List Rw) (f : Nat), g = f + 1 ∧ Hid (qs.length ≤ f ∧ f < F0 + 1 ∧ qs.length ≤ 9223372036854775807 ∧ Szs qs ∧ SR w0 v0 qs ∧ Below W.heap.size W wr ∧ C = chk f d qs))
  case atStart => exact ⟨rs, F, rfl, HL0.out.1, HL0.out.2.1, HL0.out.2.2.1, HL0.out.2.2.2, HS0.out, Below.refl _ _, HC.out⟩
  case round =>
   clear HS0 HL0 HC
   obtain ⟨qs, f, rfl, hI⟩ := hrel
   obtain ⟨a, c, vs, ev, hc, hvs, hA, hR⟩ := hI.out.2.2.2.2.1
   have hBw : Hid (Below W.heap.size W wr) := hI.out.2.2.2.2.2.1
   cases qs with
   | nil =>
    subst ev
    have hCt : Hid (C = true) := by
     show C = true
     rw [hI.out.2.2.2.2.2.2]
     cases f <;> rfl
    clear hA hR hvs
    go_wp2
    go_end0
    exact ⟨.inl ⟨hCt.out, rfl⟩, hBw.out⟩
   | cons r qs =>
    obtain ⟨b, o, rfl, rr0⟩ := hR 0 (by simp)
    obtain ⟨av, vs, rfl⟩ : ∃ av ws, vs = av :: ws := by cases vs with | nil => simp at hvs | cons x y => exact ⟨x, y, rfl⟩
    have hSA := hA 0 (by simp) (by simp)
    have hSR := hI.out.2.2.2.2.1
    rw [ev] at hSR
    obtain ⟨a1, c1, hsl, hS1⟩ := hSR.drop 1 (by simp)
    rw [List.length_cons] at ev hc hsl
    have hqz : Szs qs ∧ r.name.size ≤ 9223372036854775807 ∧ r.args.length ≤ 9223372036854775807 ∧ ∀ a ∈ r.args, a.n.size ≤ 9223372036854775807 := ⟨fun x hx => hI.out.2.2.2.1 x (List.mem_cons_of_mem _ hx), hI.out.2.2.2.1 r List.mem_cons_self⟩
    have hnn : qs.length + 1 ≤ f ∧ f < F0 + 1 ∧ qs.length + 1 ≤ 9223372036854775807 := ⟨hI.out.1, hI.out.2.1, hI.out.2.2.1⟩
    have hCC := hI.out.2.2.2.2.2.2
    have rr := (rr0.below HB.out).below hBw.out
    have m0 := rr.c0 0 (by simp)
    have m1 := rr.c1 0 (by simp)
    have m2 := rr.c2 0 (by simp) (by simp)
    have m3 := rr.c3 0 (by simp)
    have m4 := rr.c4 0 (by simp)
    have m5 := rr.c5 0 (by simp)
    have ml := rr.lt
    simp only [Nat.zero_mul, Nat.add_zero, List.getElem_cons_zero] at m0 m1 m2 m3 m4 m5 hSA
    simp only [List.drop_succ_cons, List.drop_zero] at hsl hS1
    have hsl1 : ∀ w, (Instr.slice 22 (.slice (some ⟨b, o, none⟩) (qs.length + 1) c) (some (.int .i64 1)) none none).run Tryz.prog w = .ok (.slice a1 qs.length c1) w := hsl
    obtain ⟨kd, nm, ag, nu, ro, pl⟩ := r
    simp only at m0 m1 m2 m3 m4 m5 hSA hqz
    subst ev
    have hsp : ∃ aa ac, av = .slice aa ag.length ac := by obtain ⟨aa, ac, e, _⟩ := hSA; exact ⟨aa, ac, e⟩
    obtain ⟨aa, ac, rfl⟩ := hsp
    have HSA : Hid (SA w0 (.slice aa ag.length ac) ag) := hSA
    have HS1 : Hid (SR w0 (.slice a1 qs.length c1) qs) := hS1
    have HQ : Hid (Szs qs) := hqz.1
    obtain ⟨f, rfl⟩ : ∃ g, f = g + 1 := ⟨f - 1, by omega⟩
    have HCC : Hid (C = chk (f + 1) d (⟨kd, nm, ag, nu, ro, pl⟩ :: qs)) := hCC
    clear hA hR hvs rr rr0 hSR hI hsl hSA hS1 hCC
    go_upto_region 1 with (fail)
    go_region
    obtain ⟨V, hV⟩ : ∃ V, V = (wr.alloc (.cells #[.string kd, .string nm, .slice aa ag.length ac, .int .i64 nu, .int .i64 ro, .int .i64 pl] 79)).drew := ⟨_, rfl⟩
    have bV : BK V wr.heap.size #[.string kd, .string nm, .slice aa ag.length ac, .int .i64 nu, .int .i64 ro, .int .i64 pl] 79 := by rw [hV]; exact (bk_new _ _ _).drew
    have hWV : Hid (Below W.heap.size W V) := by rw [hV]; exact below_drew (bal hBw.out _)
    rw [← hV]
    clear hV m0 m1 m2 m3 m4 m5 ml hsl1 hBw
    have CELL : ∀ {w9 : World}, Below V.heap.size V w9 → w9.cell? ⟨wr.heap.size, 0, none⟩ = some (.string kd) ∧ w9.cell? ⟨wr.heap.size, 1, none⟩ = some (.string nm) ∧ w9.cell? ⟨wr.heap.size, 2, none⟩ = some (.slice aa ag.length ac) ∧ w9.cell? ⟨wr.heap.size, 3, none⟩ = some (.int .i64 nu) ∧ w9.cell? ⟨wr.heap.size, 4, none⟩ = some (.int .i64 ro) ∧ w9.cell? ⟨wr.heap.size, 5, none⟩ = some (.int .i64 pl) ∧ wr.heap.size < w9.heap.size := fun h => by
     have b9 : BK _ wr.heap.size _ _ := (h.block _ bV.lt).trans bV
     exact ⟨b9.cell 0, b9.cell 1, b9.cell 2, b9.cell 3, b9.cell 4, b9.cell 5, b9.lt⟩
    obtain ⟨q0, q1, q2, q3, q4, q5, ql⟩ := CELL (Below.refl _ _)
    have SHA := fun w => shape_any kd w
    clear bV
    cases hk : shp kd with
    | none =>
     rw [hk] at SHA
     have hCf : Hid (C = false) := by show C = false; rw [HCC.out]; simp [chk, hk]
     clear HCC hk
     go_wp2_with (go_at_call 118; (with_reducible refine (SHA _).mono ?_); rintro e w1 ⟨rfl, h1⟩; obtain ⟨y0, y1, y2, y3, y4, y5, yl⟩ := CELL h1)
     exact ⟨rfl, .inr ⟨hCf.out, rfl⟩, btr hWV.out (bal h1 _)⟩
    | some sh =>
    rw [hk] at SHA
    have FT := fun w' h => fits_any kd nm ag nu ro pl sh (.slice aa ag.length ac) w0 w' hk HSA.out h hqz.2.1 hqz.2.2.1 hqz.2.2.2
    have HCE : Hid (C = (fitB ⟨kd, nm, ag, nu, ro, pl⟩ sh && decide (0 ≤ ro) && decide (ro ≤ (qs.length : Int)) && (if sh.body = true then decide (d < 32) && chk f (d + 1) (qs.take ro.toNat) else decide (ro = 0)) && chk f d (qs.drop ro.toNat))) := by
     show C = _
     rw [HCC.out]
     have e : shR ⟨kd, nm, ag, nu, ro, pl⟩ = sh := by show (shp kd).getD _ = _; rw [hk]; rfl
     show ((shp kd).isSome && fitB _ (shR _) && decide (0 ≤ ro) && decide (ro ≤ (qs.length : Int)) && (if (shR ⟨kd, nm, ag, nu, ro, pl⟩).body = true then _ else _) && _) = _
     rw [e, hk]
     rfl
    clear HCC hk hqz
    obtain ⟨sn, sa, sx, sm, sb⟩ := sh
    simp only [Option.getD_some, Option.isSome_some] at SHA FT HCE
    have C82 : ∀ (u : World) {w9 : World}, Below (u.alloc (.cells #[.bool sn, .int .i64 sa, .bool sx, .bool sm, .bool sb] 187)).heap.size (u.alloc (.cells #[.bool sn, .int .i64 sa, .bool sx, .bool sm, .bool sb] 187)) w9 → w9.cell? ⟨u.heap.size, 4, none⟩ = some (.bool sb) ∧ u.heap.size < w9.heap.size := fun u w9 h => by
     have b8 := bk_new u #[.bool sn, .int .i64 sa, .bool sx, .bool sm, .bool sb] 187
     have b9 : BK w9 u.heap.size _ _ := (h.block _ b8.lt).trans b8
     exact ⟨b9.cell 4, b9.lt⟩
    cases hf : fitB ⟨kd, nm, ag, nu, ro, pl⟩ ⟨sn, sa, sx, sm, sb⟩ with
    | false =>
     have hCf : Hid (C = false) := by show C = false; rw [HCE.out, hf]; rfl
     rw [hf] at FT
     clear hf HCE
     go_wp2_with (first | (go_at_call 118; (with_reducible refine (SHA _).mono ?_); rintro e w1 ⟨rfl, h1⟩; obtain ⟨y0, y1, y2, y3, y4, y5, yl⟩ := CELL h1; have h1b := bal h1 (.cells #[.bool sn, .int .i64 sa, .bool sx, .bool sm, .bool sb] 187); have h1c := btr (btr HB.out hWV.out) h1b; have h1d := btr hWV.out h1b) | (go_at_call 119; (with_reducible refine (FT _ h1c).mono ?_); rintro e w2 ⟨rfl, h2⟩; obtain ⟨z0, z1, z2, z3, z4, z5, zl⟩ := CELL (btr h1b h2); obtain ⟨t4, tl⟩ := C82 _ h2; have h2c := btr h1c h2; have h2d := btr h1d h2))
     exact ⟨rfl, .inr ⟨hCf.out, rfl⟩, h2d⟩
    | true =>
    rw [hf] at FT
    by_cases hr0 : ro < 0
    case pos =>
     have hCf : Hid (C = false) := by show C = false; rw [HCE.out, decide_eq_false (show ¬ 0 ≤ ro by omega)]; simp
     clear hf HCE
     go_wp2_with (first | (go_at_call 118; (with_reducible refine (SHA _).mono ?_); rintro e w1 ⟨rfl, h1⟩; obtain ⟨y0, y1, y2, y3, y4, y5, yl⟩ := CELL h1; have h1b := bal h1 (.cells #[.bool sn, .int .i64 sa, .bool sx, .bool sm, .bool sb] 187); have h1c := btr (btr HB.out hWV.out) h1b; have h1d := btr hWV.out h1b) | (go_at_call 119; (with_reducible refine (FT _ h1c).mono ?_); rintro e w2 ⟨rfl, h2⟩; obtain ⟨z0, z1, z2, z3, z4, z5, zl⟩ := CELL (btr h1b h2); obtain ⟨t4, tl⟩ := C82 _ h2; have h2c := btr h1c h2; have h2d := btr h1d h2))
     exact ⟨rfl, .inr ⟨hCf.out, rfl⟩, h2d⟩
    case neg =>
    by_cases hr1 : (qs.length : Int) < ro
    case pos =>
     have hCf : Hid (C = false) := by show C = false; rw [HCE.out, decide_eq_false (show ¬ ro ≤ (qs.length : Int) by omega)]; simp
     clear hf HCE
     go_wp2_with (first | (go_at_call 118; (with_reducible refine (SHA _).mono ?_); rintro e w1 ⟨rfl, h1⟩; obtain ⟨y0, y1, y2, y3, y4, y5, yl⟩ := CELL h1; have h1b := bal h1 (.cells #[.bool sn, .int .i64 sa, .bool sx, .bool sm, .bool sb] 187); have h1c := btr (btr HB.out hWV.out) h1b; have h1d := btr hWV.out h1b) | (go_at_call 119; (with_reducible refine (FT _ h1c).mono ?_); rintro e w2 ⟨rfl, h2⟩; obtain ⟨z0, z1, z2, z3, z4, z5, zl⟩ := CELL (btr h1b h2); obtain ⟨t4, tl⟩ := C82 _ h2; have h2c := btr h1c h2; have h2d := btr h1d h2))
     exact ⟨rfl, .inr ⟨hCf.out, rfl⟩, h2d⟩
    case neg =>
    obtain ⟨k, rfl⟩ : ∃ k : Nat, ro = (k : Int) := ⟨ro.toNat, by omega⟩
    have hkq : k ≤ qs.length := by omega
    have HCF : Hid (C = ((if sb = true then decide (d < 32) && chk f (d + 1) (qs.take k) else decide (k = 0)) && chk f d (qs.drop k))) := by
     show C = _
     rw [HCE.out, hf, decide_eq_true (show 0 ≤ (k : Int) by omega), decide_eq_true (show (k : Int) ≤ (qs.length : Int) by omega), Int.toNat_natCast]
     have e0 : decide ((k : Int) = 0) = decide (k = 0) := by simp
     rw [e0]
     rfl
    clear HCE hf
    obtain ⟨a3, c3, hsd, hS3⟩ := HS1.out.drop k hkq
    rw [List.length_drop] at hsd hS3
    have HS3 : Hid (SR w0 (.slice a3 (qs.length - k) c3) (qs.drop k)) := hS3
    have hdl : (qs.drop k).length ≤ qs.length := by rw [List.length_drop]; omega
    have hkn : ¬ ((qs.length : Int) < (k : Int)) := by omega
    clear hS3
    cases sb with
    | true =>
     by_cases hd2 : 32 ≤ d
     ·have hCf : Hid (C = false) := by show C = false; rw [HCF.out, decide_eq_false (show ¬ d < 32 by omega)]; rfl
      clear HCF
      go_wp2_with (first | (go_at_call 118; (with_reducible refine (SHA _).mono ?_); rintro e w1 ⟨rfl, h1⟩; obtain ⟨y0, y1, y2, y3, y4, y5, yl⟩ := CELL h1; have h1b := bal h1 (.cells #[.bool sn, .int .i64 sa, .bool sx, .bool sm, .bool true] 187); have h1c := btr (btr HB.out hWV.out) h1b; have h1d := btr hWV.out h1b) | (go_at_call 119; (with_reducible refine (FT _ h1c).mono ?_); rintro e w2 ⟨rfl, h2⟩; obtain ⟨z0, z1, z2, z3, z4, z5, zl⟩ := CELL (btr h1b h2); obtain ⟨t4, tl⟩ := C82 _ h2; have h2c := btr h1c h2; have h2d := btr h1d h2))
      exact ⟨rfl, .inr ⟨hCf.out, rfl⟩, h2d⟩
     ·obtain ⟨a2, c2, hst, hS2⟩ := HS1.out.take k hkq
      have htk : (qs.take k).length = k := by rw [List.length_take]; omega
      have htl : (qs.take k).length ≤ qs.length := by omega
      rw [htk] at hst hS2
      clear htk
      have RC : ∀ w', Below w0.heap.size w0 w' → Calls Tryz.prog 69 #[.slice a2 k c2, .int .i64 ((d : Int) + 1)] w' fun e W' => CK (chk f (d + 1) (qs.take k)) e ∧ Below w'.heap.size w' W' := fun w' h => by
       have := HIH.out f (by omega) (qs.take k) (d + 1) (.slice a2 k c2) w0 w' (by omega) (by omega) hS2 h (by omega) (HQ.out.take k)
       rwa [show ((d + 1 : Nat) : Int) = (d : Int) + 1 by omega] at this
      have HX1 : Hid (chk f (d + 1) (qs.take k) = false → C = false) := fun h => by rw [HCF.out, h]; simp
      have HX2 : Hid (chk f (d + 1) (qs.take k) = true → C = chk f d (qs.drop k)) := fun h => by rw [HCF.out, h, decide_eq_true (show d < 32 by omega)]; rfl
      clear HCF hS2
      generalize chk f (d + 1) (qs.take k) = CB at *
      go_wp2_with (first | (go_at_call 118; (with_reducible refine (SHA _).mono ?_); rintro e w1 ⟨rfl, h1⟩; obtain ⟨y0, y1, y2, y3, y4, y5, yl⟩ := CELL h1; have h1b := bal h1 (.cells #[.bool sn, .int .i64 sa, .bool sx, .bool sm, .bool true] 187); have h1c := btr (btr HB.out hWV.out) h1b; have h1d := btr hWV.out h1b) | (go_at_call 119; (with_reducible refine (FT _ h1c).mono ?_); rintro e w2 ⟨rfl, h2⟩; obtain ⟨z0, z1, z2, z3, z4, z5, zl⟩ := CELL (btr h1b h2); obtain ⟨t4, tl⟩ := C82 _ h2; have h2c := btr h1c h2; have h2d := btr h1d h2) | (go_at_call 69; (with_reducible refine (RC _ h2c).mono ?_); rintro e w3 ⟨hK, h3⟩; obtain ⟨v0, v1, v2, v3, v4, v5, vl⟩ := CELL (btr (btr h1b h2) h3); have h3d := btr h2d h3; rcases hK with ⟨hK, rfl⟩ | ⟨hK, rfl⟩))
      ·go_roundg (f + 1)
       case measure => omega
       case rel => exact ⟨qs.drop k, f, rfl, by omega, by omega, by omega, HQ.out.drop k, HS3.out, h3d, HX2.out hK⟩
      ·exact ⟨rfl, .inr ⟨HX1.out hK, rfl⟩, h3d⟩
    | false =>
     by_cases hk0 : k = 0
     ·have hCf : Hid (C = chk f d (qs.drop k)) := by show C = _; rw [HCF.out, decide_eq_true hk0]; rfl
      have hk1 : ((k : Int) != 0) = false := by simpa using hk0
      clear HCF hk0
      go_wp2_with (first | (go_at_call 118; (with_reducible refine (SHA _).mono ?_); rintro e w1 ⟨rfl, h1⟩; obtain ⟨y0, y1, y2, y3, y4, y5, yl⟩ := CELL h1; have h1b := bal h1 (.cells #[.bool sn, .int .i64 sa, .bool sx, .bool sm, .bool false] 187); have h1c := btr (btr HB.out hWV.out) h1b; have h1d := btr hWV.out h1b) | (go_at_call 119; (with_reducible refine (FT _ h1c).mono ?_); rintro e w2 ⟨rfl, h2⟩; obtain ⟨z0, z1, z2, z3, z4, z5, zl⟩ := CELL (btr h1b h2); obtain ⟨t4, tl⟩ := C82 _ h2; have h2c := btr h1c h2; have h2d := btr h1d h2))
      go_roundg (f + 1)
      case measure => omega
      case rel => exact ⟨qs.drop k, f, rfl, by omega, by omega, by omega, HQ.out.drop k, HS3.out, h2d, hCf.out⟩
     ·have hCf : Hid (C = false) := by show C = false; rw [HCF.out, decide_eq_false hk0]; rfl
      have hk1 : ((k : Int) != 0) = true := by simpa using hk0
      clear HCF hk0
      go_wp2_with (first | (go_at_call 118; (with_reducible refine (SHA _).mono ?_); rintro e w1 ⟨rfl, h1⟩; obtain ⟨y0, y1, y2, y3, y4, y5, yl⟩ := CELL h1; have h1b := bal h1 (.cells #[.bool sn, .int .i64 sa, .bool sx, .bool sm, .bool false] 187); have h1c := btr (btr HB.out hWV.out) h1b; have h1d := btr hWV.out h1b) | (go_at_call 119; (with_reducible refine (FT _ h1c).mono ?_); rintro e w2 ⟨rfl, h2⟩; obtain ⟨z0, z1, z2, z3, z4, z5, zl⟩ := CELL (btr h1b h2); obtain ⟨t4, tl⟩ := C82 _ h2; have h2c := btr h1c h2; have h2d := btr h1d h2))
      exact ⟨rfl, .inr ⟨hCf.out, rfl⟩, h2d⟩
end Go.Proofs.YtdjfpghgklkejaaGreatDoor
