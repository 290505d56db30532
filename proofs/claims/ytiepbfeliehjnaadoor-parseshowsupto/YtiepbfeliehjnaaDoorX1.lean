/-
  checkRows of package parse.
-/
import Derived.Test.YtiepbfeliehjnaaDoorB7a
import Derived.Test.YtiepbfeliehjnaaDoorB7b
import Derived.Test.YtiepbfeliehjnaaDoorB8s1
import Derived.Test.YtiepbfeliehjnaaDoorB8s2
import Derived.Test.YtiepbfeliehjnaaDoorB8s3
import Derived.Test.YtiepbfeliehjnaaDoorB8s4
import Derived.Test.YtiepbfeliehjnaaDoorB8s5
import Derived.Test.YtiepbfeliehjnaaDoorC7a
import Derived.Test.YtiepbfeliehjnaaDoorC7b
import Derived.Test.YtiepbfeliehjnaaDoorC4
import Derived.Test.YtiepbfeliehjnaaDoorB2
import Derived.Recover
namespace Go.Proofs.YtiepbfeliehjnaaDoor
open Go.RowKit Go.Sort

theorem sh_cases {kd : ByteArray} {sh : Sh} (h : shp kd = some sh) : sh = shDecl ∨ sh = shGate ∨ sh = shRepeat ∨ sh = shIf ∨ sh = shMeasure ∨ sh = shReset ∨ sh = shUse := by
  rcases shp_cases kd with ⟨_, e, _⟩ | ⟨_, e, _⟩ | ⟨_, e, _⟩ | ⟨_, e, _⟩ | ⟨_, e, _⟩ | ⟨_, e, _⟩ | ⟨_, e, _⟩ | ⟨_, e, _⟩ | ⟨_, _, _, _, _, _, _, _, e, _⟩ <;> rw [e] at h <;> cases h <;> simp
theorem fits_any (kd nm : ByteArray) (ag : List Ar) (nu ro pl : Int) (sh : Sh) (av : Value) (w0 W : World) (hk : shp kd = some sh) (hS : SA w0 av ag) (hB : Below w0.heap.size w0 W) (hn : nm.size ≤ 9223372036854775807) (hl : ag.length ≤ 9223372036854775807) (hz : ∀ a ∈ ag, a.n.size ≤ 9223372036854775807) :
    Calls Tryd.prog 51 #[.agg #[.string kd, .string nm, av, .int .i64 nu, .int .i64 ro, .int .i64 pl], .agg #[.bool sh.name, .int .i64 sh.args, .bool sh.idx, .bool sh.num, .bool sh.body]] W fun e W' => e = .returned (.bool (fitB ⟨kd, nm, ag, nu, ro, pl⟩ sh)) ∧ Below W.heap.size W W' := by
  rcases sh_cases hk with rfl | rfl | rfl | rfl | rfl | rfl | rfl
  · exact fits_1 kd nm ag nu ro pl 0 false false av w0 W hS hB hn hl hz (by decide)
  · exact fits_2 kd nm ag nu ro pl false true av w0 W hS hB hn hl hz
  · exact fits_3 kd nm ag nu ro pl 0 false true av w0 W hS hB hn hl hz (by decide)
  · exact fits_1 kd nm ag nu ro pl 0 false true av w0 W hS hB hn hl hz (by decide)
  · exact fits_4 kd nm ag nu ro pl 2 true false av w0 W hS hB hn hl hz (by decide)
  · exact fits_4 kd nm ag nu ro pl 1 true false av w0 W hS hB hn hl hz (by decide)
  · exact fits_2 kd nm ag nu ro pl true false av w0 W hS hB hn hl hz
/-- What checkRows tells. -/
def CK (b : Bool) (e : Ending) : Prop := (b = true ∧ e = .returned (.tuple #[])) ∨ (b = false ∧ e = .panicked [flt (0, 100)])
set_option maxHeartbeats 4000000 in
set_option maxRecDepth 100000 in
theorem check_any : ∀ (F0 : Nat) (F : Nat), F < F0 → ∀ (rs : List Rw) (d : Nat) (v : Value) (w0 W : World), rs.length ≤ F → d ≤ 32 → SR w0 v rs → Below w0.heap.size w0 W → rs.length ≤ 9223372036854775807 → Szs rs →
    Calls Tryd.prog 25 #[v, .int .i64 d] W fun e W' => CK (chk F d rs) e ∧ Below W.heap.size W W' := by
  intro F0
  induction F0 with
  | zero => intro F hF; omega
  | succ F0 ih =>
    intro F hF rs d v w0 W hl hd hS hB hm hz
    obtain ⟨C, hC⟩ : ∃ C, C = chk F d rs := ⟨_, rfl⟩
    have HC : Hid (C = chk F d rs) := hC
    have HIH : Hid (∀ F, F < F0 → ∀ (rs : List Rw) (d : Nat) (v : Value) (w0 W : World), rs.length ≤ F → d ≤ 32 → SR w0 v rs → Below w0.heap.size w0 W → rs.length ≤ 9223372036854775807 → Szs rs →
      Calls Tryd.prog 25 #[v, .int .i64 d] W fun e W' => CK (chk F d rs) e ∧ Below W.heap.size W W') := ih
    have HB : Hid (Below w0.heap.size w0 W) := hB
    have HS0 : Hid (SR w0 v rs) := hS
    have HL0 : Hid (rs.length ≤ F ∧ F < F0 + 1 ∧ rs.length ≤ 9223372036854775807 ∧ Szs rs) := ⟨hl, hF, hm, hz⟩
    rw [← hC]
    clear hC ih hB hS hl hF hm hz
    go_enter Tryd.func25, Tryd.ntmps25
    go_wp2
    go_loopg [0] (F + 1) (fun g v0 wr => ∃ (qs : List Rw) (f : Nat), g = f + 1 ∧ Hid (qs.length ≤ f ∧ f < F0 + 1 ∧ qs.length ≤ 9223372036854775807 ∧ Szs qs ∧ SR w0 v0 qs ∧ Below W.heap.size W wr ∧ C = chk f d qs))
    case atStart => exact ⟨rs, F, rfl, HL0.out.1, HL0.out.2.1, HL0.out.2.2.1, HL0.out.2.2.2, HS0.out, Below.refl _ _, HC.out⟩
    case round =>
      clear HS0 HL0 HC
      obtain ⟨qs, f, rfl, hI⟩ := hrel
      obtain ⟨a, c, vs, ev, hc, hvs, hA, hR⟩ := hI.out.2.2.2.2.1
      have hBw : Hid (Below W.heap.size W wr) := hI.out.2.2.2.2.2.1
      cases qs with
      | nil =>
        subst ev
        have hCt : Hid (C = true) := by
          show C = true
          rw [hI.out.2.2.2.2.2.2]
          cases f <;> rfl
        clear hA hR hvs
        go_wp2
        go_end0
        exact ⟨.inl ⟨hCt.out, rfl⟩, hBw.out⟩
      | cons r qs =>
        obtain ⟨b, o, rfl, rr0⟩ := hR 0 (by simp)
        obtain ⟨av, vs, rfl⟩ : ∃ av ws, vs = av :: ws := by cases vs with | nil => simp at hvs | cons x y => exact ⟨x, y, rfl⟩
        have hSA := hA 0 (by simp) (by simp)
        have hSR := hI.out.2.2.2.2.1
        rw [ev] at hSR
        obtain ⟨a1, c1, hsl, hS1⟩ := hSR.drop 1 (by simp)
        rw [List.length_cons] at ev hc hsl
        have hqz : Szs qs ∧ r.name.size ≤ 9223372036854775807 ∧ r.args.length ≤ 9223372036854775807 ∧ ∀ a ∈ r.args, a.n.size ≤ 9223372036854775807 := ⟨fun x hx => hI.out.2.2.2.1 x (List.mem_cons_of_mem _ hx), hI.out.2.2.2.1 r List.mem_cons_self⟩
        have hnn : qs.length + 1 ≤ f ∧ f < F0 + 1 ∧ qs.length + 1 ≤ 9223372036854775807 := ⟨hI.out.1, hI.out.2.1, hI.out.2.2.1⟩
        have hCC := hI.out.2.2.2.2.2.2
        have rr := (rr0.below HB.out).below hBw.out
        have m0 := rr.c0 0 (by simp)
        have m1 := rr.c1 0 (by simp)
        have m2 := rr.c2 0 (by simp) (by simp)
        have m3 := rr.c3 0 (by simp)
        have m4 := rr.c4 0 (by simp)
        have m5 := rr.c5 0 (by simp)
        have ml := rr.lt
        simp only [Nat.zero_mul, Nat.add_zero, List.getElem_cons_zero] at m0 m1 m2 m3 m4 m5 hSA
        simp only [List.drop_succ_cons, List.drop_zero] at hsl hS1
        have hsl1 : ∀ w, (Instr.slice 23 (.slice (some ⟨b, o, none⟩) (qs.length + 1) c) (some (.int .i64 1)) none none).run Tryd.prog w = .ok (.slice a1 qs.length c1) w := hsl
        obtain ⟨kd, nm, ag, nu, ro, pl⟩ := r
        simp only at m0 m1 m2 m3 m4 m5 hSA hqz
        subst ev
        have hsp : ∃ aa ac, av = .slice aa ag.length ac := by obtain ⟨aa, ac, e, _⟩ := hSA; exact ⟨aa, ac, e⟩
        obtain ⟨aa, ac, rfl⟩ := hsp
        have HSA : Hid (SA w0 (.slice aa ag.length ac) ag) := hSA
        have HS1 : Hid (SR w0 (.slice a1 qs.length c1) qs) := hS1
        have HQ : Hid (Szs qs) := hqz.1
        obtain ⟨f, rfl⟩ : ∃ g, f = g + 1 := ⟨f - 1, by omega⟩
        have HCC : Hid (C = chk (f + 1) d (⟨kd, nm, ag, nu, ro, pl⟩ :: qs)) := hCC
        clear hA hR hvs rr rr0 hSR hI hsl hSA hS1 hCC
        go_upto_region 1 with (fail)
        go_region
        obtain ⟨V, hV⟩ : ∃ V, V = (wr.alloc (.cells #[.string kd, .string nm, .slice aa ag.length ac, .int .i64 nu, .int .i64 ro, .int .i64 pl] 45)).drew := ⟨_, rfl⟩
        have bV : BK V wr.heap.size #[.string kd, .string nm, .slice aa ag.length ac, .int .i64 nu, .int .i64 ro, .int .i64 pl] 45 := by rw [hV]; exact (bk_new _ _ _).drew
        have hWV : Hid (Below W.heap.size W V) := by rw [hV]; exact below_drew (bal hBw.out _)
        rw [← hV]
        clear hV m0 m1 m2 m3 m4 m5 ml hsl1 hBw
        have CELL : ∀ {w9 : World}, Below V.heap.size V w9 → w9.cell? ⟨wr.heap.size, 0, none⟩ = some (.string kd) ∧ w9.cell? ⟨wr.heap.size, 1, none⟩ = some (.string nm) ∧ w9.cell? ⟨wr.heap.size, 2, none⟩ = some (.slice aa ag.length ac) ∧ w9.cell? ⟨wr.heap.size, 3, none⟩ = some (.int .i64 nu) ∧ w9.cell? ⟨wr.heap.size, 4, none⟩ = some (.int .i64 ro) ∧ w9.cell? ⟨wr.heap.size, 5, none⟩ = some (.int .i64 pl) ∧ wr.heap.size < w9.heap.size := fun h => by
          have b9 : BK _ wr.heap.size _ _ := (h.block _ bV.lt).trans bV
          exact ⟨b9.cell 0, b9.cell 1, b9.cell 2, b9.cell 3, b9.cell 4, b9.cell 5, b9.lt⟩
        obtain ⟨q0, q1, q2, q3, q4, q5, ql⟩ := CELL (Below.refl _ _)
        have SHA := fun w => shape_any kd w
        clear bV
        cases hk : shp kd with
        | none =>
          rw [hk] at SHA
          have hCf : Hid (C = false) := by show C = false; rw [HCC.out]; simp [chk, hk]
          clear HCC hk
          go_wp2_with (go_at_call 50; (with_reducible refine (SHA _).mono ?_); rintro e w1 ⟨rfl, h1⟩; obtain ⟨y0, y1, y2, y3, y4, y5, yl⟩ := CELL h1)
          exact ⟨rfl, .inr ⟨hCf.out, rfl⟩, btr hWV.out (bal h1 _)⟩
        | some sh =>
        rw [hk] at SHA
        have FT := fun w' h => fits_any kd nm ag nu ro pl sh (.slice aa ag.length ac) w0 w' hk HSA.out h hqz.2.1 hqz.2.2.1 hqz.2.2.2
        have HCE : Hid (C = (fitB ⟨kd, nm, ag, nu, ro, pl⟩ sh && decide (0 ≤ ro) && decide (ro ≤ (qs.length : Int)) && (if sh.body = true then decide (d < 32) && chk f (d + 1) (qs.take ro.toNat) else decide (ro = 0)) && chk f d (qs.drop ro.toNat))) := by
          show C = _
          rw [HCC.out]
          have e : shR ⟨kd, nm, ag, nu, ro, pl⟩ = sh := by show (shp kd).getD _ = _; rw [hk]; rfl
          show ((shp kd).isSome && fitB _ (shR _) && decide (0 ≤ ro) && decide (ro ≤ (qs.length : Int)) && (if (shR ⟨kd, nm, ag, nu, ro, pl⟩).body = true then _ else _) && _) = _
          rw [e, hk]
          rfl
        clear HCC hk hqz
        obtain ⟨sn, sa, sx, sm, sb⟩ := sh
        simp only [Option.getD_some, Option.isSome_some] at SHA FT HCE
        have C82 : ∀ (u : World) {w9 : World}, Below (u.alloc (.cells #[.bool sn, .int .i64 sa, .bool sx, .bool sm, .bool sb] 82)).heap.size (u.alloc (.cells #[.bool sn, .int .i64 sa, .bool sx, .bool sm, .bool sb] 82)) w9 → w9.cell? ⟨u.heap.size, 4, none⟩ = some (.bool sb) ∧ u.heap.size < w9.heap.size := fun u w9 h => by
          have b8 := bk_new u #[.bool sn, .int .i64 sa, .bool sx, .bool sm, .bool sb] 82
          have b9 : BK w9 u.heap.size _ _ := (h.block _ b8.lt).trans b8
          exact ⟨b9.cell 4, b9.lt⟩
        cases hf : fitB ⟨kd, nm, ag, nu, ro, pl⟩ ⟨sn, sa, sx, sm, sb⟩ with
        | false =>
          have hCf : Hid (C = false) := by show C = false; rw [HCE.out, hf]; rfl
          rw [hf] at FT
          clear hf HCE
          go_wp2_with (first | (go_at_call 50; (with_reducible refine (SHA _).mono ?_); rintro e w1 ⟨rfl, h1⟩; obtain ⟨y0, y1, y2, y3, y4, y5, yl⟩ := CELL h1; have h1b := bal h1 (.cells #[.bool sn, .int .i64 sa, .bool sx, .bool sm, .bool sb] 82); have h1c := btr (btr HB.out hWV.out) h1b; have h1d := btr hWV.out h1b) | (go_at_call 51; (with_reducible refine (FT _ h1c).mono ?_); rintro e w2 ⟨rfl, h2⟩; obtain ⟨z0, z1, z2, z3, z4, z5, zl⟩ := CELL (btr h1b h2); obtain ⟨t4, tl⟩ := C82 _ h2; have h2c := btr h1c h2; have h2d := btr h1d h2))
          exact ⟨rfl, .inr ⟨hCf.out, rfl⟩, h2d⟩
        | true =>
        rw [hf] at FT
        by_cases hr0 : ro < 0
        case pos =>
          have hCf : Hid (C = false) := by show C = false; rw [HCE.out, decide_eq_false (show ¬ 0 ≤ ro by omega)]; simp
          clear hf HCE
          go_wp2_with (first | (go_at_call 50; (with_reducible refine (SHA _).mono ?_); rintro e w1 ⟨rfl, h1⟩; obtain ⟨y0, y1, y2, y3, y4, y5, yl⟩ := CELL h1; have h1b := bal h1 (.cells #[.bool sn, .int .i64 sa, .bool sx, .bool sm, .bool sb] 82); have h1c := btr (btr HB.out hWV.out) h1b; have h1d := btr hWV.out h1b) | (go_at_call 51; (with_reducible refine (FT _ h1c).mono ?_); rintro e w2 ⟨rfl, h2⟩; obtain ⟨z0, z1, z2, z3, z4, z5, zl⟩ := CELL (btr h1b h2); obtain ⟨t4, tl⟩ := C82 _ h2; have h2c := btr h1c h2; have h2d := btr h1d h2))
          exact ⟨rfl, .inr ⟨hCf.out, rfl⟩, h2d⟩
        case neg =>
        by_cases hr1 : (qs.length : Int) < ro
        case pos =>
          have hCf : Hid (C = false) := by show C = false; rw [HCE.out, decide_eq_false (show ¬ ro ≤ (qs.length : Int) by omega)]; simp
          clear hf HCE
          go_wp2_with (first | (go_at_call 50; (with_reducible refine (SHA _).mono ?_); rintro e w1 ⟨rfl, h1⟩; obtain ⟨y0, y1, y2, y3, y4, y5, yl⟩ := CELL h1; have h1b := bal h1 (.cells #[.bool sn, .int .i64 sa, .bool sx, .bool sm, .bool sb] 82); have h1c := btr (btr HB.out hWV.out) h1b; have h1d := btr hWV.out h1b) | (go_at_call 51; (with_reducible refine (FT _ h1c).mono ?_); rintro e w2 ⟨rfl, h2⟩; obtain ⟨z0, z1, z2, z3, z4, z5, zl⟩ := CELL (btr h1b h2); obtain ⟨t4, tl⟩ := C82 _ h2; have h2c := btr h1c h2; have h2d := btr h1d h2))
          exact ⟨rfl, .inr ⟨hCf.out, rfl⟩, h2d⟩
        case neg =>
        obtain ⟨k, rfl⟩ : ∃ k : Nat, ro = (k : Int) := ⟨ro.toNat, by omega⟩
        have hkq : k ≤ qs.length := by omega
        have HCF : Hid (C = ((if sb = true then decide (d < 32) && chk f (d + 1) (qs.take k) else decide (k = 0)) && chk f d (qs.drop k))) := by
          show C = _
          rw [HCE.out, hf, decide_eq_true (show 0 ≤ (k : Int) by omega), decide_eq_true (show (k : Int) ≤ (qs.length : Int) by omega), Int.toNat_natCast]
          have e0 : decide ((k : Int) = 0) = decide (k = 0) := by simp
          rw [e0]
          rfl
        clear HCE hf
        obtain ⟨a3, c3, hsd, hS3⟩ := HS1.out.drop k hkq
        rw [List.length_drop] at hsd hS3
        have HS3 : Hid (SR w0 (.slice a3 (qs.length - k) c3) (qs.drop k)) := hS3
        have hdl : (qs.drop k).length ≤ qs.length := by rw [List.length_drop]; omega
        have hkn : ¬ ((qs.length : Int) < (k : Int)) := by omega
        clear hS3
        cases sb with
        | true =>
          by_cases hd2 : 32 ≤ d
          · have hCf : Hid (C = false) := by show C = false; rw [HCF.out, decide_eq_false (show ¬ d < 32 by omega)]; rfl
            clear HCF
            go_wp2_with (first | (go_at_call 50; (with_reducible refine (SHA _).mono ?_); rintro e w1 ⟨rfl, h1⟩; obtain ⟨y0, y1, y2, y3, y4, y5, yl⟩ := CELL h1; have h1b := bal h1 (.cells #[.bool sn, .int .i64 sa, .bool sx, .bool sm, .bool true] 82); have h1c := btr (btr HB.out hWV.out) h1b; have h1d := btr hWV.out h1b) | (go_at_call 51; (with_reducible refine (FT _ h1c).mono ?_); rintro e w2 ⟨rfl, h2⟩; obtain ⟨z0, z1, z2, z3, z4, z5, zl⟩ := CELL (btr h1b h2); obtain ⟨t4, tl⟩ := C82 _ h2; have h2c := btr h1c h2; have h2d := btr h1d h2))
            exact ⟨rfl, .inr ⟨hCf.out, rfl⟩, h2d⟩
          · obtain ⟨a2, c2, hst, hS2⟩ := HS1.out.take k hkq
            have htk : (qs.take k).length = k := by rw [List.length_take]; omega
            have htl : (qs.take k).length ≤ qs.length := by omega
            rw [htk] at hst hS2
            clear htk
            have RC : ∀ w', Below w0.heap.size w0 w' → Calls Tryd.prog 25 #[.slice a2 k c2, .int .i64 ((d : Int) + 1)] w' fun e W' => CK (chk f (d + 1) (qs.take k)) e ∧ Below w'.heap.size w' W' := fun w' h => by
              have := HIH.out f (by omega) (qs.take k) (d + 1) (.slice a2 k c2) w0 w' (by omega) (by omega) hS2 h (by omega) (HQ.out.take k)
              rwa [show ((d + 1 : Nat) : Int) = (d : Int) + 1 by omega] at this
            have HX1 : Hid (chk f (d + 1) (qs.take k) = false → C = false) := fun h => by rw [HCF.out, h]; simp
            have HX2 : Hid (chk f (d + 1) (qs.take k) = true → C = chk f d (qs.drop k)) := fun h => by rw [HCF.out, h, decide_eq_true (show d < 32 by omega)]; rfl
            clear HCF hS2
            generalize chk f (d + 1) (qs.take k) = CB at *
            go_wp2_with (first | (go_at_call 50; (with_reducible refine (SHA _).mono ?_); rintro e w1 ⟨rfl, h1⟩; obtain ⟨y0, y1, y2, y3, y4, y5, yl⟩ := CELL h1; have h1b := bal h1 (.cells #[.bool sn, .int .i64 sa, .bool sx, .bool sm, .bool true] 82); have h1c := btr (btr HB.out hWV.out) h1b; have h1d := btr hWV.out h1b) | (go_at_call 51; (with_reducible refine (FT _ h1c).mono ?_); rintro e w2 ⟨rfl, h2⟩; obtain ⟨z0, z1, z2, z3, z4, z5, zl⟩ := CELL (btr h1b h2); obtain ⟨t4, tl⟩ := C82 _ h2; have h2c := btr h1c h2; have h2d := btr h1d h2) | (go_at_call 25; (with_reducible refine (RC _ h2c).mono ?_); rintro e w3 ⟨hK, h3⟩; obtain ⟨v0, v1, v2, v3, v4, v5, vl⟩ := CELL (btr (btr h1b h2) h3); have h3d := btr h2d h3; rcases hK with ⟨hK, rfl⟩ | ⟨hK, rfl⟩))
            · go_roundg (f + 1)
              case measure => omega
              case rel => exact ⟨qs.drop k, f, rfl, by omega, by omega, by omega, HQ.out.drop k, HS3.out, h3d, HX2.out hK⟩
            · exact ⟨rfl, .inr ⟨HX1.out hK, rfl⟩, h3d⟩
        | false =>
          by_cases hk0 : k = 0
          · have hCf : Hid (C = chk f d (qs.drop k)) := by show C = _; rw [HCF.out, decide_eq_true hk0]; rfl
            have hk1 : ((k : Int) != 0) = false := by simpa using hk0
            clear HCF hk0
            go_wp2_with (first | (go_at_call 50; (with_reducible refine (SHA _).mono ?_); rintro e w1 ⟨rfl, h1⟩; obtain ⟨y0, y1, y2, y3, y4, y5, yl⟩ := CELL h1; have h1b := bal h1 (.cells #[.bool sn, .int .i64 sa, .bool sx, .bool sm, .bool false] 82); have h1c := btr (btr HB.out hWV.out) h1b; have h1d := btr hWV.out h1b) | (go_at_call 51; (with_reducible refine (FT _ h1c).mono ?_); rintro e w2 ⟨rfl, h2⟩; obtain ⟨z0, z1, z2, z3, z4, z5, zl⟩ := CELL (btr h1b h2); obtain ⟨t4, tl⟩ := C82 _ h2; have h2c := btr h1c h2; have h2d := btr h1d h2))
            go_roundg (f + 1)
            case measure => omega
            case rel => exact ⟨qs.drop k, f, rfl, by omega, by omega, by omega, HQ.out.drop k, HS3.out, h2d, hCf.out⟩
          · have hCf : Hid (C = false) := by show C = false; rw [HCF.out, decide_eq_false hk0]; rfl
            have hk1 : ((k : Int) != 0) = true := by simpa using hk0
            clear HCF hk0
            go_wp2_with (first | (go_at_call 50; (with_reducible refine (SHA _).mono ?_); rintro e w1 ⟨rfl, h1⟩; obtain ⟨y0, y1, y2, y3, y4, y5, yl⟩ := CELL h1; have h1b := bal h1 (.cells #[.bool sn, .int .i64 sa, .bool sx, .bool sm, .bool false] 82); have h1c := btr (btr HB.out hWV.out) h1b; have h1d := btr hWV.out h1b) | (go_at_call 51; (with_reducible refine (FT _ h1c).mono ?_); rintro e w2 ⟨rfl, h2⟩; obtain ⟨z0, z1, z2, z3, z4, z5, zl⟩ := CELL (btr h1b h2); obtain ⟨t4, tl⟩ := C82 _ h2; have h2c := btr h1c h2; have h2d := btr h1d h2))
            exact ⟨rfl, .inr ⟨hCf.out, rfl⟩, h2d⟩
end Go.Proofs.YtiepbfeliehjnaaDoor
namespace Go.Proofs.YtiepbfeliehjnaaDoor
open Go.RowKit Go.Sort

theorem st_any (kd nm : ByteArray) (ag : List Ar) (nu ro pl : Int) (sh : Sh) (av : Value) (w W : World) (b : Nat) (bs : List UInt8) (hv : VR w) (H : WS w W b bs ⟨#[]⟩) (hb : bs.length ≤ 65536) (hS : SA w av ag) (hk : shp kd = some sh) (hf : fitB ⟨kd, nm, ag, nu, ro, pl⟩ sh = true) (hnz : nm.size ≤ 9223372036854775807) (hl : ag.length ≤ 9223372036854775807) (hz : ∀ a ∈ ag, a.n.size ≤ 9223372036854775807) :
    Calls Tryd.prog 53 #[.pointer (some ⟨b, 0, none⟩), .agg #[.string kd, .string nm, av, .int .i64 nu, .int .i64 ro, .int .i64 pl], .agg #[.bool sh.name, .int .i64 sh.args, .bool sh.idx, .bool sh.num, .bool sh.body]] W (WR w W b bs (lineB ⟨#[]⟩ (headK ⟨kd, nm, ag, nu, ro, pl⟩ sh)) (lastS sh)) := by
  unfold fitB at hf
  simp only [Bool.and_eq_true] at hf
  obtain ⟨⟨⟨_, hf2⟩, _⟩, hf4⟩ := hf
  have hx : ∀ a ∈ ag, a.x ≤ 9007199254740991 := fun a ha => by
    have := List.all_eq_true.1 hf4 a ha
    unfold argOk numOk at this
    simp at this
    omega
  rcases shp_cases kd with ⟨rfl, e, _⟩ | ⟨rfl, e, _⟩ | ⟨rfl, e, _⟩ | ⟨rfl, e, _⟩ | ⟨rfl, e, _⟩ | ⟨rfl, e, _⟩ | ⟨rfl, e, _⟩ | ⟨rfl, e, _⟩ | ⟨_, _, _, _, _, _, _, _, e, _⟩
  all_goals rw [e] at hk
  all_goals cases hk
  · exact st_1 _ nm ag nu ro pl 0 false false av w W b bs hv H hb hS (by decide) (by decide) hnz hl hz hx hf2
  · exact st_1 _ nm ag nu ro pl 0 false false av w W b bs hv H hb hS (by decide) (by decide) hnz hl hz hx hf2
  · exact st_2 _ nm ag nu ro pl (-1) false true av w W b bs hv H hb hS (by decide) (by decide) hnz hl hz hx
  · exact st_3 _ nm ag nu ro pl 0 false true av w W b bs hv H hb hS (by decide) (by decide) hl hz hx hf2
  · exact st_1 _ nm ag nu ro pl 0 false true av w W b bs hv H hb hS (by decide) (by decide) hnz hl hz hx hf2
  · exact st_4 _ nm ag nu ro pl 2 true false av w W b bs hv H hb hS (by decide) (by decide) hl hz hx
  · exact st_4 _ nm ag nu ro pl 1 true false av w W b bs hv H hb hS (by decide) (by decide) hl hz hx
  · exact st_5 nm ag nu ro pl (-1) true false av w W b bs hv H hb hS hnz hl hz hx
/-- Within body: x is written since its begin W. -/
structure WT (w W : World) (b : Nat) (bs : List UInt8) (x : List UInt8) (wr : World) (last : ByteArray) : Prop where
  ws : WS w wr b (bs ++ x) last
  len : (bs ++ x).length ≤ 65536
  size : W.heap.size ≤ wr.heap.size
  ok : Lib.OthersKept 5 (some b) W wr
theorem WT.on {w W wr W' : World} {b : Nat} {bs x : List UInt8} {last : ByteArray} (h : WT w W b bs x wr last) (hb : Below wr.heap.size wr W') : WT w W b bs x W' last :=
  ⟨h.ws.on hb, h.len, Nat.le_trans h.size hb.size, Lib.OthersKept.trans h.ok (ok_below _ hb)⟩
/-- What body tells. -/
def BR (w W : World) (b : Nat) (bs add : List UInt8) (e : Ending) (W' : World) : Prop := ∃ last, WR w W b bs add last e W'
theorem WT.step {w W wr W' : World} {b : Nat} {bs x add : List UInt8} {last last' : ByteArray} {e : Ending} (h : WT w W b bs x wr last) (hr : WR w wr b (bs ++ x) add last' e W') :
    (e = .returned (.tuple #[]) ∧ WT w W b bs (x ++ add) W' last') ∨ (e = .panicked [flt (0, 1)] ∧ ∀ y, (∃ z, y = x ++ add ++ z) → BR w W b bs y (.panicked [flt (0, 1)]) W') := by
  obtain ⟨h1, h2, h3, h4⟩ := hr
  have hz := Nat.le_trans h.size h2
  have ho := Lib.OthersKept.trans h.ok h3
  rw [List.length_append] at h4
  rcases h4 with ⟨h5, h6, h7⟩ | ⟨h5, h6⟩
  · exact .inl ⟨h6, by rw [← List.append_assoc]; exact h7, by rw [List.length_append, List.length_append]; omega, hz, ho⟩
  · refine .inr ⟨h6, fun y hy => ⟨⟨#[]⟩, h1, hz, ho, .inr ⟨?_, rfl⟩⟩⟩
    obtain ⟨z, rfl⟩ := hy
    rw [List.length_append, List.length_append]
    omega
theorem WT.stepB {w W wr W' : World} {b : Nat} {bs x add : List UInt8} {last : ByteArray} {e : Ending} (h : WT w W b bs x wr last) (hr : BR w wr b (bs ++ x) add e W') :
    (e = .returned (.tuple #[]) ∧ ∃ last', WT w W b bs (x ++ add) W' last') ∨ (e = .panicked [flt (0, 1)] ∧ ∀ y, (∃ z, y = x ++ add ++ z) → BR w W b bs y (.panicked [flt (0, 1)]) W') := by
  obtain ⟨l, hr⟩ := hr
  rcases h.step hr with ⟨h1, h2⟩ | h1
  · exact .inl ⟨h1, l, h2⟩
  · exact .inr h1
theorem BR.ok {w W : World} {b : Nat} {bs add : List UInt8} {e : Ending} {W' : World} (h : BR w W b bs add e W') : Lib.OthersKept 5 (some b) W W' := by obtain ⟨_, _, _, h, _⟩ := h; exact h
theorem chk_cons2 {f d : Nat} {kd nm : ByteArray} {ag : List Ar} {nu ro pl : Int} {rs : List Rw} (h : chk (f + 1) d (⟨kd, nm, ag, nu, ro, pl⟩ :: rs) = true) : ∃ sh, shp kd = some sh ∧ fitB ⟨kd, nm, ag, nu, ro, pl⟩ sh = true ∧ 0 ≤ ro ∧ ro ≤ (rs.length : Int) ∧ ((sh.body = true ∧ d < 32 ∧ chk f (d + 1) (rs.take ro.toNat) = true) ∨ (sh.body = false ∧ ro = 0)) ∧ chk f d (rs.drop ro.toNat) = true ∧
    ∀ d', bodyB (f + 1) d' (⟨kd, nm, ag, nu, ro, pl⟩ :: rs) = (indB d' ++ (lineB ⟨#[]⟩ (headK ⟨kd, nm, ag, nu, ro, pl⟩ sh) ++ [10])) ++ ((if sh.body = true then bodyB f (d' + 1) (rs.take ro.toNat) ++ (indB d' ++ ([125] ++ [10])) else []) ++ bodyB f d' (rs.drop ro.toNat)) := by
  have e0 : ∀ sh, shp kd = some sh → shR (⟨kd, nm, ag, nu, ro, pl⟩ : Rw) = sh := fun sh e => by show (shp kd).getD _ = _; rw [e]; rfl
  unfold chk at h
  simp only [Bool.and_eq_true, decide_eq_true_eq] at h
  obtain ⟨⟨⟨⟨⟨h1, h2⟩, h3⟩, h4⟩, h5⟩, h6⟩ := h
  cases hk : shp kd with
  | none => rw [hk] at h1; cases h1
  | some sh =>
    have e := e0 sh hk
    rw [e] at h2 h5
    refine ⟨sh, rfl, h2, h3, h4, ?_, h6, fun d' => ?_⟩
    · cases hb : sh.body with
      | true => rw [hb, if_pos rfl] at h5; simp only [Bool.and_eq_true, decide_eq_true_eq] at h5; exact .inl ⟨rfl, h5.1, h5.2⟩
      | false => rw [hb] at h5; exact .inr ⟨rfl, by simpa using h5⟩
    · rw [← e]; rfl
set_option maxHeartbeats 4000000 in
set_option maxRecDepth 100000 in
theorem wbody_any : ∀ (F0 : Nat) (F : Nat), F < F0 → ∀ (rs : List Rw) (d : Nat) (v : Value) (w W : World) (b : Nat) (bs : List UInt8) (last : ByteArray), rs.length ≤ F → d ≤ 32 → chk F d rs = true → SR w v rs → WS w W b bs last → bs.length ≤ 65536 → VR w → rs.length ≤ 9223372036854775807 → Szs rs →
    Calls Tryd.prog 26 #[.pointer (some ⟨b, 0, none⟩), v, .int .i64 d] W (BR w W b bs (bodyB F d rs)) := by
  intro F0
  induction F0 with
  | zero => intro F hF; omega
  | succ F0 ih =>
    intro F hF rs d v w W b bs last hl hd hck hS H hb hv hm hz
    obtain ⟨Y, hY⟩ : ∃ Y, Y = bodyB F d rs := ⟨_, rfl⟩
    have HY : Hid (Y = bodyB F d rs) := hY
    have HIH : Hid (∀ (F : Nat), F < F0 → ∀ (rs : List Rw) (d : Nat) (v : Value) (w W : World) (b : Nat) (bs : List UInt8) (last : ByteArray), rs.length ≤ F → d ≤ 32 → chk F d rs = true → SR w v rs → WS w W b bs last → bs.length ≤ 65536 → VR w → rs.length ≤ 9223372036854775807 → Szs rs →
      Calls Tryd.prog 26 #[.pointer (some ⟨b, 0, none⟩), v, .int .i64 d] W (BR w W b bs (bodyB F d rs))) := ih
    have HV : Hid (VR w) := hv
    have HS0 : Hid (SR w v rs) := hS
    have HL0 : Hid (rs.length ≤ F ∧ F < F0 + 1 ∧ rs.length ≤ 9223372036854775807 ∧ Szs rs ∧ chk F d rs = true) := ⟨hl, hF, hm, hz, hck⟩
    have HST : Hid (WT w W b bs [] W last) := ⟨by rw [List.append_nil]; exact H, by rw [List.append_nil]; exact hb, Nat.le_refl _, Lib.OthersKept.refl _ _ _⟩
    rw [← hY]
    clear hY ih hS hl hF hm hz H hb hv hck
    go_enter Tryd.func26, Tryd.ntmps26
    go_wp2
    go_loopg [1] (F + 1) (fun g v0 wr => ∃ (qs : List Rw) (f : Nat), g = f + 1 ∧ Hid (qs.length ≤ f ∧ f < F0 + 1 ∧ qs.length ≤ 9223372036854775807 ∧ Szs qs ∧ SR w v0 qs ∧ chk f d qs = true ∧ ∃ x l, WT w W b bs x wr l ∧ Y = x ++ bodyB f d qs))
    case atStart => exact ⟨rs, F, rfl, HL0.out.1, HL0.out.2.1, HL0.out.2.2.1, HL0.out.2.2.2.1, HS0.out, HL0.out.2.2.2.2, [], last, HST.out, by rw [HY.out]; rfl⟩
    case round =>
      clear HS0 HL0 HY HST
      obtain ⟨qs, f, rfl, hI⟩ := hrel
      obtain ⟨i1, i2, i3, i4, i5, i6, x, lx, hX, hYx⟩ := hI.out
      obtain ⟨a, c, vs, ev, hc, hvs, hA, hR⟩ := i5
      clear hI
      cases qs with
      | nil =>
        subst ev
        have hFin : Hid (BR w W b bs Y (.returned (.tuple #[])) wr) := by
          have e : Y = x := by rw [hYx]; cases f <;> simp [bodyB]
          rw [e]
          exact ⟨lx, hX.ws.below, hX.size, hX.ok, .inl ⟨by have := hX.len; rwa [List.length_append] at this, rfl, hX.ws⟩⟩
        clear hA hR hvs hX hYx i1 i2 i3 i4 i6
        go_wp2
        go_end0
        exact hFin.out
      | cons r qs =>
        obtain ⟨bb, o, rfl, rr0⟩ := hR 0 (by simp)
        obtain ⟨av, vs, rfl⟩ : ∃ av ws, vs = av :: ws := by cases vs with | nil => simp at hvs | cons x y => exact ⟨x, y, rfl⟩
        have hSA := hA 0 (by simp) (by simp)
        have hSR : SR w (.slice (some ⟨bb, o, none⟩) (r :: qs).length c) (r :: qs) := ⟨_, _, _, rfl, hc, hvs, hA, hR⟩
        obtain ⟨a1, c1, hsl, hS1⟩ := hSR.drop 1 (by simp)
        rw [List.length_cons] at ev hc hsl
        have hqz : Szs qs ∧ r.name.size ≤ 9223372036854775807 ∧ r.args.length ≤ 9223372036854775807 ∧ ∀ a ∈ r.args, a.n.size ≤ 9223372036854775807 := ⟨fun x hx => i4 x (List.mem_cons_of_mem _ hx), i4 r List.mem_cons_self⟩
        have hnn : qs.length + 1 ≤ f ∧ f < F0 + 1 ∧ qs.length + 1 ≤ 9223372036854775807 := ⟨i1, i2, i3⟩
        have rr := rr0.below hX.ws.below
        have m0 := rr.c0 0 (by simp)
        have m1 := rr.c1 0 (by simp)
        have m2 := rr.c2 0 (by simp) (by simp)
        have m3 := rr.c3 0 (by simp)
        have m4 := rr.c4 0 (by simp)
        have m5 := rr.c5 0 (by simp)
        have ml := rr.lt
        simp only [Nat.zero_mul, Nat.add_zero, List.getElem_cons_zero] at m0 m1 m2 m3 m4 m5 hSA
        simp only [List.drop_succ_cons, List.drop_zero] at hsl hS1
        have hsl1 : ∀ w, (Instr.slice 23 (.slice (some ⟨bb, o, none⟩) (qs.length + 1) c) (some (.int .i64 1)) none none).run Tryd.prog w = .ok (.slice a1 qs.length c1) w := hsl
        obtain ⟨kd, nm, ag, nu, ro, pl⟩ := r
        simp only at m0 m1 m2 m3 m4 m5 hSA hqz
        subst ev
        have hsp : ∃ aa ac, av = .slice aa ag.length ac := by obtain ⟨aa, ac, e, _⟩ := hSA; exact ⟨aa, ac, e⟩
        obtain ⟨aa, ac, rfl⟩ := hsp
        have HSA : Hid (SA w (.slice aa ag.length ac) ag) := hSA
        have HS1 : Hid (SR w (.slice a1 qs.length c1) qs) := hS1
        have HQ : Hid (Szs qs) := hqz.1
        obtain ⟨f, rfl⟩ : ∃ g, f = g + 1 := ⟨f - 1, by omega⟩
        obtain ⟨sh, hk, hfit, hr0, hr1, hbd, hcd, hB⟩ := chk_cons2 i6
        have SHA := fun w => shape_any kd w
        rw [hk] at SHA
        have SM := fun w' bs' h hb => st_any kd nm ag nu ro pl sh (.slice aa ag.length ac) w w' b bs' HV.out h hb HSA.out hk hfit hqz.2.1 hqz.2.2.1 hqz.2.2.2
        have hlt : b < wr.heap.size := (hX.ws.cell2).2.2
        have HX : Hid (WT w W b bs x wr lx) := hX
        obtain ⟨k, rfl⟩ : ∃ k : Nat, ro = (k : Int) := ⟨ro.toNat, by omega⟩
        have hkq : k ≤ qs.length := by omega
        rw [Int.toNat_natCast] at hbd hcd
        have HYE := (hB d)
        rw [Int.toNat_natCast] at HYE
        have HYY : Hid (Y = x ++ ((indB d ++ (lineB ⟨#[]⟩ (headK ⟨kd, nm, ag, nu, (k : Int), pl⟩ sh) ++ [10])) ++ ((if sh.body = true then bodyB f (d + 1) (qs.take k) ++ (indB d ++ ([125] ++ [10])) else []) ++ bodyB f d (qs.drop k)))) := by show Y = _; rw [hYx, HYE]
        have HCD : Hid (chk f d (qs.drop k) = true) := hcd
        obtain ⟨a3, c3, hsd, hS3⟩ := HS1.out.drop k hkq
        rw [List.length_drop] at hsd hS3
        have HS3 : Hid (SR w (.slice a3 (qs.length - k) c3) (qs.drop k)) := hS3
        have hdl : (qs.drop k).length ≤ qs.length := by rw [List.length_drop]; omega
        generalize headK ⟨kd, nm, ag, nu, (k : Int), pl⟩ sh = HK at *
        obtain ⟨sn, sa, sx, sm, sb⟩ := sh
        simp only [Option.getD_some, Option.isSome_some] at SHA SM HYY hbd
        clear hA hR hvs rr rr0 hSR hsl hSA hS1 hYx i1 i2 i3 i4 i6 hk hfit hr0 hr1 hcd hB HYE hS3 hX
        have TKN : ∀ w' bs', WS w w' b bs' ⟨#[]⟩ → bs'.length ≤ 65536 → Calls Tryd.prog 55 #[.pointer (some ⟨b, 0, none⟩), .string ⟨#[125]⟩] w' (WR w w' b bs' [125] wShut) := fun w' bs' h hb => token_any w w' b bs' ⟨#[]⟩ wShut h hb (by decide)
        go_upto_region 1 with (fail)
        go_region
        obtain ⟨V, hV⟩ : ∃ V, V = (wr.alloc (.cells #[.string kd, .string nm, .slice aa ag.length ac, .int .i64 nu, .int .i64 (k : Int), .int .i64 pl] 45)).drew := ⟨_, rfl⟩
        have bV : BK V wr.heap.size #[.string kd, .string nm, .slice aa ag.length ac, .int .i64 nu, .int .i64 (k : Int), .int .i64 pl] 45 := by rw [hV]; exact (bk_new _ _ _).drew
        have hWV : Hid (Below wr.heap.size wr V) := by rw [hV]; exact below_drew (bal (Below.refl _ _) _)
        rw [← hV]
        clear hV m0 m1 m2 m3 m4 m5 ml hsl1
        have CELL : ∀ {w9 : World}, Below V.heap.size V w9 → BK w9 wr.heap.size #[.string kd, .string nm, .slice aa ag.length ac, .int .i64 nu, .int .i64 (k : Int), .int .i64 pl] 45 := fun h => (h.block _ bV.lt).trans bV
        have q0 : V.cell? ⟨wr.heap.size, 0, none⟩ = some (.string kd) := bV.cell 0
        have ql := bV.lt
        clear bV
        go_upto_region 3 with (go_at_call 50; (with_reducible refine (SHA _).mono ?_); rintro e w1 ⟨rfl, h1⟩)
        obtain ⟨X, hXX⟩ : ∃ X, X = w1.alloc (.cells #[.bool sn, .int .i64 sa, .bool sx, .bool sm, .bool sb] 82) := ⟨_, rfl⟩
        have b1 : BK X wr.heap.size #[.string kd, .string nm, .slice aa ag.length ac, .int .i64 nu, .int .i64 (k : Int), .int .i64 pl] 45 := by rw [hXX]; exact (CELL h1).alloc _
        have b2 : BK X w1.heap.size #[.bool sn, .int .i64 sa, .bool sx, .bool sm, .bool sb] 82 := by rw [hXX]; exact bk_new _ _ _
        have h1s : wr.heap.size < w1.heap.size := by have := h1.size; omega
        have HX1 : WT w W b bs x X lx := HX.out.on (by rw [hXX]; exact btr hWV.out (bal h1 _))
        rw [← hXX]
        clear hXX
        have BOX : ∀ {w9 : World}, Lib.OthersKept 5 (some b) X w9 → w9.cell? ⟨wr.heap.size, 0, none⟩ = some (.string kd) ∧ w9.cell? ⟨wr.heap.size, 1, none⟩ = some (.string nm) ∧ w9.cell? ⟨wr.heap.size, 2, none⟩ = some (.slice aa ag.length ac) ∧ w9.cell? ⟨wr.heap.size, 3, none⟩ = some (.int .i64 nu) ∧ w9.cell? ⟨wr.heap.size, 4, none⟩ = some (.int .i64 (k : Int)) ∧ w9.cell? ⟨wr.heap.size, 5, none⟩ = some (.int .i64 pl) ∧ w9.cell? ⟨w1.heap.size, 0, none⟩ = some (.bool sn) ∧ w9.cell? ⟨w1.heap.size, 1, none⟩ = some (.int .i64 sa) ∧ w9.cell? ⟨w1.heap.size, 2, none⟩ = some (.bool sx) ∧ w9.cell? ⟨w1.heap.size, 3, none⟩ = some (.bool sm) ∧ w9.cell? ⟨w1.heap.size, 4, none⟩ = some (.bool sb) ∧ w1.heap.size < w9.heap.size := fun h => by
          have d1 := ok_bk h b1 (by omega) (by decide)
          have d2 := ok_bk h b2 (by omega) (by decide)
          exact ⟨d1.cell 0, d1.cell 1, d1.cell 2, d1.cell 3, d1.cell 4, d1.cell 5, d2.cell 0, d2.cell 1, d2.cell 2, d2.cell 3, d2.cell 4, d2.lt⟩
        clear CELL SHA q0 ql b1 b2
        have BG := begin_any w X b _ lx d HX1.ws HX1.len (by omega)
        go_upto_region 4 with (go_at_call 52; (with_reducible refine BG.mono ?_); intro e w2 hR2; have k2 := hR2.2.2.1; rcases HX1.step hR2 with ⟨rfl, hX2⟩ | ⟨rfl, hP⟩)
        rotate_left
        · exact ⟨rfl, hP _ ⟨_, by rw [HYY.out]; simp only [List.append_assoc]; rfl⟩⟩
        obtain ⟨x0, x1, x2, x3, x4, x5, y0, y1, y2, y3, y4, yl⟩ := BOX k2
        clear BG hR2
        have SM2 := SM w2 _ hX2.ws hX2.len
        go_upto_region 5 with (go_at_call 53; (with_reducible refine SM2.mono ?_); intro e w3 hR3; have k3 := Lib.OthersKept.trans k2 hR3.2.2.1; rcases hX2.step hR3 with ⟨rfl, hX3⟩ | ⟨rfl, hP⟩)
        rotate_left
        · exact ⟨rfl, hP _ ⟨_, by rw [HYY.out]; simp only [List.append_assoc]; rfl⟩⟩
        clear SM SM2 hR3 x0 x1 x2 x3 x4 x5 y0 y1 y2 y3 y4 yl
        obtain ⟨x0, x1, x2, x3, x4, x5, y0, y1, y2, y3, y4, yl⟩ := BOX k3
        have EN := end_any w w3 b _ _ hX3.ws hX3.len
        go_upto_region 6 with (go_at_call 54; (with_reducible refine EN.mono ?_); intro e w4 hR4; have k4 := Lib.OthersKept.trans k3 hR4.2.2.1; rcases hX3.step hR4 with ⟨rfl, hX4⟩ | ⟨rfl, hP⟩)
        rotate_left
        · exact ⟨rfl, hP _ ⟨_, by rw [HYY.out]; simp only [List.append_assoc]; rfl⟩⟩
        clear EN hR4 x0 x1 x2 x3 x4 x5 y0 y1 y2 y3 y4 yl
        obtain ⟨x0, x1, x2, x3, x4, x5, y0, y1, y2, y3, y4, yl⟩ := BOX k4
        rcases hbd with ⟨rfl, hd2, hcb⟩ | ⟨rfl, hk0⟩
        · obtain ⟨a2, c2, hst, hS2⟩ := HS1.out.take k hkq
          have htk : (qs.take k).length = k := by rw [List.length_take]; omega
          have htl : (qs.take k).length ≤ qs.length := by omega
          rw [htk] at hst hS2
          clear htk
          have RC := HIH.out f (by omega) (qs.take k) (d + 1) (.slice a2 k c2) w w4 b _ _ (by omega) (by omega) hcb hS2 hX4.ws hX4.len HV.out (by omega) (HQ.out.take k)
          rw [show ((d + 1 : Nat) : Int) = (d : Int) + 1 by omega] at RC
          clear hS2 hcb
          go_upto_region 8 with (go_at_call 26; (with_reducible refine RC.mono ?_); intro e w5 hR5; have k5 := Lib.OthersKept.trans k4 hR5.ok; rcases hX4.stepB hR5 with ⟨rfl, l5, hX5⟩ | ⟨rfl, hP⟩)
          rotate_left
          · exact ⟨rfl, hP _ ⟨_, by rw [HYY.out, if_pos trivial]; simp only [List.append_assoc]; rfl⟩⟩
          clear RC hR5 x0 x1 x2 x3 x4 x5 y0 y1 y2 y3 y4 yl
          have BG := begin_any w w5 b _ _ d hX5.ws hX5.len (by omega)
          go_upto_region 9 with (go_at_call 52; (with_reducible refine BG.mono ?_); intro e w6 hR6; have k6 := Lib.OthersKept.trans k5 hR6.2.2.1; rcases hX5.step hR6 with ⟨rfl, hX6⟩ | ⟨rfl, hP⟩)
          rotate_left
          · exact ⟨rfl, hP _ ⟨_, by rw [HYY.out, if_pos trivial]; simp only [List.append_assoc]; rfl⟩⟩
          clear BG hR6
          have TK2 := TKN w6 _ hX6.ws hX6.len
          go_upto_region 10 with (go_at_call 55; (with_reducible refine TK2.mono ?_); intro e w7 hR7; have k7 := Lib.OthersKept.trans k6 hR7.2.2.1; rcases hX6.step hR7 with ⟨rfl, hX7⟩ | ⟨rfl, hP⟩)
          rotate_left
          · exact ⟨rfl, hP _ ⟨_, by rw [HYY.out, if_pos trivial]; simp only [List.append_assoc]; rfl⟩⟩
          clear TK2 hR7
          have EN := end_any w w7 b _ _ hX7.ws hX7.len
          go_upto_region 11 with (go_at_call 54; (with_reducible refine EN.mono ?_); intro e w8 hR8; have k8 := Lib.OthersKept.trans k7 hR8.2.2.1; rcases hX7.step hR8 with ⟨rfl, hX8⟩ | ⟨rfl, hP⟩)
          rotate_left
          · exact ⟨rfl, hP _ ⟨_, by rw [HYY.out, if_pos trivial]; simp only [List.append_assoc]; rfl⟩⟩
          clear EN hR8
          obtain ⟨x0, x1, x2, x3, x4, x5, y0, y1, y2, y3, y4, yl⟩ := BOX k8
          go_wp2
          go_roundg (f + 1)
          case measure => omega
          case rel => exact ⟨qs.drop k, f, rfl, by omega, by omega, by omega, HQ.out.drop k, HS3.out, HCD.out, _, _, hX8, by rw [HYY.out, if_pos trivial]; simp only [List.append_assoc]⟩
        · clear hk0
          go_wp2
          go_roundg (f + 1)
          case measure => omega
          case rel => exact ⟨qs.drop k, f, rfl, by omega, by omega, by omega, HQ.out.drop k, HS3.out, HCD.out, _, _, hX4, by rw [HYY.out, if_neg (by simp)]; simp only [List.append_assoc, List.nil_append]⟩
end Go.Proofs.YtiepbfeliehjnaaDoor
namespace Go.Proofs.YtiepbfeliehjnaaDoor
open Go.RowKit Go.Sort

theorem rhead_any (kd nm : ByteArray) (ag : List Ar) (nu ro pl : Int) (sh : Sh) (av : Value) (w W : World) (hk : shp kd = some sh) (hf : fitB ⟨kd, nm, ag, nu, ro, pl⟩ sh = true) (hS : SA w av ag) (hB : Below w.heap.size w W) (hnz : nm.size ≤ 1099511627776) (hl : ag.length ≤ 1099511627776) (hz : ∀ a ∈ ag, a.n.size ≤ 1099511627776) (hT : (hdB ⟨kd, nm, ag, nu, ro, pl⟩).length ≤ 1099511627776) :
    Calls Tryd.prog 49 #[.agg #[.string kd, .string nm, av, .int .i64 nu, .int .i64 ro, .int .i64 pl]] W fun e W' => e = .returned (.string ⟨(hdB ⟨kd, nm, ag, nu, ro, pl⟩).toArray⟩) ∧ Below W.heap.size W W' := by
  unfold fitB at hf
  simp only [Bool.and_eq_true] at hf
  obtain ⟨⟨⟨hf1, hf2⟩, _⟩, hf4⟩ := hf
  have hx : ∀ a ∈ ag, a.x ≤ 9007199254740991 := fun a ha => by
    have := List.all_eq_true.1 hf4 a ha
    unfold argOk numOk at this
    simp at this
    omega
  have hne : plnN nm = true → nm ≠ ⟨#[]⟩ := fun h => (lst_nm (plnN_p.1 h).1).1.1
  rcases shp_cases kd with ⟨rfl, e, _⟩ | ⟨rfl, e, _⟩ | ⟨rfl, e, _⟩ | ⟨rfl, e, _⟩ | ⟨rfl, e, _⟩ | ⟨rfl, e, _⟩ | ⟨rfl, e, _⟩ | ⟨rfl, e, _⟩ | ⟨_, _, _, _, _, _, _, _, e, _⟩
  all_goals rw [e] at hk
  all_goals cases hk
  · exact rhead_qubits nm ag nu ro pl av w W hS hB (hne hf1) hnz (numOk_p.1 hf2) hl hz hx hT
  · exact rhead_bits nm ag nu ro pl av w W hS hB (hne hf1) hnz (numOk_p.1 hf2) hl hz hx hT
  · exact rhead_gate nm ag nu ro pl av w W hS hB (hne hf1) hnz hl hz hx hT
  · obtain rfl : nm = ⟨#[]⟩ := of_decide_eq_true hf1
    exact rhead_repeat ag nu ro pl av w W hS hB (numOk_p.1 hf2) hl hz hx hT
  · exact rhead_if nm ag nu ro pl av w W hS hB (hne hf1) hnz (numOk_p.1 hf2) hl hz hx hT
  · obtain rfl : nm = ⟨#[]⟩ := of_decide_eq_true hf1
    exact rhead_measure ag nu ro pl av w W hS hB hl hz hx hT
  · obtain rfl : nm = ⟨#[]⟩ := of_decide_eq_true hf1
    exact rhead_reset ag nu ro pl av w W hS hB hl hz hx hT
  · exact rhead_use nm ag nu ro pl av w W hS hB (hne hf1) hnz hl hz hx hT
/-- Rows whose texts and lists are short enough. -/
def SzB (rs : List Rw) : Prop := ∀ r ∈ rs, r.name.size ≤ 1099511627776 ∧ r.args.length ≤ 1099511627776 ∧ ∀ a ∈ r.args, a.n.size ≤ 1099511627776
set_option maxHeartbeats 8000000 in
set_option maxRecDepth 100000 in
theorem lines_any (RS : List Rw) (v : Value) (w : World) (hS : SR w v RS) (hl : RS.length ≤ 1073741824) (hz : SzB RS) : ∀ (F0 : Nat) (F : Nat), F < F0 → ∀ (i j d : Nat) (A : ByteArray) (W : World), i ≤ j → j ≤ RS.length → j - i ≤ F → d ≤ 32 → A.data.toList = indB d → chk F d (mid RS i j) = true → (bodyB F d (mid RS i j)).length ≤ 1099511627776 → Below w.heap.size w W →
    Calls Tryd.prog 23 #[v, .int .i64 i, .int .i64 j, .string A] W fun e W' => e = .returned (.string ⟨(bodyB F d (mid RS i j)).toArray⟩) ∧ Below W.heap.size W W' := by
  obtain ⟨a, c, vs, rfl, hc, hv, hA, hR⟩ := hS
  have HA : Hid (∀ k (h : k < RS.length) (h' : k < vs.length), SA w vs[k] RS[k].args) := hA
  have HR : Hid (∀ k, k < RS.length → ∃ b o, a = some ⟨b, o, none⟩ ∧ RR w b o RS vs) := hR
  have HV : Hid (RS.length = vs.length) := hv
  have HZ : Hid (SzB RS) := hz
  clear hA hR hv hz
  intro F0
  induction F0 with
  | zero => intro F hF; omega
  | succ F0 ih =>
    intro F hF i j d A W hij hj hlen hd hAd hck hTT hB
    have HIH : Hid (∀ F, F < F0 → ∀ (i j d : Nat) (A : ByteArray) (W : World), i ≤ j → j ≤ RS.length → j - i ≤ F → d ≤ 32 → A.data.toList = indB d → chk F d (mid RS i j) = true → (bodyB F d (mid RS i j)).length ≤ 1099511627776 → Below w.heap.size w W →
      Calls Tryd.prog 23 #[.slice a RS.length c, .int .i64 i, .int .i64 j, .string A] W fun e W' => e = .returned (.string ⟨(bodyB F d (mid RS i j)).toArray⟩) ∧ Below W.heap.size W W') := ih
    have HB : Hid (Below w.heap.size w W) := hB
    have HAD : Hid (A.data.toList = indB d) := hAd
    have hAz : A.size ≤ 64 := by have : A.data.toList.length = A.size := rfl; rw [hAd, ind_len] at this; omega
    obtain ⟨Y, hY⟩ : ∃ Y, Y = bodyB F d (mid RS i j) := ⟨_, rfl⟩
    have HY : Hid (Y = bodyB F d (mid RS i j)) := hY
    have HCK : Hid (chk F d (mid RS i j) = true) := hck
    rw [← hY] at hTT ⊢
    clear ih hB hAd hY hck
    go_enter Tryd.func23, Tryd.ntmps23
    go_upto_region 3 with (fail)
    go_loopw [9, 10] (fun v9 v10 wr => ∃ (x f : Nat) (S : ByteArray), x ≤ j ∧ v9 = .string S ∧ v10 = .int .i64 x ∧ S.size ≤ 1099511627776 ∧ Hid (f ≤ F ∧ j - x ≤ f ∧ chk f d (mid RS x j) = true ∧ Y = S.data.toList ++ bodyB f d (mid RS x j) ∧ Below W.heap.size W wr)) (fun _ v10 _ => j - (intOf v10).toNat)
    case atStart => exact ⟨i, F, ⟨#[]⟩, hij, rfl, rfl, by decide, Nat.le_refl _, hlen, HCK.out, by rw [HY.out]; rfl, Below.refl _ _⟩
    case round =>
      clear HCK HY hij hlen
      obtain ⟨x, f, S, hx, rfl, rfl, hSz, hI⟩ := hrel
      obtain ⟨i1, i2, i3, i4, i5⟩ := hI.out
      clear hI
      by_cases hlt : x < j
      case neg =>
        obtain rfl : x = j := by omega
        have hE : Hid ((⟨Y.toArray⟩ : ByteArray) = S) := by
          show _ = _
          rw [i4, mid_nil RS (Nat.le_refl _)]
          have e : bodyB f d [] = [] := by cases f <;> rfl
          rw [e, List.append_nil]
        have I5 : Hid (Below W.heap.size W wr) := i5
        clear i1 i2 i3 i4 i5
        go_wp2
        go_ret
        exact ⟨by rw [hE.out]; rfl, I5.out⟩
      case pos =>
      have hxl : x < RS.length := by omega
      have hkv : x < vs.length := by rw [← HV.out]; exact hxl
      obtain ⟨b, o, rfl, r0⟩ := HR.out x hxl
      have hSA := HA.out x hxl hkv
      have rr := (r0.below HB.out).below i5
      have m0 := rr.c0 x hxl
      have m1 := rr.c1 x hxl
      have m2 := rr.c2 x hxl hkv
      have m3 := rr.c3 x hxl
      have m4 := rr.c4 x hxl
      have m5 := rr.c5 x hxl
      have ml := rr.lt
      obtain ⟨f, rfl⟩ : ∃ g, f = g + 1 := ⟨f - 1, by omega⟩
      rw [mid_cons RS hlt hj] at i3 i4
      have hml := mid_len RS (i := x + 1) hj
      have hqz := HZ.out _ (List.getElem_mem hxl)
      generalize RS[x] = r at *
      generalize vs[x] = av at *
      obtain ⟨kd, nm, ag, nu, ro, pl⟩ := r
      simp only at m0 m1 m2 m3 m4 m5 hSA hqz
      obtain ⟨sh, hk, hfit, hr0, hr1, hbd, hcd, hBB⟩ := chk_cons2 i3
      rw [hBB d, line_head hk hfit] at i4
      obtain ⟨k, rfl⟩ : ∃ k : Nat, ro = (k : Int) := ⟨ro.toNat, by omega⟩
      rw [Int.toNat_natCast] at hbd hcd i4
      have hkj : x + 1 + k ≤ j := by omega
      rw [mid_take RS hkj] at hbd i4
      rw [mid_drop] at hcd i4
      have hsp : ∃ aa ac, av = .slice aa ag.length ac := by obtain ⟨aa, ac, e, _⟩ := hSA; exact ⟨aa, ac, e⟩
      obtain ⟨aa, ac, rfl⟩ := hsp
      have hYL := congrArg List.length i4
      have hSd : S.data.toList.length = S.size := rfl
      simp only [List.length_append, ind_len] at hYL
      have HDA := fun w' h => rhead_any kd nm ag nu (k : Int) pl sh (.slice aa ag.length ac) w w' hk hfit hSA h hqz.1 hqz.2.1 hqz.2.2 (by omega)
      have hbk := body_kd hk
      obtain ⟨Hd, hHd⟩ : ∃ H : ByteArray, H = ⟨(hdB ⟨kd, nm, ag, nu, (k : Int), pl⟩).toArray⟩ := ⟨_, rfl⟩
      have hHz : Hd.size = (hdB ⟨kd, nm, ag, nu, (k : Int), pl⟩).length := by rw [hHd]; show (hdB _).toArray.size = _; rw [List.size_toArray]
      have HHd : Hid (Hd.data.toList = hdB ⟨kd, nm, ag, nu, (k : Int), pl⟩) := by show Hd.data.toList = _; rw [hHd]
      rw [← hHd] at HDA
      rw [← hHz] at hYL
      have HI4 : Hid _ := i4
      have I5 : Hid (Below W.heap.size W wr) := i5
      have HCD : Hid (chk f d (mid RS (x + 1 + k) j) = true) := hcd
      clear rr r0 hSA hk hfit hBB hHd hHz i3 i4 i5 hcd hr0 hr1 hml hqz
      obtain ⟨V, hV⟩ : ∃ V, V = wr.alloc (.cells #[.string kd, .string nm, .slice aa ag.length ac, .int .i64 nu, .int .i64 (k : Int), .int .i64 pl] 45) := ⟨_, rfl⟩
      have bV : BK V wr.heap.size #[.string kd, .string nm, .slice aa ag.length ac, .int .i64 nu, .int .i64 (k : Int), .int .i64 pl] 45 := by rw [hV]; exact bk_new _ _ _
      have hWV : Below W.heap.size W V := by rw [hV]; exact bal I5.out _
      have hVB : Below w.heap.size w V := btr HB.out hWV
      have BOX : ∀ {w9 : World}, Below V.heap.size V w9 → w9.cell? ⟨wr.heap.size, 0, none⟩ = some (.string kd) ∧ w9.cell? ⟨wr.heap.size, 4, none⟩ = some (.int .i64 (k : Int)) ∧ wr.heap.size < w9.heap.size := fun h => by
        have b9 : BK _ wr.heap.size _ _ := (h.block _ bV.lt).trans bV
        exact ⟨b9.cell 0, b9.cell 4, b9.lt⟩
      have HV2 : Hid (V = wr.alloc (.cells #[.string kd, .string nm, .slice aa ag.length ac, .int .i64 nu, .int .i64 (k : Int), .int .i64 pl] 45)) := hV
      have v0 := bV.cell 0
      have v1 := bV.cell 1
      have v2 := bV.cell 2
      have v3 := bV.cell 3
      have v4 := bV.cell 4
      have v5 := bV.cell 5
      have vl := bV.lt
      simp at v0 v1 v2 v3 v4 v5
      clear bV hV
      go_upto_region 6 with (fail)
      rw [← HV2.out]
      clear HV2 m0 m1 m2 m3 m4 m5 ml
      have hkd : (kd = wGate ∨ kd = wRepeat ∨ kd = wIf) ∨ (kd ≠ wGate ∧ kd ≠ wRepeat ∧ kd ≠ wIf) := by
        by_cases h1 : kd = wGate
        · exact .inl (.inl h1)
        by_cases h2 : kd = wRepeat
        · exact .inl (.inr (.inl h2))
        by_cases h3 : kd = wIf
        · exact .inl (.inr (.inr h3))
        · exact .inr ⟨h1, h2, h3⟩
      have k1 : ¬ 9223372036854775807 < S.size + A.size := by omega
      have k2 : ¬ 9223372036854775807 < (S ++ A).size + Hd.size := by rw [ByteArray.size_append]; omega
      have k2' : ¬ 9223372036854775807 < S.size + A.size + Hd.size := by omega
      have hxk : x + k + 1 ≤ j := by omega
      have eK : x + k + 1 = x + 1 + k := by omega
      rcases hkd with hkd | ⟨g1, g2, g3⟩
      case inr =>
        have hbf : bodyKd kd = false := by unfold bodyKd; rw [decide_eq_false g1, decide_eq_false g2, decide_eq_false g3]; rfl
        have q1 := ne_lit g1
        have q2 := ne_lit g2
        have q3 := ne_lit g3
        rw [hbf] at hbk
        rw [hbk, if_neg (by simp), if_neg (by simp)] at hYL
        simp only [List.length_cons, List.length_nil] at hYL
        have k3 : ¬ 9223372036854775807 < (S ++ A ++ Hd).size + (⟨#[59, 10]⟩ : ByteArray).size := by rw [ByteArray.size_append, ByteArray.size_append]; show ¬ 9223372036854775807 < S.size + A.size + Hd.size + 2; omega
        have k3' : ¬ 9223372036854775807 < S.size + A.size + Hd.size + 2 := by omega
        have NX : Hid ((S ++ A ++ Hd ++ (⟨#[59, 10]⟩ : ByteArray)).size ≤ 1099511627776 ∧ Y = (S ++ A ++ Hd ++ (⟨#[59, 10]⟩ : ByteArray)).data.toList ++ bodyB f d (mid RS (x + k + 1) j)) := by
          refine ⟨?_, ?_⟩
          · rw [ByteArray.size_append, ByteArray.size_append, ByteArray.size_append]
            show S.size + A.size + Hd.size + 2 ≤ _
            have : A.data.toList.length = A.size := rfl
            rw [HAD.out, ind_len] at this
            omega
          · rw [HI4.out, hbk, eK]
            simp [ByteArray.data_append, HAD.out, HHd.out]
        clear g1 g2 g3 hbf hbk hbd HI4 hYL
        go_wp2_with (go_at_call 49; (with_reducible refine (HDA _ hVB).mono ?_); rintro e w1 ⟨rfl, h1⟩; obtain ⟨y0, y4, yl⟩ := BOX h1)
        go_roundw
        case rel => exact ⟨x + k + 1, f, _, hxk, rfl, by go_num, NX.out.1, by omega, by omega, by rw [eK]; exact HCD.out, NX.out.2, btr hWV h1⟩
        case measure => simp [intOf]; omega
      case inl =>
        have hbt : bodyKd kd = true := by unfold bodyKd; rcases hkd with rfl | rfl | rfl <;> decide
        rw [hbt] at hbk
        rw [hbk, if_pos rfl, if_pos rfl] at hYL
        simp only [List.length_append, ind_len, List.length_cons, List.length_nil] at hYL
        rw [hbk] at hbd
        obtain ⟨hd2, hcb⟩ : d < 32 ∧ chk f (d + 1) (mid RS (x + 1) (x + 1 + k)) = true := by
          rcases hbd with ⟨_, h1, h2⟩ | ⟨h, _⟩
          · exact ⟨h1, h2⟩
          · cases h
        obtain ⟨L, hL⟩ : ∃ L : ByteArray, L = ⟨(bodyB f (d + 1) (mid RS (x + 1) (x + 1 + k))).toArray⟩ := ⟨_, rfl⟩
        have hLz : L.size = (bodyB f (d + 1) (mid RS (x + 1) (x + 1 + k))).length := by rw [hL]; show (bodyB _ _ _).toArray.size = _; rw [List.size_toArray]
        have HLL : Hid (L.data.toList = bodyB f (d + 1) (mid RS (x + 1) (x + 1 + k))) := by show L.data.toList = _; rw [hL]
        rw [← hLz] at hYL
        have hA2 : (A ++ ⟨#[32, 32]⟩ : ByteArray).data.toList = indB (d + 1) := by rw [ind_succ, ← HAD.out]; simp [ByteArray.data_append]
        have RC : ∀ w', Below w.heap.size w w' → Calls Tryd.prog 23 #[.slice (some ⟨b, o, none⟩) RS.length c, .int .i64 ((x : Int) + 1), .int .i64 ((x : Int) + 1 + (k : Int)), .string (A ++ ⟨#[32, 32]⟩)] w' fun e W' => e = .returned (.string L) ∧ Below w'.heap.size w' W' := fun w' h => by
          have := HIH.out f (by omega) (x + 1) (x + 1 + k) (d + 1) _ w' (by omega) (by omega) (by omega) (by omega) hA2 hcb (by omega) h
          rw [← hL] at this
          rwa [show ((x + 1 : Nat) : Int) = (x : Int) + 1 by omega, show ((x + 1 + k : Nat) : Int) = (x : Int) + 1 + (k : Int) by omega] at this
        have hLb : S.size + A.size + Hd.size + L.size + A.size ≤ 1099511627776 := by
          have : A.data.toList.length = A.size := rfl
          rw [HAD.out, ind_len] at this
          omega
        have k3 : ¬ 9223372036854775807 < (S ++ A ++ Hd).size + (⟨#[32, 123, 10]⟩ : ByteArray).size := by rw [ByteArray.size_append, ByteArray.size_append]; show ¬ 9223372036854775807 < S.size + A.size + Hd.size + 3; omega
        have k3' : ¬ 9223372036854775807 < S.size + A.size + Hd.size + 3 := by omega
        have k4 : ¬ 9223372036854775807 < A.size + (⟨#[32, 32]⟩ : ByteArray).size := by show ¬ 9223372036854775807 < A.size + 2; omega
        have k4' : ¬ 9223372036854775807 < A.size + 2 := by omega
        have k5 : ¬ 9223372036854775807 < (S ++ A ++ Hd ++ (⟨#[32, 123, 10]⟩ : ByteArray)).size + L.size := by rw [ByteArray.size_append, ByteArray.size_append, ByteArray.size_append]; show ¬ 9223372036854775807 < S.size + A.size + Hd.size + 3 + L.size; omega
        have k5' : ¬ 9223372036854775807 < S.size + A.size + Hd.size + 3 + L.size := by omega
        have k6 : ¬ 9223372036854775807 < (S ++ A ++ Hd ++ (⟨#[32, 123, 10]⟩ : ByteArray) ++ L).size + A.size := by rw [ByteArray.size_append, ByteArray.size_append, ByteArray.size_append, ByteArray.size_append]; show ¬ 9223372036854775807 < S.size + A.size + Hd.size + 3 + L.size + A.size; omega
        have k6' : ¬ 9223372036854775807 < S.size + A.size + Hd.size + 3 + L.size + A.size := by omega
        have k7 : ¬ 9223372036854775807 < (S ++ A ++ Hd ++ (⟨#[32, 123, 10]⟩ : ByteArray) ++ L ++ A).size + (⟨#[125, 10]⟩ : ByteArray).size := by rw [ByteArray.size_append, ByteArray.size_append, ByteArray.size_append, ByteArray.size_append, ByteArray.size_append]; show ¬ 9223372036854775807 < S.size + A.size + Hd.size + 3 + L.size + A.size + 2; omega
        have k7' : ¬ 9223372036854775807 < S.size + A.size + Hd.size + 3 + L.size + A.size + 2 := by omega
        have NX : Hid ((S ++ A ++ Hd ++ (⟨#[32, 123, 10]⟩ : ByteArray) ++ L ++ A ++ (⟨#[125, 10]⟩ : ByteArray)).size ≤ 1099511627776 ∧ Y = (S ++ A ++ Hd ++ (⟨#[32, 123, 10]⟩ : ByteArray) ++ L ++ A ++ (⟨#[125, 10]⟩ : ByteArray)).data.toList ++ bodyB f d (mid RS (x + k + 1) j)) := by
          refine ⟨?_, ?_⟩
          · rw [ByteArray.size_append, ByteArray.size_append, ByteArray.size_append, ByteArray.size_append, ByteArray.size_append, ByteArray.size_append]
            show S.size + A.size + Hd.size + 3 + L.size + A.size + 2 ≤ _
            have : A.data.toList.length = A.size := rfl
            rw [HAD.out, ind_len] at this
            omega
          · rw [HI4.out, hbk, eK]
            simp [ByteArray.data_append, HAD.out, HHd.out, HLL.out]
        clear hbt hbk hbd HI4 hYL hL hLz hcb hA2
        rcases hkd with rfl | rfl | rfl
        all_goals
          go_wp2_with (first | (go_at_call 49; (with_reducible refine (HDA _ hVB).mono ?_); rintro e w1 ⟨rfl, h1⟩; obtain ⟨y0, y4, yl⟩ := BOX h1) | (go_at_call 23; (with_reducible refine (RC _ (btr hVB h1)).mono ?_); rintro e w2 ⟨rfl, h2⟩; obtain ⟨z0, z4, zl⟩ := BOX (btr h1 h2)))
          go_roundw
          case rel => exact ⟨x + k + 1, f, _, hxk, rfl, by go_num, NX.out.1, by omega, by omega, by rw [eK]; exact HCD.out, NX.out.2, btr (btr hWV h1) h2⟩
          case measure => simp [intOf]; omega
end Go.Proofs.YtiepbfeliehjnaaDoor
namespace Go.Proofs.YtiepbfeliehjnaaDoor

theorem AllT.suf {l r : List Tk} (h : AllT l) (hs : r <:+ l) : AllT r := fun t ht => h t (hs.mem ht)
theorem AllR.all {l : List Tk} (h : AllR l) : AllT l := fun t ht => by
  obtain ⟨k, hk, rfl⟩ := List.getElem_of_mem ht
  exact h k hk
theorem name_chk {n : Int} {l r : List Tk} {a : ByteArray} (h : nameP n l = .ok (a, r)) (hr : AllT l) : plnN a = true := by
  obtain ⟨t, rfl, rfl, hp⟩ := nameP_len h
  have := hr t List.mem_cons_self
  unfold plnB at hp
  simp at hp
  unfold rightB at this
  rw [if_pos hp.1] at this
  exact plnN_p.2 ⟨this, hp.2⟩
theorem arg_chk {n : Int} {ix : Bool} {l r : List Tk} {a : Ar} (h : argP n ix l = .ok (a, r)) (hr : AllT l) : argOk ix a = true := by
  unfold argP at h
  cases hn : nameP n l with
  | error e => rw [hn] at h; cases h
  | ok y =>
    obtain ⟨b, r1⟩ := y
    have hb := name_chk hn hr
    rw [hn] at h
    simp only at h
    by_cases hc : ix = true ∧ seesB wLeft r1 = true
    · rw [if_pos hc] at h
      cases hx : numP n r1.tail with
      | error e => rw [hx] at h; cases h
      | ok y =>
        obtain ⟨x, r3⟩ := y
        rw [hx] at h
        simp only at h
        obtain ⟨_, _, _, _, hle⟩ := numP_len hx
        cases hs : signP n wRight r3 with
        | error e => rw [hs] at h; cases h
        | ok y =>
          rw [hs] at h
          cases h
          exact argOk_p.2 ⟨hb, .inr ⟨hc.1, numOk_p.2 ⟨by show 0 ≤ (x : Int); omega, by show (x : Int) ≤ _; omega⟩⟩⟩
    · rw [if_neg hc] at h
      cases h
      exact argOk_p.2 ⟨hb, .inl rfl⟩
theorem args_chk {n : Int} {sh : Sh} (_hsh : -1 ≤ sh.args) : ∀ (f : Nat) {acc aa : List Ar} {l r : List Tk}, l.length < f → AllT l → argsP n sh f acc l = .ok (aa, r) → acc.all (argOk sh.idx) = true → (sh.args = -1 ∨ (acc.length : Int) ≤ sh.args) → aa.all (argOk sh.idx) = true ∧ (sh.args = -1 ∨ (aa.length : Int) = sh.args) := by
  intro f
  induction f with
  | zero => intro acc aa l r hf; omega
  | succ f ih =>
    intro acc aa l r hf hr h ha hc
    unfold argsP at h
    by_cases hm : moreB sh acc.length l = true
    · rw [if_pos hm] at h
      cases he : argP n sh.idx l with
      | error e => rw [he] at h; cases h
      | ok y =>
        obtain ⟨a, r1⟩ := y
        rw [he] at h
        have hlen := argP_len he
        refine ih (by omega) (hr.suf (argP_suf he)) h (by rw [List.all_append, ha]; simp [arg_chk he hr]) ?_
        unfold moreB at hm
        rcases hc with hc | hc
        · exact .inl hc
        · right
          simp at hm ⊢
          rcases hm with hm | hm
          · omega
          · omega
    · rw [if_neg hm] at h
      cases h
      refine ⟨ha, ?_⟩
      rcases hc with hc | hc
      · exact .inl hc
      · by_cases e : sh.args = -1
        · exact .inl e
        · right
          unfold moreB at hm
          rw [decide_eq_false e] at hm
          simp at hm
          omega
theorem shK_args (t : Tk) : -1 ≤ (shK t).args ∧ ((shK t).args = -1 ∨ 0 ≤ (shK t).args) ∧ (shp (kindK t)).isSome = true := by
  have hk : (shp (kindK t)).isSome = true := by
    unfold kindK
    by_cases h : ownB t.t = true
    · rw [if_pos h]
      rcases shp_cases t.t with ⟨_, e, _⟩ | ⟨_, e, _⟩ | ⟨_, e, _⟩ | ⟨_, e, _⟩ | ⟨_, e, _⟩ | ⟨_, e, _⟩ | ⟨_, e, _⟩ | ⟨_, e, o⟩ | ⟨_, _, _, _, _, _, _, _, e, o⟩
      all_goals first | (rw [e]; rfl) | (rw [o] at h; cases h)
    · rw [if_neg h]; decide
  have := shR_cases (r := ⟨kindK t, ⟨#[]⟩, [], 0, 0, 0⟩) hk
  have e : shR (⟨kindK t, ⟨#[]⟩, [], 0, 0, 0⟩ : Rw) = shK t := rfl
  rw [e] at this
  refine ⟨?_, ?_, hk⟩
  · rcases this with h | h | h | h | h | h | h <;> rw [h] <;> decide
  · rcases this with h | h | h | h | h | h | h <;> rw [h] <;> decide
theorem mid_chk {n : Int} {t : Tk} {l r : List Tk} {nm : ByteArray} {aa : List Ar} {x : Nat} {p : Int} (h : midP n (shK t) l = .ok ((nm, aa, x, p), r)) (hr : AllT l) (k q : Int) : fitB ⟨kindK t, nm, aa, (x : Nat), k, q⟩ (shK t) = true := by
  obtain ⟨l1, l2, l3, u, h1, h2, h3, h4, _⟩ := mid_cases h
  obtain ⟨s1, s2, _⟩ := shK_args t
  have hr1 := hr.suf (optName_suf h1)
  obtain ⟨ha, hc⟩ := args_chk s1 _ (by omega) hr1 h2 rfl (by simpa using s2)
  unfold fitB
  simp only [Bool.and_eq_true]
  refine ⟨⟨⟨?_, ?_⟩, ?_⟩, ha⟩
  · unfold optName at h1
    by_cases e : (shK t).name = true
    · rw [if_pos e] at h1 ⊢; exact name_chk h1 hr
    · rw [if_neg e] at h1 ⊢; cases h1; simp
  · unfold optNum at h3
    by_cases e : (shK t).num = true
    · rw [if_pos e] at h3 ⊢
      obtain ⟨_, _, _, _, hle⟩ := numP_len h3
      exact numOk_p.2 ⟨by omega, by omega⟩
    · rw [if_neg e] at h3 ⊢; cases h3; simp
  · rw [Bool.or_eq_true]
    rcases hc with hc | hc
    · exact .inl (decide_eq_true hc)
    · exact .inr (decide_eq_true hc)
/-- A row with its body, and what is behind it. -/
theorem chk_put {F d : Nat} {r : Rw} {b c : List Rw} (hk : (shp r.kind).isSome = true) (hf : fitB r (shR r) = true) (hr : r.rows = b.length) (hb : ((shR r).body = true ∧ d < 32 ∧ chk F (d + 1) b = true) ∨ ((shR r).body = false ∧ b = [])) (hc : chk F d c = true) : chk (F + 1) d (r :: (b ++ c)) = true := by
  unfold chk
  have e1 : r.rows.toNat = b.length := by omega
  rw [e1, List.take_left, List.drop_left, hk, hf, hc, decide_eq_true (show 0 ≤ r.rows by omega), decide_eq_true (show r.rows ≤ ((b ++ c).length : Int) by rw [List.length_append]; omega)]
  rcases hb with ⟨h1, h2, h3⟩ | ⟨h1, rfl⟩
  · rw [if_pos h1, h3, decide_eq_true h2]; rfl
  · rw [if_neg (by rw [h1]; simp), decide_eq_true (by simpa using hr)]; rfl
theorem restK_all {t : Tk} {u : List Tk} (h : AllT (t :: u)) : AllT (restK t u) := by
  unfold restK
  by_cases e : ownB t.t = true
  · rw [if_pos e]; exact fun x hx => h x (List.mem_cons_of_mem _ hx)
  · rw [if_neg e]; exact h
theorem restK_su (t : Tk) (u : List Tk) : restK t u <:+ t :: u := by
  unfold restK
  by_cases e : ownB t.t = true
  · rw [if_pos e]; exact List.suffix_cons _ _
  · rw [if_neg e]; exact List.suffix_refl _
theorem stmt_chk {n : Int} {g d : Nat} {l r : List Tk} {rs : List Rw} (ih : ∀ (d : Nat) (l r : List Tk) (rs : List Rw), stmtsP n g d l = .ok (rs, r) → AllT l → r <:+ l ∧ ∀ F, rs.length ≤ F → chk F d rs = true) (h : stmtP n (stmtsP n g) d l = .ok (rs, r)) (hr : AllT l) :
    r <:+ l ∧ ∀ c F, chk F d c = true → (rs ++ c).length ≤ F + 1 → chk (F + 1) d (rs ++ c) = true := by
  obtain ⟨t, u, nm, aa, x, p, l4, rfl, hm, hh⟩ := stmt_cases h
  have hf := fun k q => mid_chk hm (restK_all hr) k q
  have hk := (shK_args t).2.2
  have hsu : l4 <:+ t :: u := (midP_suf hm).trans (restK_su t u)
  rcases hh with ⟨hb, rfl, rfl⟩ | ⟨hb, hd, rs2, l5, hrec, rfl, rfl⟩
  · exact ⟨hsu, fun c F hc _ => chk_put (b := []) hk (hf _ _) rfl (.inr ⟨hb, rfl⟩) hc⟩
  · obtain ⟨s5, hch⟩ := ih _ _ _ _ hrec (hr.suf hsu)
    refine ⟨((List.tail_suffix l5).trans s5).trans hsu, fun c F hc hlen => ?_⟩
    have : rs2.length ≤ F := by simp at hlen; omega
    exact chk_put (b := rs2) hk (hf _ _) rfl (.inl ⟨hb, by omega, hch F this⟩) hc
theorem chk_nil (F d : Nat) : chk F d [] = true := by cases F <;> rfl
theorem stmt_one {n : Int} {g d : Nat} {l r : List Tk} {rs : List Rw} (h : stmtP n (stmtsP n g) d l = .ok (rs, r)) : 1 ≤ rs.length := by
  obtain ⟨t, u, nm, aa, x, p, l4, rfl, hm, hh⟩ := stmt_cases h
  rcases hh with ⟨hb, rfl, rfl⟩ | ⟨hb, hd, rs2, l5, hrec, rfl, rfl⟩
  · exact Nat.le_refl _
  · simp
theorem stmts_chk {n : Int} : ∀ (f d : Nat) (l r : List Tk) (rs : List Rw), stmtsP n f d l = .ok (rs, r) → AllT l → r <:+ l ∧ ∀ F, rs.length ≤ F → chk F d rs = true := by
  intro f
  induction f with
  | zero => intro d l r rs h; cases h
  | succ f ih =>
    intro d l r rs h hr
    rcases stmts_cases h with ⟨_, rfl, rfl⟩ | ⟨_, rs1, r1, rs2, h1, h2, rfl⟩
    · exact ⟨List.suffix_refl _, fun F _ => chk_nil F d⟩
    · obtain ⟨s1, c1⟩ := stmt_chk ih h1 hr
      obtain ⟨s2, c2⟩ := ih _ _ _ _ h2 (hr.suf s1)
      have h0 := stmt_one h1
      refine ⟨s2.trans s1, fun F hF => ?_⟩
      rw [List.length_append] at hF
      obtain ⟨G, rfl⟩ : ∃ G, F = G + 1 := ⟨F - 1, by omega⟩
      exact c1 rs2 G (c2 G (by omega)) (by rw [List.length_append]; exact hF)
theorem prog_chk {n : Int} : ∀ (f : Nat) (l : List Tk) (rs : List Rw), progP n f l = .ok rs → AllT l → ∀ F, rs.length ≤ F → chk F 0 rs = true := by
  intro f
  induction f with
  | zero => intro l rs h; cases h
  | succ f ih =>
    intro l rs h hr F hF
    rcases prog_cases h with ⟨_, rfl⟩ | ⟨_, rs1, r1, rs2, h1, h2, rfl⟩
    · exact chk_nil F 0
    · obtain ⟨s1, c1⟩ := stmt_chk (stmts_chk f) h1 hr
      have h0 := stmt_one h1
      rw [List.length_append] at hF
      obtain ⟨G, rfl⟩ : ∃ G, F = G + 1 := ⟨F - 1, by omega⟩
      exact c1 rs2 G (ih _ _ h2 (hr.suf s1) G (by omega)) (by rw [List.length_append]; exact hF)
theorem pout_chk {s : ByteArray} {rs : List Rw} {a : Int} {e : Nat} (h : POut s rs a e) : chk rs.length 0 rs = true := by
  obtain ⟨l, a0, e0, ho, hh⟩ := h
  rcases hh with ⟨_, rfl, _⟩ | ⟨rfl, hh⟩
  · rfl
  · rcases hh with ⟨_, _, _, rfl, _⟩ | ⟨hp, _⟩
    · rfl
    · have hr : AllR l := by
        rcases ho with ⟨_, _, _, h⟩ | ⟨_, h, _⟩ | ⟨_, _, h, _⟩
        · cases h
        · exact h.right
        · cases h
      exact prog_chk _ _ _ hp hr.all _ (Nat.le_refl _)
/-- What Show tells. -/
def SOut (rs : List Rw) (s : ByteArray) (e : Nat) : Prop :=
  (chk rs.length 0 rs = false ∧ s = ⟨#[]⟩ ∧ e = 100) ∨ (chk rs.length 0 rs = true ∧ 65536 < (bodyB rs.length 0 rs).length ∧ s = ⟨#[]⟩ ∧ e = 1) ∨ (chk rs.length 0 rs = true ∧ (bodyB rs.length 0 rs).length ≤ 65536 ∧ s = ⟨(bodyB rs.length 0 rs).toArray⟩ ∧ e = 0)
theorem sout_ex (rs : List Rw) : ∃ s e, SOut rs s e := by
  cases h : chk rs.length 0 rs with
  | false => exact ⟨_, _, .inl ⟨h, rfl, rfl⟩⟩
  | true =>
    by_cases hl : 65536 < (bodyB rs.length 0 rs).length
    · exact ⟨_, _, .inr (.inl ⟨h, hl, rfl, rfl⟩)⟩
    · exact ⟨_, _, .inr (.inr ⟨h, by omega, rfl, rfl⟩)⟩
theorem SOut.like {a b : List Rw} {s : ByteArray} {e : Nat} (h : SOut a s e) (hl : RL a b) : SOut b s e := by
  unfold SOut at *
  rw [← hl.len, ← hl.chk, ← hl.body]
  exact h
end Go.Proofs.YtiepbfeliehjnaaDoor
namespace Go.Proofs.YtiepbfeliehjnaaDoor
open Go.RowKit Go.Sort

theorem mid_all (RS : List Rw) : mid RS 0 RS.length = RS := by unfold mid; rw [List.drop_zero, Nat.sub_zero, List.take_length]
theorem SzB.szs {rs : List Rw} (h : SzB rs) : Szs rs := fun r hr => by
  obtain ⟨h1, h2, h3⟩ := h r hr
  exact ⟨by omega, by omega, fun a ha => by have := h3 a ha; omega⟩
set_option maxHeartbeats 2000000 in
set_option maxRecDepth 100000 in
theorem rshow_any (RS : List Rw) (v : Value) (s : ByteArray) (e : Nat) (w W : World) (hS : SR w v RS) (hB : Below w.heap.size w W) (hl : RS.length ≤ 1073741824) (hz : SzB RS) (hT : chk RS.length 0 RS = true → (bodyB RS.length 0 RS).length ≤ 1099511627776) (ho : SOut RS s e) :
    Calls Tryd.prog 14 #[v] W fun x W' => x = .returned (.tuple #[.string s, .int .i64 e]) ∧ Below W.heap.size W W' := by
  have RG : ∀ W, Below w.heap.size w W → Calls Tryd.prog 22 #[v, .int .i64 0, .int .i64 (RS.length : Nat), .int .i64 0] W fun e W' => e = .returned (.bool (chk RS.length 0 RS)) ∧ Below W.heap.size W W' := fun W h => by
    refine (right_any RS v w hS hl hz.szs (RS.length + 1) RS.length (by omega) 0 RS.length 0 W (by omega) (by omega) (by omega) (by omega) h).mono ?_
    rintro x W' ⟨⟨b, hx, hb, _⟩, h2⟩
    rw [mid_all] at hb
    exact ⟨by rw [hx, hb (by omega)], h2⟩
  have LN : chk RS.length 0 RS = true → ∀ W, Below w.heap.size w W → Calls Tryd.prog 23 #[v, .int .i64 0, .int .i64 (RS.length : Nat), .string ⟨#[]⟩] W fun e W' => e = .returned (.string ⟨(bodyB RS.length 0 RS).toArray⟩) ∧ Below W.heap.size W W' := fun hc W h => by
    have := lines_any RS v w hS hl hz (RS.length + 1) RS.length (by omega) 0 RS.length 0 ⟨#[]⟩ W (by omega) (by omega) (by omega) (by omega) rfl (by rw [mid_all]; exact hc) (by rw [mid_all]; exact hT hc) h
    rw [mid_all] at this
    exact this
  obtain ⟨a, c, rfl⟩ : ∃ a c, v = .slice a RS.length c := by obtain ⟨a, c, _, e, _⟩ := hS; exact ⟨a, c, e⟩
  have RG0 := RG W hB
  rcases ho with ⟨hc, rfl, rfl⟩ | ⟨hc, hlen, rfl, rfl⟩ | ⟨hc, hlen, rfl, rfl⟩
  · rw [hc] at RG0
    clear LN RG hc hS hz hT
    go_enter Tryd.func14, Tryd.ntmps14
    go_wp2_with (go_at_call 22; (with_reducible refine RG0.mono ?_); rintro e w1 ⟨rfl, h1⟩)
    go_ret2
    exact ⟨rfl, h1⟩
  · have LN0 := fun w1 h => LN hc w1 (btr hB h)
    rw [hc] at RG0
    have hTz : (⟨(bodyB RS.length 0 RS).toArray⟩ : ByteArray).size = (bodyB RS.length 0 RS).length := by show (bodyB _ _ _).toArray.size = _; rw [List.size_toArray]
    replace hT := hT hc
    rw [← hTz] at hlen hT
    clear LN RG hc hS hz hTz
    generalize (⟨(bodyB RS.length 0 RS).toArray⟩ : ByteArray) = TX at *
    go_enter Tryd.func14, Tryd.ntmps14
    go_wp2_with (first | (go_at_call 22; (with_reducible refine RG0.mono ?_); rintro e w1 ⟨rfl, h1⟩) | (go_at_call 23; (with_reducible refine (LN0 _ h1).mono ?_); rintro e w2 ⟨rfl, h2⟩))
    go_ret2
    exact ⟨rfl, btr h1 h2⟩
  · have LN0 := fun w1 h => LN hc w1 (btr hB h)
    rw [hc] at RG0
    have hTz : (⟨(bodyB RS.length 0 RS).toArray⟩ : ByteArray).size = (bodyB RS.length 0 RS).length := by show (bodyB _ _ _).toArray.size = _; rw [List.size_toArray]
    replace hT := hT hc
    rw [← hTz] at hlen hT
    clear LN RG hc hS hz hTz
    generalize (⟨(bodyB RS.length 0 RS).toArray⟩ : ByteArray) = TX at *
    go_enter Tryd.func14, Tryd.ntmps14
    go_wp2_with (first | (go_at_call 22; (with_reducible refine RG0.mono ?_); rintro e w1 ⟨rfl, h1⟩) | (go_at_call 23; (with_reducible refine (LN0 _ h1).mono ?_); rintro e w2 ⟨rfl, h2⟩))
    go_ret2
    exact ⟨rfl, btr h1 h2⟩
end Go.Proofs.YtiepbfeliehjnaaDoor
namespace Go.Proofs.YtiepbfeliehjnaaDoor
open Go.RowKit Go.Sort

set_option maxHeartbeats 2000000 in
set_option maxRecDepth 100000 in
theorem string_some (w W : World) (b : Nat) (l : List UInt8) (last : ByteArray) (H : WS w W b l last) (h0 : l ≠ []) (h6 : l.length ≤ 65536) :
    Calls Tryd.prog 27 #[.pointer (some ⟨b, 0, none⟩)] W fun e W' => e = .returned (.string ⟨l.toArray⟩) ∧ Below w.heap.size w W' := by
  obtain ⟨p, v, hbk, _, hown⟩ := H.ex
  have hl0 : l.length ≠ 0 := by simpa using h0
  have hB : Hid (Below w.heap.size w W) := H.below
  obtain ⟨g, cap, cur, rfl, hbg, hg, hnc, hcm, hcs, htake⟩ : ∃ g cap cur, v = .slice (some ⟨g, 0, none⟩) l.length cap ∧ w.heap.size ≤ g ∧ W.heap[g]? = some (.cells cur 5 (0, 0)) ∧ l.length ≤ cap ∧ cap ≤ maxLen ∧ cur.size = cap * 1 ∧ cur.toList.take (l.length * 1) = Lib.byteCells l := by
    rcases hown.2 with ⟨_, hz⟩ | ⟨g, cap, cur, hv, r⟩
    · exact absurd hz hl0
    · exact ⟨g, cap, cur, hv, r⟩
  have c1 : W.drew.cell? ⟨b, 1, none⟩ = some (.slice (some ⟨g, 0, none⟩) l.length cap) := hbk.drew.cell 1
  have hSD : (Builtin.unsafeSliceData_ #[66] 88 #[.slice (some ⟨g, 0, none⟩) l.length cap]).run Tryd.prog W.drew = .ok (.pointer (some ⟨g, 0, none⟩)) W.drew :=
    Lib.run_unsafeSliceData_row _ _ _ _ _ _ (by omega)
  have hUS : (Builtin.unsafeString_ #[88, 3] 9 #[.pointer (some ⟨g, 0, none⟩), .int .i64 l.length]).run Tryd.prog W.drew = .ok (.string ⟨l.toArray⟩) (W.drew.freeze ⟨g, 0, none⟩ l.length) := by
    refine Lib.run_unsafeString_row W.drew 88 3 9 5 Tryd.underlying88 (by kernel_rfl) g cur.size (by have hg' : W.drew.heap[g]? = some (.cells cur 5 (0, 0)) := hg; simp [World.shape?, hg']) l h0 (by omega) (by omega) ?_
    intro j x hx
    have := hown.cells (g := g) rfl j (.int .u8 x.toNat) (by simp [Lib.byteCells, hx])
    exact this
  clear hbk hown hg htake hcs hcm hnc
  go_enter Tryd.func27, Tryd.ntmps27
  go_wp2
  go_region
  all_goals (go_wp2; go_ret; exact ⟨rfl, Lib.below_freeze (below_drew hB.out) (p := ⟨g, 0, none⟩) hbg _⟩)
set_option maxHeartbeats 2000000 in
set_option maxRecDepth 100000 in
/-- Of a writer that has written nothing. -/
theorem string_none (W : World) (b : Nat) (p u : Value) (hbk : BK W b #[p, .slice none 0 0, u] 70) :
    Calls Tryd.prog 27 #[.pointer (some ⟨b, 0, none⟩)] W fun e W' => e = .returned (.string ⟨#[]⟩) ∧ ∃ n, W' = W.drewN n := by
  have hUS := fun (W : World) (q : Option Addr) => Lib.run_unsafeString_none (P := Tryd.prog) W 88 3 9 q
  have c1 : W.drew.cell? ⟨b, 1, none⟩ = some (.slice none 0 0) := hbk.drew.cell 1
  have hSD : (Builtin.unsafeSliceData_ #[66] 88 #[.slice none 0 0]).run Tryd.prog W.drew = .ok (.pointer none) W.drew := rfl
  clear hbk
  go_enter Tryd.func27, Tryd.ntmps27
  go_wp2
  go_region
  all_goals (go_wp2; go_ret; exact ⟨rfl, 1, rfl⟩)
theorem frame24 (a b v : Value) : #[a, b] ++ ((Array.replicate 15 undef).setIfInBounds 3 v).setIfInBounds 0 v = #[a, b, v, undef, undef, v, undef, undef, undef, undef, undef, undef, undef, undef, undef, undef, undef] := by kernel_rfl
set_option maxHeartbeats 1000000 in
theorem scatch_idle (p q : Nat) (w : World) :
    CallsD Tryd.prog 24 #[.pointer (some ⟨p, 0, none⟩), .pointer (some ⟨q, 0, none⟩)] .returning w fun e u' w' => e = .returned (.tuple #[]) ∧ u' = .returning ∧ Below w.heap.size w w' := by
  refine callsD_of_wpS Tryd.func24 rfl fun c₀ cs hu => ?_
  apply wpS_seq
  apply wpS_region
  simp [wpOpsS, go_sem, recoverD, hu, Tryd.ntmps24, Exit.thenS]
  refine wpS_of_wp ?_
  rw [frame24]
  have hta : ∀ w : World, (Instr.typeAssert .nilIface 20 56 true).run Tryd.prog w = .ok (.tuple #[.agg #[.int .i64 0, .int .i64 0], .bool false]) w := fun _ => by kernel_rfl
  have hne : ∀ w : World, (binOp .neq 20 .nilIface .nilIface).run Tryd.prog w = .ok (.bool false) w := fun _ => by kernel_rfl
  go_wp2
  refine ⟨rfl, _, ?_, _, results_none rfl _ _ _, rfl, hu, bal (Below.refl _ _) _⟩
  cases c₀; simp_all
set_option maxHeartbeats 1000000 in
theorem scatch_it (p q : Nat) (f : Fa) (x y : Value) (w : World) (hpq : p ≠ q) (c0 : BK w p #[x] 9) (c1 : BK w q #[y] 26) :
    CallsD Tryd.prog 24 #[.pointer (some ⟨p, 0, none⟩), .pointer (some ⟨q, 0, none⟩)] (.panicking [flt f]) w fun e u' w' => e = .returned (.tuple #[]) ∧ u' = .panicking [{ v := .iface 56 (.agg #[.int .i64 f.1, .int .i64 (f.2 : Nat)]), recovered := true }] ∧
      w'.cell? ⟨p, 0, none⟩ = some (.string ⟨#[]⟩) ∧ w'.cell? ⟨q, 0, none⟩ = some (.int .i64 (f.2 : Nat)) ∧ ∀ B, B ≤ w.heap.size → B ≤ p → B ≤ q → Below B w w' := by
  refine callsD_of_wpS Tryd.func24 rfl fun c₀ cs hu => ?_
  apply wpS_seq
  apply wpS_region
  simp [wpOpsS, go_sem, recoverD, hu, Tryd.ntmps24, Exit.thenS]
  refine wpS_of_wp ?_
  rw [frame24]
  have hta : ∀ w : World, (Instr.typeAssert (.iface 56 (.agg #[.int .i64 f.1, .int .i64 (f.2 : Nat)])) 20 56 true).run Tryd.prog w = .ok (.tuple #[.agg #[.int .i64 f.1, .int .i64 (f.2 : Nat)], .bool true]) w := fun _ => by kernel_rfl
  have d0 : w.cell? ⟨p, 0, none⟩ = some x := c0.cell 0
  have d1 : w.cell? ⟨q, 0, none⟩ = some y := c1.cell 0
  have e0 := c0.free 0
  have e1 := c1.free 0
  have z0 := c0.lt
  have z1 := c1.lt
  go_wp2
  go_region
  have b0 := (((c0.set 0 (.string ⟨#[]⟩)).far (Ne.symm hpq) 0 (.int .i64 (f.2 : Nat))).alloc (.cells #[.int .i64 f.1, .int .i64 (f.2 : Nat)] 56)).drew
  have b1 := (((c1.far hpq 0 (.string ⟨#[]⟩)).set 0 (.int .i64 (f.2 : Nat))).alloc (.cells #[.int .i64 f.1, .int .i64 (f.2 : Nat)] 56)).drew
  refine ⟨rfl, _, ?_, _, results_none rfl _ _ _, rfl, rfl, b0.cell 0, b1.cell 0, fun B h0 h1 h2 => below_drew (((Below.refl _ _).setCell (p := ⟨p, 0, none⟩) h1 _).setCell (p := ⟨q, 0, none⟩) h2 _ |>.alloc (by simpa using h0) _)⟩
  cases c₀
  simp_all
theorem stwo {w w1 : World} {a b : Array Value} {A B : TypeId} (h : Below ((w.alloc (.cells a A)).alloc (.cells b B)).heap.size ((w.alloc (.cells a A)).alloc (.cells b B)) w1) : BK w1 w.heap.size a A ∧ BK w1 (w.heap.size + 1) b B := two_bk w a b A B h
theorem body_ne {F d : Nat} {r : Rw} {rs : List Rw} : bodyB (F + 1) d (r :: rs) ≠ [] := by
  show (indB d ++ (_ ++ [10])) ++ _ ≠ []
  simp
set_option maxHeartbeats 4000000 in
set_option maxRecDepth 100000 in
theorem show_any (rs : List Rw) (v : Value) (s : ByteArray) (e : Nat) (w : World) (hS : SR w v rs) (hv : VR w) (hl : rs.length ≤ 9223372036854775807) (hz : Szs rs) (ho : SOut rs s e) :
    Calls Tryd.prog 15 #[v] w fun x w' => x = .returned (.tuple #[.string s, .int .i64 e]) ∧ Below w.heap.size w w' := by
  have hmf : ∀ (fn : Fn) (first cap : Array Value) (w : World), (Instr.makeFunc fn first cap).run Tryd.prog w = .ok (.func fn first cap) w := fun _ _ _ _ => rfl
  have CA : ∀ W, Below w.heap.size w W → Calls Tryd.prog 25 #[v, .int .i64 0] W fun e W' => CK (chk rs.length 0 rs) e ∧ Below W.heap.size W W' := fun W h => check_any (rs.length + 1) rs.length (by omega) rs 0 v w W (Nat.le_refl _) (by omega) hS h hl hz
  have B2 : ∀ {w1 : World}, Below ((w.alloc (.cells #[.string ⟨#[]⟩] 9)).alloc (.cells #[.int .i64 0] 26)).heap.size ((w.alloc (.cells #[.string ⟨#[]⟩] 9)).alloc (.cells #[.int .i64 0] 26)) w1 → Below w.heap.size w w1 := fun h => btr (bal (bal (Below.refl _ _) _) _) h
  have hb0 : Below w.heap.size w ((w.alloc (.cells #[.string ⟨#[]⟩] 9)).alloc (.cells #[.int .i64 0] 26)) := B2 (Below.refl _ _)
  have CA0 := CA _ hb0
  clear CA hb0
  rcases ho with ⟨hc, rfl, rfl⟩ | ⟨hc, hlen, rfl, rfl⟩ | ⟨hc, hlen, rfl, rfl⟩
  · rw [hc] at CA0
    have CB := CA0.mono (fun e W' (h : CK false e ∧ _) => show e = .panicked [flt (0, 100)] ∧ _ from ⟨(by rcases h.1 with ⟨h, _⟩ | ⟨_, h⟩; cases h; exact h), h.2⟩)
    clear hS hv hl hz hc CA0
    go_enter_defers Tryd.func15, Tryd.ntmps15
    go_wp2_with (go_at_call 25; (with_reducible refine CB.mono ?_); rintro x w2 ⟨rfl, hB2⟩)
    obtain ⟨e0, e1⟩ := stwo hB2
    refine leaves_cons (f := 24) (args := #[.pointer (some ⟨w.heap.size, 0, none⟩), .pointer (some ⟨w.heap.size + 1, 0, none⟩)]) (by simp) (by simp [go_sem]) ?_
    refine (scatch_it w.heap.size (w.heap.size + 1) (0, 100) _ _ _ (by omega) e0 e1).mono ?_
    rintro x u w3 ⟨rfl, rfl, k0, k1, hB3⟩
    have hbb := B2 hB2
    simp [Leaves, settle, results, Tryd.results15, go_sem, k0, k1]
    exact hbb.trans (hB3 _ hbb.size (by omega) (by omega))
  · rw [hc] at CA0
    have CB := CA0.mono (fun e W' (h : CK true e ∧ _) => show e = .returned (.tuple #[]) ∧ _ from ⟨(by rcases h.1 with ⟨_, h⟩ | ⟨h, _⟩; exact h; cases h), h.2⟩)
    clear CA0
    have BD : ∀ w1, Below w.heap.size w w1 → Calls Tryd.prog 26 #[.pointer (some ⟨w1.heap.size, 0, none⟩), v, .int .i64 0] (w1.alloc (.cells #[.pointer none, .slice none 0 0, .string ⟨#[]⟩] 70)) fun e W' => e = .panicked [flt (0, 1)] ∧ Below w1.heap.size w1 W' := fun w1 h => by
      have h1 : WS w1 (w1.alloc (.cells #[.pointer none, .slice none 0 0, .string ⟨#[]⟩] 70)) w1.heap.size [] ⟨#[]⟩ := ⟨bal (Below.refl _ _) _, Nat.le_refl _, _, _, bk_new _ _ _, .inl rfl, World.ownsRow_nil _ _ _ _⟩
      refine (wbody_any (rs.length + 1) rs.length (by omega) rs 0 v w1 _ w1.heap.size [] ⟨#[]⟩ (Nat.le_refl _) (by omega) hc (hS.below h) h1 (by simp) (hv.below h) hl hz).mono ?_
      rintro e W' ⟨_, k1, _, _, k4⟩
      rcases k4 with ⟨k4, _⟩ | ⟨_, k4⟩
      · rw [List.length_nil, Nat.zero_add] at k4; omega
      · exact ⟨k4, k1⟩
    clear hS hv hl hz hc hlen
    go_enter_defers Tryd.func15, Tryd.ntmps15
    go_wp2_with (first | (go_at_call 25; (with_reducible refine CB.mono ?_); rintro x w2 ⟨rfl, hB2⟩) | (go_at_call 26; (with_reducible refine (BD w2 (B2 hB2)).mono ?_); rintro x w4 ⟨rfl, hB4⟩))
    have hB5 := btr hB2 hB4
    obtain ⟨e0, e1⟩ := stwo hB5
    refine leaves_cons (f := 24) (args := #[.pointer (some ⟨w.heap.size, 0, none⟩), .pointer (some ⟨w.heap.size + 1, 0, none⟩)]) (by simp) (by simp [go_sem]) ?_
    refine (scatch_it w.heap.size (w.heap.size + 1) (0, 1) _ _ _ (by omega) e0 e1).mono ?_
    rintro x u w3 ⟨rfl, rfl, k0, k1, hB3⟩
    have hbb := B2 hB5
    simp [Leaves, settle, results, Tryd.results15, go_sem, k0, k1]
    exact hbb.trans (hB3 _ hbb.size (by omega) (by omega))
  · rw [hc] at CA0
    have CB := CA0.mono (fun e W' (h : CK true e ∧ _) => show e = .returned (.tuple #[]) ∧ _ from ⟨(by rcases h.1 with ⟨_, h⟩ | ⟨h, _⟩; exact h; cases h), h.2⟩)
    clear CA0
    have BD : ∀ w1, Below w.heap.size w w1 → Calls Tryd.prog 26 #[.pointer (some ⟨w1.heap.size, 0, none⟩), v, .int .i64 0] (w1.alloc (.cells #[.pointer none, .slice none 0 0, .string ⟨#[]⟩] 70)) fun e W' => e = .returned (.tuple #[]) ∧ Below w1.heap.size w1 W' ∧ w1.heap.size < W'.heap.size ∧ Calls Tryd.prog 27 #[.pointer (some ⟨w1.heap.size, 0, none⟩)] W' fun e W'' => e = .returned (.string ⟨(bodyB rs.length 0 rs).toArray⟩) ∧ Below w1.heap.size w1 W'' := fun w1 h => by
      have h1 : WS w1 (w1.alloc (.cells #[.pointer none, .slice none 0 0, .string ⟨#[]⟩] 70)) w1.heap.size [] ⟨#[]⟩ := ⟨bal (Below.refl _ _) _, Nat.le_refl _, _, _, bk_new _ _ _, .inl rfl, World.ownsRow_nil _ _ _ _⟩
      cases rs with
      | nil =>
        obtain ⟨a, c, vs, rfl, _⟩ := hS
        have bk := bk_new w1 #[.pointer none, .slice none 0 0, .string ⟨#[]⟩] 70
        go_enter Tryd.func26, Tryd.ntmps26
        go_wp2
        go_loopg [1] 1 (fun g v0 wr => g = 1 ∧ v0 = .slice a 0 c ∧ wr = w1.alloc (.cells #[.pointer none, .slice none 0 0, .string ⟨#[]⟩] 70))
        case atStart => exact ⟨rfl, rfl, rfl⟩
        case round =>
          obtain ⟨rfl, rfl, rfl⟩ := hrel
          go_wp2
          go_end0
          refine ⟨rfl, h1.below, bk.lt, (string_none _ _ _ _ bk).mono ?_⟩
          rintro e W' ⟨rfl, n, rfl⟩
          exact ⟨rfl, below_drewN h1.below n⟩
      | cons r rs =>
        refine (wbody_any ((r :: rs).length + 1) (r :: rs).length (by omega) (r :: rs) 0 v w1 _ w1.heap.size [] ⟨#[]⟩ (Nat.le_refl _) (by omega) hc (hS.below h) h1 (by simp) (hv.below h) hl hz).mono ?_
        rintro e W' ⟨l', k1, k2, k3, k4⟩
        rcases k4 with ⟨_, k5, k6⟩ | ⟨k4, _⟩
        · rw [List.nil_append] at k6
          exact ⟨k5, k1, (k6.cell2).2.2, string_some w1 W' _ _ _ k6 body_ne hlen⟩
        · rw [List.length_nil, Nat.zero_add] at k4; omega
    clear hS hv hl hz hc hlen
    generalize (bodyB rs.length 0 rs).toArray = TXT at *
    go_enter_defers Tryd.func15, Tryd.ntmps15
    go_wp2_with (first | (go_at_call 25; (with_reducible refine CB.mono ?_); rintro x w2 ⟨rfl, hB2⟩) | (go_at_call 26; (with_reducible refine (BD w2 (B2 hB2)).mono ?_); rintro x w4 ⟨rfl, hB4, hz4, hST⟩) | (go_at_call 27; (with_reducible refine hST.mono ?_); rintro x w5 ⟨rfl, hB5⟩; have hB6 := btr hB2 hB5; obtain ⟨e0, e1⟩ := stwo hB6; have f0 : w5.cell? ⟨w.heap.size, 0, none⟩ = some (.string ⟨#[]⟩) := e0.cell 0; have f1 : w5.cell? ⟨w.heap.size + 1, 0, none⟩ = some (.int .i64 0) := e1.cell 0; have g0 := e0.free 0; have g1 := e1.free 0; have gl := e1.lt))
    have hb3 := bset (bset (B2 hB6) w.heap.size 0 (.string ⟨TXT⟩) (by omega)) (w.heap.size + 1) 0 (.int .i64 0) (by omega)
    have k0 := (e0.set 0 (.string ⟨TXT⟩)).far (c := w.heap.size + 1) (by omega) 0 (.int .i64 0)
    have k1 := (e1.far (c := w.heap.size) (by omega) 0 (.string ⟨TXT⟩)).set 0 (.int .i64 0)
    refine leaves_cons (f := 24) (args := #[.pointer (some ⟨w.heap.size, 0, none⟩), .pointer (some ⟨w.heap.size + 1, 0, none⟩)]) (by simp) (by simp [go_sem]) ?_
    refine (scatch_idle w.heap.size (w.heap.size + 1) _).mono ?_
    rintro x u w3 ⟨rfl, rfl, hB3⟩
    have m0 : w3.cell? ⟨w.heap.size, 0, none⟩ = some (.string ⟨TXT⟩) := BK.cell ((hB3.block _ k0.lt).trans k0) 0
    have m1 : w3.cell? ⟨w.heap.size + 1, 0, none⟩ = some (.int .i64 0) := BK.cell ((hB3.block _ k1.lt).trans k1) 0
    have hBF := btr hb3 hB3
    clear hb3 k0 k1 hB3
    simp [Leaves, settle, results, Tryd.results15, go_sem, m0, m1]
    exact hBF
end Go.Proofs.YtiepbfeliehjnaaDoor
namespace Go.Proofs.YtiepbfeliehjnaaDoor
open Go.RowKit Go.Sort

/-- All names of a row are at most M bytes long. -/
def NmS (M : Nat) (r : Rw) : Prop := r.name.size ≤ M ∧ ∀ a ∈ r.args, a.n.size ≤ M
def TkM (M : Nat) (l : List Tk) : Prop := ∀ t ∈ l, t.t.size ≤ M
theorem TkM.suf {M : Nat} {l r : List Tk} (h : TkM M l) (hs : r <:+ l) : TkM M r := fun t ht => h t (hs.mem ht)
theorem name_sz {M : Nat} {n : Int} {l r : List Tk} {a : ByteArray} (h : nameP n l = .ok (a, r)) (hr : TkM M l) : a.size ≤ M := by
  obtain ⟨t, rfl, rfl, _⟩ := nameP_len h
  exact hr t List.mem_cons_self
theorem arg_sz {M : Nat} {n : Int} {ix : Bool} {l r : List Tk} {a : Ar} (h : argP n ix l = .ok (a, r)) (hr : TkM M l) : a.n.size ≤ M := by
  unfold argP at h
  cases hn : nameP n l with
  | error e => rw [hn] at h; cases h
  | ok y =>
    obtain ⟨b, r1⟩ := y
    have hb := name_sz hn hr
    rw [hn] at h
    simp only at h
    by_cases hc : ix = true ∧ seesB wLeft r1 = true
    · rw [if_pos hc] at h
      cases hx : numP n r1.tail with
      | error e => rw [hx] at h; cases h
      | ok y =>
        obtain ⟨x, r3⟩ := y
        rw [hx] at h
        simp only at h
        cases hs : signP n wRight r3 with
        | error e => rw [hs] at h; cases h
        | ok y => rw [hs] at h; cases h; exact hb
    · rw [if_neg hc] at h; cases h; exact hb
theorem args_sz {M : Nat} {n : Int} {sh : Sh} : ∀ (f : Nat) {acc aa : List Ar} {l r : List Tk}, TkM M l → argsP n sh f acc l = .ok (aa, r) → (∀ a ∈ acc, a.n.size ≤ M) → ∀ a ∈ aa, a.n.size ≤ M := by
  intro f
  induction f with
  | zero => intro acc aa l r _ h ha; cases h; exact ha
  | succ f ih =>
    intro acc aa l r hr h ha
    unfold argsP at h
    by_cases hm : moreB sh acc.length l = true
    · rw [if_pos hm] at h
      cases he : argP n sh.idx l with
      | error e => rw [he] at h; cases h
      | ok y =>
        obtain ⟨a, r1⟩ := y
        rw [he] at h
        refine ih (hr.suf (argP_suf he)) h (fun b hb => ?_)
        rcases List.mem_append.1 hb with hb | hb
        · exact ha b hb
        · rw [List.mem_singleton] at hb; subst hb; exact arg_sz he hr
    · rw [if_neg hm] at h; cases h; exact ha
theorem mid_sz {M : Nat} {n : Int} {sh : Sh} {l r : List Tk} {nm : ByteArray} {aa : List Ar} {x : Nat} {p : Int} (h : midP n sh l = .ok ((nm, aa, x, p), r)) (hr : TkM M l) : nm.size ≤ M ∧ ∀ a ∈ aa, a.n.size ≤ M := by
  obtain ⟨l1, l2, l3, u, h1, h2, h3, h4, _⟩ := mid_cases h
  refine ⟨?_, args_sz _ (hr.suf (optName_suf h1)) h2 (fun a ha => by cases ha)⟩
  unfold optName at h1
  by_cases e : sh.name = true
  · rw [if_pos e] at h1; exact name_sz h1 hr
  · rw [if_neg e] at h1; cases h1; exact Nat.zero_le _
theorem stmt_sz {M : Nat} {n : Int} {g d : Nat} {l r : List Tk} {rs : List Rw} (ih : ∀ (d : Nat) (l r : List Tk) (rs : List Rw), stmtsP n g d l = .ok (rs, r) → TkM M l → r <:+ l ∧ ∀ x ∈ rs, NmS M x) (h : stmtP n (stmtsP n g) d l = .ok (rs, r)) (hr : TkM M l) :
    r <:+ l ∧ ∀ x ∈ rs, NmS M x := by
  obtain ⟨t, u, nm, aa, x, p, l4, rfl, hm, hh⟩ := stmt_cases h
  obtain ⟨z1, z2⟩ := mid_sz hm (hr.suf (restK_su t u))
  have hsu : l4 <:+ t :: u := (midP_suf hm).trans (restK_su t u)
  rcases hh with ⟨hb, rfl, rfl⟩ | ⟨hb, hd, rs2, l5, hrec, rfl, rfl⟩
  · exact ⟨hsu, fun y hy => by rw [List.mem_singleton] at hy; subst hy; exact ⟨z1, z2⟩⟩
  · obtain ⟨s5, hch⟩ := ih _ _ _ _ hrec (hr.suf hsu)
    refine ⟨((List.tail_suffix l5).trans s5).trans hsu, fun y hy => ?_⟩
    rcases List.mem_cons.1 hy with rfl | hy
    · exact ⟨z1, z2⟩
    · exact hch y hy
theorem stmts_sz {M : Nat} {n : Int} : ∀ (f d : Nat) (l r : List Tk) (rs : List Rw), stmtsP n f d l = .ok (rs, r) → TkM M l → r <:+ l ∧ ∀ x ∈ rs, NmS M x := by
  intro f
  induction f with
  | zero => intro d l r rs h; cases h
  | succ f ih =>
    intro d l r rs h hr
    rcases stmts_cases h with ⟨_, rfl, rfl⟩ | ⟨_, rs1, r1, rs2, h1, h2, rfl⟩
    · exact ⟨List.suffix_refl _, fun x hx => by cases hx⟩
    · obtain ⟨s1, c1⟩ := stmt_sz ih h1 hr
      obtain ⟨s2, c2⟩ := ih _ _ _ _ h2 (hr.suf s1)
      exact ⟨s2.trans s1, fun x hx => by rcases List.mem_append.1 hx with hx | hx; exact c1 x hx; exact c2 x hx⟩
theorem prog_sz {M : Nat} {n : Int} : ∀ (f : Nat) (l : List Tk) (rs : List Rw), progP n f l = .ok rs → TkM M l → ∀ x ∈ rs, NmS M x := by
  intro f
  induction f with
  | zero => intro l rs h; cases h
  | succ f ih =>
    intro l rs h hr
    rcases prog_cases h with ⟨_, rfl⟩ | ⟨_, rs1, r1, rs2, h1, h2, rfl⟩
    · exact fun x hx => by cases hx
    · obtain ⟨s1, c1⟩ := stmt_sz (stmts_sz f) h1 hr
      exact fun x hx => by rcases List.mem_append.1 hx with hx | hx; exact c1 x hx; exact ih _ _ h2 (hr.suf s1) x hx
theorem pout_sz {s : ByteArray} {rs : List Rw} {a : Int} {e : Nat} (h : POut s rs a e) : ∀ x ∈ rs, NmS 65536 x := by
  obtain ⟨l, a0, e0, ho, hh⟩ := h
  rcases hh with ⟨_, rfl, _⟩ | ⟨rfl, hh⟩
  · exact fun x hx => by cases hx
  · rcases hh with ⟨_, _, _, rfl, _⟩ | ⟨hp, _⟩
    · exact fun x hx => by cases hx
    · obtain ⟨h6, hpre⟩ : s.size ≤ 65536 ∧ Pre s s.size l := by
        rcases ho with ⟨_, _, _, h⟩ | ⟨h6, h, _⟩ | ⟨_, _, h, _⟩
        · cases h
        · exact ⟨h6, h⟩
        · cases h
      refine prog_sz _ _ _ hp (fun t ht => ?_)
      obtain ⟨k, hk, rfl⟩ := List.getElem_of_mem ht
      have := hpre.sz k hk
      omega
set_option maxHeartbeats 2000000 in
set_option maxRecDepth 100000 in
theorem great_any (rs : List Rw) (v : Value) (w W : World) (hS : SR w v rs) (hB : Below w.heap.size w W) (hl : rs.length ≤ 9223372036854775807) (hz : Szs rs) :
    Calls Tryd.prog 12 #[v] W fun e W' => (∃ b : Bool, e = .returned (.bool b)) ∧ Below W.heap.size W W' := by
  obtain ⟨a, c, vs, rfl, hc, hv, hA, hR⟩ := hS
  have HA : Hid (∀ k (h : k < rs.length) (h' : k < vs.length), SA w vs[k] rs[k].args) := hA
  have HR : Hid (∀ k, k < rs.length → ∃ b o, a = some ⟨b, o, none⟩ ∧ RR w b o rs vs) := hR
  have HV : Hid (rs.length = vs.length) := hv
  have HB : Hid (Below w.heap.size w W) := hB
  have HZ : Hid (Szs rs) := hz
  clear hA hR hv hB hz
  go_enter Tryd.func12, Tryd.ntmps12
  go_upto_region 3 with (fail)
  go_loopw [3, 10] (fun v3 v10 wr => ∃ (x : Int) (k : Nat), k ≤ rs.length ∧ v3 = .int .i64 x ∧ v10 = .int .i64 k ∧ Hid (Below W.heap.size W wr)) (fun _ v _ => rs.length - (intOf v).toNat)
  case atStart => exact ⟨0, 0, Nat.zero_le _, rfl, rfl, Below.refl _ _⟩
  case round =>
    obtain ⟨x, k, hk, rfl, rfl, hI⟩ := hrel
    by_cases hlt : k < rs.length
    case neg =>
      obtain rfl : k = rs.length := by omega
      go_wp2
      go_ret
      exact ⟨⟨_, rfl⟩, hI.out⟩
    case pos =>
    have hkv : k < vs.length := by rw [← HV.out]; exact hlt
    obtain ⟨b, o, rfl, r0⟩ := HR.out k hlt
    obtain ⟨aa, ac, ev, ec, er⟩ := HA.out k hlt hkv
    have rr := (r0.below HB.out).below hI.out
    have m0 := rr.c0 k hlt
    have m1 := rr.c1 k hlt
    have m2 := rr.c2 k hlt hkv
    have m3 := rr.c3 k hlt
    have m4 := rr.c4 k hlt
    have m5 := rr.c5 k hlt
    have ml := rr.lt
    have hal := (HZ.out _ (List.getElem_mem hlt)).2.1
    rw [ev] at m2
    have ER : Hid (∀ j, j < rs[k].args.length → ∃ b o, aa = some ⟨b, o, none⟩ ∧ RA w b o rs[k].args) := er
    clear rr r0 er ev
    generalize rs[k] = r at *
    obtain ⟨kd, nm, ag, nu, ro, pl⟩ := r
    simp only at m0 m1 m2 m3 m4 m5 hal ec
    go_upto_region 7 with (fail)
    have hJ : Hid (Below W.heap.size W (wr.alloc (.cells #[.string kd, .string nm, .slice aa ag.length ac, .int .i64 nu, .int .i64 ro, .int .i64 pl] 45))) := bal hI.out _
    generalize wr.alloc (.cells #[.string kd, .string nm, .slice aa ag.length ac, .int .i64 nu, .int .i64 ro, .int .i64 pl] 45) = WA at *
    clear m0 m1 m2 m3 m4 m5 ml
    go_loopw [3, 27] (fun v3 v27 wq => ∃ (y : Int) (j : Nat), j ≤ ag.length ∧ v3 = .int .i64 y ∧ v27 = .int .i64 j ∧ Hid (Below W.heap.size W wq)) (fun _ v _ => ag.length - (intOf v).toNat)
    case atStart => exact ⟨_, 0, Nat.zero_le _, rfl, rfl, hJ⟩
    case round =>
      obtain ⟨y, j, hj, rfl, rfl, hQ⟩ := hrel
      by_cases hjl : j < ag.length
      · obtain ⟨ab, ao, rfl, ra0⟩ := ER.out j hjl
        have ra := (ra0.below HB.out).below hQ.out
        have l0 := ra.c0 j hjl
        have l1 := ra.c1 j hjl
        have l2 := ra.lt
        clear ra ra0
        generalize ag[j].n = an at *
        generalize ag[j].x = ax at *
        go_wp2
        go_roundw
        case rel => exact ⟨_, j + 1, by omega, rfl, by go_num, bal hQ.out _⟩
        case measure => simp [intOf]; omega
      · obtain rfl : j = ag.length := by omega
        by_cases hy : 16384 < y
        · go_wp2
          go_ret
          exact ⟨⟨_, rfl⟩, hQ.out⟩
        · go_wp2
          go_roundw
          case rel => exact ⟨_, k + 1, by omega, rfl, by go_num, hQ⟩
          case measure => simp [intOf]; omega
end Go.Proofs.YtiepbfeliehjnaaDoor
