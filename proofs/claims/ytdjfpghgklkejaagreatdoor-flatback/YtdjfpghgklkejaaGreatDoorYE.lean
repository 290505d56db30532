/-
  Put together of: LBA LBB.
-/
import Derived.Test.YtdjfpghgklkejaaGreatDoorYB
import Derived.Test.YtdjfpghgklkejaaGreatDoorYC
import Derived.Test.YtdjfpghgklkejaaGreatDoorYD
import Derived.Test.YtdjfpghgklkejaaGreatDoorXT
import Derived.Recover
namespace Go.Proofs.YtdjfpghgklkejaaGreatDoor
open Go.RowKit Go.Sort
theorem st_any (kd nm : ByteArray) (ag : List Ar) (nu ro pl : Int) (sh : Sh) (av : Value) (w W : World) (b : Nat) (bs : List UInt8) (hv : VR w) (H : WS w W b bs ⟨#[]⟩) (hb : bs.length ≤ 65536) (hS : SA w av ag) (hk : shp kd = some sh) (hf : fitB ⟨kd, nm, ag, nu, ro, pl⟩ sh = true) (hnz : nm.size ≤ 9223372036854775807) (hl : ag.length ≤ 9223372036854775807) (hz : ∀ a ∈ ag, a.n.size ≤ 9223372036854775807) :
  Calls Tryz.prog 121 #[.pointer (some ⟨b, 0, none⟩), .agg #[.string kd, .string nm, av, .int .i64 nu, .int .i64 ro, .int .i64 pl], .agg #[.bool sh.name, .int .i64 sh.args, .bool sh.idx, .bool sh.num, .bool sh.body]] W (WR w W b bs (lineB ⟨#[]⟩ (headK ⟨kd, nm, ag, nu, ro, pl⟩ sh)) (lastS sh)) := by
 unfold fitB at hf
 simp only [Bool.and_eq_true] at hf
 obtain ⟨⟨⟨_, hf2⟩, _⟩, hf4⟩ := hf
 have hx : ∀ a ∈ ag, a.x ≤ 9007199254740991 := fun a ha => by
  have := List.all_eq_true.1 hf4 a ha
  unfold argOk numOk at this
  simp at this
  omega
 rcases shp_cases kd with ⟨rfl, e, _⟩ | ⟨rfl, e, _⟩ | ⟨rfl, e, _⟩ | ⟨rfl, e, _⟩ | ⟨rfl, e, _⟩ | ⟨rfl, e, _⟩ | ⟨rfl, e, _⟩ | ⟨rfl, e, _⟩ | ⟨_, _, _, _, _, _, _, _, e, _⟩
 all_goals rw [e] at hk
 all_goals cases hk
 ·exact st_1 _ nm ag nu ro pl 0 false false av w W b bs hv H hb hS (by decide) (by decide) hnz hl hz hx hf2
 ·exact st_1 _ nm ag nu ro pl 0 false false av w W b bs hv H hb hS (by decide) (by decide) hnz hl hz hx hf2
 ·exact st_2 _ nm ag nu ro pl (-1) false true av w W b bs hv H hb hS (by decide) (by decide) hnz hl hz hx
 ·exact st_3 _ nm ag nu ro pl 0 false true av w W b bs hv H hb hS (by decide) (by decide) hl hz hx hf2
 ·exact st_1 _ nm ag nu ro pl 0 false true av w W b bs hv H hb hS (by decide) (by decide) hnz hl hz hx hf2
 ·exact st_4 _ nm ag nu ro pl 2 true false av w W b bs hv H hb hS (by decide) (by decide) hl hz hx
 ·exact st_4 _ nm ag nu ro pl 1 true false av w W b bs hv H hb hS (by decide) (by decide) hl hz hx
 ·exact st_5 nm ag nu ro pl (-1) true false av w W b bs hv H hb hS hnz hl hz hx
structure WT (w W : World) (b : Nat) (bs : List UInt8) (x : List UInt8) (wr : World) (last : ByteArray) : Prop where
 ws : WS w wr b (bs ++ x) last
 len : (bs ++ x).length ≤ 65536
 size : W.heap.size ≤ wr.heap.size
 ok : Lib.OthersKept 5 (some b) W wr
theorem WT.on {w W wr W' : World} {b : Nat} {bs x : List UInt8} {last : ByteArray} (h : WT w W b bs x wr last) (hb : Below wr.heap.size wr W') : WT w W b bs x W' last :=
 ⟨h.ws.on hb, h.len, Nat.le_trans h.size hb.size, Lib.OthersKept.trans h.ok (ok_below _ hb)⟩
def BR (w W : World) (b : Nat) (bs add : List UInt8) (e : Ending) (W' : World) : Prop := ∃ last, WR w W b bs add last e W'
theorem WT.step {w W wr W' : World} {b : Nat} {bs x add : List UInt8} {last last' : ByteArray} {e : Ending} (h : WT w W b bs x wr last) (hr : WR w wr b (bs ++ x) add last' e W') :
  (e = .returned (.tuple #[]) ∧ WT w W b bs (x ++ add) W' last') ∨ (e = .panicked [flt (0, 1)] ∧ ∀ y, (∃ z, y = x ++ add ++ z) → BR w W b bs y (.panicked [flt (0, 1)]) W') := by
 obtain ⟨h1, h2, h3, h4⟩ := hr
 have hz := Nat.le_trans h.size h2
 have ho := Lib.OthersKept.trans h.ok h3
 rw [List.length_append] at h4
 rcases h4 with ⟨h5, h6, h7⟩ | ⟨h5, h6⟩
 ·exact .inl ⟨h6, by rw [← List.append_assoc]; exact h7, by rw [List.length_append, List.length_append]; omega, hz, ho⟩
 ·refine .inr ⟨h6, fun y hy => ⟨⟨#[]⟩, h1, hz, ho, .inr ⟨?_, rfl⟩⟩⟩
  obtain ⟨z, rfl⟩ := hy
  rw [List.length_append, List.length_append]
  omega
theorem WT.stepB {w W wr W' : World} {b : Nat} {bs x add : List UInt8} {last : ByteArray} {e : Ending} (h : WT w W b bs x wr last) (hr : BR w wr b (bs ++ x) add e W') :
  (e = .returned (.tuple #[]) ∧ ∃ last', WT w W b bs (x ++ add) W' last') ∨ (e = .panicked [flt (0, 1)] ∧ ∀ y, (∃ z, y = x ++ add ++ z) → BR w W b bs y (.panicked [flt (0, 1)]) W') := by
 obtain ⟨l, hr⟩ := hr
 rcases h.step hr with ⟨h1, h2⟩ | h1
 ·exact .inl ⟨h1, l, h2⟩
 ·exact .inr h1
theorem BR.ok {w W : World} {b : Nat} {bs add : List UInt8} {e : Ending} {W' : World} (h : BR w W b bs add e W') : Lib.OthersKept 5 (some b) W W' := by obtain ⟨_, _, _, h, _⟩ := h; exact h
theorem chk_cons2 {f d : Nat} {kd nm : ByteArray} {ag : List Ar} {nu ro pl : Int} {rs : List Rw} (h : chk (f + 1) d (⟨kd, nm, ag, nu, ro, pl⟩ :: rs) = true) : ∃ sh, shp kd = some sh ∧ fitB ⟨kd, nm, ag, nu, ro, pl⟩ sh = true ∧ 0 ≤ ro ∧ ro ≤ (rs.length : Int) ∧ ((sh.body = true ∧ d < 32 ∧ chk f (d + 1) (rs.take ro.toNat) = true) ∨ (sh.body = false ∧ ro = 0)) ∧ chk f d (rs.drop ro.toNat) = true ∧
  ∀ d', bodyB (f + 1) d' (⟨kd, nm, ag, nu, ro, pl⟩ :: rs) = (indB d' ++ (lineB ⟨#[]⟩ (headK ⟨kd, nm, ag, nu, ro, pl⟩ sh) ++ [10])) ++ ((if sh.body = true then bodyB f (d' + 1) (rs.take ro.toNat) ++ (indB d' ++ ([125] ++ [10])) else []) ++ bodyB f d' (rs.drop ro.toNat)) := by
 have e0 : ∀ sh, shp kd = some sh → shR (⟨kd, nm, ag, nu, ro, pl⟩ : Rw) = sh := fun sh e => by show (shp kd).getD _ = _; rw [e]; rfl
 unfold chk at h
 simp only [Bool.and_eq_true, decide_eq_true_eq] at h
 obtain ⟨⟨⟨⟨⟨h1, h2⟩, h3⟩, h4⟩, h5⟩, h6⟩ := h
 cases hk : shp kd with
 | none => rw [hk] at h1; cases h1
 | some sh =>
  have e := e0 sh hk
  rw [e] at h2 h5
  refine ⟨sh, rfl, h2, h3, h4, ?_, h6, fun d' => ?_⟩
  ·cases hb : sh.body with
   | true => rw [hb, if_pos rfl] at h5; simp only [Bool.and_eq_true, decide_eq_true_eq] at h5; exact .inl ⟨rfl, h5.1, h5.2⟩
   | false => rw [hb] at h5; exact .inr ⟨rfl, by simpa using h5⟩
  ·rw [← e]; rfl
set_option maxHeartbeats 4000000 in
set_option maxRecDepth 100000 in
theorem wbody_any : ∀ (F0 : Nat) (F : Nat), F < F0 → ∀ (rs : List Rw) (d : Nat) (v : Value) (w W : World) (b : Nat) (bs : List UInt8) (last : ByteArray), rs.length ≤ F → d ≤ 32 → chk F d rs = true → SR w v rs → WS w W b bs last → bs.length ≤ 65536 → VR w → rs.length ≤ 9223372036854775807 → Szs rs →
  Calls Tryz.prog 70 #[.pointer (some ⟨b, 0, none⟩), v, .int .i64 d] W (BR w W b bs (bodyB F d rs)) := by
 intro F0
 induction F0 with
 | zero => intro F hF; omega
 | succ F0 ih =>
  intro F hF rs d v w W b bs last hl hd hck hS H hb hv hm hz
  obtain ⟨Y, hY⟩ : ∃ Y, Y = bodyB F d rs := ⟨_, rfl⟩
  have HY : Hid (Y = bodyB F d rs) := hY
  have HIH : Hid (∀ (F : Nat), F < F0 → ∀ (rs : List Rw) (d : Nat) (v : Value) (w W : World) (b : Nat) (bs : List UInt8) (last : ByteArray), rs.length ≤ F → d ≤ 32 → chk F d rs = true → SR w v rs → WS w W b bs last → bs.length ≤ 65536 → VR w → rs.length ≤ 9223372036854775807 → Szs rs →
   Calls Tryz.prog 70 #[.pointer (some ⟨b, 0, none⟩), v, .int .i64 d] W (BR w W b bs (bodyB F d rs))) := ih
  have HV : Hid (VR w) := hv
  have HS0 : Hid (SR w v rs) := hS
  have HL0 : Hid (rs.length ≤ F ∧ F < F0 + 1 ∧ rs.length ≤ 9223372036854775807 ∧ Szs rs ∧ chk F d rs = true) := ⟨hl, hF, hm, hz, hck⟩
  have HST : Hid (WT w W b bs [] W last) := ⟨by rw [List.append_nil]; exact H, by rw [List.append_nil]; exact hb, Nat.le_refl _, Lib.OthersKept.refl _ _ _⟩
  rw [← hY]
  clear hY ih hS hl hF hm hz H hb hv hck
  go_enter Tryz.func70, Tryz.ntmps70
  go_wp2
  go_loopg [1] (F + 1) (fun g v0 wr => ∃ (qs : List Rw) (f : Nat), g = f + 1 ∧ Hid (qs.length ≤ f ∧ f < F0 + 1 ∧ qs.length ≤ 9223372036854775807 ∧ Szs qs ∧ SR w v0 qs ∧ chk f d qs = true ∧ ∃ x l, WT w W b bs x wr l ∧ Y = x ++ bodyB f d qs))
  case atStart => exact ⟨rs, F, rfl, HL0.out.1, HL0.out.2.1, HL0.out.2.2.1, HL0.out.2.2.2.1, HS0.out, HL0.out.2.2.2.2, [], last, HST.out, by rw [HY.out]; rfl⟩
  case round =>
   clear HS0 HL0 HY HST
   obtain ⟨qs, f, rfl, hI⟩ := hrel
   obtain ⟨i1, i2, i3, i4, i5, i6, x, lx, hX, hYx⟩ := hI.out
   obtain ⟨a, c, vs, ev, hc, hvs, hA, hR⟩ := i5
   clear hI
   cases qs with
   | nil =>
    subst ev
    have hFin : Hid (BR w W b bs Y (.returned (.tuple #[])) wr) := by
     have e : Y = x := by rw [hYx]; cases f <;> simp [bodyB]
     rw [e]
     exact ⟨lx, hX.ws.below, hX.size, hX.ok, .inl ⟨by have := hX.len; rwa [List.length_append] at this, rfl, hX.ws⟩⟩
    clear hA hR hvs hX hYx i1 i2 i3 i4 i6
    go_wp2
    go_end0
    exact hFin.out
   | cons r qs =>
    obtain ⟨bb, o, rfl, rr0⟩ := hR 0 (by simp)
    obtain ⟨av, vs, rfl⟩ : ∃ av ws, vs = av :: ws := by cases vs with | nil => simp at hvs | cons x y => exact ⟨x, y, rfl⟩
    have hSA := hA 0 (by simp) (by simp)
    have hSR : SR w (.slice (some ⟨bb, o, none⟩) (r :: qs).length c) (r :: qs) := ⟨_, _, _, rfl, hc, hvs, hA, hR⟩
    obtain ⟨a1, c1, hsl, hS1⟩ := hSR.drop 1 (by simp)
    rw [List.length_cons] at ev hc hsl
    have hqz : Szs qs ∧ r.name.size ≤ 9223372036854775807 ∧ r.args.length ≤ 9223372036854775807 ∧ ∀ a ∈ r.args, a.n.size ≤ 9223372036854775807 := ⟨fun x hx => i4 x (List.mem_cons_of_mem _ hx), i4 r List.mem_cons_self⟩
    have hnn : qs.length + 1 ≤ f ∧ f < F0 + 1 ∧ qs.length + 1 ≤ 9223372036854775807 := ⟨i1, i2, i3⟩
    have rr := rr0.below hX.ws.below
    have m0 := rr.c0 0 (by simp)
    have m1 := rr.c1 0 (by simp)
    have m2 := rr.c2 0 (by simp) (by simp)
    have m3 := rr.c3 0 (by simp)
    have m4 := rr.c4 0 (by simp)
    have m5 := rr.c5 0 (by simp)
    have ml := rr.lt
    simp only [Nat.zero_mul, Nat.add_zero, List.getElem_cons_zero] at m0 m1 m2 m3 m4 m5 hSA
    simp only [List.drop_succ_cons, List.drop_zero] at hsl hS1
    have hsl1 : ∀ w, (Instr.slice 22 (.slice (some ⟨bb, o, none⟩) (qs.length + 1) c) (some (.int .i64 1)) none none).run Tryz.prog w = .ok (.slice a1 qs.length c1) w := hsl
    obtain ⟨kd, nm, ag, nu, ro, pl⟩ := r
    simp only at m0 m1 m2 m3 m4 m5 hSA hqz
    subst ev
    have hsp : ∃ aa ac, av = .slice aa ag.length ac := by obtain ⟨aa, ac, e, _⟩ := hSA; exact ⟨aa, ac, e⟩
    obtain ⟨aa, ac, rfl⟩ := hsp
    have HSA : Hid (SA w (.slice aa ag.length ac) ag) := hSA
    have HS1 : Hid (SR w (.slice a1 qs.length c1) qs) := hS1
    have HQ : Hid (Szs qs) := hqz.1
    obtain ⟨f, rfl⟩ : ∃ g, f = g + 1 := ⟨f - 1, by omega⟩
    obtain ⟨sh, hk, hfit, hr0, hr1, hbd, hcd, hB⟩ := chk_cons2 i6
    have SHA := fun w => shape_any kd w
    rw [hk] at SHA
    have SM := fun w' bs' h hb => st_any kd nm ag nu ro pl sh (.slice aa ag.length ac) w w' b bs' HV.out h hb HSA.out hk hfit hqz.2.1 hqz.2.2.1 hqz.2.2.2
    have hlt : b < wr.heap.size := (hX.ws.cell2).2.2
    have HX : Hid (WT w W b bs x wr lx) := hX
    obtain ⟨k, rfl⟩ : ∃ k : Nat, ro = (k : Int) := ⟨ro.toNat, by omega⟩
    have hkq : k ≤ qs.length := by omega
    rw [Int.toNat_natCast] at hbd hcd
    have HYE := (hB d)
    rw [Int.toNat_natCast] at HYE
    have HYY : Hid (Y = x ++ ((indB d ++ (lineB ⟨#[]⟩ (headK ⟨kd, nm, ag, nu, (k : Int), pl⟩ sh) ++ [10])) ++ ((if sh.body = true then bodyB f (d + 1) (qs.take k) ++ (indB d ++ ([125] ++ [10])) else []) ++ bodyB f d (qs.drop k)))) := by show Y = _; rw [hYx, HYE]
    have HCD : Hid (chk f d (qs.drop k) = true) := hcd
    obtain ⟨a3, c3, hsd, hS3⟩ := HS1.out.drop k hkq
    rw [List.length_drop] at hsd hS3
    have HS3 : Hid (SR w (.slice a3 (qs.length - k) c3) (qs.drop k)) := hS3
    have hdl : (qs.drop k).length ≤ qs.length := by rw [List.length_drop]; omega
    generalize headK ⟨kd, nm, ag, nu, (k : Int), pl⟩ sh = HK at *
    obtain ⟨sn, sa, sx, sm, sb⟩ := sh
    simp only [Option.getD_some, Option.isSome_some] at SHA SM HYY hbd
    clear hA hR hvs rr rr0 hSR hsl hSA hS1 hYx i1 i2 i3 i4 i6 hk hfit hr0 hr1 hcd hB HYE hS3 hX
    have TKN : ∀ w' bs', WS w w' b bs' ⟨#[]⟩ → bs'.length ≤ 65536 → Calls Tryz.prog 123 #[.pointer (some ⟨b, 0, none⟩), .string ⟨#[125]⟩] w' (WR w w' b bs' [125] wShut) := fun w' bs' h hb => token_any w w' b bs' ⟨#[]⟩ wShut h hb (by decide)
    go_upto_region 1 with (fail)
    go_region
    obtain ⟨V, hV⟩ : ∃ V, V = (wr.alloc (.cells #[.string kd, .string nm, .slice aa ag.length ac, .int .i64 nu, .int .i64 (k : Int), .int .i64 pl] 79)).drew := ⟨_, rfl⟩
    have bV : BK V wr.heap.size #[.string kd, .string nm, .slice aa ag.length ac, .int .i64 nu, .int .i64 (k : Int), .int .i64 pl] 79 := by rw [hV]; exact (bk_new _ _ _).drew
    have hWV : Hid (Below wr.heap.size wr V) := by rw [hV]; exact below_drew (bal (Below.refl _ _) _)
    rw [← hV]
    clear hV m0 m1 m2 m3 m4 m5 ml hsl1
    have CELL : ∀ {w9 : World}, Below V.heap.size V w9 → BK w9 wr.heap.size #[.string kd, .string nm, .slice aa ag.length ac, .int .i64 nu, .int .i64 (k : Int), .int .i64 pl] 79 := fun h => (h.block _ bV.lt).trans bV
    have q0 : V.cell? ⟨wr.heap.size, 0, none⟩ = some (.string kd) := bV.cell 0
    have ql := bV.lt
    clear bV
    go_upto_region 3 with (go_at_call 118; (with_reducible refine (SHA _).mono ?_); rintro e w1 ⟨rfl, h1⟩)
    obtain ⟨X, hXX⟩ : ∃ X, X = w1.alloc (.cells #[.bool sn, .int .i64 sa, .bool sx, .bool sm, .bool sb] 187) := ⟨_, rfl⟩
    have b1 : BK X wr.heap.size #[.string kd, .string nm, .slice aa ag.length ac, .int .i64 nu, .int .i64 (k : Int), .int .i64 pl] 79 := by rw [hXX]; exact (CELL h1).alloc _
    have b2 : BK X w1.heap.size #[.bool sn, .int .i64 sa, .bool sx, .bool sm, .bool sb] 187 := by rw [hXX]; exact bk_new _ _ _
    have h1s : wr.heap.size < w1.heap.size := by have := h1.size; omega
    have HX1 : WT w W b bs x X lx := HX.out.on (by rw [hXX]; exact btr hWV.out (bal h1 _))
    rw [← hXX]
    clear hXX
    have BOX : ∀ {w9 : World}, Lib.OthersKept 5 (some b) X w9 → w9.cell? ⟨wr.heap.size, 0, none⟩ = some (.string kd) ∧ w9.cell? ⟨wr.heap.size, 1, none⟩ = some (.string nm) ∧ w9.cell? ⟨wr.heap.size, 2, none⟩ = some (.slice aa ag.length ac) ∧ w9.cell? ⟨wr.heap.size, 3, none⟩ = some (.int .i64 nu) ∧ w9.cell? ⟨wr.heap.size, 4, none⟩ = some (.int .i64 (k : Int)) ∧ w9.cell? ⟨wr.heap.size, 5, none⟩ = some (.int .i64 pl) ∧ w9.cell? ⟨w1.heap.size, 0, none⟩ = some (.bool sn) ∧ w9.cell? ⟨w1.heap.size, 1, none⟩ = some (.int .i64 sa) ∧ w9.cell? ⟨w1.heap.size, 2, none⟩ = some (.bool sx) ∧ w9.cell? ⟨w1.heap.size, 3, none⟩ = some (.bool sm) ∧ w9.cell? ⟨w1.heap.size, 4, none⟩ = some (.bool sb) ∧ w1.heap.size < w9.heap.size := fun h => by
     have d1 := ok_bk h b1 (by omega) (by decide)
     have d2 := ok_bk h b2 (by omega) (by decide)
     exact ⟨d1.cell 0, d1.cell 1, d1.cell 2, d1.cell 3, d1.cell 4, d1.cell 5, d2.cell 0, d2.cell 1, d2.cell 2, d2.cell 3, d2.cell 4, d2.lt⟩
    clear CELL SHA q0 ql b1 b2
    have BG := begin_any w X b _ lx d HX1.ws HX1.len (by omega)
    go_upto_region 4 with (go_at_call 120; (with_reducible refine BG.mono ?_); intro e w2 hR2; have k2 := hR2.2.2.1; rcases HX1.step hR2 with ⟨rfl, hX2⟩ | ⟨rfl, hP⟩)
    rotate_left
    ·exact ⟨rfl, hP _ ⟨_, by rw [HYY.out]; simp only [List.append_assoc]; rfl⟩⟩
    obtain ⟨x0, x1, x2, x3, x4, x5, y0, y1, y2, y3, y4, yl⟩ := BOX k2
    clear BG hR2
    have SM2 := SM w2 _ hX2.ws hX2.len
    go_upto_region 5 with (go_at_call 121; (with_reducible refine SM2.mono ?_); intro e w3 hR3; have k3 := Lib.OthersKept.trans k2 hR3.2.2.1; rcases hX2.step hR3 with ⟨rfl, hX3⟩ | ⟨rfl, hP⟩)
    rotate_left
    ·exact ⟨rfl, hP _ ⟨_, by rw [HYY.out]; simp only [List.append_assoc]; rfl⟩⟩
    clear SM SM2 hR3 x0 x1 x2 x3 x4 x5 y0 y1 y2 y3 y4 yl
    obtain ⟨x0, x1, x2, x3, x4, x5, y0, y1, y2, y3, y4, yl⟩ := BOX k3
    have EN := end_any w w3 b _ _ hX3.ws hX3.len
    go_upto_region 6 with (go_at_call 122; (with_reducible refine EN.mono ?_); intro e w4 hR4; have k4 := Lib.OthersKept.trans k3 hR4.2.2.1; rcases hX3.step hR4 with ⟨rfl, hX4⟩ | ⟨rfl, hP⟩)
    rotate_left
    ·exact ⟨rfl, hP _ ⟨_, by rw [HYY.out]; simp only [List.append_assoc]; rfl⟩⟩
    clear EN hR4 x0 x1 x2 x3 x4 x5 y0 y1 y2 y3 y4 yl
    obtain ⟨x0, x1, x2, x3, x4, x5, y0, y1, y2, y3, y4, yl⟩ := BOX k4
    rcases hbd with ⟨rfl, hd2, hcb⟩ | ⟨rfl, hk0⟩
    ·obtain ⟨a2, c2, hst, hS2⟩ := HS1.out.take k hkq
     have htk : (qs.take k).length = k := by rw [List.length_take]; omega
     have htl : (qs.take k).length ≤ qs.length := by omega
     rw [htk] at hst hS2
     clear htk
     have RC := HIH.out f (by omega) (qs.take k) (d + 1) (.slice a2 k c2) w w4 b _ _ (by omega) (by omega) hcb hS2 hX4.ws hX4.len HV.out (by omega) (HQ.out.take k)
     rw [show ((d + 1 : Nat) : Int) = (d : Int) + 1 by omega] at RC
     clear hS2 hcb
     go_upto_region 8 with (go_at_call 70; (with_reducible refine RC.mono ?_); intro e w5 hR5; have k5 := Lib.OthersKept.trans k4 hR5.ok; rcases hX4.stepB hR5 with ⟨rfl, l5, hX5⟩ | ⟨rfl, hP⟩)
     rotate_left
     ·exact ⟨rfl, hP _ ⟨_, by rw [HYY.out, if_pos trivial]; simp only [List.append_assoc]; rfl⟩⟩
     clear RC hR5 x0 x1 x2 x3 x4 x5 y0 y1 y2 y3 y4 yl
     have BG := begin_any w w5 b _ _ d hX5.ws hX5.len (by omega)
     go_upto_region 9 with (go_at_call 120; (with_reducible refine BG.mono ?_); intro e w6 hR6; have k6 := Lib.OthersKept.trans k5 hR6.2.2.1; rcases hX5.step hR6 with ⟨rfl, hX6⟩ | ⟨rfl, hP⟩)
     rotate_left
     ·exact ⟨rfl, hP _ ⟨_, by rw [HYY.out, if_pos trivial]; simp only [List.append_assoc]; rfl⟩⟩
     clear BG hR6
     have TK2 := TKN w6 _ hX6.ws hX6.len
     go_upto_region 10 with (go_at_call 123; (with_reducible refine TK2.mono ?_); intro e w7 hR7; have k7 := Lib.OthersKept.trans k6 hR7.2.2.1; rcases hX6.step hR7 with ⟨rfl, hX7⟩ | ⟨rfl, hP⟩)
     rotate_left
     ·exact ⟨rfl, hP _ ⟨_, by rw [HYY.out, if_pos trivial]; simp only [List.append_assoc]; rfl⟩⟩
     clear TK2 hR7
     have EN := end_any w w7 b _ _ hX7.ws hX7.len
     go_upto_region 11 with (go_at_call 122; (with_reducible refine EN.mono ?_); intro e w8 hR8; have k8 := Lib.OthersKept.trans k7 hR8.2.2.1; rcases hX7.step hR8 with ⟨rfl, hX8⟩ | ⟨rfl, hP⟩)
     rotate_left
     ·exact ⟨rfl, hP _ ⟨_, by rw [HYY.out, if_pos trivial]; simp only [List.append_assoc]; rfl⟩⟩
     clear EN hR8
     obtain ⟨x0, x1, x2, x3, x4, x5, y0, y1, y2, y3, y4, yl⟩ := BOX k8
     go_wp2
     go_roundg (f + 1)
     case measure => omega
     case rel => exact ⟨qs.drop k, f, rfl, by omega, by omega, by omega, HQ.out.drop k, HS3.out, HCD.out, _, _, hX8, by rw [HYY.out, if_pos trivial]; simp only [List.append_assoc]⟩
    ·clear hk0
     go_wp2
     go_roundg (f + 1)
     case measure => omega
     case rel => exact ⟨qs.drop k, f, rfl, by omega, by omega, by omega, HQ.out.drop k, HS3.out, HCD.out, _, _, hX4, by rw [HYY.out, if_neg (by simp)]; simp only [List.append_assoc, List.nil_append]⟩
end Go.Proofs.YtdjfpghgklkejaaGreatDoor
namespace Go.Proofs.YtdjfpghgklkejaaGreatDoor
open Go.RowKit Go.Sort
set_option maxHeartbeats 2000000 in
set_option maxRecDepth 100000 in
theorem string_some (w W : World) (b : Nat) (l : List UInt8) (last : ByteArray) (H : WS w W b l last) (h0 : l ≠ []) (h6 : l.length ≤ 65536) :
  Calls Tryz.prog 71 #[.pointer (some ⟨b, 0, none⟩)] W fun e W' => e = .returned (.string ⟨l.toArray⟩) ∧ Below w.heap.size w W' := by
 obtain ⟨p, v, hbk, _, hown⟩ := H.ex
 have hl0 : l.length ≠ 0 := by simpa using h0
 have hB : Hid (Below w.heap.size w W) := H.below
 obtain ⟨g, cap, cur, rfl, hbg, hg, hnc, hcm, hcs, htake⟩ : ∃ g cap cur, v = .slice (some ⟨g, 0, none⟩) l.length cap ∧ w.heap.size ≤ g ∧ W.heap[g]? = some (.cells cur 5 (0, 0)) ∧ l.length ≤ cap ∧ cap ≤ maxLen ∧ cur.size = cap * 1 ∧ cur.toList.take (l.length * 1) = Lib.byteCells l := by
  rcases hown.2 with ⟨_, hz⟩ | ⟨g, cap, cur, hv, r⟩
  ·exact absurd hz hl0
  ·exact ⟨g, cap, cur, hv, r⟩
 have c1 : W.drew.cell? ⟨b, 1, none⟩ = some (.slice (some ⟨g, 0, none⟩) l.length cap) := hbk.drew.cell 1
 have hSD : (Builtin.unsafeSliceData_ #[143] 193 #[.slice (some ⟨g, 0, none⟩) l.length cap]).run Tryz.prog W.drew = .ok (.pointer (some ⟨g, 0, none⟩)) W.drew :=
  Lib.run_unsafeSliceData_row _ _ _ _ _ _ (by omega)
 have hUS : (Builtin.unsafeString_ #[193, 3] 9 #[.pointer (some ⟨g, 0, none⟩), .int .i64 l.length]).run Tryz.prog W.drew = .ok (.string ⟨l.toArray⟩) (W.drew.freeze ⟨g, 0, none⟩ l.length) := by
  refine Lib.run_unsafeString_row W.drew 193 3 9 5 Tryz.underlying193 (by kernel_rfl) g cur.size (by have hg' : W.drew.heap[g]? = some (.cells cur 5 (0, 0)) := hg; simp [World.shape?, hg']) l h0 (by omega) (by omega) ?_
  intro j x hx
  have := hown.cells (g := g) rfl j (.int .u8 x.toNat) (by simp [Lib.byteCells, hx])
  exact this
 clear hbk hown hg htake hcs hcm hnc
 go_enter Tryz.func71, Tryz.ntmps71
 go_wp2
 go_region
 all_goals (go_wp2; go_ret; exact ⟨rfl, Lib.below_freeze (below_drew hB.out) (p := ⟨g, 0, none⟩) hbg _⟩)
set_option maxHeartbeats 2000000 in
set_option maxRecDepth 100000 in
theorem string_none (W : World) (b : Nat) (p u : Value) (hbk : BK W b #[p, .slice none 0 0, u] 147) :
  Calls Tryz.prog 71 #[.pointer (some ⟨b, 0, none⟩)] W fun e W' => e = .returned (.string ⟨#[]⟩) ∧ ∃ n, W' = W.drewN n := by
 have hUS := fun (W : World) (q : Option Addr) => Lib.run_unsafeString_none (P := Tryz.prog) W 193 3 9 q
 have c1 : W.drew.cell? ⟨b, 1, none⟩ = some (.slice none 0 0) := hbk.drew.cell 1
 have hSD : (Builtin.unsafeSliceData_ #[143] 193 #[.slice none 0 0]).run Tryz.prog W.drew = .ok (.pointer none) W.drew := rfl
 clear hbk
 go_enter Tryz.func71, Tryz.ntmps71
 go_wp2
 go_region
 all_goals (go_wp2; go_ret; exact ⟨rfl, 1, rfl⟩)
theorem frame24 (a b v : Value) : #[a, b] ++ ((Array.replicate 15 undef).setIfInBounds 3 v).setIfInBounds 0 v = #[a, b, v, undef, undef, v, undef, undef, undef, undef, undef, undef, undef, undef, undef, undef, undef] := by kernel_rfl
set_option maxHeartbeats 1000000 in
theorem scatch_idle (p q : Nat) (w : World) :
  CallsD Tryz.prog 68 #[.pointer (some ⟨p, 0, none⟩), .pointer (some ⟨q, 0, none⟩)] .returning w fun e u' w' => e = .returned (.tuple #[]) ∧ u' = .returning ∧ Below w.heap.size w w' := by
 refine callsD_of_wpS Tryz.func68 rfl fun c₀ cs hu => ?_
 apply wpS_seq
 apply wpS_region
 simp [wpOpsS, go_sem, recoverD, hu, Tryz.ntmps68, Exit.thenS]
 refine wpS_of_wp ?_
 rw [frame24]
 have hta : ∀ w : World, (Instr.typeAssert .nilIface 20 129 true).run Tryz.prog w = .ok (.tuple #[.agg #[.int .i64 0, .int .i64 0], .bool false]) w := fun _ => by kernel_rfl
 have hne : ∀ w : World, (binOp .neq 20 .nilIface .nilIface).run Tryz.prog w = .ok (.bool false) w := fun _ => by kernel_rfl
 go_wp2
 refine ⟨rfl, _, ?_, _, results_none rfl _ _ _, rfl, hu, bal (Below.refl _ _) _⟩
 cases c₀; simp_all
set_option maxHeartbeats 1000000 in
theorem scatch_it (p q : Nat) (f : Fa) (x y : Value) (w : World) (hpq : p ≠ q) (c0 : BK w p #[x] 9) (c1 : BK w q #[y] 30) :
  CallsD Tryz.prog 68 #[.pointer (some ⟨p, 0, none⟩), .pointer (some ⟨q, 0, none⟩)] (.panicking [flt f]) w fun e u' w' => e = .returned (.tuple #[]) ∧ u' = .panicking [{ v := .iface 129 (.agg #[.int .i64 f.1, .int .i64 (f.2 : Nat)]), recovered := true }] ∧
   w'.cell? ⟨p, 0, none⟩ = some (.string ⟨#[]⟩) ∧ w'.cell? ⟨q, 0, none⟩ = some (.int .i64 (f.2 : Nat)) ∧ ∀ B, B ≤ w.heap.size → B ≤ p → B ≤ q → Below B w w' := by
 refine callsD_of_wpS Tryz.func68 rfl fun c₀ cs hu => ?_
 apply wpS_seq
 apply wpS_region
 simp [wpOpsS, go_sem, recoverD, hu, Tryz.ntmps68, Exit.thenS]
 refine wpS_of_wp ?_
 rw [frame24]
 have hta : ∀ w : World, (Instr.typeAssert (.iface 129 (.agg #[.int .i64 f.1, .int .i64 (f.2 : Nat)])) 20 129 true).run Tryz.prog w = .ok (.tuple #[.agg #[.int .i64 f.1, .int .i64 (f.2 : Nat)], .bool true]) w := fun _ => by kernel_rfl
 have d0 : w.cell? ⟨p, 0, none⟩ = some x := c0.cell 0
 have d1 : w.cell? ⟨q, 0, none⟩ = some y := c1.cell 0
 have e0 := c0.free 0
 have e1 := c1.free 0
 have z0 := c0.lt
 have z1 := c1.lt
 go_wp2
 go_region
 have b0 := (((c0.set 0 (.string ⟨#[]⟩)).far (Ne.symm hpq) 0 (.int .i64 (f.2 : Nat))).alloc (.cells #[.int .i64 f.1, .int .i64 (f.2 : Nat)] 129)).drew
 have b1 := (((c1.far hpq 0 (.string ⟨#[]⟩)).set 0 (.int .i64 (f.2 : Nat))).alloc (.cells #[.int .i64 f.1, .int .i64 (f.2 : Nat)] 129)).drew
 refine ⟨rfl, _, ?_, _, results_none rfl _ _ _, rfl, rfl, b0.cell 0, b1.cell 0, fun B h0 h1 h2 => below_drew (((Below.refl _ _).setCell (p := ⟨p, 0, none⟩) h1 _).setCell (p := ⟨q, 0, none⟩) h2 _ |>.alloc (by simpa using h0) _)⟩
 cases c₀
 simp_all
theorem stwo {w w1 : World} {a b : Array Value} {A B : TypeId} (h : Below ((w.alloc (.cells a A)).alloc (.cells b B)).heap.size ((w.alloc (.cells a A)).alloc (.cells b B)) w1) : BK w1 w.heap.size a A ∧ BK w1 (w.heap.size + 1) b B := two_bk w a b A B h
theorem body_ne {F d : Nat} {r : Rw} {rs : List Rw} : bodyB (F + 1) d (r :: rs) ≠ [] := by
 show (indB d ++ (_ ++ [10])) ++ _ ≠ []
 simp
set_option maxHeartbeats 4000000 in
set_option maxRecDepth 100000 in
theorem show_any (rs : List Rw) (v : Value) (s : ByteArray) (e : Nat) (w : World) (hS : SR w v rs) (hv : VR w) (hl : rs.length ≤ 9223372036854775807) (hz : Szs rs) (ho : SOut rs s e) :
  Calls Tryz.prog 38 #[v] w fun x w' => x = .returned (.tuple #[.string s, .int .i64 e]) ∧ Below w.heap.size w w' := by
 have hmf : ∀ (fn : Fn) (first cap : Array Value) (w : World), (Instr.makeFunc fn first cap).run Tryz.prog w = .ok (.func fn first cap) w := fun _ _ _ _ => rfl
 have CA : ∀ W, Below w.heap.size w W → Calls Tryz.prog 69 #[v, .int .i64 0] W fun e W' => CK (chk rs.length 0 rs) e ∧ Below W.heap.size W W' := fun W h => chkRows_any (rs.length + 1) rs.length (by omega) rs 0 v w W (Nat.le_refl _) (by omega) hS h hl hz
 have B2 : ∀ {w1 : World}, Below ((w.alloc (.cells #[.string ⟨#[]⟩] 9)).alloc (.cells #[.int .i64 0] 30)).heap.size ((w.alloc (.cells #[.string ⟨#[]⟩] 9)).alloc (.cells #[.int .i64 0] 30)) w1 → Below w.heap.size w w1 := fun h => btr (bal (bal (Below.refl _ _) _) _) h
 have hb0 : Below w.heap.size w ((w.alloc (.cells #[.string ⟨#[]⟩] 9)).alloc (.cells #[.int .i64 0] 30)) := B2 (Below.refl _ _)
 have CA0 := CA _ hb0
 clear CA hb0
 rcases ho with ⟨hc, rfl, rfl⟩ | ⟨hc, hlen, rfl, rfl⟩ | ⟨hc, hlen, rfl, rfl⟩
 ·rw [hc] at CA0
  have CB := CA0.mono (fun e W' (h : CK false e ∧ _) => show e = .panicked [flt (0, 100)] ∧ _ from ⟨(by rcases h.1 with ⟨h, _⟩ | ⟨_, h⟩; cases h; exact h), h.2⟩)
  clear hS hv hl hz hc CA0
  go_enter_defers Tryz.func38, Tryz.ntmps38
  go_wp2_with (go_at_call 69; (with_reducible refine CB.mono ?_); rintro x w2 ⟨rfl, hB2⟩)
  obtain ⟨e0, e1⟩ := stwo hB2
  refine leaves_cons (f := 68) (args := #[.pointer (some ⟨w.heap.size, 0, none⟩), .pointer (some ⟨w.heap.size + 1, 0, none⟩)]) (by simp) (by simp [go_sem]) ?_
  refine (scatch_it w.heap.size (w.heap.size + 1) (0, 100) _ _ _ (by omega) e0 e1).mono ?_
  rintro x u w3 ⟨rfl, rfl, k0, k1, hB3⟩
  have hbb := B2 hB2
  simp [Leaves, settle, results, Tryz.results38, go_sem, k0, k1]
  exact hbb.trans (hB3 _ hbb.size (by omega) (by omega))
 ·rw [hc] at CA0
  have CB := CA0.mono (fun e W' (h : CK true e ∧ _) => show e = .returned (.tuple #[]) ∧ _ from ⟨(by rcases h.1 with ⟨_, h⟩ | ⟨h, _⟩; exact h; cases h), h.2⟩)
  clear CA0
  have BD : ∀ w1, Below w.heap.size w w1 → Calls Tryz.prog 70 #[.pointer (some ⟨w1.heap.size, 0, none⟩), v, .int .i64 0] (w1.alloc (.cells #[.pointer none, .slice none 0 0, .string ⟨#[]⟩] 147)) fun e W' => e = .panicked [flt (0, 1)] ∧ Below w1.heap.size w1 W' := fun w1 h => by
   have h1 : WS w1 (w1.alloc (.cells #[.pointer none, .slice none 0 0, .string ⟨#[]⟩] 147)) w1.heap.size [] ⟨#[]⟩ := ⟨bal (Below.refl _ _) _, Nat.le_refl _, _, _, bk_new _ _ _, .inl rfl, World.ownsRow_nil _ _ _ _⟩
   refine (wbody_any (rs.length + 1) rs.length (by omega) rs 0 v w1 _ w1.heap.size [] ⟨#[]⟩ (Nat.le_refl _) (by omega) hc (hS.below h) h1 (by simp) (hv.below h) hl hz).mono ?_
   rintro e W' ⟨_, k1, _, _, k4⟩
   rcases k4 with ⟨k4, _⟩ | ⟨_, k4⟩
   ·rw [List.length_nil, Nat.zero_add] at k4; omega
   ·exact ⟨k4, k1⟩
  clear hS hv hl hz hc hlen
  go_enter_defers Tryz.func38, Tryz.ntmps38
  go_wp2_with (first | (go_at_call 69; (with_reducible refine CB.mono ?_); rintro x w2 ⟨rfl, hB2⟩) | (go_at_call 70; (with_reducible refine (BD w2 (B2 hB2)).mono ?_); rintro x w4 ⟨rfl, hB4⟩))
  have hB5 := btr hB2 hB4
  obtain ⟨e0, e1⟩ := stwo hB5
  refine leaves_cons (f := 68) (args := #[.pointer (some ⟨w.heap.size, 0, none⟩), .pointer (some ⟨w.heap.size + 1, 0, none⟩)]) (by simp) (by simp [go_sem]) ?_
  refine (scatch_it w.heap.size (w.heap.size + 1) (0, 1) _ _ _ (by omega) e0 e1).mono ?_
  rintro x u w3 ⟨rfl, rfl, k0, k1, hB3⟩
  have hbb := B2 hB5
  simp [Leaves, settle, results, Tryz.results38, go_sem, k0, k1]
  exact hbb.trans (hB3 _ hbb.size (by omega) (by omega))
 ·rw [hc] at CA0
  have CB := CA0.mono (fun e W' (h : CK true e ∧ _) => show e = .returned (.tuple #[]) ∧ _ from ⟨(by rcases h.1 with ⟨_, h⟩ | ⟨h, _⟩; exact h; cases h), h.2⟩)
  clear CA0
  have BD : ∀ w1, Below w.heap.size w w1 → Calls Tryz.prog 70 #[.pointer (some ⟨w1.heap.size, 0, none⟩), v, .int .i64 0] (w1.alloc (.cells #[.pointer none, .slice none 0 0, .string ⟨#[]⟩] 147)) fun e W' => e = .returned (.tuple #[]) ∧ Below w1.heap.size w1 W' ∧ w1.heap.size < W'.heap.size ∧ Calls Tryz.prog 71 #[.pointer (some ⟨w1.heap.size, 0, none⟩)] W' fun e W'' => e = .returned (.string ⟨(bodyB rs.length 0 rs).toArray⟩) ∧ Below w1.heap.size w1 W'' := fun w1 h => by
   have h1 : WS w1 (w1.alloc (.cells #[.pointer none, .slice none 0 0, .string ⟨#[]⟩] 147)) w1.heap.size [] ⟨#[]⟩ := ⟨bal (Below.refl _ _) _, Nat.le_refl _, _, _, bk_new _ _ _, .inl rfl, World.ownsRow_nil _ _ _ _⟩
   cases rs with
   | nil =>
    obtain ⟨a, c, vs, rfl, _⟩ := hS
    have bk := bk_new w1 #[.pointer none, .slice none 0 0, .string ⟨#[]⟩] 147
    go_enter Tryz.func70, Tryz.ntmps70
    go_wp2
    go_loopg [1] 1 (fun g v0 wr => g = 1 ∧ v0 = .slice a 0 c ∧ wr = w1.alloc (.cells #[.pointer none, .slice none 0 0, .string ⟨#[]⟩] 147))
    case atStart => exact ⟨rfl, rfl, rfl⟩
    case round =>
     obtain ⟨rfl, rfl, rfl⟩ := hrel
     go_wp2
     go_end0
     refine ⟨rfl, h1.below, bk.lt, (string_none _ _ _ _ bk).mono ?_⟩
     rintro e W' ⟨rfl, n, rfl⟩
     exact ⟨rfl, below_drewN h1.below n⟩
   | cons r rs =>
    refine (wbody_any ((r :: rs).length + 1) (r :: rs).length (by omega) (r :: rs) 0 v w1 _ w1.heap.size [] ⟨#[]⟩ (Nat.le_refl _) (by omega) hc (hS.below h) h1 (by simp) (hv.below h) hl hz).mono ?_
    rintro e W' ⟨l', k1, k2, k3, k4⟩
    rcases k4 with ⟨_, k5, k6⟩ | ⟨k4, _⟩
    ·rw [List.nil_append] at k6
     exact ⟨k5, k1, (k6.cell2).2.2, string_some w1 W' _ _ _ k6 body_ne hlen⟩
    ·rw [List.length_nil, Nat.zero_add] at k4; omega
  clear hS hv hl hz hc hlen
  generalize (bodyB rs.length 0 rs).toArray = TXT at *
  go_enter_defers Tryz.func38, Tryz.ntmps38
  go_wp2_with (first | (go_at_call 69; (with_reducible refine CB.mono ?_); rintro x w2 ⟨rfl, hB2⟩) | (go_at_call 70; (with_reducible refine (BD w2 (B2 hB2)).mono ?_); rintro x w4 ⟨rfl, hB4, hz4, hST⟩) | (go_at_call 71; (with_reducible refine hST.mono ?_); rintro x w5 ⟨rfl, hB5⟩; have hB6 := btr hB2 hB5; obtain ⟨e0, e1⟩ := stwo hB6; have f0 : w5.cell? ⟨w.heap.size, 0, none⟩ = some (.string ⟨#[]⟩) := e0.cell 0; have f1 : w5.cell? ⟨w.heap.size + 1, 0, none⟩ = some (.int .i64 0) := e1.cell 0; have g0 := e0.free 0; have g1 := e1.free 0; have gl := e1.lt))
  have hb3 := bset (bset (B2 hB6) w.heap.size 0 (.string ⟨TXT⟩) (by omega)) (w.heap.size + 1) 0 (.int .i64 0) (by omega)
  have k0 := (e0.set 0 (.string ⟨TXT⟩)).far (c := w.heap.size + 1) (by omega) 0 (.int .i64 0)
  have k1 := (e1.far (c := w.heap.size) (by omega) 0 (.string ⟨TXT⟩)).set 0 (.int .i64 0)
  refine leaves_cons (f := 68) (args := #[.pointer (some ⟨w.heap.size, 0, none⟩), .pointer (some ⟨w.heap.size + 1, 0, none⟩)]) (by simp) (by simp [go_sem]) ?_
  refine (scatch_idle w.heap.size (w.heap.size + 1) _).mono ?_
  rintro x u w3 ⟨rfl, rfl, hB3⟩
  have m0 : w3.cell? ⟨w.heap.size, 0, none⟩ = some (.string ⟨TXT⟩) := BK.cell ((hB3.block _ k0.lt).trans k0) 0
  have m1 : w3.cell? ⟨w.heap.size + 1, 0, none⟩ = some (.int .i64 0) := BK.cell ((hB3.block _ k1.lt).trans k1) 0
  have hBF := btr hb3 hB3
  clear hb3 k0 k1 hB3
  simp [Leaves, settle, results, Tryz.results38, go_sem, m0, m1]
  exact hBF
end Go.Proofs.YtdjfpghgklkejaaGreatDoor
