/-
  Put together of: LW.
-/
import Derived.Test.YtoddbaljnlhhaabYW
import Derived.Test.YtoddbaljnlhhaabYV
import Derived.Test.YtoddbaljnlhhaabXK
import Derived.Test.YtoddbaljnlhhaabYD
import Derived.Test.YtoddbaljnlhhaabYC
namespace Go.Proofs.Ytoddbaljnlhhaab
open Go.RowKit Go.Sort
open PL (pv PS bt cgk cgT)

theorem OT.ts' {W : World} {B : Nat} {a : Option Addr} {c : Nat} {rs : List Pr} (h : OT W B (.slice a rs.length c) rs) : TS W a c rs := by
  obtain ⟨a', c', e, h'⟩ := h.ts
  cases e
  exact h'
theorem OT.tsn {W : World} {B k : Nat} {a : Option Addr} {c : Nat} {rs : List Pr} (h : OT W B (.slice a k c) rs) (hk : k = rs.length) : TS W a c rs := by
  subst hk
  exact h.ts'
theorem OT.set0 {W : World} {B g c n : Nat} {xs : List Pr} (h : OT W B (.slice (some ⟨g, 0, none⟩) n c) xs) (hn : xs.length = n) {j : Nat} (hj : j < xs.length) (r : Pr) (hr : r.w64) :
    OT ((((W.setCell ⟨g, j * 4, none⟩ (.int .i64 r.n)).setCell ⟨g, j * 4 + 1, none⟩ (.int .u64 (r.x : Int))).setCell ⟨g, j * 4 + 2, none⟩ (.int .u64 (r.z : Int))).setCell ⟨g, j * 4 + 3, none⟩ (.int .i64 r.f)) B (.slice (some ⟨g, 0, none⟩) n c) (xs.set j r) := by
  subst hn
  exact h.set hj r hr
theorem OT.at0 {W : World} {B : Nat} {v : Value} {rs : List Pr} (h : OT W B v rs) (hn : 0 < rs.length) : ∃ g c, v = .slice (some ⟨g, 0, none⟩) rs.length c ∧ rs.length ≤ c ∧ c ≤ 9223372036854775807 ∧ B ≤ g ∧ g < W.heap.size := by
  obtain ⟨g, c, e, h1, _, _, h2, h3⟩ := own_at h.own hn
  subst e
  exact ⟨g, c, rfl, h1, (OT.ts' h).l, h2, h3⟩
set_option maxHeartbeats 8000000 in
set_option maxRecDepth 100000 in
theorem keeps_walk (t : Tb) (a : Option Addr) (c : Nat) (s : ByteArray) (q : Nat → Int) (aq : Option Addr) (m cq : Nat) (qb bit : Int) (w : World) (H : TS w a c t.rows) (HQ : BL.Row aq q m w) (hm : m ≤ cq) (hc : cq ≤ 9223372036854775807) :
    Calls Try.prog 3 #[t.v a c, .string s, .slice aq m cq, .int .i64 qb, .int .i64 bit] w fun e w' => e = .returned (.bool true) ∧ Below w.heap.size w w' := by
  have AW := hid (fun w' => awake_any w')
  have HB := hid (bal (Below.refl w.heap.size w) (.cells #[.int .i64 t.n, .slice a t.rows.length c] 24))
  have K5 := hid (bk_new w #[.int .i64 t.n, .slice a t.rows.length c] 24)
  have HT := hid H
  have HR := hid HQ
  have hcap := H.cap
  have hcl := H.l
  clear H HQ
  obtain ⟨n, rs⟩ := t
  simp only at *
  go_enter Try.func3, Try.ntmps3
  go_wp2_with (go_at_call 4; refine Hid.out ?_)
  refine hid ?_
  refine (AW.out _).mono ?_
  rintro e w1 ⟨rfl, hN⟩
  replace HB := hid (btr HB.out hN)
  replace K5 := hid (bk_on K5.out hN)
  clear hN AW
  have d5 := K5.out.cell
  have l5 := K5.out.lt
  by_cases h1 : rs.length ≤ 500
  case neg =>
    go_wp2
    go_ret
    exact ⟨rfl, HB.out⟩
  by_cases h2 : m ≤ 500
  case neg =>
    go_wp2
    go_ret
    exact ⟨rfl, HB.out⟩
  go_wp2_with (at_builtin; refine Hid.out ?_)
  refine hid ?_
  refine app_rows rfl _ _ rfl rfl rfl (HT.out.below HB.out) (by omega) ?_
  intro v4 w4 hO4 hB4
  have HO4 := hid hO4
  have HB4 := hid hB4
  clear hO4 hB4 d5 l5
  go_wp2_with (at_builtin; refine Hid.out ?_)
  refine hid ?_
  refine app_p rfl _ _ rfl rfl rfl HO4.out HB4.out.size (by omega) ?_
  intro v5 w5 hO5 hg5 _
  have hB5 : Below w1.heap.size w1 w5 := below_own (bal HB4.out (pC 77)) (own_below HO4.out.own (bal (Below.refl _ _) (pC 77))) hg5
  obtain ⟨g11, c11, e5, hc11, hm11, hg11, hl11⟩ := hO5.at0 (by rw [List.length_append, List.length_singleton]; omega)
  rw [List.length_append, List.length_singleton] at e5 hc11
  subst e5
  have OR := hid hO5
  have HG := hid (And.intro hc11 hm11)
  have hG0 : Hid (w.heap.size ≤ g11) := Nat.le_trans HB.out.size hg11
  replace HB := hid (btr HB.out hB5)
  replace K5 := hid (bk_on K5.out hB5)
  clear hO5 hg5 hB5 HO4 HB4 hc11 hm11 hg11 hl11
  go_wp2_with (at_builtin; refine Hid.out ?_)
  refine hid ?_
  refine app_ints rfl _ _ rfl rfl rfl (HR.out.below HB.out) (by omega) ?_
  intro v6 w6 hO6 hB6
  have HO6 := hid hO6
  have HB6 := hid hB6
  clear hO6 hB6
  go_wp2_with (at_builtin; refine Hid.out ?_)
  refine hid ?_
  refine app_i rfl _ _ rfl rfl rfl HO6.out HB6.out (by omega) ?_
  intro g12 c12 w7 hR7 h77 hg12 hl12 hc12 hm12 hk12 hB7
  have RQ := hid hR7
  have R77 := hid h77
  have HK12 := hid hk12
  have HC12 := hid (And.intro hc12 hm12)
  have hG12 : Hid (w5.heap.size ≤ g12) := hg12
  replace HB := hid (btr HB.out hB7)
  replace K5 := hid (bk_on K5.out hB7)
  replace OR := hid (OR.out.below hB7)
  have hL12 : Hid (g12 < w7.heap.size) := hl12
  clear hR7 h77 hg12 hl12 hc12 hm12 hk12 hB7 HO6 HB6
  have d5 := K5.out.cell
  have l5 := K5.out.lt
  have hx1 : (rs.length : Int) ≤ (c11 : Int) := by have := HG.out.1; omega
  have hx2 : (0 : Int) ≤ (rs.length : Int) := by omega
  go_wp2
  go_region
  have hA := below_drew (bal (Below.refl w7.heap.size w7) (.cells #[.int .i64 n, .slice (some ⟨g11, 0, none⟩) rs.length c11] 24))
  have K13 : Hid (BK (w7.alloc (.cells #[.int .i64 n, .slice (some ⟨g11, 0, none⟩) rs.length c11] 24)).drew w7.heap.size #[.int .i64 n, .slice (some ⟨g11, 0, none⟩) rs.length c11] 24) := hid (BK.drew (bk_new w7 _ 24))
  replace HB := hid (btr HB.out hA)
  replace K5 := hid (bk_on K5.out hA)
  replace OR := hid (OR.out.below hA)
  replace RQ := hid (RQ.out.below hA)
  replace R77 := hid ((hA.cell (p := ⟨g12, _, none⟩) hL12.out).trans R77.out)
  replace HK12 : Hid (∃ cs, BK (w7.alloc (.cells #[.int .i64 n, .slice (some ⟨g11, 0, none⟩) rs.length c11] 24)).drew g12 cs 3) := hid (by obtain ⟨cs, h⟩ := HK12.out; exact ⟨cs, bk_on h hA⟩)
  clear hA d5 l5 hx1 hx2 hL12
  generalize (w7.alloc (.cells #[.int .i64 n, .slice (some ⟨g11, 0, none⟩) rs.length c11] 24)).drew = V8 at *
  generalize w7.heap.size = b13 at *
  obtain ⟨T, E, A1, A2⟩ := apply_two ⟨n, rs⟩ s q m
  have RX := hid A1
  have P1 := hid (fun (W : World) (h : Below V8.heap.size V8 W) => A2 (some ⟨g11, 0, none⟩) c11 (some ⟨g12, 0, none⟩) c12 W (OT.tsn (OR.out.below h) (by rw [List.length_append, List.length_singleton])).pre (RQ.out.below h) (by have := HC12.out.1; omega) HC12.out.2)
  obtain ⟨N1, us⟩ := T
  simp only at RX P1
  clear A1 A2
  have d13 := K13.out.cell
  have l13 := K13.out.lt
  have hx1 : (m : Int) ≤ (c12 : Int) := by have := HC12.out.1; omega
  have hx2 : (0 : Int) ≤ (m : Int) := by omega
  go_upto_region 8 with (fail)
  go_cut [14, 15] from 59 to 68 (fun v14 v15 Z => ∃ b14 a1 c1, v14 = Value.pointer (some ⟨b14, 0, none⟩) ∧ v15 = Value.int .i64 E ∧ RowKit.Below V8.heap.size V8 Z ∧ BK Z b14 #[.int .i64 N1, .slice a1 us.length c1] 24 ∧ OT Z V8.heap.size (.slice a1 us.length c1) us ∧ V8.heap.size ≤ b14)
  case first =>
    refine wp_region_noPanic ?_
    refine region_z (S := fun W => RowKit.Below V8.heap.size V8 W) 12 (by kernel_rfl) (below_drew (RowKit.Below.refl _ _)) (fun hHeld => ?_)
    clear hHeld d13 l13
    have HX : Hid (RowKit.Below V8.heap.size V8 V8.drew) := hid (below_drew (RowKit.Below.refl _ _))
    generalize V8.drew = X at *
    refine zAny_take (i := 0) (oi := { dst := some 60, op := Op.load 24 (Operand.tmp 13), type := 24, pos := "law.go:225", after := #[], guard := none }) (v := ?_) rfl (by kernel_rfl) (by kernel_rfl) (by kernel_rfl) (by kernel_rfl) (fun _ _ _ h => h) (Or.inl ⟨by rfl, ?_⟩) HX.out ?_
    rotate_left
    (intro w0 hSw; have e4 := (bk_on K13.out hSw).cell; clear hSw; go_simp; try (with_reducible rfl))
    (try simp only [Act.put, List.setIfInBounds_toArray, List.set_cons_zero, List.set_cons_succ])
    refine zAny_take (i := 1) (oi := { dst := some 61, op := Op.move (Operand.tmp 1), type := 9, pos := "law.go:225", after := #[], guard := none }) (v := ?_) rfl (by kernel_rfl) (by kernel_rfl) (by kernel_rfl) (by kernel_rfl) (fun _ _ _ h => h) (Or.inl ⟨by rfl, ?_⟩) HX.out ?_
    rotate_left
    (intro w0 hSw; clear hSw; go_simp; try (with_reducible rfl))
    (try simp only [Act.put, List.setIfInBounds_toArray, List.set_cons_zero, List.set_cons_succ])
    refine zAny_take (i := 2) (oi := { dst := some 62, op := Op.move (Operand.tmp 12), type := 25, pos := "law.go:225", after := #[], guard := none }) (v := ?_) rfl (by kernel_rfl) (by kernel_rfl) (by kernel_rfl) (by kernel_rfl) (fun _ _ _ h => h) (Or.inl ⟨by rfl, ?_⟩) HX.out ?_
    rotate_left
    (intro w0 hSw; clear hSw; go_simp; try (with_reducible rfl))
    (try simp only [Act.put, List.setIfInBounds_toArray, List.set_cons_zero, List.set_cons_succ])
    refine zAny_take (i := 3) (oi := { dst := some 63, op := Op.move (Operand.tmp 2), type := 25, pos := "law.go:225", after := #[], guard := none }) (v := ?_) rfl (by kernel_rfl) (by kernel_rfl) (by kernel_rfl) (by kernel_rfl) (fun _ _ _ h => h) (Or.inl ⟨by rfl, ?_⟩) HX.out ?_
    rotate_left
    (intro w0 hSw; clear hSw; go_simp; try (with_reducible rfl))
    (try simp only [Act.put, List.setIfInBounds_toArray, List.set_cons_zero, List.set_cons_succ])
    refine zAny_take (i := 4) (oi := { dst := some 64, op := Op.call { callee := Callee.builtin Builtin.len, args := #[Operand.tmp 63], argTypes := #[25] }, type := 3, pos := "law.go:225", after := #[{ on := 3, ground := Ground.data }], guard := none }) (v := ?_) rfl (by kernel_rfl) (by kernel_rfl) (by kernel_rfl) (by kernel_rfl) (fun _ _ _ h => h) (Or.inl ⟨by rfl, ?_⟩) HX.out ?_
    rotate_left
    (intro w0 hSw; clear hSw; go_simp; try (with_reducible rfl))
    (try simp only [Act.put, List.setIfInBounds_toArray, List.set_cons_zero, List.set_cons_succ])
    refine zAny_take (i := 5) (oi := { dst := some 65, op := Op.slice 25 (Operand.tmp 62) none (some (Operand.tmp 64)) none, type := 25, pos := "law.go:225", after := #[{ on := 2, ground := Ground.data }, { on := 4, ground := Ground.data }], guard := none }) (v := ?_) rfl (by kernel_rfl) (by kernel_rfl) (by kernel_rfl) (by kernel_rfl) (fun _ _ _ h => h) (Or.inl ⟨by rfl, ?_⟩) HX.out ?_
    rotate_left
    (intro w0 hSw; clear hSw; go_simp; try (with_reducible rfl))
    (try simp only [Act.put, List.setIfInBounds_toArray, List.set_cons_zero, List.set_cons_succ])
    refine zAny_ready (rs := [6, 10]) (by kernel_rfl) (by simp) (zReady.cons (o := { dst := some 66, op := Op.call { callee := Callee.value (Operand.func 5), args := #[Operand.tmp 60, Operand.tmp 61, Operand.tmp 65], argTypes := #[24, 9, 25] }, type := 31, pos := "law.go:225", after := #[{ on := 0, ground := Ground.data }, { on := 1, ground := Ground.data }, { on := 5, ground := Ground.data }], guard := none }) rfl (fun K hK => ?_) (zReady.cons (o := { dst := some 14, op := Op.alloc 24, type := 0, pos := "law.go:225", after := #[], guard := none }) rfl (fun K hK => ?_) zReady.nil))
    · skip
      go_simp
      refine (P1.out X HX.out).mono ?_
      rintro e w10 ⟨v, rfl, hO, hN⟩
      obtain ⟨a1, c1, rfl⟩ := own_shape hO.own
      have HX2 := hid (btr HX.out hN)
      have HO := hid hO
      refine hK.out _ _ (fun _ => HX2.out) (fun _ => ?_)
      clear hK K hO
      (try simp only [Act.put, List.setIfInBounds_toArray, List.set_cons_zero, List.set_cons_succ])
      refine zAny_take (i := 7) (oi := { dst := some 59, op := Op.move (Operand.tmp 66), type := 31, pos := "law.go:225", after := #[{ on := 6, ground := Ground.data }], guard := none }) (v := ?_) rfl (by kernel_rfl) (by kernel_rfl) (by kernel_rfl) (by kernel_rfl) (fun _ _ _ h => h) (Or.inl ⟨by rfl, ?_⟩) HX2.out ?_
      rotate_left
      (intro w0 hSw; clear hSw; go_simp; try (with_reducible rfl))
      (try simp only [Act.put, List.setIfInBounds_toArray, List.set_cons_zero, List.set_cons_succ])
      refine zAny_take (i := 8) (oi := { dst := some 67, op := Op.extract (Operand.tmp 59) 0, type := 24, pos := "law.go:225", after := #[{ on := 7, ground := Ground.data }], guard := none }) (v := ?_) rfl (by kernel_rfl) (by kernel_rfl) (by kernel_rfl) (by kernel_rfl) (fun _ _ _ h => h) (Or.inl ⟨by rfl, ?_⟩) HX2.out ?_
      rotate_left
      (intro w0 hSw; clear hSw; go_simp; try (with_reducible rfl))
      (try simp only [Act.put, List.setIfInBounds_toArray, List.set_cons_zero, List.set_cons_succ])
      refine zAny_take (i := 9) (oi := { dst := some 68, op := Op.extract (Operand.tmp 59) 1, type := 30, pos := "law.go:225", after := #[{ on := 7, ground := Ground.data }, { on := 11, ground := Ground.gcOnly Departure.lateStores }], guard := none }) (v := ?_) rfl (by kernel_rfl) (by kernel_rfl) (by kernel_rfl) (by kernel_rfl) (fun _ _ _ h => h) (Or.inl ⟨by rfl, ?_⟩) HX2.out ?_
      rotate_left
      (intro w0 hSw; clear hSw; go_simp; try (with_reducible rfl))
      (try simp only [Act.put, List.setIfInBounds_toArray, List.set_cons_zero, List.set_cons_succ])
      refine zAny_ready (rs := [10]) (by kernel_rfl) (by simp) (zReady.cons (o := { dst := some 14, op := Op.alloc 24, type := 0, pos := "law.go:225", after := #[], guard := none }) rfl (fun K hK => ?_) zReady.nil)
      go_simp
      refine hK.out _ _ (fun _ => bal HX2.out _) (fun _ => ?_)
      clear hK K
      (try simp only [Act.put, List.setIfInBounds_toArray, List.set_cons_zero, List.set_cons_succ])
      refine zAny_ready (rs := [11]) (by kernel_rfl) (by simp) (zReady.cons (o := { dst := none, op := Op.store 24 (Operand.tmp 14) (Operand.tmp 67), type := 0, pos := "law.go:225", after := #[{ on := 10, ground := Ground.data }, { on := 8, ground := Ground.data }, { on := 6, ground := Ground.chain }, { on := 0, ground := Ground.phase }, { on := 1, ground := Ground.phase }, { on := 2, ground := Ground.phase }, { on := 3, ground := Ground.phase }, { on := 4, ground := Ground.phase }, { on := 5, ground := Ground.phase }, { on := 6, ground := Ground.phase }, { on := 7, ground := Ground.phase }, { on := 8, ground := Ground.phase }, { on := 9, ground := Ground.textOnly Departure.lateStores }, { on := 10, ground := Ground.phase }], guard := none }) rfl (fun K hK => ?_) zReady.nil)
      have k0 := bk_new w10 #[.int .i64 0, .slice none 0 0] 24
      have x0 := k0.cell
      have x1 := k0.free
      have x2 := k0.lt
      go_simp
      refine hK.out _ _ (fun _ => bal HX2.out _) (fun _ => ?_)
      clear hK K k0 x0 x1 x2
      (try simp only [Act.put, List.setIfInBounds_toArray, List.set_cons_zero, List.set_cons_succ])
      refine zAny_ready (rs := [12]) (by kernel_rfl) (by simp) (zReady.cons (o := { dst := some 15, op := Op.assign (Operand.tmp 68), type := 30, pos := "law.go:225", after := #[{ on := 9, ground := Ground.data }, { on := 11, ground := Ground.chain }, { on := 0, ground := Ground.phase }, { on := 1, ground := Ground.phase }, { on := 2, ground := Ground.phase }, { on := 3, ground := Ground.phase }, { on := 4, ground := Ground.phase }, { on := 5, ground := Ground.phase }, { on := 6, ground := Ground.phase }, { on := 7, ground := Ground.phase }, { on := 8, ground := Ground.phase }, { on := 9, ground := Ground.phase }, { on := 10, ground := Ground.phase }, { on := 11, ground := Ground.phase }], guard := none }) rfl (fun K hK => ?_) zReady.nil)
      go_simp
      refine hK.out _ _ (fun h => absurd rfl h) (fun _ => ?_)
      clear hK K
      (try simp only [Act.put, List.setIfInBounds_toArray, List.set_cons_zero, List.set_cons_succ])
      refine zAny_done (by kernel_rfl) ?_ _
      refine NoPanic.normal ?_
      go_wp2
      go_meet
      case rel => exact ⟨_, _, _, rfl, rfl, bal HX2.out _, bk_new w10 #[.int .i64 N1, .slice a1 us.length c1] 24, (HO.out.mono HX.out.size).below (bal (Below.refl _ _) _), HX2.out.size⟩
    · go_simp
      have HXa := hid (bal HX.out (.cells #[.int .i64 0, .slice none 0 0] 24))
      have kz := hid (bk_new X #[.int .i64 0, .slice none 0 0] 24)
      refine hK.out _ _ (fun _ => HXa.out) (fun _ => ?_)
      clear hK K
      (try simp only [Act.put, List.setIfInBounds_toArray, List.set_cons_zero, List.set_cons_succ])
      have hz1 : Hid (V8.heap.size ≤ X.heap.size) := hid HX.out.size
      generalize hb14 : X.heap.size = b14 at kz hz1 ⊢
      generalize X.alloc (.cells #[.int .i64 0, .slice none 0 0] 24) = Xa at *
      refine zAny_ready (rs := [6]) (by kernel_rfl) (by simp) (zReady.cons (o := { dst := some 66, op := Op.call { callee := Callee.value (Operand.func 5), args := #[Operand.tmp 60, Operand.tmp 61, Operand.tmp 65], argTypes := #[24, 9, 25] }, type := 31, pos := "law.go:225", after := #[{ on := 0, ground := Ground.data }, { on := 1, ground := Ground.data }, { on := 5, ground := Ground.data }], guard := none }) rfl (fun K hK => ?_) zReady.nil)
      go_simp
      refine (P1.out Xa HXa.out).mono ?_
      rintro e w10 ⟨v, rfl, hO, hN⟩
      obtain ⟨a1, c1, rfl⟩ := own_shape hO.own
      have HX2 := hid (btr HXa.out hN)
      have HO := hid hO
      refine hK.out _ _ (fun _ => HX2.out) (fun _ => ?_)
      clear hK K hO
      (try simp only [Act.put, List.setIfInBounds_toArray, List.set_cons_zero, List.set_cons_succ])
      refine zAny_take (i := 7) (oi := { dst := some 59, op := Op.move (Operand.tmp 66), type := 31, pos := "law.go:225", after := #[{ on := 6, ground := Ground.data }], guard := none }) (v := ?_) rfl (by kernel_rfl) (by kernel_rfl) (by kernel_rfl) (by kernel_rfl) (fun _ _ _ h => h) (Or.inl ⟨by rfl, ?_⟩) HX2.out ?_
      rotate_left
      (intro w0 hSw; clear hSw; go_simp; try (with_reducible rfl))
      (try simp only [Act.put, List.setIfInBounds_toArray, List.set_cons_zero, List.set_cons_succ])
      refine zAny_take (i := 8) (oi := { dst := some 67, op := Op.extract (Operand.tmp 59) 0, type := 24, pos := "law.go:225", after := #[{ on := 7, ground := Ground.data }], guard := none }) (v := ?_) rfl (by kernel_rfl) (by kernel_rfl) (by kernel_rfl) (by kernel_rfl) (fun _ _ _ h => h) (Or.inl ⟨by rfl, ?_⟩) HX2.out ?_
      rotate_left
      (intro w0 hSw; clear hSw; go_simp; try (with_reducible rfl))
      (try simp only [Act.put, List.setIfInBounds_toArray, List.set_cons_zero, List.set_cons_succ])
      refine zAny_take (i := 9) (oi := { dst := some 68, op := Op.extract (Operand.tmp 59) 1, type := 30, pos := "law.go:225", after := #[{ on := 7, ground := Ground.data }, { on := 11, ground := Ground.gcOnly Departure.lateStores }], guard := none }) (v := ?_) rfl (by kernel_rfl) (by kernel_rfl) (by kernel_rfl) (by kernel_rfl) (fun _ _ _ h => h) (Or.inl ⟨by rfl, ?_⟩) HX2.out ?_
      rotate_left
      (intro w0 hSw; clear hSw; go_simp; try (with_reducible rfl))
      (try simp only [Act.put, List.setIfInBounds_toArray, List.set_cons_zero, List.set_cons_succ])
      refine zAny_ready (rs := [11]) (by kernel_rfl) (by simp) (zReady.cons (o := { dst := none, op := Op.store 24 (Operand.tmp 14) (Operand.tmp 67), type := 0, pos := "law.go:225", after := #[{ on := 10, ground := Ground.data }, { on := 8, ground := Ground.data }, { on := 6, ground := Ground.chain }, { on := 0, ground := Ground.phase }, { on := 1, ground := Ground.phase }, { on := 2, ground := Ground.phase }, { on := 3, ground := Ground.phase }, { on := 4, ground := Ground.phase }, { on := 5, ground := Ground.phase }, { on := 6, ground := Ground.phase }, { on := 7, ground := Ground.phase }, { on := 8, ground := Ground.phase }, { on := 9, ground := Ground.textOnly Departure.lateStores }, { on := 10, ground := Ground.phase }], guard := none }) rfl (fun K hK => ?_) zReady.nil)
      have k2 := hid (bk_on kz.out hN)
      have x0 := k2.out.cell
      have x1 := k2.out.free
      have x2 := k2.out.lt
      go_simp
      have HX4 := hid (bset (bset HX2.out b14 0 (.int .i64 N1) hz1.out) b14 1 (.slice a1 us.length c1) hz1.out)
      have k4 := hid ((k2.out.set 0 (.int .i64 N1)).set 1 (.slice a1 us.length c1))
      have O4 := hid (((HO.out.mono HXa.out.size).put k2.out (by decide) 0 (.int .i64 N1)).put (k2.out.set 0 (.int .i64 N1)) (by decide) 1 (.slice a1 us.length c1))
      refine hK.out _ _ (fun _ => HX4.out) (fun _ => ?_)
      clear hK K x0 x1 x2
      (try simp only [Act.put, List.setIfInBounds_toArray, List.set_cons_zero, List.set_cons_succ])
      refine zAny_ready (rs := [12]) (by kernel_rfl) (by simp) (zReady.cons (o := { dst := some 15, op := Op.assign (Operand.tmp 68), type := 30, pos := "law.go:225", after := #[{ on := 9, ground := Ground.data }, { on := 11, ground := Ground.chain }, { on := 0, ground := Ground.phase }, { on := 1, ground := Ground.phase }, { on := 2, ground := Ground.phase }, { on := 3, ground := Ground.phase }, { on := 4, ground := Ground.phase }, { on := 5, ground := Ground.phase }, { on := 6, ground := Ground.phase }, { on := 7, ground := Ground.phase }, { on := 8, ground := Ground.phase }, { on := 9, ground := Ground.phase }, { on := 10, ground := Ground.phase }, { on := 11, ground := Ground.phase }], guard := none }) rfl (fun K hK => ?_) zReady.nil)
      go_simp
      refine hK.out _ _ (fun h => absurd rfl h) (fun _ => ?_)
      clear hK K
      (try simp only [Act.put, List.setIfInBounds_toArray, List.set_cons_zero, List.set_cons_succ])
      refine zAny_done (by kernel_rfl) ?_ _
      refine NoPanic.normal ?_
      go_wp2
      go_meet
      case rel => exact ⟨_, _, _, rfl, rfl, HX4.out, k4.out, O4.out, hz1.out⟩
  obtain ⟨b14, a1, c1, rfl, rfl, hN, k14, o14, hb14⟩ := hcut
  have HN := hid hN
  have F3 : Hid (∀ k, (Value.slice a1 us.length c1).ownBlock = some k → V8.heap.size ≤ k ∧ k < wc.heap.size) := o14.lt
  have F2 : Hid (V8.heap.size ≤ b14 ∧ b14 < wc.heap.size) := ⟨hb14, k14.lt⟩
  have F1 : Hid (g11 < V8.heap.size) := (OR.out.lt g11 rfl).2
  have G5 : Hid (w.heap.size < V8.heap.size) := K5.out.lt
  have F0 : Hid (w.heap.size ≠ g11) := fun e => own_ne OR.out.own K5.out (by decide) g11 rfl (by rw [e])
  have F13 : Hid (b13 ≠ g11) := fun e => own_ne OR.out.own K13.out (by decide) g11 rfl (by rw [e])
  have L13 : Hid (b13 < V8.heap.size) := K13.out.lt
  have W8 := hid hN.size
  have K14 := hid k14
  have O14 := hid o14
  replace HB := hid (btr HB.out hN)
  replace K5 := hid (bk_on K5.out hN)
  replace K13 := hid (bk_on K13.out hN)
  replace OR := hid (OR.out.below hN)
  replace RQ := hid (RQ.out.below hN)
  have L12 : Hid (g12 < V8.heap.size) := hid (by obtain ⟨cs, h⟩ := HK12.out; exact h.lt)
  replace R77 := hid ((hN.cell (p := ⟨g12, _, none⟩) L12.out).trans R77.out)
  clear hN k14 o14 hb14 P1 hx1 hx2 d13 l13 HK12 HN
  obtain ⟨T2, E2, hT2, B1, B2⟩ := project_two ⟨n, rs⟩ qb bit (show rs.length ≤ 500 from h1)
  have RY := hid B1
  have P2 := hid (fun (W : World) (h : Below wc.heap.size wc W) => B2 (some ⟨g11, 0, none⟩) c11 W (OT.tsn (OR.out.below h) (by rw [List.length_append, List.length_singleton])).pre)
  obtain ⟨N2, vs⟩ := T2
  simp only at RY P2 hT2
  clear B1 B2
  have d13 := K13.out.cell
  have l13 := K13.out.lt
  go_wp2_with (go_at_call 6; refine Hid.out ?_)
  refine hid ?_
  refine (P2.out wc (Below.refl _ _)).mono ?_
  rintro e w9 ⟨v, rfl, hO, hN⟩
  obtain ⟨a2, c2, rfl⟩ := own_shape hO.own
  go_upto_region 10 with (fail)
  have hA := bal (Below.refl w9.heap.size w9) (.cells #[.int .i64 N2, .slice a2 vs.length c2] 24)
  have K16 := hid (bk_new w9 #[.int .i64 N2, .slice a2 vs.length c2] 24)
  have O16 := hid (hO.below hA)
  have hNA := btr hN hA
  have HN9 := hid hNA
  have W9 : Hid (wc.heap.size ≤ w9.heap.size) := hid hN.size
  have L16 : Hid (w9.heap.size < (w9.alloc (.cells #[.int .i64 N2, .slice a2 vs.length c2] 24)).heap.size) := K16.out.lt
  replace HB := hid (btr HB.out hNA)
  replace K5 := hid (bk_on K5.out hNA)
  replace K13 := hid (bk_on K13.out hNA)
  replace K14 := hid (bk_on K14.out hNA)
  replace O14 := hid (O14.out.below hNA)
  replace OR := hid (OR.out.below hNA)
  replace RQ := hid (RQ.out.below hNA)
  replace R77 := hid ((hNA.cell (p := ⟨g12, _, none⟩) (Nat.lt_of_lt_of_le L12.out W8.out)).trans R77.out)
  clear hO hN hA hNA d13 l13
  generalize w9.alloc (.cells #[.int .i64 N2, .slice a2 vs.length c2] 24) = Z9 at *
  generalize w9.heap.size = b16 at *
  have F4 : Hid (∀ k, (Value.slice a2 vs.length c2).ownBlock = some k → wc.heap.size ≤ k ∧ k < Z9.heap.size) := O16.out.lt
  have d13 := K13.out.cell
  have l13 := K13.out.lt
  go_wp2_with (go_at_call 6; refine Hid.out ?_)
  refine hid ?_
  refine (P2.out Z9 HN9.out).mono ?_
  rintro e w10 ⟨v, rfl, hO, hN⟩
  obtain ⟨a3, c3, rfl⟩ := own_shape hO.own
  go_upto_region 11 with (fail)
  have hA := bal (Below.refl w10.heap.size w10) (.cells #[.int .i64 N2, .slice a3 vs.length c3] 24)
  have K18 := hid (bk_new w10 #[.int .i64 N2, .slice a3 vs.length c3] 24)
  have O18 := hid (hO.below hA)
  have hNA := btr hN hA
  have W10 : Hid (Z9.heap.size ≤ w10.heap.size) := hid hN.size
  replace HB := hid (btr HB.out hNA)
  replace K5 := hid (bk_on K5.out hNA)
  replace K13 := hid (bk_on K13.out hNA)
  replace K14 := hid (bk_on K14.out hNA)
  replace O14 := hid (O14.out.below hNA)
  replace K16 := hid (bk_on K16.out hNA)
  replace O16 := hid (O16.out.below hNA)
  replace OR := hid (OR.out.below hNA)
  replace RQ := hid (RQ.out.below hNA)
  have W9c := hid HN9.out.size
  replace R77 := hid ((hNA.cell (p := ⟨g12, _, none⟩) (Nat.lt_of_lt_of_le (Nat.lt_of_lt_of_le L12.out W8.out) W9c.out)).trans R77.out)
  clear hO hN hA hNA d13 l13 P2 HN9
  generalize w10.alloc (.cells #[.int .i64 N2, .slice a3 vs.length c3] 24) = Z10 at *
  generalize w10.heap.size = b18 at *
  have F5 : Hid (∀ k, (Value.slice a3 vs.length c3).ownBlock = some k → Z9.heap.size ≤ k) := fun k hk => (O18.out.lt k hk).1
  have L12b : Hid (g12 < Z10.heap.size) := hid (by have h1 := L12.out; have h2 := W8.out; have h3 := W9c.out; have h4 := W10.out; have h5 := K18.out.lt; omega)
  have EQ := hid (requal_any ⟨n, rs⟩ ⟨n, rs⟩ (some ⟨g11, 0, none⟩) a c11 c Z10 (OT.tsn OR.out (by rw [List.length_append, List.length_singleton])).pre (HT.out.below HB.out) true (fun _ => rfl) (fun h => absurd rfl h))
  have d13 := K13.out.cell
  have l13 := K13.out.lt
  have d5 := K5.out.cell
  have l5 := K5.out.lt
  go_wp2_with (go_at_call 7; refine Hid.out ?_)
  refine hid ?_
  refine EQ.out.mono ?_
  rintro e V0 ⟨rfl, hN⟩
  replace HB := hid (btr HB.out hN)
  replace K5 := hid (bk_on K5.out hN)
  replace K13 := hid (bk_on K13.out hN)
  replace K14 := hid (bk_on K14.out hN)
  replace O14 := hid (O14.out.below hN)
  replace K16 := hid (bk_on K16.out hN)
  replace O16 := hid (O16.out.below hN)
  replace K18 := hid (bk_on K18.out hN)
  replace O18 := hid (O18.out.below hN)
  replace OR := hid (OR.out.below hN)
  replace RQ := hid (RQ.out.below hN)
  replace R77 := hid ((hN.cell (p := ⟨g12, _, none⟩) L12b.out).trans R77.out)
  clear hN EQ d13 l13 d5 l5
  have m77 : V0.cell? ⟨g11, rs.length * 4, none⟩ = some (.int .i64 77) := by
    have h := (OT.at_ OR.out (j := rs.length) (by rw [List.length_append, List.length_singleton]; omega)).2.1
    simpa using h
  have n77 := R77.out
  have d5 := K5.out.cell
  have l5 := K5.out.lt
  go_wp2
  go_loopw [20] (fun v20 wx => ∃ k : Nat, k ≤ m ∧ v20 = .int .i64 (k : Nat) ∧ Hid (Below V0.heap.size V0 wx)) (fun v20 _ => m - (intOf v20).toNat)
  case atStart => exact ⟨0, Nat.zero_le _, rfl, hid (Below.refl _ _)⟩
  case round =>
    obtain ⟨k, hk, rfl, HX⟩ := hrel
    by_cases hlt : k < m
    case pos =>
      obtain ⟨b1, o1, rfl, e1⟩ := (HR.out.below (btr HB.out HX.out)).at_ k hlt
      obtain ⟨b2, o2, e3, e2⟩ := (RQ.out.below HX.out).at_ k hlt
      injection e3 with e3
      injection e3 with e4 e5
      subst e4
      subst e5
      rw [Nat.zero_add] at e2
      have hC1 := HC12.out.1
      have hC2 := HC12.out.2
      clear m77 n77 d5 l5
      go_upto_region 16 with (fail)
      go_quiet (fail)
      go_wp2
      exact ⟨⟨k + 1, by omega, rfl, hid (below_drewN HX.out _)⟩, by simp only [intOf]; omega⟩
    clear m77 n77 d5 l5 R77 RQ L12 L12b
    replace HB := hid (btr HB.out HX.out)
    replace K5 := hid (bk_on K5.out HX.out)
    replace K13 := hid (bk_on K13.out HX.out)
    replace K14 := hid (bk_on K14.out HX.out)
    replace O14 := hid (O14.out.below HX.out)
    replace K16 := hid (bk_on K16.out HX.out)
    replace O16 := hid (O16.out.below HX.out)
    replace K18 := hid (bk_on K18.out HX.out)
    replace O18 := hid (O18.out.below HX.out)
    replace OR := hid (OR.out.below HX.out)
    clear HX
    generalize wr = Vb at *
    go_wp2
    clear hlt hk
    go_loopw [21] (fun v21 wx => ∃ (j : Nat) (xs : List Pr), j ≤ rs.length ∧ v21 = .int .i64 (j : Nat) ∧ Hid (xs.length = rs.length + 1) ∧ Hid (OT wx w1.heap.size (.slice (some ⟨g11, 0, none⟩) (rs.length + 1) c11) xs) ∧ Hid (Kx (fun k => k = g11) Vb wx) ∧ Hid (Below w.heap.size w wx)) (fun v21 _ => rs.length - (intOf v21).toNat)
    case atStart => exact ⟨0, rs ++ [⟨77, 0, 0, 0⟩], Nat.zero_le _, rfl, hid (by rw [List.length_append, List.length_singleton]), OR, hid (Kx.refl _ _), HB⟩
    case round =>
      clear OR HB
      obtain ⟨j, xs, hj, rfl, HXL, HO, HK, HB⟩ := hrel
      have k13 := HK.out.bk K13.out F13.out
      have d13 := k13.cell
      have l13 := k13.lt
      clear k13
      by_cases hju : j < rs.length
      case pos =>
        have hjx : j < xs.length := by rw [HXL.out]; omega
        obtain ⟨hfz, m0, m1, m2', m3, hgB, hgl⟩ := OT.at_ HO.out hjx
        have hgw := hG0.out
        have HS1 := hid (OT.set0 HO.out HXL.out hjx ⟨5, 0, 0, 0⟩ ⟨by decide, by decide⟩)
        have HK1 := hid ((((HK.out.set rfl (j * 4) (.int .i64 5)).set rfl (j * 4 + 1) (.int .u64 0)).set rfl (j * 4 + 2) (.int .u64 0)).set rfl (j * 4 + 3) (.int .i64 0))
        have HB1 := hid (bset (bset (bset (bset HB.out g11 (j * 4) (.int .i64 5) hgw) g11 (j * 4 + 1) (.int .u64 0) hgw) g11 (j * 4 + 2) (.int .u64 0) hgw) g11 (j * 4 + 3) (.int .i64 0) hgw)
        have hC1 := HG.out.1
        have hC2 := HG.out.2
        clear HO HK HB hgB hgw
        go_wp2
        exact ⟨⟨j + 1, xs.set j ⟨5, 0, 0, 0⟩, by omega, rfl, hid (by rw [List.length_set]; exact HXL.out), HS1, HK1, HB1⟩, by simp only [intOf]; omega⟩
      replace K5 := hid (HK.out.bk K5.out F0.out)
      have n14 : b14 ≠ g11 := by have h1 := F1.out; have h2 := F2.out; omega
      have n16 : b16 ≠ g11 := by have h1 := F1.out; have h2 := W8.out; have h3 := W9.out; omega
      have n18 : b18 ≠ g11 := by have h1 := F1.out; have h2 := W8.out; have h3 := W9c.out; have h4 := W10.out; omega
      replace K14 := hid (HK.out.bk K14.out n14)
      replace K16 := hid (HK.out.bk K16.out n16)
      replace K18 := hid (HK.out.bk K18.out n18)
      replace O14 := hid (HK.out.ot O14.out (fun g hg e => by have h1 := F1.out; have h2 := F3.out g hg; have e : g = g11 := e; omega))
      replace O16 := hid (HK.out.ot O16.out (fun g hg e => by have h1 := F1.out; have h2 := F4.out g hg; have h3 := W8.out; have e : g = g11 := e; omega))
      replace O18 := hid (HK.out.ot O18.out (fun g hg e => by have h1 := F1.out; have h2 := F5.out g hg; have h3 := W8.out; have h4 := W9c.out; have e : g = g11 := e; omega))
      have hcap2 : vs.length ≤ c2 := (OT.ts' O16.out).cap
      have hcl2 : c2 ≤ 9223372036854775807 := (OT.ts' O16.out).l
      clear HO HK HXL n14 n16 n18 K13
      generalize wr = Vc at *
      have d16 := K16.out.cell
      have l16 := K16.out.lt
      have hw1 : Hid (w.heap.size ≤ wc.heap.size) := hid (by have h1 := G5.out; have h2 := W8.out; omega)
      replace O16 := hid (O16.out.mono hw1.out)
      go_wp2
      clear d16 l16 d13 l13 hju hj
      go_loopw [22] (fun v22 wx => ∃ (j : Nat) (xs : List Pr), j ≤ vs.length ∧ v22 = .int .i64 (j : Nat) ∧ Hid (xs.length = vs.length) ∧ Hid (OT wx w.heap.size (.slice a2 vs.length c2) xs) ∧ Hid (BK wx b16 #[.int .i64 N2, .slice a2 vs.length c2] 24) ∧ Hid (Kx (fun k => (Value.slice a2 vs.length c2).ownBlock = some k) Vc wx) ∧ Hid (Below w.heap.size w wx)) (fun v22 _ => vs.length - (intOf v22).toNat)
      case atStart => exact ⟨0, vs, Nat.zero_le _, rfl, hid rfl, O16, K16, hid (Kx.refl _ _), HB⟩
      case round =>
        clear O16 K16 HB
        obtain ⟨j, xs, hj, rfl, HXL, HO, K16, HK, HB⟩ := hrel
        have d16 := K16.out.cell
        have l16 := K16.out.lt
        by_cases hju : j < vs.length
        case pos =>
          have hjx : j < xs.length := by rw [HXL.out]; exact hju
          obtain ⟨g, cap, e, hnc, _, _, _, _⟩ := own_at HO.out.own (by omega)
          injection e with e1 hle e3
          subst e1
          subst e3
          clear hle hnc
          obtain ⟨hfz, m0, m1, m2', m3, hgB, hgl⟩ := OT.at_ HO.out hjx
          have hne : g ≠ b16 := fun e => own_ne HO.out.own K16.out (by decide) g rfl (by rw [e])
          have HS1 := hid (OT.set0 HO.out HXL.out hjx ⟨6, 0, 0, 0⟩ ⟨by decide, by decide⟩)
          have HK16 := hid ((((K16.out.far hne (j * 4) (.int .i64 6)).far hne (j * 4 + 1) (.int .u64 0)).far hne (j * 4 + 2) (.int .u64 0)).far hne (j * 4 + 3) (.int .i64 0))
          have HK1 := hid ((((HK.out.set rfl (j * 4) (.int .i64 6)).set rfl (j * 4 + 1) (.int .u64 0)).set rfl (j * 4 + 2) (.int .u64 0)).set rfl (j * 4 + 3) (.int .i64 0))
          have HB1 := hid (bset (bset (bset (bset HB.out g (j * 4) (.int .i64 6) hgB) g (j * 4 + 1) (.int .u64 0) hgB) g (j * 4 + 2) (.int .u64 0) hgB) g (j * 4 + 3) (.int .i64 0) hgB)
          clear HO HK HB hgB K16
          go_wp2
          exact ⟨⟨j + 1, xs.set j ⟨6, 0, 0, 0⟩, by omega, rfl, hid (by rw [List.length_set]; exact HXL.out), HS1, HK16, HK1, HB1⟩, by simp only [intOf]; omega⟩
        have n5 : ¬ (Value.slice a2 vs.length c2).ownBlock = some w.heap.size := fun e => by have h1 := F4.out _ e; have h2 := G5.out; have h3 := W8.out; omega
        have n14 : ¬ (Value.slice a2 vs.length c2).ownBlock = some b14 := fun e => by have h1 := F4.out _ e; have h2 := F2.out; omega
        have n18 : ¬ (Value.slice a2 vs.length c2).ownBlock = some b18 := fun e => by have h1 := F4.out _ e; have h2 := W10.out; omega
        replace K5 := hid (HK.out.bk K5.out n5)
        replace K14 := hid (HK.out.bk K14.out n14)
        replace K18 := hid (HK.out.bk K18.out n18)
        replace O14 := hid (HK.out.ot O14.out (fun g hg e => by have h1 := F3.out g hg; have h2 := F4.out g e; omega))
        replace O18 := hid (HK.out.ot O18.out (fun g hg e => by have h1 := F5.out g hg; have h2 := F4.out g e; omega))
        clear HK n5 n14 n18
        generalize wr = Vd at *
        go_wp2
        clear hju hj d16 l16
        go_loopw [23] (fun v23 wx => ∃ (j : Nat) (v : Value) (xs : List Pr), j ≤ 20 ∧ v23 = .int .i64 (j : Nat) ∧ Hid (xs.length = vs.length + j) ∧ Hid (OT wx w.heap.size v xs) ∧ Hid (BK wx b16 #[.int .i64 N2, v] 24) ∧ Hid (∀ g, v.ownBlock = some g → (g = b16 ∨ (Value.slice a2 vs.length c2).ownBlock = some g) ∨ Vd.heap.size ≤ g) ∧ Hid (Kx (fun k => k = b16 ∨ (Value.slice a2 vs.length c2).ownBlock = some k) Vd wx) ∧ Hid (Below w.heap.size w wx)) (fun v23 _ => 20 - (intOf v23).toNat)
        case atStart => exact ⟨0, .slice a2 vs.length c2, xs, Nat.zero_le _, rfl, HXL, HO, K16, hid (fun g hg => .inl (.inr hg)), hid (Kx.refl _ _), HB⟩
        case round =>
          clear HO K16 HB HXL
          obtain ⟨j, v, xs, hj, rfl, HXL, HO, K16, HV, HK, HB⟩ := hrel
          have d16 := K16.out.cell
          have l16 := K16.out.lt
          have hb16 : Hid (w.heap.size ≤ b16) := hid (by have h1 := G5.out; have h2 := W8.out; have h3 := W9.out; omega)
          by_cases hj20 : j < 20
          case pos =>
            have hxl := HXL.out
            go_wp2_with (at_builtin; refine Hid.out ?_)
            refine hid ?_
            refine app_p rfl _ _ rfl rfl rfl HO.out HB.out.size (by omega) ?_
            intro v6 w6 hO6 hg6 hb6
            have hg6 : (wr.alloc (pC 7)).grownBy w6 v.ownBlock := hg6
            have hb6 : v6.ownBlock = v.ownBlock ∨ ∃ g, v6.ownBlock = some g ∧ wr.heap.size ≤ g := hb6
            obtain ⟨a6, c6, e6⟩ := own_shape hO6.own
            have hL : (xs ++ [(⟨7, 0, 0, 0⟩ : Pr)]).length = vs.length + j + 1 := by rw [List.length_append, List.length_singleton, hxl]
            rw [hL] at e6
            subst e6
            generalize hv6 : Value.slice a6 (vs.length + j + 1) c6 = v6 at hO6 hb6
            have hA := bal (Below.refl wr.heap.size wr) (pC 7)
            have hO2 := own_below HO.out.own hA
            have hK6 := bk_grown hO2 hg6 (K16.out.alloc (pC 7)) (by decide)
            have hB6 := below_own (bal HB.out (pC 7)) hO2 hg6
            have hX6 := (HK.out.on hA).grow hg6 HV.out
            have HV6 : Hid (∀ g, v6.ownBlock = some g → (g = b16 ∨ (Value.slice a2 vs.length c2).ownBlock = some g) ∨ Vd.heap.size ≤ g) := hid (fun g hg => by
              rcases hb6 with e | ⟨g', e, h⟩
              · exact HV.out g (by rw [← e]; exact hg)
              · rw [hg] at e
                have e := Option.some.inj e
                have h2 := HK.out.1
                right
                omega)
            subst hv6
            have HO7 := hid (hO6.put hK6 (by decide) 1 (.slice a6 (vs.length + j + 1) c6))
            have HK7 := hid (hK6.set 1 (.slice a6 (vs.length + j + 1) c6))
            have HX7 := hid (hX6.set (.inl rfl : b16 = b16 ∨ _) 1 (.slice a6 (vs.length + j + 1) c6))
            have HB7 := hid (bset hB6 b16 1 (.slice a6 (vs.length + j + 1) c6) hb16.out)
            have f16 := hK6.free
            have c16 := hK6.cell
            have g16 := hK6.lt
            clear hO6 hg6 hb6 hA hO2 hK6 hB6 hX6 HO K16 HV HK HB d16 l16
            go_wp2
            exact ⟨⟨j + 1, _, _, by omega, rfl, hid (by rw [List.length_append, List.length_singleton]; omega), HO7, HK7, HV6, HX7, HB7⟩, by simp only [intOf]; omega⟩
          obtain rfl : j = 20 := by omega
          have n5 : ¬ (w.heap.size = b16 ∨ (Value.slice a2 vs.length c2).ownBlock = some w.heap.size) := fun e => by
            rcases e with e | e
            · have h2 := G5.out; have h3 := W8.out; have h4 := W9.out; omega
            · have h1 := F4.out _ e; have h2 := G5.out; have h3 := W8.out; omega
          have n14 : ¬ (b14 = b16 ∨ (Value.slice a2 vs.length c2).ownBlock = some b14) := fun e => by
            rcases e with e | e
            · have h2 := F2.out; have h4 := W9.out; omega
            · have h1 := F4.out _ e; have h2 := F2.out; omega
          have n18 : ¬ (b18 = b16 ∨ (Value.slice a2 vs.length c2).ownBlock = some b18) := fun e => by
            rcases e with e | e
            · have h2 := L16.out; have h4 := W10.out; omega
            · have h1 := F4.out _ e; have h2 := W10.out; omega
          replace K5 := hid (HK.out.bk K5.out n5)
          replace K14 := hid (HK.out.bk K14.out n14)
          replace K18 := hid (HK.out.bk K18.out n18)
          replace O14 := hid (HK.out.ot O14.out (fun g hg e => by
            have h1 := F3.out g hg
            rcases e with e | e
            · have h4 := W9.out; omega
            · have h2 := F4.out g e; omega))
          replace O18 := hid (HK.out.ot O18.out (fun g hg e => by
            have h1 := F5.out g hg
            rcases e with e | e
            · have h4 := L16.out; omega
            · have h2 := F4.out g e; omega))
          have hvl := HXL.out
          have h20 : (20 : Int) ≤ (xs.length : Int) := by omega
          have h20d : decide ((20 : Int) ≤ (xs.length : Int)) = true := decide_eq_true h20
          obtain ⟨av, cv, rfl⟩ := own_shape HO.out.own
          clear HK n5 n14 n18 d16 l16 HV hb16 HXL HO hvl
          generalize wr = Ve at *
          have P8 := hid (RX.out a c aq cq Ve (HT.out.below HB.out) (HR.out.below HB.out) hm hc)
          have d5 := K5.out.cell
          have l5 := K5.out.lt
          go_wp2_with (go_at_call 8; refine Hid.out ?_)
          refine hid ?_
          refine P8.out.mono ?_
          rintro e z8 ⟨v8, rfl, hO, hN⟩
          obtain ⟨a8, c8, rfl⟩ := own_shape hO.own
          go_upto_region 31 with (fail)
          have hA := bal (Below.refl z8.heap.size z8) (.cells #[.int .i64 N1, .slice a8 us.length c8] 24)
          have K24 := hid (bk_new z8 #[.int .i64 N1, .slice a8 us.length c8] 24)
          have O24 := hid (hO.below hA)
          have hNA := btr hN hA
          replace HB := hid (btr HB.out hNA)
          replace K5 := hid (bk_on K5.out hNA)
          replace K14 := hid (bk_on K14.out hNA)
          replace O14 := hid (O14.out.below hNA)
          replace K16 := hid (bk_on K16.out hNA)
          replace K18 := hid (bk_on K18.out hNA)
          replace O18 := hid (O18.out.below hNA)
          clear hO hN hA hNA P8 d5 l5
          generalize z8.alloc (.cells #[.int .i64 N1, .slice a8 us.length c8] 24) = Z24 at *
          generalize z8.heap.size = b24 at *
          have P9 := hid (RY.out a c Z24 (HT.out.below HB.out))
          have d5 := K5.out.cell
          have l5 := K5.out.lt
          go_wp2_with (go_at_call 9; refine Hid.out ?_)
          refine hid ?_
          refine P9.out.mono ?_
          rintro e z9 ⟨v9, rfl, hO, hN⟩
          obtain ⟨a9, c9, rfl⟩ := own_shape hO.own
          go_upto_region 32 with (fail)
          have hA := bal (Below.refl z9.heap.size z9) (.cells #[.int .i64 N2, .slice a9 vs.length c9] 24)
          have K26 := hid (bk_new z9 #[.int .i64 N2, .slice a9 vs.length c9] 24)
          have O26 := hid (hO.below hA)
          have hNA := btr hN hA
          replace HB := hid (btr HB.out hNA)
          replace K14 := hid (bk_on K14.out hNA)
          replace O14 := hid (O14.out.below hNA)
          replace K16 := hid (bk_on K16.out hNA)
          replace K18 := hid (bk_on K18.out hNA)
          replace O18 := hid (O18.out.below hNA)
          replace K24 := hid (bk_on K24.out hNA)
          replace O24 := hid (O24.out.below hNA)
          clear hO hN hA hNA P9 d5 l5 K5
          generalize z9.alloc (.cells #[.int .i64 N2, .slice a9 vs.length c9] 24) = Z26 at *
          generalize z9.heap.size = b26 at *
          have Q1 := hid (requal_any ⟨N1, us⟩ ⟨N1, us⟩ a1 a8 c1 c8 Z26 O14.out.ts' O24.out.ts' true (fun _ => rfl) (fun h => absurd rfl h))
          have Q2 := hid (fun (W : World) (h : Below Z26.heap.size Z26 W) => requal_any ⟨N2, vs⟩ ⟨N2, vs⟩ a3 a9 c3 c9 W (O18.out.below h).ts' (O26.out.below h).ts' true (fun _ => rfl) (fun h => absurd rfl h))
          have hEE : (E == E) = true := by simp
          have hEE2 : (E2 == E2) = true := by simp
          have d14 := K14.out.cell
          have l14 := K14.out.lt
          have d24 := K24.out.cell
          have l24 := K24.out.lt
          go_wp2_with (go_at_call 7; refine Hid.out ?_)
          refine hid ?_
          refine Q1.out.mono ?_
          rintro e y1 ⟨rfl, hN⟩
          have k18 := bk_on K18.out hN
          have k26 := bk_on K26.out hN
          have d18 := k18.cell
          have l18 := k18.lt
          have d26 := k26.cell
          have l26 := k26.lt
          clear d14 l14 d24 l24 k18 k26
          go_wp2_with (go_at_call 7; refine Hid.out ?_)
          refine hid ?_
          refine (Q2.out y1 hN).mono ?_
          rintro e y2 ⟨rfl, hN2⟩
          have k16 := bk_on K16.out (btr hN hN2)
          have d16 := k16.cell
          have l16 := k16.lt
          clear d18 l18 d26 l26 k16
          go_wp2
          go_ret
          exact ⟨rfl, btr HB.out (btr hN hN2)⟩
end Go.Proofs.Ytoddbaljnlhhaab
