/-
  Circuits put in another order: Order of the code.
-/
import Derived.Test.YtfaoegiignalkaaO6
import Derived.Test.YtfaoegiignalkaaJ11
namespace Go.Proofs.Ytfaoegiignalkaa
open Go.RowKit Go.Shelf
attribute [local go_sem] Oper.semAt_some

/-- No two bound operations are turned about. -/
def OrdOk (os : List Oq) (l : List Int) : Prop := ∀ i k (hi : i < l.length) (_ : k < i), ¬ (l[i] < l[k] ∧ bdB (os.getD l[k].toNat noOq) (os.getD l[i].toNat noOq) = true)
/-- What Order tells: the circuit and the error. -/
def OrS (c : Ci) (l : List Int) (R : Ci) (E : Nat) : Prop :=
  ((lk c).2.2 ≠ 0 ∧ E = (lk c).2.2 ∧ R = noCi) ∨ ((lk c).2.2 = 0 ∧ ¬ (Each l c.ops.length ∧ OrdOk c.ops l) ∧ E = 2 ∧ R = noCi) ∨
  ((lk c).2.2 = 0 ∧ (Each l c.ops.length ∧ OrdOk c.ops l) ∧ E = 0 ∧ R = ⟨c.q, c.b, l.map fun j => c.ops.getD j.toNat noOq⟩)
theorem OrS.one {c : Ci} {l : List Int} {R R' : Ci} {E E' : Nat} (h : OrS c l R E) (h' : OrS c l R' E') : R = R' ∧ E = E' := by
  rcases h with ⟨h1, rfl, rfl⟩ | ⟨h1, h2, rfl, rfl⟩ | ⟨h1, h2, rfl, rfl⟩ <;> rcases h' with ⟨g1, rfl, rfl⟩ | ⟨g1, g2, rfl, rfl⟩ | ⟨g1, g2, rfl, rfl⟩ <;> first | exact ⟨rfl, rfl⟩ | exact absurd g1 h1 | exact absurd h1 g1 | exact absurd g2 h2 | exact absurd h2 g2
def OrR (c : Ci) (l : List Int) (w : World) (e : Ending) (w' : World) : Prop := ∃ R E a' c' vs, OrS c l R E ∧ e = .returned (.tuple #[civ R a' c', .int .i64 (E : Nat)]) ∧ OO w' w.heap.size (.slice a' R.ops.length c') R.ops vs ∧ Below w.heap.size w w'
theorem orr_no {c : Ci} {l : List Int} {w w' : World} {E : Nat} (h : OrS c l noCi E) (hB : Below w.heap.size w w') : OrR c l w (.returned (.tuple #[civ noCi none 0, .int .i64 (E : Nat)])) w' :=
  ⟨noCi, E, none, 0, [], h, rfl, OO.nil _ _, hB⟩
/-- What Order keeps: box, marks, the operations so far. -/
structure OF (w W : World) (c : Ci) (a : Option Addr) (cp MB : Nat) (f : Nat → Nat) (v : Value) (os : List Oq) (vs : List (Option Addr × Nat)) : Prop where
  lf : LF w W c a cp MB f
  oo : OO W w.heap.size v os vs
section
variable {w W W' : World} {c : Ci} {a : Option Addr} {cp MB : Nat} {f : Nat → Nat} {v v' : Value} {os : List Oq} {vs : List (Option Addr × Nat)}
theorem OF.on (h : OF w W c a cp MB f v os vs) (hb : Below W.heap.size W W') : OF w W' c a cp MB f v os vs := ⟨h.lf.on hb, h.oo.below hb⟩
theorem OF.put {f' : Nat → Nat} (h : OF w W c a cp MB f v os vs) (hg : GB W W' MB) (hm : MK W' MB f') : OF w W' c a cp MB f' v os vs := by
  obtain ⟨cs, hc⟩ := h.lf.ms.ty
  exact ⟨h.lf.put hg hm, h.oo.other hc (by decide) (by decide) hg⟩
theorem OF.next {o : Oq} {a2 : Option Addr} {c2 : Nat} (h : OF w W c a cp MB f v os vs) (hq : W.ownsRow w.heap.size 3 1 (.slice a2 o.qs.length c2) o.qs.length (zl o.qs)) (hf : Fit o) (hg : W.grownBy W' v.ownBlock) (ho : W'.ownsRow w.heap.size 57 7 v' (os.length + 1) (opw os vs ++ opc o a2 c2)) : OF w W' c a cp MB f v' (os ++ [o]) (vs ++ [(a2, c2)]) :=
  ⟨h.lf.grow hg (own_row h.oo.own (by decide) (by decide)), h.oo.put hq hf hg ho⟩
end
abbrev gO (os : List Oq) (j : Int) : Oq := os.getD j.toNat noOq
abbrev pO (os : List Oq) (j : Int) : Oq × Nat := (os.getD j.toNat noOq, j.toNat)
set_option maxHeartbeats 4000000 in
set_option maxRecDepth 100000 in
theorem order_any (c : Ci) (a : Option Addr) (cp : Nat) (A : Nat → Option Addr) (C : Nat → Nat) (l : List Int) (al : Option Addr) (cl : Nat) (w : World) (H : OS w a cp c.ops A C) (hq : QS w al cl l) (hl : l.length ≤ 9223372036854775807) :
    Calls Try.prog 26 #[civ c a cp, .slice al l.length cl] w fun e w' => OrR c l w e w' := by
  have L := fun w1 h => check_any c a cp A C w1 h
  have HO := hid H
  have HQ := hid hq
  have HN : Hid (∀ E w', OrS c l noCi E → Below w.heap.size w w' → OrR c l w (.returned (.tuple #[civ noCi none 0, .int .i64 (E : Nat)])) w') := fun E w' h hB => orr_no h hB
  by_cases hE : (lk c).2.2 = 0
  case neg =>
    have HS : Hid (OrS c l noCi (lk c).2.2) := .inl ⟨hE, rfl, rfl⟩
    have hE1 : (((lk c).2.2 : Int) != 0) = true := bne_iff_ne.2 (by omega)
    clear hE H hq
    generalize OrR c l w = Q at *
    generalize OrS c l = T at *
    generalize (lk c).2.2 = E at *
    generalize (lk c).1 = P at *
    go_enter Try.func26, Try.ntmps26
    go_wp2_with (go_at_call 14; (with_reducible refine (L _ (HO.out.below (bal (bal (Below.refl _ _) _) _))).mono ?_); rintro e w1 ⟨rfl, hB⟩; obtain ⟨k1, k2⟩ := two_box hB; have x2 : ∀ j, w1.cell? ⟨w.heap.size + 1, j, none⟩ = _ := k2.cell; have f2 : ∀ j, w1.frozen? ⟨w.heap.size + 1, j, none⟩ = _ := k2.free; have l2 := k2.lt)
    refine bodyPost_ret (v := .tuple #[civ noCi none 0, .int .i64 (E : Nat)]) (by simp [results, Try.results26, go_sem, *]) rfl (HN.out E _ HS.out ?_)
    exact below_sets (btr (bal (bal (Below.refl _ _) _) _) hB) (by omega) _ _ _
  have hok := fun k hk => (lk_okay hE H.fit k hk)
  have hl4 := (lk_ok hE).2.1
  have EO := fun w1 h => eachOnce_any l c.ops.length al cl w1 h hl hl4
  have HSZ := hid (ok_sizes hE H.fit)
  rw [hE] at L
  by_cases hEa : Each l c.ops.length
  case neg =>
    have HS : Hid (OrS c l noCi 2) := .inr (.inl ⟨hE, fun h => hEa h.1, rfl, rfl⟩)
    unfold EcR at EO
    have EO2 : ∀ w1, QS w1 al cl l → Calls Try.prog 45 #[.slice al l.length cl, .int .i64 (c.ops.length : Nat)] w1 fun e w' => e = .returned (.bool false) ∧ Below w1.heap.size w1 w' := fun w1 h => (EO w1 h).mono fun e w' ⟨b, he, hb, hB⟩ => ⟨by rw [he]; cases b with | false => rfl | true => exact absurd (hb.1 rfl) hEa, hB⟩
    clear hE H hq hEa EO hok HSZ
    generalize OrR c l w = Q at *
    generalize OrS c l = T at *
    generalize (lk c).1 = P at *
    go_enter Try.func26, Try.ntmps26
    go_wp2_with (first
      | (go_at_call 14; (with_reducible refine (L _ (HO.out.below (bal (bal (Below.refl _ _) _) _))).mono ?_); rintro e w1 ⟨rfl, hB⟩; obtain ⟨k1, k2⟩ := two_box hB; have x1 : ∀ j, w1.cell? ⟨w.heap.size, j, none⟩ = _ := k1.cell; have l1 := k1.lt; have hW1 := btr (bal (bal (Below.refl _ _) _) _) hB)
      | (go_at_call 45; (with_reducible refine (EO2 _ (HQ.out.below hW1)).mono ?_); rintro e w2 ⟨rfl, hB2⟩; have k3 : BK w2 _ _ 24 := (hB2.block _ k2.lt).trans k2; have x2 : ∀ j, w2.cell? ⟨w.heap.size + 1, j, none⟩ = _ := k3.cell; have f2 : ∀ j, w2.frozen? ⟨w.heap.size + 1, j, none⟩ = _ := k3.free; have l2 := k3.lt))
    refine bodyPost_ret (v := .tuple #[civ noCi none 0, .int .i64 2]) (by simp [results, Try.results26, go_sem, *]) rfl (HN.out 2 _ HS.out ?_)
    exact below_sets (btr hW1 hB2) (by omega) _ _ _
  have EO2 : ∀ w1, QS w1 al cl l → Calls Try.prog 45 #[.slice al l.length cl, .int .i64 (c.ops.length : Nat)] w1 fun e w' => e = .returned (.bool true) ∧ Below w1.heap.size w1 w' := fun w1 h => (EO w1 h).mono fun e w' ⟨b, he, hb, hB⟩ => ⟨by rw [he]; cases b with | true => rfl | false => exact absurd (hb.2 hEa) (by decide), hB⟩
  have hll4 : l.length ≤ 4096 := by rw [hEa.1]; exact hl4
  have HLL := hid hEa.1
  obtain ⟨Z, hZs, hZ⟩ := made_any l.length hll4
  have HZS := hid hZs
  clear hZs
  have HNO : Hid (¬ OrdOk c.ops l → OrS c l noCi 2) := fun h => .inr (.inl ⟨hE, fun h' => h h'.2, rfl, rfl⟩)
  have HYE : Hid (OrdOk c.ops l → ∀ a' c' vs w', OO w' w.heap.size (.slice a' (l.map fun j => c.ops.getD j.toNat noOq).length c') (l.map fun j => c.ops.getD j.toNat noOq) vs → Below w.heap.size w w' → OrR c l w (.returned (.tuple #[.agg #[.int .i64 c.q, .int .i64 c.b, .slice a' (l.map fun j => c.ops.getD j.toNat noOq).length c'], .int .i64 0])) w') := fun h a' c' vs w' ho hB => ⟨_, 0, a', c', vs, .inr (.inr ⟨hE, ⟨hEa, h⟩, rfl, rfl⟩), rfl, ho, hB⟩
  obtain ⟨i0, hi0, hz0, hz1, hz2⟩ := info_parts Try.info57
  have HI0 := hid hi0
  have HI1 := hid hz0
  have HI2 := hid hz1
  have HI4 := hid hz2
  clear hi0 hz0 hz1 hz2
  have HEA := hid hEa.2
  have HOK := hid hok
  have hcap := hq.cap
  have hcapH := H.cap
  clear hE H hq hEa EO hok
  generalize OrR c l w = Q at *
  generalize OrS c l = T at *
  generalize (lk c).1 = P at *
  obtain ⟨q, b, os⟩ := c
  simp only at *
  go_enter Try.func26, Try.ntmps26
  go_wp2_with (first
      | (go_at_call 14; (with_reducible refine (L _ (HO.out.below (bal (bal (Below.refl _ _) _) _))).mono ?_); rintro e w1 ⟨rfl, hB⟩; obtain ⟨k1, k2⟩ := two_box hB; have x1 : ∀ j, w1.cell? ⟨w.heap.size, j, none⟩ = _ := k1.cell; have l1 := k1.lt; have hW1 := btr (bal (bal (Below.refl _ _) _) _) hB)
      | (go_at_call 45; (with_reducible refine (EO2 _ (HQ.out.below hW1)).mono ?_); rintro e w2 ⟨rfl, hB2⟩; have k3 : BK w2 _ _ 24 := (hB2.block _ k1.lt).trans k1; have k4 : BK w2 _ _ 24 := (hB2.block _ k2.lt).trans k2; have hW2 := btr hW1 hB2; have l3 := k3.lt; have l4 := k4.lt; clear x1 l1 hW1 hB2 hB k1 k2))
  have b2 : BK ((w2.alloc (.cells Z 57)).alloc (.cells Try.zeroCells78 78)) (w.heap.size + 1) #[.int .i64 0, .int .i64 0, .slice none 0 0] 24 := (k4.alloc _).alloc _
  have HF0 : Hid (OF w ((w2.alloc (.cells Z 57)).alloc (.cells Try.zeroCells78 78)) ⟨q, b, os⟩ a cp (w2.heap.size + 1) (fun _ => 0) (.slice (some ⟨w2.heap.size, 0, none⟩) 0 l.length) [] []) :=
    ⟨⟨bal (bal hW2 _) _, (k3.alloc _).alloc _, by have := mk_new (w2.alloc (.cells Z 57)); simpa using this, by omega⟩, rfl, own_below (own_made HZS.out hll4 (by have := hW2.size; omega) (bk_new _ _ _)) (bal (Below.refl _ _) _), fun _ h => absurd h (Nat.not_lt_zero _), fun _ h => absurd h (Nat.not_lt_zero _)⟩
  have HB20 := hid b2
  clear k3 k4 l3 l4 hW2 b2 L EO2 hZ
  generalize w2.heap.size + 1 = MB at *
  generalize (w2.alloc (.cells Z 57)).alloc (.cells Try.zeroCells78 78) = W0 at *
  go_loopw [8, 33] (fun v8 v33 wr => ∃ (k : Nat) (vs : List (Option Addr × Nat)) (f : Nat → Nat), k ≤ l.length ∧ v33 = .int .i64 k ∧ Hid (OF w wr ⟨q, b, os⟩ a cp MB f v8 ((l.take k).map (gO os)) vs ∧ BK wr (w.heap.size + 1) #[.int .i64 0, .int .i64 0, .slice none 0 0] 24 ∧ MI f ((l.take k).map (pO os)) ∧ (∀ i, f i ≤ 4097) ∧ ∀ i j (hi : i < l.length) (_ : j < i), i < k → ¬ (l[i] < l[j] ∧ bdB (os.getD l[j].toNat noOq) (os.getD l[i].toNat noOq) = true))) (fun _ v33 _ => l.length - (intOf v33).toNat)
  case atStart => exact ⟨0, [], fun _ => 0, Nat.zero_le _, rfl, HF0.out, HB20.out, MI.nil, fun _ => Nat.zero_le _, fun i j _ _ h => absurd h (Nat.not_lt_zero _)⟩
  case round =>
    clear HF0 HB20
    obtain ⟨k, vs, f, hk, rfl, hall⟩ := hrel
    obtain ⟨hF, hb2, hMI, hfl, hno⟩ := hall.out
    obtain ⟨va, vc, rfl⟩ := hF.oo.shape
    have hlm : ((l.take k).map (gO os)).length = k := by rw [List.length_map, List.length_take]; omega
    rw [hlm] at hF ⊢
    have x1 : ∀ j, wr.cell? ⟨w.heap.size, j, none⟩ = _ := hF.lf.box.cell
    have l1 := hF.lf.box.lt
    by_cases hlt : k < l.length
    case neg =>
      obtain rfl : k = l.length := by omega
      rw [List.take_length] at hF
      have HOO := hid (hF.oo.sets hb2 (.int .i64 q) (.int .i64 b) (.slice va l.length vc))
      have HC2 := hid (bk_sets hb2 (.int .i64 q) (.int .i64 b) (.slice va l.length vc)).cell
      have HBB := hid (below_sets hF.lf.below (X := w.heap.size + 1) (by omega) (.int .i64 q) (.int .i64 b) (.slice va l.length vc))
      have HOK2 : Hid (OrdOk os l) := fun i j hi hj => hno i j hi hj hi
      have x2 : ∀ j, wr.cell? ⟨w.heap.size + 1, j, none⟩ = _ := hb2.cell
      have f2 : ∀ j, wr.frozen? ⟨w.heap.size + 1, j, none⟩ = _ := hb2.free
      have l2 := hb2.lt
      have HLM := hid hlm
      clear hF hb2 hMI hfl hno hall hlm
      go_wp2
      have Y := HYE.out HOK2.out va vc vs _ (by rw [List.length_map]; exact HOO.out) HBB.out
      rw [List.length_map] at Y
      exact bodyPost_ret (v := .tuple #[.agg #[.int .i64 q, .int .i64 b, .slice va l.length vc], .int .i64 0]) (by simp [results, Try.results26, go_sem, HC2.out]) rfl Y
    obtain ⟨b1, o1, e1, r1⟩ := (HQ.out.below hF.lf.below).at_ k hlt
    have c0 := r1.c k hlt
    have bl1 := r1.lt
    subst e1
    obtain ⟨⟨hx0, hx1⟩, hx2⟩ := HEA.out k hlt
    obtain ⟨x, hx⟩ : ∃ x : Nat, l[k] = (x : Int) := ⟨l[k].toNat, by omega⟩
    have hxl : x < os.length := by omega
    have hgx : os.getD x noOq = os[x] := by rw [List.getD_eq_getElem?_getD, List.getElem?_eq_getElem hxl]; rfl
    obtain ⟨b', o', e2, _⟩ := HO.out.at_ x hxl
    subst e2
    have HM : Hid (∀ W, Below w.heap.size w W → OP7 W b' (o' + x * 7) os[x] (A x) (C x) ∧ b' < W.heap.size) := fun W hb => by
      obtain ⟨b3, o3, e3, r⟩ := (HO.out.below hb).at_ x hxl
      cases e3
      exact ⟨⟨r.c0 x hxl, r.c1 x hxl, r.c2 x hxl, r.c3 x hxl, r.c4 x hxl, r.c5 x hxl, r.c6 x hxl⟩, r.lt⟩
    have HQx := hid (HO.out.qs x hxl)
    have hKx := (HOK.out x hxl).1
    obtain ⟨⟨hq0, hq1⟩, hns⟩ := HSZ.out x hxl
    have hbig : ∀ i, f i ≤ 4611686018427387904 := fun i => by have := hfl i; omega
    have LE := fun W (h1 : MK W MB f) (h2 : QS W (A x) (C x) (os[x]'hxl).qs) => least_any (os[x]'hxl) (A x) (C x) MB f W h1 hKx h2 hbig
    have PT := fun W (h1 : MK W MB f) (h2 : QS W (A x) (C x) (os[x]'hxl).qs) => put_any (os[x]'hxl) (A x) (C x) MB x f W h1 hKx h2 hbig (by omega) (fun b3 o3 h0 e => by obtain ⟨b4, o4, e4, r4⟩ := (HO.out.qs x hxl).at_ 0 h0; rw [e] at e4; cases e4; have := r4.lt; have := hF.lf.hb; omega)
    have OW := fun (w1 : World) (h : QS w1 (A x) (C x) (os[x]'hxl).qs) => own_any (os[x]'hxl) (A x) (C x) w1 h hq0 hq1 hns
    have hps : ∀ p ∈ (l.take k).map (pO os), Okay p.1 := fun p hp => by
      obtain ⟨z, hz, rfl⟩ := List.mem_map.1 hp
      obtain ⟨i, hi, e⟩ := List.getElem_of_mem hz
      rw [List.length_take] at hi
      rw [List.getElem_take] at e
      have hz1 := (HEA.out i (by omega)).1
      show Okay (os.getD z.toNat noOq)
      rw [← e, List.getD_eq_getElem?_getD, List.getElem?_eq_getElem (by omega)]
      exact (HOK.out l[i].toNat (by omega)).1
    have hle := hMI.least hKx hps
    have hconf : x < lst f os[x] ↔ ∃ j, ∃ hj : j < k, l[k] < l[j]'(by omega) ∧ bdB (os.getD (l[j]'(by omega)).toNat noOq) (os.getD l[k].toNat noOq) = true := by
      rw [hle x]
      have e0 : os.getD l[k].toNat noOq = os[x] := by rw [hx]; exact hgx
      constructor
      · rintro ⟨p, hp, g1, g2⟩
        obtain ⟨z, hz, rfl⟩ := List.mem_map.1 hp
        obtain ⟨i, hi, e⟩ := List.getElem_of_mem hz
        rw [List.length_take] at hi
        rw [List.getElem_take] at e
        have hz1 := (HEA.out i (by omega)).1
        have hne : l[i]'(by omega) ≠ l[k] := fun e5 => hx2 (by rw [← e5, e]; exact hz)
        refine ⟨i, by omega, ?_, ?_⟩
        · have : x < z.toNat + 1 := g2
          rw [← e] at this
          omega
        · rw [e0, e]; exact g1
      · rintro ⟨j, hj, g1, g2⟩
        have hjl : j < l.length := by omega
        refine ⟨pO os (l[j]'hjl), List.mem_map.2 ⟨_, List.mem_take_iff_getElem.2 ⟨j, by omega, rfl⟩, rfl⟩, ?_, ?_⟩
        · rw [e0] at g2; exact g2
        · show x < (l[j]'hjl).toNat + 1
          omega
    have HF := hid hF
    have HB2 := hid hb2
    have HMI := hid hMI
    have HFL := hid hfl
    have HNOC := hid hno
    have HX := hid hx
    have HGX := hid hgx
    have hm0 := HM.out wr hF.lf.below
    obtain ⟨⟨m0, m1, m2, m3, m4, m5, m6⟩, bl⟩ := hm0
    rw [hx] at c0 hx0 hx1
    clear r1 hF hb2 hMI hfl hno hall hle hps hbig hx2 hKx hgx
    by_cases hcf : x < lst f os[x]
    · have HNK : Hid (¬ OrdOk os l) := fun h => by
        obtain ⟨j, hj, g⟩ := hconf.1 hcf
        exact h k j hlt hj g
      have hcf' : (x : Int) < (lst f os[x] : Int) := by omega
      clear hconf PT OW
      generalize lst f os[x] = s at *
      generalize os[x] = o at *
      go_wp2_with (go_at_call 43; (with_reducible refine (LE _ HF.out.lf.ms (HQx.out.below HF.out.lf.below)).mono ?_); rintro e w3 ⟨rfl, hB3⟩; have p2 : BK w3 _ _ 24 := (hB3.block _ HB2.out.lt).trans HB2.out; have x2 : ∀ j, w3.cell? ⟨w.heap.size + 1, j, none⟩ = _ := p2.cell; have f2 : ∀ j, w3.frozen? ⟨w.heap.size + 1, j, none⟩ = _ := p2.free; have l2 := p2.lt)
      refine bodyPost_ret (v := .tuple #[civ noCi none 0, .int .i64 2]) (by simp [results, Try.results26, go_sem, *]) rfl (HN.out 2 _ (HNO.out HNK.out) ?_)
      exact below_sets (btr HF.out.lf.below hB3) (by omega) _ _ _
    have hcf' : ¬ ((x : Int) < (lst f os[x] : Int)) := by omega
    have HPU := hid (HMI.out.put (o := os[x]) (v := x) (by omega))
    have HPL : Hid (∀ i, putM f os[x] x i ≤ 4097) := putM_le (by omega) HFL.out
    have HNC : Hid (¬ ∃ j, ∃ hj : j < k, l[k] < l[j]'(by omega) ∧ bdB (os.getD (l[j]'(by omega)).toNat noOq) (os.getD l[k].toNat noOq) = true) := fun h => hcf (hconf.2 h)
    have HTK : Hid ((l.take (k + 1)).map (gO os) = (l.take k).map (gO os) ++ [os[x]]) := by show _ = _; rw [List.take_succ_eq_append_getElem hlt, List.map_append, HX.out]; show _ ++ [os.getD x noOq] = _; rw [HGX.out]
    have HTP : Hid ((l.take (k + 1)).map (pO os) = (l.take k).map (pO os) ++ [(os[x], x)]) := by show _ = _; rw [List.take_succ_eq_append_getElem hlt, List.map_append, HX.out]; show _ ++ [(os.getD x noOq, x)] = _; rw [HGX.out]
    have HFT := hid ((HOK.out x hxl).1.fit)
    clear hconf hcf
    generalize lst f os[x] = s at *
    generalize putM f os[x] x = f2 at *
    generalize os[x] = o at *
    generalize A x = ak at *
    generalize C x = ck at *
    go_wp2_with (go_at_call 43; (with_reducible refine (LE _ HF.out.lf.ms (HQx.out.below HF.out.lf.below)).mono ?_); rintro e w3 ⟨rfl, hB3⟩; refine Hid.out ?_)
    refine hid ?_
    have F3 := HF.out.on hB3
    have p3 : BK w3 _ _ 24 := (hB3.block _ HB2.out.lt).trans HB2.out
    have HF3 := hid F3
    clear m0 m1 m2 m3 m4 m5 m6 bl x1 l1 hB3 LE HF HB2
    have x1 : ∀ j, w3.cell? ⟨w.heap.size, j, none⟩ = _ := F3.lf.box.cell
    have l1 := F3.lf.box.lt
    obtain ⟨⟨m0, m1, m2, m3, m4, m5, m6⟩, bl⟩ := HM.out w3 F3.lf.below
    clear F3
    go_wp2_with (go_at_call 44; (with_reducible refine (PT _ HF3.out.lf.ms (HQx.out.below HF3.out.lf.below)).mono ?_); rintro e w4 ⟨rfl, hG4, hM4⟩; refine Hid.out ?_)
    refine hid ?_
    have F4 := HF3.out.put hG4 hM4
    have p4 : BK w4 _ _ 24 := gb_bk hG4 p3 (by have := HF3.out.lf.hb; have := HF3.out.lf.ms.ty; obtain ⟨cs, hcs⟩ := this; intro e; rw [← e] at hcs; have e3 := p3.symm.trans hcs; simp at e3)
    have HF4 := hid F4
    clear m0 m1 m2 m3 m4 m5 m6 bl x1 l1 hG4 hM4 PT HF3 p3
    have x1 : ∀ j, w4.cell? ⟨w.heap.size, j, none⟩ = _ := F4.lf.box.cell
    have l1 := F4.lf.box.lt
    obtain ⟨⟨m0, m1, m2, m3, m4, m5, m6⟩, bl⟩ := HM.out w4 F4.lf.below
    clear F4
    go_wp2_with (go_at_call 39; (with_reducible refine (OW _ (HQx.out.below HF4.out.lf.below)).mono ?_); rintro e w5 ⟨a8, c8, rfl, hO8, hB5⟩; refine Hid.out ?_)
    refine hid ?_
    have hb6 := bal hB5 (.cells (opc o a8 c8).toArray 57)
    have F6 := HF4.out.on hb6
    have p6 : BK (w5.alloc (.cells (opc o a8 c8).toArray 57)) _ _ 24 := BK.alloc ((hB5.block _ p4.lt).trans p4) _
    have hq6 := own_mono (own_below hO8 (bal (Below.refl _ _) (.cells (opc o a8 c8).toArray 57))) HF4.out.lf.below.size
    have hrow := F6.oo.own
    rw [hlm] at hrow
    have HROW := hid hrow
    have HF6 := hid F6
    have HQ6 := hid hq6
    have HP6 := hid p6
    clear m0 m1 m2 m3 m4 m5 m6 bl x1 l1 hB5 OW HF4 hO8 p4 hq6 hrow F6 p6 hb6
    go_wp2_with (at_builtin; refine Hid.out ?_)
    refine hid ?_
    refine wpList_append_own_at _ rfl _ _ 22 rfl w.heap.size 57 i0 _ 7 80 Try.underlying22 HI0.out HI1.out HI2.out HI4.out rfl (by decide) _ k (opw ((l.take k).map (gO os)) vs) rfl HROW.out ⟨_, 0, none⟩ 1 1 (opc o a8 c8) rfl rfl (new_op _ _ (by simp) o _ _) (one_op o _ _) (by unfold maxLen; omega) (by omega) HF6.out.lf.below.size ?_
    intro v8 w8 hown8 hgrow8 _ _
    have F8 := HF6.out.next (o := o) HQ6.out HFT.out hgrow8 (by rw [hlm]; exact hown8)
    have p8 : BK w8 _ _ 24 := (hgrow8.block _ HP6.out.lt (fun e => own_ne HF6.out.oo.own HP6.out (by decide) _ e.symm rfl)).trans HP6.out
    obtain ⟨a9, c9, rfl⟩ := own_shape hown8
    have HF8 := hid F8
    have HP8 := hid p8
    clear F8 p8 hown8 hgrow8 HF6 HQ6 HP6 HROW
    go_wp2
    go_roundw
    case rel =>
      refine ⟨k + 1, _, f2, by omega, by go_num, by rw [HTK.out]; exact HF8.out, HP8.out, by rw [HTP.out]; exact HPU.out, HPL.out, fun i j hi hj h => ?_⟩
      by_cases e : i = k
      · subst e
        exact fun g => HNC.out ⟨j, hj, g⟩
      · exact HNOC.out i j hi hj (by omega)
    case measure => simp [intOf]; omega
end Go.Proofs.Ytfaoegiignalkaa
