/-
  The reference's inverse of a circuit.
-/
import Derived.Test.YtfaoegiignalkaaJ1
import Derived.Test.YtfaoegiignalkaaD5
namespace Go.Proofs.Ytfaoegiignalkaa
open Go.RowKit Go.Shelf

theorem own_on {W W' : World} {B T c n : Nat} {v : Value} {xs : List Value} (h : W.ownsRow B T c v n xs) (hk : ∀ b, B ≤ b → b < W.heap.size → W'.heap[b]? = W.heap[b]?) : W'.ownsRow B T c v n xs := by
  refine ⟨h.1, ?_⟩
  rcases h.2 with h | ⟨g, cap, cur, e, h1, h2, r⟩
  · exact .inl h
  · exact .inr ⟨g, cap, cur, e, h1, (hk g h1 (Array.getElem?_eq_some_iff.1 h2).1).trans h2, r⟩
theorem OO.on {W W' : World} {B : Nat} {v : Value} {os : List Oq} {vs : List (Option Addr × Nat)} (h : OO W B v os vs) (hk : ∀ b, B ≤ b → b < W.heap.size → W'.heap[b]? = W.heap[b]?) : OO W' B v os vs :=
  ⟨h.len, own_on h.own hk, fun k a b => own_on (h.qs k a b) hk, h.fit⟩
/-- What stands while operations are put behind a circuit in the box p, since w3. -/
structure RV (w w3 W : World) (c : Ci) (p : Nat) (v : Value) (os : List Oq) (vs : List (Option Addr × Nat)) : Prop where
  below : Below w.heap.size w W
  sz : w3.heap.size ≤ W.heap.size
  kx : ∀ b, p < b → b < w3.heap.size → W.heap[b]? = w3.heap[b]?
  b2 : BK W (w.heap.size + 1) #[.int .i64 0, .int .i64 0, .slice none 0 0] 24
  b3 : BK W p #[.int .i64 c.q, .int .i64 c.b, v] 24
  oo : OO W w.heap.size v os vs
  vb : ∀ g, v.ownBlock = some g → w3.heap.size ≤ g
section
variable {w w3 W W1 : World} {c : Ci} {p : Nat} {v : Value} {os : List Oq} {vs : List (Option Addr × Nat)}
theorem RV.blw (h : RV w w3 W c p v os vs) (hB : Below W.heap.size W W1) : RV w w3 W1 c p v os vs :=
  ⟨btr h.below hB, Nat.le_trans h.sz hB.size, fun b h1 h2 => (hB.block b (Nat.lt_of_lt_of_le h2 h.sz)).trans (h.kx b h1 h2), (hB.block _ h.b2.lt).trans h.b2, (hB.block _ h.b3.lt).trans h.b3, h.oo.below hB, h.vb⟩
theorem RV.next {w5 w6 : World} {a2 : Option Addr} {c2 : Nat} {v' : Value} {o : Oq} (hi : RV w w3 W c p v os vs) (hp : w.heap.size + 1 < p) (hf : Fit o)
    (hB5 : Below W.heap.size W w5) (hO5 : w5.ownsRow w.heap.size 3 1 (.slice a2 o.qs.length c2) o.qs.length (zl o.qs))
    (hown : w6.ownsRow w.heap.size 57 7 v' (os.length + 1) (opw os vs ++ opc o a2 c2)) (hg : w5.grownBy w6 v.ownBlock) (hloc : v'.ownBlock = v.ownBlock ∨ v'.ownBlock = some w5.heap.size) :
    RV w w3 (w6.setCell ⟨p, 2, none⟩ v') c p v' (os ++ [o]) (vs ++ [(a2, c2)]) ∧ BK w6 p #[.int .i64 c.q, .int .i64 c.b, v] 24 := by
  have h5 := hi.blw hB5
  have hoo := h5.oo
  have O6 : OO w6 w.heap.size v' (os ++ [o]) (vs ++ [(a2, c2)]) := hoo.put hO5 hf hg hown
  have key : ∀ {b cs T}, BK w5 b cs T → 57 ≠ T → BK w6 b cs T := fun h ht => (hg.block _ h.lt (fun e => own_ne hoo.own h ht _ e.symm rfl)).trans h
  have b6 : Below w.heap.size w w6 := h5.below.grown hg h5.below.size (fun g e => (hoo.own.lt g e).1)
  have p6 := key h5.b3 (by decide)
  refine ⟨⟨bset b6 _ _ _ (by omega), ?_, fun b h1 h2 => ?_, (key h5.b2 (by decide)).far (by omega) _ _, p6.set _ _, ?_, ?_⟩, p6⟩
  · have := hg.size
    have := h5.sz
    simp [World.setCell]
    omega
  · refine (Below.heap_setCell w6 ⟨p, 2, none⟩ v' b (fun e => by have e : b = p := e; omega)).trans ((hg.block b (Nat.lt_of_lt_of_le h2 h5.sz) (fun e => ?_)).trans (h5.kx b h1 h2))
    have := hi.vb b e.symm
    omega
  · exact O6.other p6 (by decide) (by decide) (gb_set (gb_refl w6 _) _ 2 v' (.inl rfl))
  · intro g e
    rcases hloc with h | h
    · exact hi.vb g (h ▸ e)
    · rw [h] at e
      cases e
      exact h5.sz
end
set_option maxHeartbeats 4000000 in
set_option maxRecDepth 100000 in
theorem rinverseC_any (c : Ci) (a : Option Addr) (cp : Nat) (A : Nat → Option Addr) (C : Nat → Nat) (w : World) (H : OS w a cp c.ops A C) :
    Calls Try.prog 18 #[civ c a cp] w fun e w' => ∃ a' c' vs, e = .returned (.tuple #[civ (invR c) a' c', .int .i64 (invE c : Nat)]) ∧ OO w' w.heap.size (.slice a' (invR c).ops.length c') (invR c).ops vs ∧ Below w.heap.size w w' := by
  have L := fun w1 h => rcheck_any c a cp A C w1 h
  have HO : Hid (OS w a cp c.ops A C) := H
  by_cases hE : (lk c).2.2 = 0
  case neg =>
    have e1 : invE c = (lk c).2.2 := by unfold invE; rw [if_pos hE]
    have e2 : invR c = noCi := by unfold invR; rw [if_neg (by rw [e1]; exact hE)]
    rw [e1, e2]
    generalize (lk c).2.2 = E at *
    generalize (lk c).1 = P at *
    have hE1 : ((E : Int) != 0) = true := bne_iff_ne.2 (by omega)
    clear hE e1 e2 H
    go_enter Try.func18, Try.ntmps18
    go_wp2_with (go_at_call 10; (with_reducible refine (L _ (HO.out.below (bal (bal (Below.refl _ _) _) _))).mono ?_); rintro e w1 ⟨rfl, hB⟩; obtain ⟨k1, k2⟩ := two_box hB; have q1 : ∀ j, w1.cell? ⟨w.heap.size, j, none⟩ = _ := k1.cell; have q2 : ∀ j, w1.cell? ⟨w.heap.size + 1, j, none⟩ = _ := k2.cell; have z2 := k2.lt; have f2 : ∀ j, w1.frozen? ⟨w.heap.size + 1, j, none⟩ = false := k2.free)
    refine bodyPost_ret (v := .tuple #[civ noCi none 0, .int .i64 (E : Nat)]) (by simp [results, Try.results18, go_sem, *]) rfl ⟨none, 0, [], rfl, OO.nil _ _, ?_⟩
    have hX : Below w.heap.size w w1 := btr (bal (bal (Below.refl _ _) _) _) hB
    repeat (refine bset ?_ _ _ _ (by omega))
    exact hX
  have e1 : invE c = if (c.ops.all fun o => o.k == 1) = true then 0 else 121 := by unfold invE; rw [if_neg (by rw [hE]; simp)]
  have hl4 : c.ops.length ≤ 4096 := (lk_ok hE).2.1
  have HEI : Hid (invE c = if (c.ops.all fun o => o.k == 1) = true then 0 else 121) := e1
  have HRI : Hid (invR c = if invE c = 0 then ⟨c.q, c.b, c.ops.reverse.map invO⟩ else noCi) := rfl
  have HOK : Hid (∀ k (hk : k < c.ops.length), 0 < c.ops[k].qs.length ∧ c.ops[k].qs.length ≤ 100) := fun k hk => by
    obtain ⟨_, h2⟩ := lk_okay hE H.fit k hk
    obtain ⟨_, _, h3, h4, _, _⟩ := opE_ok h2
    have : opN c.ops[k] ≤ 3 := by unfold opN; have := gar_le c.ops[k].n; split <;> omega
    omega
  have CPY := fun w1 h => copy_any c a cp A C w1 h hl4 HOK.out
  generalize invE c = IE at *
  generalize invR c = IR at *
  rw [hE] at L
  generalize (lk c).1 = P at *
  obtain ⟨q, b, os⟩ := c
  simp only at *
  clear hE e1 H
  go_enter Try.func18, Try.ntmps18
  go_wp2_with (first
    | (go_at_call 10; (with_reducible refine (L _ (HO.out.below (bal (bal (Below.refl _ _) _) _))).mono ?_); rintro e w1 ⟨rfl, hB⟩; obtain ⟨k1, k2⟩ := two_box hB; have q1 : ∀ j, w1.cell? ⟨w.heap.size, j, none⟩ = _ := k1.cell; have z1 := k1.lt; have z2 := k2.lt)
    | (go_at_call 29; (with_reducible refine (CPY _ (HO.out.below (bal (btr (bal (bal (Below.refl _ _) _) _) hB) _))).mono ?_); rintro e w2 ⟨a2, c2, vc, rfl, hO2, hB2⟩; have z3 := hB2.size))
  have OWN : OO (w2.alloc (.cells #[.int .i64 q, .int .i64 b, .slice a2 os.length c2] 24)) (w1.heap.size + 1) (.slice a2 os.length c2) os vc := by
    have := hO2.below (bal (Below.refl _ _) (.cells #[.int .i64 q, .int .i64 b, .slice a2 os.length c2] 24))
    simpa using this
  have K2 : BK w2 (w.heap.size + 1) #[.int .i64 0, .int .i64 0, .slice none 0 0] 24 := (hB2.block _ (k2.alloc _).lt).trans (k2.alloc _)
  have RV0 : RV w (w2.alloc (.cells #[.int .i64 q, .int .i64 b, .slice a2 os.length c2] 24)) (w2.alloc (.cells #[.int .i64 q, .int .i64 b, .slice a2 os.length c2] 24)) ⟨q, b, os⟩ w1.heap.size (.slice none 0 0) [] [] :=
    ⟨bal (btr (bal (btr (bal (bal (Below.refl _ _) _) _) hB) _) hB2) _, Nat.le_refl _, fun _ _ _ => rfl, K2.alloc _, (one_box hB2).alloc _, OO.nil _ _, fun g e => by cases e⟩
  have GB0 := bk_new w2 #[.int .i64 q, .int .i64 b, .slice a2 os.length c2] 24
  have zz : w1.heap.size < w2.heap.size := by simp at z3; omega
  obtain ⟨w3, hw3⟩ : ∃ w3, w2.alloc (.cells #[.int .i64 q, .int .i64 b, .slice a2 os.length c2] 24) = w3 := ⟨_, rfl⟩
  have hsz3 : w3.heap.size = w2.heap.size + 1 := by rw [← hw3]; simp
  rw [hw3] at OWN RV0 GB0 ⊢
  clear hw3 CPY L k1 k2 hB hB2 hO2 q1 z3 K2
  generalize w1.heap.size = p at *
  generalize w2.heap.size = g at *
  obtain ⟨i0, hi0, hz0, hz1, hz2⟩ := info_parts Try.info57
  have HI0 := hid hi0
  have HI1 := hid hz0
  have HI2 := hid hz1
  have HI4 := hid hz2
  clear hi0 hz0 hz1 hz2
  have HW := hid OWN
  have HG := hid GB0
  have HR := hid RV0
  clear OWN GB0 RV0
  go_loopw [8] (fun s wr => ∃ k : Nat, k ≤ os.length ∧ s = .int .i64 ((os.length : Int) - 1 - k) ∧ (∀ o ∈ os.reverse.take k, o.k = 1) ∧ ∃ v vs, RV w w3 wr ⟨q, b, os⟩ p v ((os.reverse.take k).map invO) vs) (fun s _ => (intOf s + 1).toNat)
  case atStart => exact ⟨0, Nat.zero_le _, by simp, fun _ h => by simp at h, _, _, HR.out⟩
  case round =>
    obtain ⟨k, hk, rfl, hones, v, vs, hi⟩ := hrel
    obtain ⟨av, cv, rfl⟩ := hi.oo.shape
    have hlen : ((os.reverse.take k).map invO).length = k := by simp; omega
    rw [hlen] at hi
    have x2 : ∀ j, wr.cell? ⟨w.heap.size + 1, j, none⟩ = _ := hi.b2.cell
    have x3 : ∀ j, wr.cell? ⟨p, j, none⟩ = _ := hi.b3.cell
    have y2 : ∀ j, wr.frozen? ⟨w.heap.size + 1, j, none⟩ = _ := hi.b2.free
    have y3 : ∀ j, wr.frozen? ⟨p, j, none⟩ = _ := hi.b3.free
    have z2 := hi.b2.lt
    have z3 := hi.b3.lt
    have HI := hid hi
    have HN1 := hid hones
    by_cases hlt : k < os.length
    case neg =>
      obtain rfl : k = os.length := by omega
      have hd : ((os.length : Int) - 1 - (os.length : Int)) = -1 := by omega
      rw [hd]
      have ht : os.reverse.take os.length = os.reverse := List.take_of_length_le (by simp)
      rw [ht] at hi hones
      have hall : (os.all fun o => o.k == 1) = true := by
        rw [List.all_eq_true]
        intro o ho
        exact beq_iff_eq.2 (hones o (List.mem_reverse.2 ho))
      have e1 : IE = 0 := by rw [HEI.out, if_pos hall]
      have e2 : IR = ⟨q, b, os.reverse.map invO⟩ := by rw [HRI.out, if_pos e1]
      have b2 := ((hi.b2.set 0 (.int .i64 q)).set 1 (.int .i64 b)).set 2 (.slice av os.length cv)
      have O2 := hi.oo.other hi.b2 (by decide) (by decide) (gb_set (gb_set (gb_set (gb_refl wr (w.heap.size + 1)) (w.heap.size + 1) 0 (.int .i64 q) (.inl rfl)) (w.heap.size + 1) 1 (.int .i64 b) (.inl rfl)) (w.heap.size + 1) 2 (.slice av os.length cv) (.inl rfl))
      have c2 := b2.cell
      have HC2 := hid c2
      have HO2 := hid O2
      have HE1 := hid e1
      have HE2 := hid e2
      clear hi hones hall e1 e2 b2 O2 c2 ht hlen
      go_wp2
      refine bodyPost_ret (v := .tuple #[.agg #[.int .i64 q, .int .i64 b, .slice av os.length cv], .int .i64 0]) (by simp [results, Try.results18, go_sem, HC2.out]) rfl ⟨av, cv, ?_, ⟨vs, ?_⟩, ?_⟩
      · rw [HE1.out, HE2.out]; simp
      · rw [HE2.out]; simp only [List.length_map, List.length_reverse]; exact HO2.out
      · exact bset (bset (bset HI.out.below _ _ _ (by omega)) _ _ _ (by omega)) _ _ _ (by omega)
    obtain ⟨i, hi'⟩ : ∃ i : Nat, i = os.length - 1 - k := ⟨_, rfl⟩
    have hil : i < os.length := by omega
    have hd : ((os.length : Int) - 1 - (k : Int)) = (i : Int) := by omega
    rw [hd]
    have HD2 : Hid ((i : Int) - 1 = (os.length : Int) - 1 - ((k + 1 : Nat) : Int)) := by show _ = _; omega
    have HT : Hid (os.reverse.take (k + 1) = os.reverse.take k ++ [os[i]]) := by
      show _ = _
      rw [List.take_succ_eq_append_getElem (by simp; omega), List.getElem_reverse]
      subst hi'
      rfl
    have OW : OO wr (p + 1) (.slice a2 os.length c2) os vc := HW.out.on (fun b h1 h2 => hi.kx b (by omega) h2)
    have HOW := hid OW
    have GW : BK wr g #[.int .i64 q, .int .i64 b, .slice a2 os.length c2] 24 := (hi.kx g (by omega) (by omega)).trans HG.out
    have x4 : ∀ j, wr.cell? ⟨g, j, none⟩ = _ := GW.cell
    have z4 := GW.lt
    have hqs := OW.qs i hil (by have := OW.len; omega)
    rw [vs_at vc i (by have := OW.len; omega)] at hqs
    have HQS := hid hqs
    obtain ⟨a3, c3, e3, hS⟩ := OW.read
    cases e3
    obtain ⟨b', o', rfl, r⟩ := hS.at_ i hil
    have hfit := hid (hS.fit i hil)
    have hcap := hS.cap
    have m0 := r.c0 i hil
    have m1 := r.c1 i hil
    have m2 := r.c2 i hil
    have m3 := r.c3 i hil
    have m4 := r.c4 i hil
    have m5 := r.c5 i hil
    have m6 := r.c6 i hil
    have hbl := r.lt
    have HM : Hid (os[i] ∈ os) := List.getElem_mem hil
    clear r hi hd hi' hones OW GW hS hqs
    generalize os[i] = o at *
    generalize vA vc i = ak at *
    generalize vC vc i = ck at *
    by_cases hk1 : o.k = 1
    case neg =>
      have d1 : ((o.k : Int) != 1) = true := bne_iff_ne.2 hk1
      have e1 : IE = 121 := by
        rw [HEI.out, if_neg]
        intro hall
        rw [List.all_eq_true] at hall
        exact hk1 (beq_iff_eq.1 (hall _ HM.out))
      have e2 : IR = noCi := by rw [HRI.out, if_neg (by rw [e1]; decide)]
      have HE1 := hid e1
      have HE2 := hid e2
      clear e1 e2 HEI HRI
      go_wp2
      have c2 := ((((HI.out.b2.set 0 (.int .i64 0)).set 1 (.int .i64 0)).set 2 (.slice none 0 0)).alloc (.cells #[.int .i64 o.k, .string o.n, .slice ak o.qs.length ck, .int .i64 o.b, .bool o.f, .int .u64 o.m, .int .u64 o.v] 57)).cell
      refine bodyPost_ret (v := .tuple #[civ noCi none 0, .int .i64 121]) (by simp [results, Try.results18, go_sem, c2]) rfl ⟨none, 0, ?_, ⟨[], ?_⟩, ?_⟩
      · rw [HE1.out, HE2.out]; rfl
      · rw [HE2.out]; exact OO.nil _ _
      · exact bal (bset (bset (bset HI.out.below _ _ _ (by omega)) _ _ _ (by omega)) _ _ _ (by omega)) _
    have d1 : ((o.k : Int) != 1) = false := by rw [hk1]; rfl
    have HK1 := hid hk1
    have IN := fun w => rinverse_any o.n w
    clear hk1
    go_wp2_with (first
      | (go_at_call 37; (with_reducible refine (IN _).mono ?_); rintro e w6 ⟨rfl, rfl⟩)
      | (at_builtin; refine Hid.out ?_))
    refine hid ?_
    have hB7 := bal (bal (Below.refl _ wr) (.cells #[.int .i64 o.k, .string (giv o.n), .slice ak o.qs.length ck, .int .i64 o.b, .bool o.f, .int .u64 o.m, .int .u64 o.v] 57)) (.cells #[.int .i64 o.k, .string (giv o.n), .slice ak o.qs.length ck, .int .i64 o.b, .bool o.f, .int .u64 o.m, .int .u64 o.v] 57)
    have hq7 := own_mono (B' := w.heap.size) (own_below HQS.out hB7) (by omega)
    have hrow := (HI.out.blw hB7).oo.own
    rw [hlen] at hrow
    refine wpList_append_own_at _ rfl _ _ 22 rfl w.heap.size 57 i0 _ 7 80 Try.underlying22 HI0.out HI1.out HI2.out HI4.out rfl (by decide) _ _ _ rfl hrow ⟨wr.heap.size + 1, 0, none⟩ 1 1 (opc (invO o) ak ck) rfl rfl (new_op _ _ (by simp) (invO o) _ _) (one_op (invO o) _ _) (by unfold maxLen; omega) (by omega) (by have := hB7.size; omega) ?_
    intro v8 w8 hown8 hgrow8 _ hloc8
    obtain ⟨hN, p6⟩ := HI.out.next (o := invO o) (by omega) ⟨hfit.out.m0, hfit.out.m1, hfit.out.v0, hfit.out.v1, hfit.out.l⟩ hB7 hq7 (by rw [hlen]; exact hown8) hgrow8 hloc8
    obtain ⟨a8, c8, rfl⟩ := own_shape hown8
    have p8 : ∀ j, w8.cell? ⟨p, j, none⟩ = _ := p6.cell
    have pf8 : ∀ j, w8.frozen? ⟨p, j, none⟩ = _ := p6.free
    have HN := hid hN
    clear hN p6 hgrow8 hown8 hrow hq7 hB7 hloc8
    go_wp2
    go_roundw
    case rel =>
      refine ⟨k + 1, by omega, by rw [← HD2.out], ?_, .slice a8 (k + 1) c8, vs ++ [(ak, ck)], ?_⟩
      · intro y hy
        rw [HT.out] at hy
        rcases List.mem_append.1 hy with hy | hy
        · exact HN1.out y hy
        · rw [List.mem_singleton] at hy; subst hy; exact HK1.out
      · rw [HT.out, List.map_append]; exact HN.out
    case measure => first | (simp [intOf]; done) | (simp [intOf]; omega)
end Go.Proofs.Ytfaoegiignalkaa
