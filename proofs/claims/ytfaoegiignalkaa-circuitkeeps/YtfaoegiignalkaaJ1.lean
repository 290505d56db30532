/-
  The reference's copy of a circuit.
-/
import Derived.Test.YtfaoegiignalkaaA1
namespace Go.Proofs.Ytfaoegiignalkaa
open Go.RowKit Go.Shelf

/-- What stands while operations are put behind a circuit in a box. -/
structure CP (w W : World) (c : Ci) (a : Option Addr) (cp : Nat) (v : Value) (os : List Oq) (vs : List (Option Addr × Nat)) : Prop where
  below : Below w.heap.size w W
  b1 : BK W w.heap.size #[.int .i64 c.q, .int .i64 c.b, .slice a c.ops.length cp] 24
  b2 : BK W (w.heap.size + 1) #[.int .i64 0, .int .i64 0, .slice none 0 0] 24
  b3 : BK W (w.heap.size + 1 + 1) #[.int .i64 c.q, .int .i64 c.b, v] 24
  oo : OO W w.heap.size v os vs
section
variable {w W W1 : World} {c : Ci} {a : Option Addr} {cp : Nat} {v : Value} {os : List Oq} {vs : List (Option Addr × Nat)}
theorem CP.blw (h : CP w W c a cp v os vs) (hB : Below W.heap.size W W1) : CP w W1 c a cp v os vs :=
  ⟨btr h.below hB, (hB.block _ h.b1.lt).trans h.b1, (hB.block _ h.b2.lt).trans h.b2, (hB.block _ h.b3.lt).trans h.b3, h.oo.below hB⟩
theorem CP.next {w5 w6 : World} {a2 : Option Addr} {c2 : Nat} {v' : Value} {o : Oq} (hi : CP w W c a cp v os vs) (hf : Fit o)
    (hB5 : Below W.heap.size W w5) (hO5 : w5.ownsRow w.heap.size 3 1 (.slice a2 o.qs.length c2) o.qs.length (zl o.qs))
    (hown : w6.ownsRow w.heap.size 57 7 v' (os.length + 1) (opw os vs ++ opc o a2 c2)) (hg : w5.grownBy w6 v.ownBlock) :
    CP w (w6.setCell ⟨w.heap.size + 1 + 1, 2, none⟩ v') c a cp v' (os ++ [o]) (vs ++ [(a2, c2)]) ∧ BK w6 (w.heap.size + 1 + 1) #[.int .i64 c.q, .int .i64 c.b, v] 24 := by
  have h5 := hi.blw hB5
  have hoo := h5.oo
  have O6 : OO w6 w.heap.size v' (os ++ [o]) (vs ++ [(a2, c2)]) := hoo.put hO5 hf hg hown
  have key : ∀ {b cs T}, BK w5 b cs T → 57 ≠ T → BK w6 b cs T := fun h ht => (hg.block _ h.lt (fun e => own_ne hoo.own h ht _ e.symm rfl)).trans h
  have b6 : Below w.heap.size w w6 := h5.below.grown hg h5.below.size (fun g e => (hoo.own.lt g e).1)
  have p6 := key h5.b3 (by decide)
  refine ⟨⟨bset b6 _ _ _ (by omega), (key h5.b1 (by decide)).far (by omega) _ _, (key h5.b2 (by decide)).far (by omega) _ _, p6.set _ _, ?_⟩, p6⟩
  exact O6.other p6 (by decide) (by decide) (gb_set (gb_refl w6 _) _ 2 v' (.inl rfl))
end
theorem own_new {W : World} {B b : Nat} (hb : b = W.heap.size) (hB : B ≤ b) : (W.alloc (.cells #[] 3)).ownsRow B 3 1 (.slice (some ⟨b, 0, none⟩) 0 0) 0 [] := by
  subst hb
  exact own_mono (own_empty W) hB
set_option maxHeartbeats 4000000 in
set_option maxRecDepth 100000 in
theorem copy_any (c : Ci) (a : Option Addr) (cp : Nat) (A : Nat → Option Addr) (C : Nat → Nat) (w : World) (H : OS w a cp c.ops A C) (hl4 : c.ops.length ≤ 4096) (hq : ∀ k (h : k < c.ops.length), 0 < c.ops[k].qs.length ∧ c.ops[k].qs.length ≤ 100) :
    Calls Try.prog 29 #[civ c a cp] w fun e w' => ∃ a' c' vs, e = .returned (civ c a' c') ∧ OO w' w.heap.size (.slice a' c.ops.length c') c.ops vs ∧ Below w.heap.size w w' := by
  obtain ⟨i3, hi3, hz3, hs3, hb3⟩ := info_parts Try.info3
  have HI3 : Hid (Try.prog.info? 3 = some i3 ∧ i3.zero = some (.int .i64 0) ∧ i3.size = 1 ∧ i3.bytes = 8) := ⟨hi3, hz3, hs3, hb3⟩
  obtain ⟨i0, hi0, hz0, hz1, hz2⟩ := info_parts Try.info57
  have HI0 := hid hi0
  have HI1 := hid hz0
  have HI2 := hid hz1
  have HI4 := hid hz2
  clear hi3 hz3 hs3 hb3 hi0 hz0 hz1 hz2
  have HO : Hid (OS w a cp c.ops A C) := H
  have HQ := hid hq
  have hcap := H.cap
  clear H hq
  obtain ⟨q, b, os⟩ := c
  simp only at *
  go_enter Try.func29, Try.ntmps29
  go_wp2
  go_loopw [4] (fun s wr => ∃ k : Nat, k ≤ os.length ∧ s = .int .i64 (k : Nat) ∧ ∃ v vs, CP w wr ⟨q, b, os⟩ a cp v (os.take k) vs) (fun s _ => os.length - (intOf s).toNat)
  case atStart =>
    refine ⟨0, Nat.zero_le _, rfl, .slice none 0 0, [], bal (bal (bal (Below.refl _ _) _) _) _, ((bk_new _ _ _).alloc _).alloc _, (bk_at _ _ (by simp)).alloc _, bk_at _ _ (by simp), OO.nil _ _⟩
  case round =>
    obtain ⟨k, hk, rfl, v, vs, hi⟩ := hrel
    obtain ⟨av, cv, rfl⟩ := hi.oo.shape
    have hlen : (os.take k).length = k := by rw [List.length_take]; omega
    rw [hlen] at hi
    have x1 : ∀ j, wr.cell? ⟨w.heap.size, j, none⟩ = _ := hi.b1.cell
    have x2 : ∀ j, wr.cell? ⟨w.heap.size + 1, j, none⟩ = _ := hi.b2.cell
    have x3 : ∀ j, wr.cell? ⟨w.heap.size + 1 + 1, j, none⟩ = _ := hi.b3.cell
    have y2 : ∀ j, wr.frozen? ⟨w.heap.size + 1, j, none⟩ = _ := hi.b2.free
    have y3 : ∀ j, wr.frozen? ⟨w.heap.size + 1 + 1, j, none⟩ = _ := hi.b3.free
    have z1 := hi.b1.lt
    have z2 := hi.b2.lt
    have z3 := hi.b3.lt
    have HI := hid hi
    by_cases hlt : k < os.length
    case neg =>
      obtain rfl : k = os.length := by omega
      clear hi
      go_wp2
      have b2 := ((HI.out.b2.set 0 (.int .i64 q)).set 1 (.int .i64 b)).set 2 (.slice av os.length cv)
      have O2 := HI.out.oo.other HI.out.b2 (by decide) (by decide) (gb_set (gb_set (gb_set (gb_refl wr (w.heap.size + 1)) (w.heap.size + 1) 0 (.int .i64 q) (.inl rfl)) (w.heap.size + 1) 1 (.int .i64 b) (.inl rfl)) (w.heap.size + 1) 2 (.slice av os.length cv) (.inl rfl))
      rw [List.take_length] at O2
      have c2 := b2.cell
      refine bodyPost_ret (v := civ ⟨q, b, os⟩ av cv) (by simp [results, Try.results29, go_sem, c2]) rfl ⟨av, cv, rfl, ⟨vs, O2⟩, ?_⟩
      exact bset (bset (bset HI.out.below _ _ _ (by omega)) _ _ _ (by omega)) _ _ _ (by omega)
    obtain ⟨b', o', rfl, r⟩ := (HO.out.below hi.below).at_ k hlt
    have hQ := (HO.out.below hi.below).qs k hlt
    have m0 := r.c0 k hlt
    have m1 := r.c1 k hlt
    have m2 := r.c2 k hlt
    have m3 := r.c3 k hlt
    have m4 := r.c4 k hlt
    have m5 := r.c5 k hlt
    have m6 := r.c6 k hlt
    have hbl := r.lt
    have hfit := hid (HO.out.fit k hlt)
    obtain ⟨hq0, hq1⟩ := HQ.out k hlt
    have HT : Hid (os.take (k + 1) = os.take k ++ [os[k]]) := List.take_succ_eq_append_getElem hlt
    clear r hi
    generalize os[k] = o at *
    generalize A k = ak at *
    generalize C k = ck at *
    obtain ⟨b2, o2, rfl, hc⟩ := hQ.cells hq0
    have hc2 : Hid (∀ x y j u, (zl o.qs)[j]? = some u → ((wr.alloc x).alloc y).cell? ((⟨b2, o2, none⟩ : Addr).add j) = some u) := fun x y j u hu => by
      obtain ⟨b1, o1, e1, h1⟩ := (hQ.below (bal (bal (Below.refl _ _) x) y)).cells hq0
      cases e1
      exact h1 j u hu
    clear hc hQ
    go_wp2_with (at_builtin; refine Hid.out ?_)
    refine hid ?_
    refine wpList_append_own_at _ rfl _ _ 43 rfl wr.heap.size 3 i3 (.int .i64 0) 1 8 Try.underlying43 HI3.out.1 HI3.out.2.1 HI3.out.2.2.1 HI3.out.2.2.2 rfl (by decide) _ 0 [] rfl (own_new (by simp) (by omega)) ⟨b2, o2, none⟩ o.qs.length ck (zl o.qs) rfl (by simp [zl]) (hc2.out _ _) (zl_one o.qs) (by unfold maxLen; omega) (by omega) (by simp; omega) ?_
    intro v6 w6 hown6 hgrow6 _ _
    rw [Nat.zero_add, List.nil_append] at hown6
    obtain ⟨a6, c6, rfl⟩ := own_shape hown6
    have hB6 : Below wr.heap.size wr w6 := (bal (bal (Below.refl _ _) _) _).grown hgrow6 (by simp; omega) (fun k e => by have e2 : wr.heap.size + 1 = k := Option.some.inj e; omega)
    have kb : BK w6 wr.heap.size _ 57 := (hgrow6.block _ (by simp; omega) (fun e => by have e2 : wr.heap.size = wr.heap.size + 1 := Option.some.inj e; omega)).trans ((bk_new wr #[.int .i64 o.k, .string o.n, .slice (some ⟨b2, o2, none⟩) o.qs.length ck, .int .i64 o.b, .bool o.f, .int .u64 o.m, .int .u64 o.v] 57).alloc _)
    have kc : ∀ j, w6.cell? ⟨wr.heap.size, j, none⟩ = _ := kb.cell
    have kf : ∀ j, w6.frozen? ⟨wr.heap.size, j, none⟩ = _ := kb.free
    have i6 := HI.out.blw hB6
    have p3 : ∀ j, w6.cell? ⟨w.heap.size + 1 + 1, j, none⟩ = _ := i6.b3.cell
    have pf : ∀ j, w6.frozen? ⟨w.heap.size + 1 + 1, j, none⟩ = _ := i6.b3.free
    have n1 : wr.heap.size ≠ w.heap.size + 1 + 1 := by omega
    have n2 : w.heap.size + 1 + 1 ≠ wr.heap.size := by omega
    have l6 := kb.lt
    have l7 := i6.b3.lt
    have HB6 := hid hB6
    have HKB := hid kb
    have HO6 := hid hown6
    clear i6 hB6 hown6 hgrow6 kb m0 m1 m2 m3 m4 m5 m6 x1 x2 x3 y2 y3 hc2
    go_wp2_with (at_builtin; refine Hid.out ?_)
    refine hid ?_
    have kb : BK w6 wr.heap.size #[.int .i64 o.k, .string o.n, .slice (some ⟨b2, o2, none⟩) o.qs.length ck, .int .i64 o.b, .bool o.f, .int .u64 o.m, .int .u64 o.v] 57 := HKB.out
    have hB7 := bal (bset HB6.out wr.heap.size 2 (.slice a6 o.qs.length c6) (Nat.le_refl _)) (.cells #[.int .i64 o.k, .string o.n, .slice a6 o.qs.length c6, .int .i64 o.b, .bool o.f, .int .u64 o.m, .int .u64 o.v] 57)
    have hq7 := own_mono (own_below (own_kept HO6.out (gb_set (gb_refl w6 wr.heap.size) wr.heap.size 2 (.slice a6 o.qs.length c6) (.inl rfl)) (own_ne HO6.out kb (by decide))) (bal (Below.refl _ _) (.cells #[.int .i64 o.k, .string o.n, .slice a6 o.qs.length c6, .int .i64 o.b, .bool o.f, .int .u64 o.m, .int .u64 o.v] 57))) HI.out.below.size
    have hrow := (HI.out.blw hB7).oo.own
    rw [hlen] at hrow
    refine wpList_append_own_at _ rfl _ _ 22 rfl w.heap.size 57 i0 _ 7 80 Try.underlying22 HI0.out HI1.out HI2.out HI4.out rfl (by decide) _ _ _ rfl hrow ⟨w6.heap.size, 0, none⟩ 1 1 (opc o a6 c6) rfl rfl (new_op _ _ (by simp [World.setCell]) o _ _) (one_op o _ _) (by unfold maxLen; omega) (by omega) (by have := hB7.size; omega) ?_
    intro v8 w8 hown8 hgrow8 _ _
    obtain ⟨hN, p6⟩ := HI.out.next hfit.out hB7 hq7 (by rw [hlen]; exact hown8) hgrow8
    obtain ⟨a8, c8, rfl⟩ := own_shape hown8
    have p8 : ∀ j, w8.cell? ⟨w.heap.size + 1 + 1, j, none⟩ = _ := p6.cell
    have pf8 : ∀ j, w8.frozen? ⟨w.heap.size + 1 + 1, j, none⟩ = _ := p6.free
    have HN := hid hN
    clear hN p6 hgrow8 hown8 hrow hq7 hB7 kb
    go_wp2
    go_roundw
    case rel => exact ⟨k + 1, by omega, by simp, _, _, HT.out ▸ HN.out⟩
    case measure => first | (simp [intOf]; done) | (simp [intOf]; omega)
end Go.Proofs.Ytfaoegiignalkaa
