/-
  A circuit taken back.
-/
import Derived.Test.YtfaoegiignalkaaI3
namespace Go.Proofs.Ytfaoegiignalkaa
open Go.RowKit Go.Shelf
attribute [local go_sem] Oper.semAt_some

theorem made_any (n : Nat) (hn : n ≤ 4096) : ∃ Z : Array Value, Z.size = n * 7 ∧ ∀ w : World, (Instr.makeSlice 22 (.int .i64 0) (.int .i64 (n : Int))).run Try.prog w = .ok (.slice (some ⟨w.heap.size, 0, none⟩) 0 n) (w.alloc (.cells Z 57)) := by
  obtain ⟨i, hi, hz, hs, hb⟩ := info_parts Try.info57
  refine ⟨madeCells (Value.agg #[.int .i64 0, .string ⟨#[]⟩, .slice none 0 0, .int .i64 0, .bool false, .int .u64 0, .int .u64 0]).cells (n * 7), size_madeCells _ _, fun w => ?_⟩
  have := run_make (P := Try.prog) (w := w) 22 57 i _ Try.underlying22 hi hz .i64 .i64 0 n (by omega) (by omega) (by rw [hb]; omega) (by omega)
  rw [hs] at this
  simpa using this
theorem own_made {W : World} {B g n : Nat} {Z : Array Value} (hZ : Z.size = n * 7) (hn : n ≤ 4096) (hb : B ≤ g) (hg : BK W g Z 57) : W.ownsRow B 57 7 (.slice (some ⟨g, 0, none⟩) 0 n) 0 [] :=
  ⟨rfl, .inr ⟨g, n, Z, rfl, hb, hg, Nat.zero_le _, by unfold maxLen; omega, hZ, rfl⟩⟩
theorem OO.nil (W : World) (B : Nat) : OO W B (.slice none 0 0) [] [] := ⟨rfl, World.ownsRow_nil _ _ _ _, fun _ h => absurd h (Nat.not_lt_zero _), fun _ h => absurd h (Nat.not_lt_zero _)⟩
/-- What a round of the loop leaves as it was. -/
structure TR (n₀ Bn : Nat) (W W' : World) : Prop where
  ko : KeepsOthers W W'
  kw : KW n₀ Bn W W'
section
variable {n₀ Bn : Nat} {W W1 W2 : World}
theorem TR.refl (W : World) : TR n₀ Bn W W := ⟨KeepsOthers.refl W, fun _ _ => rfl, Nat.le_refl _⟩
theorem TR.trans (h : TR n₀ Bn W W1) (g : TR n₀ Bn W1 W2) : TR n₀ Bn W W2 := ⟨h.ko.trans g.ko, h.kw.trans g.kw⟩
theorem TR.blw (hn : n₀ ≤ W.heap.size) (hb : Bn < W.heap.size) (h : Below W.heap.size W W1) : TR n₀ Bn W W1 :=
  ⟨⟨h.size, fun k o hk _ => (h.block k (Array.getElem?_eq_some_iff.1 hk).1).trans hk⟩, fun b hb' => h.block b (by omega), h.size⟩
theorem TR.set (W : World) (c k : Nat) (v : Value) (hc : n₀ ≤ c) (hne : c ≠ Bn) : TR n₀ Bn W (W.setCell ⟨c, k, none⟩ v) :=
  ⟨KeepsOthers.setCell _ _ _, fun b hb => Below.heap_setCell W ⟨c, k, none⟩ v b (fun e => by have e : b = c := e; omega), by simp [World.setCell]⟩
theorem TR.grow {row : Option Nat} (hn : n₀ ≤ W.heap.size) (hb : Bn < W.heap.size) (hg : W.grownBy W1 row) (h : ∀ g, row = some g → n₀ ≤ g ∧ g ≠ Bn ∧ ∃ cs T, BK W g cs T) : TR n₀ Bn W W1 :=
  ⟨KeepsOthers.of_grownBy hg (fun j o e ho => by obtain ⟨_, _, cs, T, hc⟩ := h j e; rw [hc] at ho; cases ho; rfl), fun b hb' => hg.block b (by omega) (fun e => by obtain ⟨h1, h2, _⟩ := h b e.symm; omega), hg.size⟩
end
theorem bk_kept {W W' : World} {b : Nat} {cs : Array Value} {T : TypeId} {row : Option Nat} (h : BK W b cs T) (hg : W.grownBy W' row) (hr : ∀ r, row = some r → ∃ o : Obj, W.heap[r]? = some o ∧ o.isCells = false) : BK W' b cs T :=
  (hg.block b h.lt (fun e => by obtain ⟨o, ho, hc⟩ := hr b e.symm; rw [h] at ho; cases ho; cases hc)).trans h
/-- What stands between two rounds. -/
structure IV (w W : World) (q b : Int) (a : Option Addr) (n cp p : Nat) (v : Value) (os : List Oq) (vs : List (Option Addr × Nat)) : Prop where
  below : Below w.heap.size w W
  b1 : BK W w.heap.size #[.int .i64 q, .int .i64 b, .slice a n cp] 24
  b2 : BK W (w.heap.size + 1) #[.int .i64 0, .int .i64 0, .slice none 0 0] 24
  b3 : BK W (w.heap.size + 1 + 1) #[.int .i64 0] 30
  pb : BK W p #[v] 22
  oo : OO W w.heap.size v os vs
  bn : BK W (p + 1) #[.slice a n cp] 22
section
variable {w W W1 : World} {q b : Int} {a : Option Addr} {n cp p : Nat} {v : Value} {os : List Oq} {vs : List (Option Addr × Nat)}
theorem IV.kept {row : Option Nat} {B : Nat} (h : IV w W q b a n cp p v os vs) (hB : w.heap.size ≤ B) (hg : W.grownBy W1 row) (hr : ∀ r, row = some r → B ≤ r ∧ ∃ o : Obj, W.heap[r]? = some o ∧ o.isCells = false) : IV w W1 q b a n cp p v os vs :=
  have hr' : ∀ r, row = some r → ∃ o : Obj, W.heap[r]? = some o ∧ o.isCells = false := fun r e => (hr r e).2
  ⟨h.below.grown hg h.below.size (fun k e => Nat.le_trans hB (hr k e).1), bk_kept h.b1 hg hr', bk_kept h.b2 hg hr', bk_kept h.b3 hg hr', bk_kept h.pb hg hr',
    h.oo.kept hg (fun g e cs => by obtain ⟨o, ho, hc⟩ := hr' g e; rw [ho]; exact ⟨fun e => (by cases e; cases hc), fun e => (by cases e; cases hc)⟩), bk_kept h.bn hg hr'⟩
theorem IV.sz (h : IV w W q b a n cp p v os vs) : p + 1 < W.heap.size := h.bn.lt
theorem IV.blw (h : IV w W q b a n cp p v os vs) (hB : Below W.heap.size W W1) : IV w W1 q b a n cp p v os vs :=
  ⟨btr h.below hB, (hB.block _ h.b1.lt).trans h.b1, (hB.block _ h.b2.lt).trans h.b2, (hB.block _ h.b3.lt).trans h.b3, (hB.block _ h.pb.lt).trans h.pb, h.oo.below hB, (hB.block _ h.bn.lt).trans h.bn⟩
end
theorem IV.next {w w2 w5 w6 W : World} {q b : Int} {a av a2 : Option Addr} {n cp p k cv c2 : Nat} {v' : Value} {os : List Oq} {vs : List (Option Addr × Nat)} {o : Oq} (hi : IV w W q b a n cp p (.slice av k cv) os vs) (hf : Fit o) (hp : w.heap.size + 1 + 1 < p)
    (hB2 : Below W.heap.size W w2) (hO2 : w2.ownsRow W.heap.size 3 1 (.slice a2 o.qs.length c2) o.qs.length (zl o.qs)) (hB5 : Below w2.heap.size w2 w5)
    (hown : w6.ownsRow w.heap.size 57 7 v' (os.length + 1) (opw os vs ++ opc o a2 c2)) (hg : w5.grownBy w6 (Value.slice av k cv).ownBlock) :
    IV w (w6.setCell ⟨p, 0, none⟩ v') q b a n cp p v' (os ++ [o]) (vs ++ [(a2, c2)]) ∧ TR w.heap.size (p + 1) W (w6.setCell ⟨p, 0, none⟩ v') := by
  have hB : Below W.heap.size W w5 := btr hB2 hB5
  have h5 := hi.blw hB
  have hoo := h5.oo
  have hq5 := own_mono (own_below hO2 hB5) hi.below.size
  have O6 : OO w6 w.heap.size v' (os ++ [o]) (vs ++ [(a2, c2)]) := hoo.put hq5 hf hg hown
  have key : ∀ {b cs T}, BK w5 b cs T → 57 ≠ T → BK w6 b cs T := fun h ht => (hg.block _ h.lt (fun e => own_ne hoo.own h ht _ e.symm rfl)).trans h
  have hlow : ∀ g, (Value.slice av k cv).ownBlock = some g → w.heap.size ≤ g ∧ g ≠ p + 1 ∧ ∃ cs T, BK w5 g cs T := fun g e => by
    obtain ⟨cs, hc⟩ := own_ty hoo.own e
    refine ⟨(hoo.own.lt g e).1, fun e2 => ?_, cs, 57, hc⟩
    subst e2
    exact own_ne hoo.own h5.bn (by decide) _ e rfl
  have b6 : Below w.heap.size w w6 := h5.below.grown hg h5.below.size (fun g e => (hlow g e).1)
  have p6 := key h5.pb (by decide)
  refine ⟨⟨bset b6 _ _ _ (by omega), (key h5.b1 (by decide)).far (by omega) _ _, (key h5.b2 (by decide)).far (by omega) _ _, (key h5.b3 (by decide)).far (by omega) _ _, p6.set _ _, ?_, (key h5.bn (by decide)).far (by omega) _ _⟩, ?_⟩
  · exact O6.kept (gb_set (gb_refl w6 p) p 0 v' (.inl rfl)) (fun g e cs => by cases e; unfold BK at p6; rw [p6]; exact ⟨fun e => (by cases e), fun e => (by cases e)⟩)
  · exact ((TR.blw hi.below.size hi.sz hB).trans (TR.grow h5.below.size h5.sz hg hlow)).trans (TR.set _ _ _ _ (by omega) (by omega))
theorem OO.other {W W' : World} {B b : Nat} {v : Value} {os : List Oq} {vs : List (Option Addr × Nat)} {cs : Array Value} {T : TypeId} (h : OO W B v os vs) (hb : BK W b cs T) (h57 : T ≠ 57) (h3 : T ≠ 3) (hg : GB W W' b) : OO W' B v os vs :=
  h.kept hg (fun g e cs' => by cases e; rw [show W.heap[b]? = _ from hb]; exact ⟨fun e => (by cases e; exact h57 rfl), fun e => (by cases e; exact h3 rfl)⟩)
theorem OO.put0 {W : World} {B D : Nat} {v : Value} {os : List Oq} {vs : List (Option Addr × Nat)} {o : Obj} (h : OO W B v os vs) (hD : W.heap[D]? = some o) (hc : o.isCells = false) (o' : Obj) : OO (W.putObj D o') B v os vs :=
  h.kept (grownBy_putObj' W D o') (fun g e cs' => by cases e; rw [hD]; exact ⟨fun e => (by cases e; cases hc), fun e => (by cases e; cases hc)⟩)
theorem bk_put0 {W : World} {b D : Nat} {cs : Array Value} {T : TypeId} {o : Obj} (h : BK W b cs T) (hD : W.heap[D]? = some o) (hc : o.isCells = false) (o' : Obj) : BK (W.putObj D o') b cs T :=
  bk_kept h (grownBy_putObj' W D o') (fun r e => by cases e; exact ⟨o, hD, hc⟩)
theorem below_put0 {w W : World} {D : Nat} (h : Below w.heap.size w W) (hD : w.heap.size ≤ D) (o' : Obj) : Below w.heap.size w (W.putObj D o') :=
  h.grown (grownBy_putObj' W D o') h.size (fun k e => by cases e; exact hD)
theorem hid {p : Prop} (h : p) : Hid p := h
theorem op_gate {o : Oq} {q : Int} {b : Nat} (hE : opE o q b (opN o) = 0) (hk : o.k = 1) : o.n ∈ nms ∧ 0 < o.qs.length ∧ o.qs.length ≤ 100 ∧ o.n.size ≤ 281474976710656 := by
  obtain ⟨_, _, h1, h2, _, _⟩ := opE_ok hE
  have hN : opN o = gar o.n := by unfold opN; rw [if_pos hk]
  rw [hN] at h1 h2
  have hm := gar_nms _ h1
  have := gar_le o.n
  refine ⟨hm, by omega, by omega, ?_⟩
  simp only [nms, List.mem_cons, List.not_mem_nil, or_false] at hm
  rcases hm with h | h | h | h | h | h | h | h | h | h | h | h | h | h | h | h | h | h | h | h | h | h | h | h | h <;> rw [h] <;> decide
set_option maxHeartbeats 4000000 in
set_option maxRecDepth 100000 in
theorem inverseC_any (c : Ci) (a : Option Addr) (cp : Nat) (A : Nat → Option Addr) (C : Nat → Nat) (w : World) (H : OS w a cp c.ops A C) :
    Calls Try.prog 20 #[civ c a cp] w fun e w' => ∃ a' c' vs, e = .returned (.tuple #[civ (invR c) a' c', .int .i64 (invE c : Nat)]) ∧ OO w' w.heap.size (.slice a' (invR c).ops.length c') (invR c).ops vs ∧ Below w.heap.size w w' := by
  have L := fun w1 h => check_any c a cp A C w1 h
  have HO : Hid (OS w a cp c.ops A C) := H
  have hcap := H.cap
  have hl := H.l
  refine (callsIn_wide (n := 9)).1 ?_
  refine callsIn_of_wp_marks Try.func20 rfl trivial ?_ rfl
  refine wpIn_wide.2 ?_
  simp only [Try.ntmps20, List.size_toArray, List.length_cons, List.length_nil, Nat.reduceAdd, Nat.reduceSub, Array.replicate_succ, Array.replicate_zero, List.push_toArray, List.append_toArray, List.nil_append, List.cons_append]
  by_cases hE : (lk c).2.2 = 0
  case neg =>
    have e1 : invE c = (lk c).2.2 := by unfold invE; rw [if_pos hE]
    have e2 : invR c = noCi := by unfold invR; rw [if_neg (by rw [e1]; exact hE)]
    rw [e1, e2]
    generalize (lk c).2.2 = E at *
    generalize (lk c).1 = P at *
    have hE1 : ((E : Int) != 0) = true := bne_iff_ne.2 (by omega)
    clear hE e1 e2 H
    go_wp2_with (go_at_call 14; (with_reducible refine (L _ (HO.out.below (bal (bal (bal (Below.refl _ _) _) _) _))).mono ?_); rintro e w1 ⟨rfl, hB⟩; obtain ⟨k1, k2, k3⟩ := three_box hB; have q1 : ∀ j, w1.cell? ⟨w.heap.size, j, none⟩ = _ := k1.cell; have q2 : ∀ j, w1.cell? ⟨w.heap.size + 1, j, none⟩ = _ := k2.cell; have q3 : ∀ j, w1.cell? ⟨w.heap.size + 1 + 1, j, none⟩ = _ := k3.cell; have z3 := k3.lt; have f2 : ∀ j, w1.frozen? ⟨w.heap.size + 1, j, none⟩ = false := k2.free; have f3 : ∀ j, w1.frozen? ⟨w.heap.size + 1 + 1, j, none⟩ = false := k3.free)
    refine ⟨.tuple #[civ noCi none 0, .int .i64 (E : Nat)], ?_, none, 0, rfl, ⟨[], OO.nil _ _⟩, ?_⟩
    · simp [results, Try.results20, go_sem, *]
    · have hX : Below w.heap.size w w1 := btr (bal (bal (bal (Below.refl _ _) _) _) _) hB
      repeat (refine bset ?_ _ _ _ (by omega))
      exact hX
  have e1 : invE c = if (c.ops.all fun o => o.k == 1) = true then 0 else 121 := by unfold invE; rw [if_neg (by rw [hE]; simp)]
  have hl4 : c.ops.length ≤ 4096 := (lk_ok hE).2.1
  have HEI : Hid (invE c = if (c.ops.all fun o => o.k == 1) = true then 0 else 121) := e1
  have HRI : Hid (invR c = if invE c = 0 then ⟨c.q, c.b, c.ops.reverse.map invO⟩ else noCi) := rfl
  have HOK : Hid (∀ k (hk : k < c.ops.length), Okay c.ops[k] ∧ opE c.ops[k] c.q c.b.toNat (opN c.ops[k]) = 0) := lk_okay hE H.fit
  generalize invE c = IE at *
  generalize invR c = IR at *
  rw [hE] at L
  generalize (lk c).1 = P at *
  obtain ⟨q, b, os⟩ := c
  simp only at *
  clear hE e1 H
  have BW := fun w => backward_any a os.length cp w
  obtain ⟨Z, hZ, MS⟩ := made_any os.length hl4
  have HZ : Hid (Z.size = os.length * 7) := hZ
  clear hZ
  go_wp2_with (first
    | (go_at_call 14; (with_reducible refine (L _ (HO.out.below (bal (bal (bal (Below.refl _ _) _) _) _))).mono ?_); rintro e w1 ⟨rfl, hB⟩; obtain ⟨k1, k2, k3⟩ := three_box hB; have q1 : ∀ j, w1.cell? ⟨w.heap.size, j, none⟩ = _ := k1.cell; have q2 : ∀ j, w1.cell? ⟨w.heap.size + 1, j, none⟩ = _ := k2.cell; have q3 : ∀ j, w1.cell? ⟨w.heap.size + 1 + 1, j, none⟩ = _ := k3.cell; have z3 := k3.lt; have z1 := k1.lt; have z2 := k2.lt; have f2 : ∀ j, w1.frozen? ⟨w.heap.size + 1, j, none⟩ = false := k2.free; have f3 : ∀ j, w1.frozen? ⟨w.heap.size + 1 + 1, j, none⟩ = false := k3.free)
    | (go_at_call 38; (with_reducible refine (BW _).mono ?_); rintro e w2 ⟨rfl, rfl⟩))
  rename_i KK HC
  have BN0 : BK ((((w1.alloc (.cells Z 57)).alloc (.cells #[.slice (some ⟨w1.heap.size, 0, none⟩) 0 os.length] 22)).alloc (.cells #[.slice a os.length cp] 22))) (w1.heap.size + 1 + 1) #[.slice a os.length cp] 22 := by
    have := bk_new ((w1.alloc (.cells Z 57)).alloc (.cells #[.slice (some ⟨w1.heap.size, 0, none⟩) 0 os.length] 22)) #[.slice a os.length cp] 22
    rw [World.size_alloc, World.size_alloc] at this
    exact this
  have IV0 : IV w ((((w1.alloc (.cells Z 57)).alloc (.cells #[.slice (some ⟨w1.heap.size, 0, none⟩) 0 os.length] 22)).alloc (.cells #[.slice a os.length cp] 22))) q b a os.length cp (w1.heap.size + 1) (.slice (some ⟨w1.heap.size, 0, none⟩) 0 os.length) [] [] := by
    refine ⟨bal (bal (bal (btr (bal (bal (bal (Below.refl _ _) _) _) _) hB) _) _) _, ((k1.alloc _).alloc _).alloc _, ((k2.alloc _).alloc _).alloc _, ((k3.alloc _).alloc _).alloc _, ?_, ?_, BN0⟩
    · have := bk_new (w1.alloc (.cells Z 57)) #[.slice (some ⟨w1.heap.size, 0, none⟩) 0 os.length] 22
      rw [World.size_alloc] at this
      exact this.alloc _
    · exact ⟨rfl, own_made HZ.out hl4 (by omega) (((bk_new w1 Z 57).alloc _).alloc _), fun _ h => absurd h (Nat.not_lt_zero _), fun _ h => absurd h (Nat.not_lt_zero _)⟩
  obtain ⟨W0, hW0⟩ : ∃ W0, (((w1.alloc (.cells Z 57)).alloc (.cells #[.slice (some ⟨w1.heap.size, 0, none⟩) 0 os.length] 22)).alloc (.cells #[.slice a os.length cp] 22)) = W0 := ⟨_, rfl⟩
  rw [hW0] at IV0 BN0 ⊢
  have hsz : W0.heap.size = w1.heap.size + 1 + 1 + 1 := by rw [← hW0]; simp
  have HO0 : OS W0 a cp os A C := HO.out.below IV0.below
  clear hW0 q1 q2 q3 f2 f3 k1 k2 k3 hB MS BW L
  generalize w1.heap.size = z at *
  have hrows : ∀ k, k < os.length → ∃ b o, a = some ⟨b, o, none⟩ ∧ b < w.heap.size ∧ RO W0 b o os A C := fun k hk => by
    obtain ⟨b, o, e, r⟩ := HO.out.at_ k hk
    exact ⟨b, o, e, r.lt, r.below IV0.below⟩
  refine (wpIn_wide (n := 9)).1 ?_
  refine wpIn_rangeFunc_ownH (F := Fence.wide) (n := 9) rfl (by decide) (gf := 54) (lb := #[.pointer (some ⟨z + 1 + 1, 0, none⟩)]) rfl trivial (enters_of Try.func54 (by kernel_rfl) rfl)
    (back_stops Fence.wide (9 - 1) trivial rfl (by decide) (z + 1 + 1) w.heap.size os a cp A C W0 hl (by omega) (BN0.cell 0) hrows) KW.trans
    (fun W l o o' hle hl _ _ => ⟨fun b hb => World.putObj_heap_other (by omega), by simp⟩) (Below.refl _ _) (fun _ => rfl)
    (fun pre W => (∃ v vs, IV w W q b a os.length cp (z + 1) v (pre.map fun x => invO (os[x.1]'x.2)) vs) ∧ ∀ x ∈ pre, (os[x.1]'x.2).k = 1)
    (fun c pre W => c = .ret ∧ (∃ x ∈ pre, (os[x.1]'x.2).k ≠ 1) ∧ Below w.heap.size w W ∧ BK W (w.heap.size + 1) #[.int .i64 0, .int .i64 0, .slice none 0 0] 24 ∧ BK W (w.heap.size + 1 + 1) #[.int .i64 121] 30)
    (fun s A B row hs hg hr => ⟨by obtain ⟨v, vs, h⟩ := hs.1; exact ⟨v, vs, h.kept (by omega) hg hr⟩, hs.2⟩)
    (fun c s A B row hs hg hr => ⟨hs.1, hs.2.1, ownFrom_below (β := Unit) (B := W0.heap.size) (Nat.le_refl _) (by omega) () A B row hs.2.2.1 hg hr, bk_kept hs.2.2.2.1 hg (fun r e => (hr r e).2), bk_kept hs.2.2.2.2 hg (fun r e => (hr r e).2)⟩)
    ⟨⟨_, _, IV0⟩, fun _ h => absurd h (List.not_mem_nil)⟩
    (fun x a' W => ∃ Bx, z + 1 + 1 < Bx ∧ BK W Bx (opc (os[x.1]'x.2) (A x.1) (C x.1)).toArray 57 ∧ a' = { tmps := #[civ ⟨q, b, os⟩ a cp, .pointer (some ⟨w.heap.size, 0, none⟩), .pointer (some ⟨w.heap.size + 1, 0, none⟩), .pointer (some ⟨w.heap.size + 1 + 1, 0, none⟩), .int .i64 (P : Nat), .int .i64 0, .pointer (some ⟨z + 1, 0, none⟩), undef, .pointer (some ⟨Bx, 0, none⟩), undef, .tuple #[.int .i64 (P : Nat), .int .i64 0], .agg #[.int .i64 q, .int .i64 b, .slice a os.length cp], .tuple #[.int .i64 (P : Nat), .int .i64 0], .int .i64 (P : Nat), .int .i64 0, .int .i64 0, .bool false, undef, undef, .pointer (some ⟨w.heap.size, 2, none⟩), .slice a os.length cp, .int .i64 (os.length : Nat), .slice (some ⟨z, 0, none⟩) 0 os.length, .pointer (some ⟨w.heap.size, 2, none⟩), .slice a os.length cp, .func (.func 54) #[] #[.pointer (some ⟨z + 1 + 1, 0, none⟩)], .int .i64 (x.1 : Nat), opv (os[x.1]'x.2) (A x.1) (C x.1), undef, undef, undef, undef, undef, undef, undef, undef, undef, undef, undef, undef, undef, undef, undef, undef, undef, undef, undef, undef, undef, undef, undef], defers := [] })
    (fun x a' s A B row hs hg hr => by obtain ⟨Bx, h1, h2, h3⟩ := hs; exact ⟨Bx, h1, bk_kept h2 hg (fun r e => (hr r e).2), h3⟩)
    ?assign ?body ?done ?stop
  case assign =>
    rintro l pre x W K ⟨⟨v, vs, hi⟩, ha⟩ hK
    have hwz := hi.sz
    gi_wp2
    exact hK _ _ ((KeepsOthers.alloc _ _).from _) (TR.blw hi.below.size hwz (bal (Below.refl _ _) _)).kw ⟨⟨v, vs, hi.blw (bal (Below.refl _ _) _)⟩, ha⟩ ⟨W.heap.size, hwz, bk_new _ _ _, rfl⟩
  case body =>
    rintro l pre x a' W hl2 ⟨r, hr⟩ ⟨⟨v, vs, hi⟩, ha⟩ ⟨Bx, hBx, bX, rfl⟩ hlt
    obtain ⟨av, cv, rfl⟩ := hi.oo.shape
    have hwz := hi.sz
    have hX := bX.lt
    obtain ⟨okx, oex⟩ := HOK.out x.1 x.2
    have hfit := HO.out.fit x.1 x.2
    have hq : QS W (A x.1) (C x.1) (os[x.1]'x.2).qs := (HO.out.below hi.below).qs x.1 x.2
    have HA : Hid (∀ y ∈ pre, (os[y.1]'y.2).k = 1) := ha
    have HS : ∀ op, op = os[x.1]'x.2 → Hid ((pre ++ [x]).map (fun x => invO (os[x.1]'x.2)) = pre.map (fun x => invO (os[x.1]'x.2)) ++ [invO op]) := fun op e => by subst e; show _ = _; rw [List.map_append]; rfl
    have HT : ∀ op : Oq, op = os[x.1]'x.2 → op.k = 1 → ∀ y ∈ pre ++ [x], (os[y.1]'y.2).k = 1 := fun op e h y hy => by
      subst e
      rcases List.mem_append.1 hy with hy | hy
      · exact ha y hy
      · rw [List.mem_singleton] at hy; subst hy; exact h
    have HU : ∀ op : Oq, op = os[x.1]'x.2 → op.k ≠ 1 → ∃ y ∈ pre ++ [x], (os[y.1]'y.2).k ≠ 1 := fun op e h => ⟨x, by simp, by subst e; exact h⟩
    obtain ⟨op, hop⟩ : ∃ op, op = os[x.1]'x.2 := ⟨_, rfl⟩
    replace HS := HS op hop
    replace HT := HT op hop
    replace HU := HU op hop
    rw [← hop] at okx oex hfit hq bX ⊢
    clear hop
    have hlen : (pre.map fun x => invO (os[x.1]'x.2)).length = pre.length := List.length_map _
    have HL : Hid ((pre.map fun x => invO (os[x.1]'x.2)).length = pre.length) := hlen
    rw [hlen] at hi
    have HI := hid hi
    by_cases hk : op.k = 1
    case neg =>
      have d1 : ((op.k : Int) != 1) = true := bne_iff_ne.2 hk
      have x1 : ∀ j, W.cell? ⟨Bx, j, none⟩ = _ := bX.cell
      have x2 : ∀ j, W.cell? ⟨w.heap.size + 1, j, none⟩ = _ := hi.b2.cell
      have x3 : ∀ j, W.cell? ⟨w.heap.size + 1 + 1, j, none⟩ = _ := hi.b3.cell
      have y2 : ∀ j, W.frozen? ⟨w.heap.size + 1, j, none⟩ = _ := hi.b2.free
      have y3 : ∀ j, W.frozen? ⟨w.heap.size + 1 + 1, j, none⟩ = _ := hi.b3.free
      have n2 : ∀ c j v, BK (W.setCell ⟨c, j, none⟩ v) c = BK (W.setCell ⟨c, j, none⟩ v) c := fun _ _ _ => rfl
      have b2 := ((((hi.b2.set 0 (.int .i64 0)).set 1 (.int .i64 0)).set 2 (.slice none 0 0)).far (c := w.heap.size + 1 + 1) (by omega) 0 (.int .i64 121))
      have b3 := (((hi.b3.far (c := w.heap.size + 1) (by omega) 0 (.int .i64 0)).far (c := w.heap.size + 1) (by omega) 1 (.int .i64 0)).far (c := w.heap.size + 1) (by omega) 2 (.slice none 0 0)).set 0 (.int .i64 121)
      have HB2 := hid b2
      have HB3 := hid b3
      have HBL : Hid (Below w.heap.size w W) := hi.below
      clear hi b2 b3 ha n2 HOK HC hrows HO0 hfit hq okx oex
      gi_wp2
      refine ⟨?_, rfl, HU hk, bset (bset (bset (bset HBL.out _ _ _ (by omega)) _ _ _ (by omega)) _ _ _ (by omega)) _ _ _ (by omega), HB2.out, HB3.out⟩
      exact ((((KeepsOthers.setCell _ _ _).trans (KeepsOthers.setCell _ _ _)).trans (KeepsOthers.setCell _ _ _)).trans (KeepsOthers.setCell _ _ _)).from _
    obtain ⟨hnm, hq0, hq1, hns⟩ := op_gate oex hk
    have OW := own_any op (A x.1) (C x.1) W hq hq0 hq1 hns
    have IN := fun w => inverse_any op.n w
    have d1 : ((op.k : Int) != 1) = false := by rw [hk]; rfl
    have x1 : ∀ j, W.cell? ⟨Bx, j, none⟩ = _ := bX.cell
    have HBX := hid bX
    have HFI := hid hfit
    have HK := hid hk
    obtain ⟨i0, hi0, hz0, hz1, hz2⟩ := info_parts Try.info57
    have hpl := hi.pb.lt
    clear ha HOK HC hrows HO0 hfit hq okx oex hi HU bX hk
    gi_wp2_with (refine ⟨trivial, ?_⟩; gi_at_call 39; with_reducible refine (CallsIn.inRound l (callsIn_wide.2 OW)).mono ?_; rintro e w2 ⟨a2, c2, rfl, hO2, hB2⟩; have bX2 : BK w2 Bx _ 57 := (hB2.block _ hX).trans HBX.out; have x2 : ∀ j, w2.cell? ⟨Bx, j, none⟩ = _ := bX2.cell; have hX2 := bX2.lt; have bP2 : BK w2 (z + 1) _ 22 := (hB2.block _ hpl).trans HI.out.pb; have hP2 := bP2.lt)
    refine ⟨trivial, ?_⟩
    gi_at_call 40
    with_reducible refine (CallsIn.inRound l (callsIn_wide.2 (IN _))).mono ?_
    rintro e w4 ⟨rfl, hB4⟩
    have bO4 : BK w4 w2.heap.size _ 57 := one_box hB4
    have o4 : ∀ j, w4.cell? ⟨w2.heap.size, j, none⟩ = _ := bO4.cell
    have fo4 : ∀ j, w4.frozen? ⟨w2.heap.size, j, none⟩ = _ := bO4.free
    have bP4 : BK w4 (z + 1) _ 22 := (hB4.block _ (bP2.alloc _).lt).trans (bP2.alloc _)
    have p4 : ∀ j, w4.cell? ⟨z + 1, j, none⟩ = _ := bP4.cell
    have nP : z + 1 ≠ w2.heap.size := by omega
    have nQ : w2.heap.size ≠ z + 1 := by omega
    have hO4 := bO4.lt
    have hP4 := bP4.lt
    gi_wp2_with (gi_at_builtin; refine Hid.out ?_)
    refine hid ?_
    have hB5 := bal (bset (btr (bal (Below.refl _ _) (.cells #[.int .i64 op.k, .string op.n, .slice a2 op.qs.length c2, .int .i64 op.b, .bool op.f, .int .u64 op.m, .int .u64 op.v] 57)) hB4) w2.heap.size 1 (.string (giv op.n)) (Nat.le_refl _)) (.cells #[.int .i64 op.k, .string (giv op.n), .slice a2 op.qs.length c2, .int .i64 op.b, .bool op.f, .int .u64 op.m, .int .u64 op.v] 57)
    have hrow := ((HI.out.oo.below hB2).below hB5).own
    have bP5 := (bP4.far (c := w2.heap.size) nQ 1 (.string (giv op.n))).alloc (.cells #[.int .i64 op.k, .string (giv op.n), .slice a2 op.qs.length c2, .int .i64 op.b, .bool op.f, .int .u64 op.m, .int .u64 op.v] 57)
    have s5 := hB5.size
    have s2 := hB2.size
    have s0 := HI.out.below.size
    refine wpListIn_append_own _ rfl _ _ 22 rfl w.heap.size 57 i0 _ 7 80 Try.underlying22 hi0 hz0 hz1 hz2 rfl (by decide) _ _ _ rfl hrow ⟨w4.heap.size, 0, none⟩ 1 1 (opc (invO op) a2 c2) rfl rfl (new_op _ _ (by simp [World.setCell]) (invO op) _ _) (one_op (invO op) _ _) ?h63 ?hby ?hbase ?_
    case h63 => rw [hlen]; unfold maxLen; omega
    case hby => rw [hlen]; omega
    case hbase => omega
    intro v' w6 hown' hgrow _
    obtain ⟨hN1, hN2⟩ := HI.out.next (o := invO op) ⟨HFI.out.m0, HFI.out.m1, HFI.out.v0, HFI.out.v1, HFI.out.l⟩ (by omega) hB2 hO2 hB5 hown' hgrow
    obtain ⟨a6, c6, rfl⟩ := own_shape hown'
    have bP6 : BK w6 (z + 1) _ 22 := (hgrow.block _ bP5.lt (fun e => own_ne hrow bP5 (by decide) _ e.symm rfl)).trans bP5
    have p6 : ∀ j, w6.cell? ⟨z + 1, j, none⟩ = _ := bP6.cell
    have fp6 : ∀ j, w6.frozen? ⟨z + 1, j, none⟩ = _ := bP6.free
    rw [hlen] at hN1 hN2 ⊢
    have HN1 := hid hN1
    have HN2 := hid hN2
    clear hN1 hN2 hrow hown' hgrow bP5 bP6 bP4 bO4 hB4 hB5 hO2 hB2 hlen
    gi_wp2
    exact ⟨HN2.out.ko.from _, HN2.out.kw, ⟨_, _, HS.out ▸ HN1.out⟩, HT HK.out⟩
  case done =>
    rintro D ys W hD rfl ⟨⟨v, vs, hi⟩, ha⟩ hK
    have hmap : (bl os os.length).map (fun x => invO (os[x.1]'x.2)) = os.reverse.map invO := by rw [← bl_all os, List.map_map]; rfl
    rw [hmap] at hi
    have hall : (os.all fun o => o.k == 1) = true := by
      rw [List.all_eq_true]
      intro o ho
      obtain ⟨j, hj, rfl⟩ := List.mem_iff_getElem.1 ho
      exact beq_iff_eq.2 (ha ⟨j, hj⟩ (bl_mem _))
    have e1 : IE = 0 := by rw [HEI.out, if_pos hall]
    have e2 : IR = ⟨q, b, os.reverse.map invO⟩ := by rw [HRI.out, if_pos e1]
    obtain ⟨av, cv, rfl⟩ := hi.oo.shape
    have hlen : (os.reverse.map invO).length = os.length := by simp
    rw [hlen] at hi
    have HI := hid hi
    have x0 : ∀ j, W.cell? ⟨w.heap.size, j, none⟩ = _ := hi.b1.cell
    have x1 : ∀ j, W.cell? ⟨w.heap.size + 1, j, none⟩ = _ := hi.b2.cell
    have x2 : ∀ j, W.cell? ⟨w.heap.size + 1 + 1, j, none⟩ = _ := hi.b3.cell
    have x3 : ∀ j, W.cell? ⟨z + 1, j, none⟩ = _ := hi.pb.cell
    have y1 : ∀ j, W.frozen? ⟨w.heap.size + 1, j, none⟩ = _ := hi.b2.free
    have y2 : ∀ j, W.frozen? ⟨w.heap.size + 1 + 1, j, none⟩ = _ := hi.b3.free
    have HK := hid hK
    have n1 : w.heap.size + 1 ≠ z + 1 := by omega
    have n2 : w.heap.size + 1 + 1 ≠ z + 1 := by omega
    have HE1 := hid e1
    have HE2 := hid e2
    have b2 := (((hi.b2.set 0 (.int .i64 q)).set 1 (.int .i64 b)).set 2 (.slice av os.length cv)).far (c := w.heap.size + 1 + 1) (by omega) 0 (.int .i64 0)
    have b3 := (((hi.b3.far (c := w.heap.size + 1) (by omega) 0 (.int .i64 q)).far (c := w.heap.size + 1) (by omega) 1 (.int .i64 b)).far (c := w.heap.size + 1) (by omega) 2 (.slice av os.length cv)).set 0 (.int .i64 0)
    have o3 := hi.oo.other hi.b2 (by decide) (by decide) (gb_set (gb_set (gb_set (gb_refl W (w.heap.size + 1)) (w.heap.size + 1) 0 (.int .i64 q) (.inl rfl)) (w.heap.size + 1) 1 (.int .i64 b) (.inl rfl)) (w.heap.size + 1) 2 (.slice av os.length cv) (.inl rfl))
    have o4 := o3.other ((((hi.b3.far (c := w.heap.size + 1) (by omega) 0 (.int .i64 q)).far (c := w.heap.size + 1) (by omega) 1 (.int .i64 b)).far (c := w.heap.size + 1) (by omega) 2 (.slice av os.length cv))) (by decide) (by decide) (gb_set (gb_refl _ (w.heap.size + 1 + 1)) (w.heap.size + 1 + 1) 0 (.int .i64 0) (.inl rfl))
    have HO4 := hid o4
    have l4 := bset (bset (bset (bset hi.below (w.heap.size + 1) 0 (.int .i64 q) (by omega)) (w.heap.size + 1) 1 (.int .i64 b) (by omega)) (w.heap.size + 1) 2 (.slice av os.length cv) (by omega)) (w.heap.size + 1 + 1) 0 (.int .i64 0) (by omega)
    have HL4 := hid l4
    have HB2 := hid b2
    have HB3 := hid b3
    refine HC _ _ ?_
    clear HC hK hi ha hmap hall hrows HO0 HOK hlen e1 e2 b2 b3 o3 o4 l4
    go_wp2
    have hK6 := (((((KeepsOthers.setCell W ⟨w.heap.size + 1, 0, none⟩ (.int .i64 q)).trans (KeepsOthers.setCell _ ⟨w.heap.size + 1, 1, none⟩ (.int .i64 b))).trans (KeepsOthers.setCell _ ⟨w.heap.size + 1, 2, none⟩ (.slice av os.length cv))).trans (KeepsOthers.setCell _ ⟨w.heap.size + 1 + 1, 0, none⟩ (.int .i64 0)))).same D _ HK.out rfl
    refine ⟨by simp, .inl ⟨_, _, rfl, run_takeDeferred hK6, ?_⟩⟩
    have c2 := (bk_put0 HB2.out hK6 rfl (.deferred none)).cell
    have c3 := (bk_put0 HB3.out hK6 rfl (.deferred none)).cell
    have O7 := HO4.out.put0 hK6 rfl (.deferred none)
    have L7 := below_put0 HL4.out (by omega) (D := D) (.deferred none)
    generalize World.putObj _ D _ = W7 at c2 c3 O7 L7 ⊢
    clear hK6 x0 x1 x2 x3 y1 y2
    refine ⟨.tuple #[.agg #[.int .i64 q, .int .i64 b, .slice av os.length cv], .int .i64 0], by simp [results, Try.results20, go_sem, c2, c3], av, cv, vs, ?_, ?_, L7⟩
    · rw [HE1.out, HE2.out]; simp
    · rw [HE2.out]; simp only [List.length_map, List.length_reverse]; exact O7
  case stop =>
    rintro D c pre W hD ⟨q', hq', hSp⟩ ⟨rfl, hex, hB, hb2, hb3⟩ hK
    have e1 : IE = 121 := by
      rw [HEI.out, if_neg]
      intro hall
      obtain ⟨x, _, hx⟩ := hex
      rw [List.all_eq_true] at hall
      exact hx (beq_iff_eq.1 (hall _ (List.getElem_mem x.2)))
    have e2 : IR = noCi := by rw [HRI.out, if_neg (by rw [e1]; decide)]
    have HE1 := hid e1
    have HE2 := hid e2
    clear HEI HRI e1 e2 HC hrows HO0 HOK
    gi_wp2
    refine ⟨by simp, .inl ⟨_, _, rfl, run_takeDeferred hK, ?_⟩⟩
    have c2 := (bk_put0 hb2 hK rfl (.deferred none)).cell
    have c3 := (bk_put0 hb3 hK rfl (.deferred none)).cell
    have L7 := below_put0 hB (by omega) (D := D) (.deferred none)
    generalize World.putObj _ D _ = W7 at c2 c3 L7 ⊢
    exact ⟨.tuple #[civ noCi none 0, .int .i64 121], by simp [results, Try.results20, go_sem, c2, c3], none, 0, [], by rw [HE1.out, HE2.out]; rfl, by rw [HE2.out]; exact OO.nil _ _, L7⟩
end Go.Proofs.Ytfaoegiignalkaa
