/-
  CircuitKeeps: an answer of Then is written over and grows.
-/
import Derived.Test.YtfaoegiignalkaaJ2
import Derived.Test.YtfaoegiignalkaaE4
import Derived.Deep.RegionHeld3
import Derived.Test.YtfaoegiignalkaaL2
import Derived.Test.YtfaoegiignalkaaJ5
namespace Go.Proofs.Ytfaoegiignalkaa
open Go.RowKit Go.Shelf

/-- A row of numbers that is owned, whatever it holds. -/
def OWk (W : World) (B : Nat) (v : Value) (n : Nat) : Prop := ∃ xs, W.ownsRow B 3 1 v n xs
theorem OWk.set {W : World} {B n : Nat} {v : Value} (h : OWk W B v n) (b k : Nat) (u : Value) : OWk (W.setCell ⟨b, k, none⟩ u) B v n := by
  obtain ⟨xs, h1, h2⟩ := h
  rcases h2 with h2 | ⟨g, cap, cur, e, hb, hg, hn, hm, hs, ht⟩
  · exact ⟨xs, h1, .inl h2⟩
  · by_cases hbg : b = g
    · subst hbg
      refine ⟨(cur.setIfInBounds k u).toList.take (n * 1), ?_, .inr ⟨b, cap, cur.setIfInBounds k u, e, hb, BK.set hg k u, hn, hm, by rw [Array.size_setIfInBounds]; exact hs, rfl⟩⟩
      rw [List.length_take, Array.length_toList, Array.size_setIfInBounds, hs]
      omega
    · exact ⟨xs, h1, .inr ⟨g, cap, cur, e, hb, BK.far hg hbg k u, hn, hm, hs, ht⟩⟩
theorem OWk.block {W W' : World} {B n : Nat} {v : Value} (h : OWk W B v n) (hb : ∀ g, v.ownBlock = some g → W'.heap[g]? = W.heap[g]?) : OWk W' B v n := by
  obtain ⟨xs, h1, h2⟩ := h
  rcases h2 with h2 | ⟨g, cap, cur, e, hB, hg, hn, hm, hs, ht⟩
  · exact ⟨xs, h1, .inl h2⟩
  · exact ⟨xs, h1, .inr ⟨g, cap, cur, e, hB, (hb g (by rw [e]; rfl)).trans hg, hn, hm, hs, ht⟩⟩
theorem OWk.at {W : World} {B n k : Nat} {v : Value} (h : OWk W B v n) (hk : k < n) : ∃ b c x, v = .slice (some ⟨b, 0, none⟩) n c ∧ n ≤ c ∧ W.cell? ⟨b, k, none⟩ = some x ∧ W.frozen? ⟨b, k, none⟩ = false ∧ B ≤ b ∧ b < W.heap.size ∧ ∃ cs, BK W b cs 3 := by
  obtain ⟨xs, h⟩ := h
  obtain ⟨g, cap, e, hc, hf, hcell, hB, hl⟩ := own_at h (by omega)
  have hlen := h.1
  subst e
  obtain ⟨cs, hcs⟩ := own_ty h (g := g) rfl
  exact ⟨g, cap, _, rfl, hc, hcell k (by omega), hf k, hB, hl, cs, hcs⟩
/-- A block of that kind with so many cells. -/
def WB (W : World) (T : TypeId) (g m : Nat) : Prop := ∃ cs, BK W g cs T ∧ m ≤ cs.size
section
variable {W W' : World} {T g m : Nat}
theorem WB.lt (h : WB W T g m) : g < W.heap.size := by obtain ⟨cs, h, _⟩ := h; exact h.lt
theorem WB.set (h : WB W T g m) (b k : Nat) (u : Value) : WB (W.setCell ⟨b, k, none⟩ u) T g m := by
  obtain ⟨cs, h, hm⟩ := h
  by_cases e : b = g
  · subst e
    exact ⟨_, h.set k u, by rw [Array.size_setIfInBounds]; exact hm⟩
  · exact ⟨cs, h.far e k u, hm⟩
theorem WB.cell (h : WB W T g m) {k : Nat} (hk : k < m) : ∃ x, W.cell? ⟨g, k, none⟩ = some x := by
  obtain ⟨cs, h, hm⟩ := h
  exact ⟨cs[k]'(by omega), by rw [h.cell k, Array.getElem?_eq_getElem (by omega)]⟩
theorem WB.free (h : WB W T g m) (k : Nat) : W.frozen? ⟨g, k, none⟩ = false := by obtain ⟨cs, h, _⟩ := h; exact h.free k
theorem WB.block (h : WB W T g m) (hb : W'.heap[g]? = W.heap[g]?) : WB W' T g m := by obtain ⟨cs, h, hm⟩ := h; exact ⟨cs, hb.trans h, hm⟩
theorem WB.ne {b : Nat} {cs : Array Value} {T' : Nat} (h : WB W T g m) (hb : BK W b cs T') (hT : T ≠ T') : b ≠ g := fun e => by
  obtain ⟨cs', h, _⟩ := h
  subst e
  have h1 : W.heap[b]? = _ := h
  have h2 : W.heap[b]? = _ := hb
  rw [h1] at h2
  cases h2
  exact hT rfl
end
/-- Nothing has turned that lay outside of [lo, hi). -/
structure Fr (V W : World) (lo hi : Nat) : Prop where
  os : W.os = V.os
  tape : W.tape = V.tape
  output : W.output = V.output
  size : V.heap.size ≤ W.heap.size
  block : ∀ k, k < V.heap.size → (k < lo ∨ hi ≤ k) → W.heap[k]? = V.heap[k]?
section
variable {V W W' : World} {lo hi : Nat}
theorem Fr.refl (W : World) (lo hi : Nat) : Fr W W lo hi := ⟨rfl, rfl, rfl, Nat.le_refl _, fun _ _ _ => rfl⟩
theorem Fr.set (h : Fr V W lo hi) (b k : Nat) (u : Value) (hb : (lo ≤ b ∧ b < hi) ∨ V.heap.size ≤ b) : Fr V (W.setCell ⟨b, k, none⟩ u) lo hi :=
  ⟨h.os, h.tape, h.output, by simpa [World.setCell] using h.size, fun j hj hw => (Below.heap_setCell W ⟨b, k, none⟩ u j (fun e => by
    have e : j = b := e
    rcases hb with hb | hb <;> rcases hw with hw | hw <;> omega)).trans (h.block j hj hw)⟩
theorem Fr.blw (h : Fr V W lo hi) (hb : Below W.heap.size W W') : Fr V W' lo hi :=
  ⟨hb.os.trans h.os, hb.tape.trans h.tape, hb.output.trans h.output, Nat.le_trans h.size hb.size, fun j hj hw => (hb.block j (Nat.lt_of_lt_of_le hj h.size)).trans (h.block j hj hw)⟩
theorem Fr.grown {row : Option Nat} (h : Fr V W lo hi) (hg : W.grownBy W' row) (hr : ∀ b, row = some b → (lo ≤ b ∧ b < hi) ∨ V.heap.size ≤ b) : Fr V W' lo hi :=
  ⟨hg.os.trans h.os, hg.tape.trans h.tape, hg.output.trans h.output, Nat.le_trans h.size hg.size, fun j hj hw => (hg.block j (Nat.lt_of_lt_of_le hj h.size) (fun e => by
    rcases hr j e.symm with hb | hb <;> rcases hw with hw | hw <;> omega)).trans (h.block j hj hw)⟩
theorem Fr.bk {b : Nat} {cs : Array Value} {T : TypeId} (h : Fr V W lo hi) (hb : BK V b cs T) (hw : b < lo ∨ hi ≤ b) : BK W b cs T := (h.block b hb.lt hw).trans hb
end
/-- Headers of rows of numbers, in a block of another kind, all of them owned: H i is the header of row i. -/
structure SPw (V W : World) (lo hi T st off : Nat) (a : Option Addr) (n : Nat) (H : Nat → Option Addr × Nat × Nat) : Prop where
  fr : Fr V W lo hi
  outer : 0 < n → ∃ g, a = some ⟨g, 0, none⟩ ∧ lo ≤ g ∧ g < hi ∧ WB W T g (n * st)
  row : ∀ g i, a = some ⟨g, 0, none⟩ → i < n → W.cell? ⟨g, i * st + off, none⟩ = some (.slice (H i).1 (H i).2.1 (H i).2.2) ∧ OWk W lo (.slice (H i).1 (H i).2.1 (H i).2.2) (H i).2.1 ∧ ∀ h, (Value.slice (H i).1 (H i).2.1 (H i).2.2).ownBlock = some h → h < hi ∨ V.heap.size ≤ h
section
variable {V W W' : World} {lo hi T st off g n : Nat} {H : Nat → Option Addr × Nat × Nat}
theorem SPw.put (h : SPw V W lo hi T st off (some ⟨g, 0, none⟩) n H) (hT : T ≠ 3) {i k : Nat} (hi' : i < n) (hk : k < (H i).2.1) :
    ∃ b x, (H i).1 = some ⟨b, 0, none⟩ ∧ (H i).2.1 ≤ (H i).2.2 ∧ W.cell? ⟨b, k, none⟩ = some x ∧ W.frozen? ⟨b, k, none⟩ = false ∧ b < W.heap.size ∧ ∀ u, SPw V (W.setCell ⟨b, k, none⟩ u) lo hi T st off (some ⟨g, 0, none⟩) n H := by
  obtain ⟨g', e, h1, h2, hw⟩ := h.outer (by omega)
  cases e
  obtain ⟨r1, r2, r3⟩ := h.row g i rfl hi'
  obtain ⟨b, c, x, e, hc, hx, hf, hB, hl, cs, hcs⟩ := r2.at hk
  have hbg := hw.ne hcs hT
  injection e with e1 e2 e3
  refine ⟨b, x, e1, by omega, hx, hf, hl, fun u => ⟨h.fr.set b k u ?_, fun _ => ⟨g, rfl, h1, h2, hw.set b k u⟩, fun g2 j e4 hj => ?_⟩⟩
  · rcases r3 b (by rw [e1]; rfl) with h3 | h3
    · exact .inl ⟨hB, h3⟩
    · exact .inr h3
  · cases e4
    obtain ⟨s1, s2, s3⟩ := h.row g j rfl hj
    refine ⟨?_, s2.set b k u, s3⟩
    rw [← s1]
    exact World.cell?_of_block (a := ⟨g, _, none⟩) (Below.heap_setCell W ⟨b, k, none⟩ u g (fun e => hbg e.symm))
/-- A write into the outer block that misses the headers. -/
theorem SPw.name (h : SPw V W lo hi T st off (some ⟨g, 0, none⟩) n H) (h0 : 0 < n) {k : Nat} (hk : k < n * st) (hne : ∀ j, j < n → j * st + off ≠ k) :
    (∃ x, W.cell? ⟨g, k, none⟩ = some x) ∧ W.frozen? ⟨g, k, none⟩ = false ∧ g < W.heap.size ∧ ∀ u, SPw V (W.setCell ⟨g, k, none⟩ u) lo hi T st off (some ⟨g, 0, none⟩) n H := by
  obtain ⟨g', e, h1, h2, hw⟩ := h.outer h0
  cases e
  refine ⟨hw.cell hk, hw.free k, hw.lt, fun u => ⟨h.fr.set g k u (.inl ⟨h1, h2⟩), fun _ => ⟨g, rfl, h1, h2, hw.set g k u⟩, fun g2 j e4 hj => ?_⟩⟩
  cases e4
  obtain ⟨s1, s2, s3⟩ := h.row g j rfl hj
  refine ⟨?_, s2.set g k u, s3⟩
  rw [← s1]
  have := hne j hj
  simp [go_sem]; try exact fun e => absurd e this
end
/-- append of one number at a row of numbers: every row that was owned is owned. -/
theorem app_weak {i3 : TypeInfo} (hi : Try.prog.info? 3 = some i3) (hz : i3.zero = some (.int .i64 0)) (hs : i3.size = 1) (hb : i3.bytes = 8) (ty : TypeId) (W : World) (lo : Nat) (v : Value) (n : Nat) (xs : List Value) (hown : W.ownsRow lo 3 1 v n xs) (ad : Addr) (c : Nat) (x : Value) (hx : W.cell? ad = some x) (h1 : x.oneCell' = true) (hn : n ≤ 8192) (hlo : lo ≤ W.heap.size) :
    ∃ v' W', (Builtin.append_ #[43, 43] ty #[v, .slice (some ad) 1 c]).run Try.prog W = .ok v' W' ∧ OWk W' lo v' (n + 1) ∧ W.grownBy W' v.ownBlock ∧ (v'.ownBlock = v.ownBlock ∨ v'.ownBlock = some W.heap.size) ∧ ∀ u k, OWk W lo u k → OWk W' lo u k := by
  have hnews : ∀ j u, ([x] : List Value)[j]? = some u → W.cell? (ad.add j) = some u := fun j u hj => by
    match j, hj with
    | 0, hj =>
      simp at hj
      subst hj
      cases ad
      simpa [Addr.add] using hx
  have h1' : ∀ u ∈ [x], u.oneCell' = true := one_one x h1
  obtain ⟨v', W', hr, h2, h3, h4, h5⟩ := run_append_own_at (P := Try.prog) W lo 43 ty 3 i3 (.int .i64 0) 1 8 Try.underlying43 hi hz hs hb rfl (by decide) v n xs hown ad 1 c [x] rfl hnews h1' (by unfold maxLen; omega) (by omega) hlo
  refine ⟨v', W', hr, ⟨_, h2⟩, h3, h5, fun u k hu => ?_⟩
  obtain ⟨ys, y1, y2⟩ := hu
  rcases y2 with y2 | ⟨gu, capu, cur, e, hB, hg, hk, hm, hsz, ht⟩
  · exact ⟨ys, y1, .inl y2⟩
  by_cases hbk : v.ownBlock = some gu
  case neg => exact ⟨ys, y1, .inr ⟨gu, capu, cur, e, hB, (h3.block gu (Array.getElem?_eq_some_iff.1 hg).1 (fun e => hbk e.symm)).trans hg, hk, hm, hsz, ht⟩⟩
  rcases hown.2 with ⟨rfl, _⟩ | ⟨g, cap, cur2, rfl, hbg, hg2, hnc, hcm, hcs, htake⟩
  · cases hbk
  obtain rfl : g = gu := Option.some.inj hbk
  rw [hg] at hg2
  cases hg2
  by_cases hroom : n + 1 ≤ cap
  · have hr2 := run_append_room (P := Try.prog) W 43 ty 3 i3 Try.underlying43 hi g n cap cur hg ad 1 c [x] (by rw [hs]; rfl) hnews h1' hroom (by rw [hs, hcs]; simp; omega)
    rw [hr] at hr2
    injection hr2 with e1 e2
    subst e1
    rcases h2.2 with ⟨e3, _⟩ | ⟨g3, cap3, cur3, e3, _, hg3, _, _, hs3, _⟩
    · cases e3
    · cases e3
      refine ⟨cur3.toList.take (k * 1), ?_, .inr ⟨g, capu, cur3, e, hB, hg3, hk, hm, by omega, rfl⟩⟩
      rw [List.length_take, Array.length_toList]
      omega
  · have hr2 := run_append_grow (P := Try.prog) W 43 ty 3 i3 (.int .i64 0) Try.underlying43 hi hz ⟨g, 0, none⟩ n cap xs (by rw [hs]; exact hown.1) (hown.cells (g := g) rfl) ad 1 c [x] (by rw [hs]; rfl) hnews (by omega) (by omega) (growslice_fits (by omega) (by rw [hb]; omega))
    rw [hr] at hr2
    injection hr2 with e1 e2
    subst e2
    refine ⟨ys, y1, .inr ⟨g, capu, cur, e, hB, ?_, hk, hm, hsz, ht⟩⟩
    exact (heap_alloc_old W.drew _ g (Array.getElem?_eq_some_iff.1 hg).1).trans hg
/-- A header that is written anew. -/
def hset (H : Nat → Option Addr × Nat × Nat) (i : Nat) (x : Option Addr × Nat × Nat) : Nat → Option Addr × Nat × Nat := fun j => if j = i then x else H j
section
variable {V W W' : World} {lo hi T st off g n : Nat} {H : Nat → Option Addr × Nat × Nat}
theorem SPw.app (h : SPw V W lo hi T st off (some ⟨g, 0, none⟩) n H) (hT : T ≠ 3) (hst : off < st) {i : Nat} (hi' : i < n) {w1 : World} (hB : Below W.heap.size W w1) {x : Option Addr × Nat × Nat} (how : OWk W' lo (.slice x.1 x.2.1 x.2.2) x.2.1) (hg : w1.grownBy W' (Value.slice (H i).1 (H i).2.1 (H i).2.2).ownBlock)
    (hloc : (Value.slice x.1 x.2.1 x.2.2).ownBlock = (Value.slice (H i).1 (H i).2.1 (H i).2.2).ownBlock ∨ (Value.slice x.1 x.2.1 x.2.2).ownBlock = some w1.heap.size) (hall : ∀ u k, OWk w1 lo u k → OWk W' lo u k) :
    (∀ j, j < n → W'.cell? ⟨g, j * st + off, none⟩ = some (.slice (H j).1 (H j).2.1 (H j).2.2)) ∧ W'.frozen? ⟨g, i * st + off, none⟩ = false ∧ g < W'.heap.size ∧ Fr V W' lo hi ∧
    SPw V (W'.setCell ⟨g, i * st + off, none⟩ (.slice x.1 x.2.1 x.2.2)) lo hi T st off (some ⟨g, 0, none⟩) n (hset H i x) := by
  obtain ⟨g', e, h1, h2, hw⟩ := h.outer (by omega)
  cases e
  have hgl := hw.lt
  have hsz := hB.size
  have hVW := h.fr.size
  obtain ⟨q1, q2, q3⟩ := h.row g i rfl hi'
  have hw1 : WB w1 T g (n * st) := hw.block (hB.block g hgl)
  have q2' : OWk w1 lo (.slice (H i).1 (H i).2.1 (H i).2.2) (H i).2.1 := q2.block (fun b e => by
    obtain ⟨xs, hx⟩ := q2
    exact hB.block b (hx.lt b e).2)
  have hne : ∀ b, (Value.slice (H i).1 (H i).2.1 (H i).2.2).ownBlock = some b → b ≠ g := fun b e => by
    obtain ⟨xs, hx⟩ := q2'
    obtain ⟨cs, hcs⟩ := own_ty hx e
    exact hw1.ne (b := b) hcs hT
  have hgW : W'.heap[g]? = w1.heap[g]? := hg.block g (by omega) (fun e => hne g e.symm rfl)
  have hwW : WB W' T g (n * st) := hw1.block hgW
  have hcell : ∀ j, j < n → W'.cell? ⟨g, j * st + off, none⟩ = some (.slice (H j).1 (H j).2.1 (H j).2.2) := fun j hj => by
    rw [World.cell?_of_block (a := ⟨g, _, none⟩) (hgW.trans (hB.block g hgl))]
    exact (h.row g j rfl hj).1
  have hFr : Fr V W' lo hi := (h.fr.blw hB).grown hg (fun b e => by
    obtain ⟨xs, hx⟩ := q2
    have hb1 := (hx.lt b e).1
    rcases q3 b e with h3 | h3
    · exact .inl ⟨hb1, h3⟩
    · exact .inr h3)
  refine ⟨hcell, hwW.free _, hwW.lt, hFr, hFr.set g _ _ (.inl ⟨h1, h2⟩), fun _ => ⟨g, rfl, h1, h2, hwW.set g _ _⟩, fun g2 j e4 hj => ?_⟩
  cases e4
  have hmul : i * st + off < n * st := by
    have : (i + 1) * st ≤ n * st := Nat.mul_le_mul_right _ hi'
    rw [Nat.add_mul, Nat.one_mul] at this
    omega
  by_cases hji : j = i
  · subst hji
    unfold hset
    rw [if_pos rfl]
    refine ⟨?_, how.set g _ _, fun b e => ?_⟩
    · obtain ⟨y, hy⟩ := hwW.cell hmul
      simp [go_sem, hy]
    · rcases hloc with e2 | e2
      · rw [e2] at e
        exact q3 b e
      · rw [e2] at e
        cases e
        omega
  · unfold hset
    rw [if_neg hji]
    obtain ⟨s1, s2, s3⟩ := h.row g j rfl hj
    have s2' : OWk w1 lo (.slice (H j).1 (H j).2.1 (H j).2.2) (H j).2.1 := s2.block (fun b e => by
      obtain ⟨xs, hx⟩ := s2
      exact hB.block b (hx.lt b e).2)
    refine ⟨?_, (hall _ _ s2').set g _ _, s3⟩
    rw [← hcell j hj]
    have hd : j * st + off ≠ i * st + off := fun e => hji (Nat.eq_of_mul_eq_mul_right (by omega) (Nat.add_right_cancel e))
    simp [go_sem]; try exact fun e => absurd e hd
end
end Go.Proofs.Ytfaoegiignalkaa
namespace Go.Proofs.Ytfaoegiignalkaa
open Go
section
variable {P : Program} {ops : Array Oper} {Q : Exit → Act → World → Prop} {md : Region.Mode} {S : World → Prop} {z : Nat}
/-- Whatever comes up next; S holds behind it, if it isn't number z. -/
def zAny (P : Program) (md : Region.Mode) (ops : Array Oper) (Q : Exit → Act → World → Prop) (z : Nat) (S : World → Prop) : Nat → Array Bool → Act → World → Prop
  | 0, l, a, w => Region.ready md ops l = [] ∧ Q .normal a w
  | f + 1, l, a, w => (Region.ready md ops l = [] → Q .normal a w) ∧ ∀ i ∈ Region.ready md ops l, wpOp P ops Q i (fun a' w' => (i ≠ z → S w') ∧ zAny P md ops Q z S f (l.setIfInBounds i true) a' w') a w
theorem any_of_z : ∀ (f : Nat) (l : Array Bool) (a : Act) (w : World), zAny P md ops Q z S f l a w → wpAny P md ops Q f l a w
  | 0, _, _, _, h => h
  | f + 1, _, _, _, h => ⟨h.1, fun i hi => wpOp_mono (fun _ _ h' => any_of_z f _ _ _ h'.2) (h.2 i hi)⟩
/-- What number z waits for may be taken first where it yields in every world that meets S. -/
theorem zAny_first {i : Nat} {oi : Oper} {v : Value} (hi : ops[i]? = some oi) (hsel : ∀ (j : Nat) (o : Oper) cs b, ops[j]? = some o → o.op ≠ .select cs b)
    (hQ : ∀ c a w, Q (.panic c) (a.put oi.dst v) w → Q (.panic c) a w)
    (hz : ∀ oz, ops[z]? = some oz → ∃ e ∈ oz.after, Region.binds md e = true ∧ e.on = i) (f : Nat) :
    ∀ (l : Array Bool) (a : Act) (w : World),
      (∀ j oj, ops[j]? = some oj → j ≠ i → l.getD j true = false → (∀ e ∈ oj.after, Region.binds md e = true → e.on ≠ i) → oi.apart ops oj = true) →
      i ∈ Region.ready md ops l → YieldsIf P ops S oi v a → S w →
      zAny P md ops Q z S f (l.setIfInBounds i true) (a.put oi.dst v) w → zAny P md ops Q z S (f + 1) l a w := by
  induction f with
  | zero =>
    intro l a w _ hr hy hS H
    refine ⟨fun h => (by rw [h] at hr; cases hr), fun j hj => ?_⟩
    by_cases hji : j = i
    · cases hji
      exact hy.wpOp hi hS ⟨fun _ => hS, H⟩
    · exact absurd (ready_mono hj hji) (by rw [H.1]; exact List.not_mem_nil)
  | succ f ih =>
    intro l a w hfree hr hy hS H
    refine ⟨fun h => (by rw [h] at hr; cases hr), fun j hj => ?_⟩
    by_cases hji : j = i
    · cases hji
      exact hy.wpOp hi hS ⟨fun _ => hS, H⟩
    obtain ⟨hjun, oj, hoj, hall⟩ := mem_ready.1 hj
    have hnot : ∀ e ∈ oj.after, Region.binds md e = true → e.on ≠ i := fun e he hb heq => by
      have h1 := hall e he hb
      have h0 := (mem_ready.1 hr).1
      rw [heq] at h1
      rcases Nat.lt_or_ge i l.size with h' | h'
      · simp [h'] at h0 h1
        rw [h0] at h1
        cases h1
      · simp [Array.getElem?_eq_none h'] at h1
    have hjz : j ≠ z := fun e => by
      obtain ⟨e', he', hb', ho'⟩ := hz oj (by rw [← e]; exact hoj)
      exact hnot e' he' hb' ho'
    have h2 := wpOp_putIf hoj (hfree j oj hoj hji hjun hnot) (fun cs b => hsel i oi cs b hi) (fun cs b => hsel j oj cs b hoj) hQ hy (H.2 j (ready_mono hj hji))
    refine wpOp_mono (fun a' w' h3 => ⟨h3.2.1, ih (l.setIfInBounds j true) a' w' (fun k ok hk hki hun hno => ?_) (ready_mono hr (Ne.symm hji)) h3.1 (h3.2.1 hjz) ?_⟩) h2
    · refine hfree k ok hk hki ?_ hno
      by_cases hjk : j = k
      · cases hjk
        exact hjun
      · rwa [getD_set_ne true hjk] at hun
    · rw [Array.setIfInBounds_comm _ _ hji]
      exact h3.2.2
/-- Number z waits for number i. -/
def waits (md : Region.Mode) (ops : Array Oper) (z i : Nat) : Bool := match ops[z]? with | some o => o.after.any (fun e => Region.binds md e && e.on == i) | none => true
theorem waits_spec {i : Nat} (h : waits md ops z i = true) : ∀ oz, ops[z]? = some oz → ∃ e ∈ oz.after, Region.binds md e = true ∧ e.on = i := fun oz ho => by
  simp only [waits, ho, Array.any_eq_true'] at h
  obtain ⟨e, he, h⟩ := h
  simp only [Bool.and_eq_true, beq_iff_eq] at h
  exact ⟨e, he, h⟩
theorem zAny_take {i : Nat} {oi : Oper} {v : Value} {f : Nat} {l : Array Bool} {a : Act} {w : World} (hi : ops[i]? = some oi)
    (hs : Region.noSelect ops = true) (hf : Region.free md ops l i = true) (hr : (Region.ready md ops l).contains i = true) (hwt : waits md ops z i = true)
    (hQ : ∀ c a w, Q (.panic c) (a.put oi.dst v) w → Q (.panic c) a w) (hy : YieldsIf P ops S oi v a) (hS : S w)
    (h : zAny P md ops Q z S f (l.setIfInBounds i true) (a.put oi.dst v) w) : zAny P md ops Q z S (f + 1) l a w :=
  zAny_first hi (Region.noSelect_spec hs) hQ (waits_spec hwt) f l a w (Region.free_spec hi hf) (by simpa using hr) hy hS h
def zReady (P : Program) (md : Region.Mode) (ops : Array Oper) (Q : Exit → Act → World → Prop) (z : Nat) (S : World → Prop) (f : Nat) (l : Array Bool) (a : Act) (w : World) (rs : List Nat) : Prop :=
  ∀ i ∈ rs, wpOp P ops Q i (fun a' w' => (i ≠ z → S w') ∧ zAny P md ops Q z S f (l.setIfInBounds i true) a' w') a w
theorem zReady.nil {f : Nat} {l : Array Bool} {a : Act} {w : World} : zReady P md ops Q z S f l a w [] := fun _ h => by cases h
theorem zReady.cons {f : Nat} {l : Array Bool} {a : Act} {w : World} {i : Nat} {o : Oper} {rs : List Nat} (ho : ops[i]? = some o)
    (h : ∀ K' : Act → World → Prop, Shut (∀ a w, (i ≠ z → S w) → ((i ≠ z → S w) → zAny P md ops Q z S f (l.setIfInBounds i true) a w) → K' a w) → if Region.wanted o (yielded ops a.tmps) = true then Oper.wp P o a w K' Q else K' (a.put o.dst undef) w)
    (hs : zReady P md ops Q z S f l a w rs) : zReady P md ops Q z S f l a w (i :: rs) := fun j hj => by
  rcases List.mem_cons.1 hj with rfl | hj
  · exact wpOp_step ho (fun K' hK => h K' (fun a w hS hW => hK a w ⟨hS, hW hS⟩))
  · exact hs j hj
theorem zAny_ready {rs : List Nat} {f : Nat} {l : Array Bool} {a : Act} {w : World} (hr : Region.ready md ops l = rs) (hne : rs ≠ []) (h : zReady P md ops Q z S f l a w rs) : zAny P md ops Q z S (f + 1) l a w :=
  ⟨fun h0 => absurd (hr ▸ h0) hne, hr ▸ h⟩
theorem zAny_done {l : Array Bool} {a : Act} {w : World} (hr : Region.ready md ops l = []) (h : Q .normal a w) : ∀ f, zAny P md ops Q z S f l a w
  | 0 => ⟨hr, h⟩
  | _ + 1 => ⟨fun _ => h, by rw [hr]; simp⟩
theorem region_z {id : Nat} {a : Act} {w : World} (z : Nat) (hm : P.follows .mixedOrders = true) (hS : S w.drew)
    (h : S w.drew → zAny P .any ops Q z S ops.size (Array.replicate ops.size false) a w.drew) : (Code.region id ops true).wp P Q a w :=
  wp_region_any hm (any_of_z _ _ _ _ (h hS))
end
end Go.Proofs.Ytfaoegiignalkaa
namespace Go.Proofs.Ytfaoegiignalkaa
open Go.RowKit Go.Shelf
attribute [local go_sem] Oper.semAt_some

set_option maxHeartbeats 8000000 in
set_option maxRecDepth 100000 in
theorem loopI {t0 t1 t2 t3 t4 t5 t7 t8 t9 t10 t11 t12 t13 t14 t15 t16 t17 t18 t19 t20 t21 t22 t23 t24 t25 t26 t27 t28 t29 t30 t31 t32 t33 t34 t35 t36 t37 t38 t39 t40 t41 t42 t43 t44 t45 t46 t47 t48 t49 t50 t51 t52 t53 t54 t55 t56 t57 t58 t59 t60 t61 t62 t63 t64 t65 t66 t67 t68 t69 t70 t71 t72 t73 t74 t75 t76 t77 t78 t79 t80 t81 t82 t83 t84 t85 t86 t87 t88 t89 t90 t91 t92 t93 t94 t95 t96 t97 t98 t99 t100 t101 t102 t103 t104 t105 t106 t107 t108 t109 t110 t111 t112 t113 t114 t115 t116 t117 t118 t119 t120 t121 t122 t123 t124 t125 t126 t127 t128 t129 t130 t131 t132 t133 t134 t135 t136 t137 t138 t139 t140 t141 t142 t143 t144 t145 t146 t147 t148 t149 t150 t151 t152 t153 t154 t155 t156 t157 t158 t159 t160 t161 t162 t163 t164 t165 t166 t167 t168 t169 t170 t171 t172 t173 t174 t175 t176 t177 t178 t179 t180 t181 t182 t183 t184 t185 t186 t187 t188 t189 t190 t191 t192 t193 t194 t195 t196 t197 t198 t199 t200 t201 t202 t203 t204 t205 t206 t207 t208 t209 t210 t211 t212 t213 t214 t215 t216 t217 t218 t219 t220 t221 t222 t223 t224 t225 t226 t227 t228 t229 t230 t231 t232 t233 t234 t235 t236 t237 t238 t239 t240 t241 t242 t243 t244 t245 t246 t247 t248 t249 t250 t251 t252 t253 t254 t255 t256 t257 t258 t259 t260 t261 t262 t263 t264 t265 t266 t267 t268 t269 t270 t271 t272 t273 t274 t275 t276 t277 t278 t279 t280 t281 t282 t283 t284 t285 t286 t287 t288 t289 t290 t291 t292 t293 t294 t295 t296 t297 t298 t299 t300 t301 t302 t303 t304 t305 t306 t307 t308 t309 : Value} {Q : Exit → Act → World → Prop} {V W : World} {lo hi bI n cp : Nat} {q b : Int} {a : Option Addr} {H : Nat → Option Addr × Nat × Nat} (hbx : BK V bI #[.int .i64 q, .int .i64 b, .slice a n cp] 24) (hbo : bI < lo ∨ hi ≤ bI) (hcp : n ≤ cp) (hn : n ≤ 8192) (hH : ∀ i, i < n → (H i).2.1 ≤ 8192) (hW : SPw V W lo hi 57 7 2 a n H)
    (hQ : ∀ (s21 s22 s142 s143 s144 s145 s146 s147 s148 s149 s150 s151 s152 s153 s154 s155 s156 s157 s158 s159 s160 s161 s162 s163 s164 s165 s166 s167 s168 s169 s170 s171 s172 : Value) (W : World), SPw V W lo hi 57 7 2 a n H → Q .normal ⟨#[t0, t1, t2, t3, t4, t5, .pointer (some ⟨bI, 0, none⟩), t7, t8, t9, t10, t11, t12, t13, t14, t15, t16, t17, t18, t19, t20, s21, s22, t23, t24, t25, t26, t27, t28, t29, t30, t31, t32, t33, t34, t35, t36, t37, t38, t39, t40, t41, t42, t43, t44, t45, t46, t47, t48, t49, t50, t51, t52, t53, t54, t55, t56, t57, t58, t59, t60, t61, t62, t63, t64, t65, t66, t67, t68, t69, t70, t71, t72, t73, t74, t75, t76, t77, t78, t79, t80, t81, t82, t83, t84, t85, t86, t87, t88, t89, t90, t91, t92, t93, t94, t95, t96, t97, t98, t99, t100, t101, t102, t103, t104, t105, t106, t107, t108, t109, t110, t111, t112, t113, t114, t115, t116, t117, t118, t119, t120, t121, t122, t123, t124, t125, t126, t127, t128, t129, t130, t131, t132, t133, t134, t135, t136, t137, t138, t139, t140, t141, s142, s143, s144, s145, s146, s147, s148, s149, s150, s151, s152, s153, s154, s155, s156, s157, s158, s159, s160, s161, s162, s163, s164, s165, s166, s167, s168, s169, s170, s171, s172, t173, t174, t175, t176, t177, t178, t179, t180, t181, t182, t183, t184, t185, t186, t187, t188, t189, t190, t191, t192, t193, t194, t195, t196, t197, t198, t199, t200, t201, t202, t203, t204, t205, t206, t207, t208, t209, t210, t211, t212, t213, t214, t215, t216, t217, t218, t219, t220, t221, t222, t223, t224, t225, t226, t227, t228, t229, t230, t231, t232, t233, t234, t235, t236, t237, t238, t239, t240, t241, t242, t243, t244, t245, t246, t247, t248, t249, t250, t251, t252, t253, t254, t255, t256, t257, t258, t259, t260, t261, t262, t263, t264, t265, t266, t267, t268, t269, t270, t271, t272, t273, t274, t275, t276, t277, t278, t279, t280, t281, t282, t283, t284, t285, t286, t287, t288, t289, t290, t291, t292, t293, t294, t295, t296, t297, t298, t299, t300, t301, t302, t303, t304, t305, t306, t307, t308, t309], []⟩ W) :
    (sl (sr (sr (sr (sr (sr (sr (sr (sr (sr (sr (sr (sr (sr (sr (Try.f8.body.getD .skip)))))))))))))))).wp Try.prog Q ⟨#[t0, t1, t2, t3, t4, t5, .pointer (some ⟨bI, 0, none⟩), t7, t8, t9, t10, t11, t12, t13, t14, t15, t16, t17, t18, t19, t20, t21, t22, t23, t24, t25, t26, t27, t28, t29, t30, t31, t32, t33, t34, t35, t36, t37, t38, t39, t40, t41, t42, t43, t44, t45, t46, t47, t48, t49, t50, t51, t52, t53, t54, t55, t56, t57, t58, t59, t60, t61, t62, t63, t64, t65, t66, t67, t68, t69, t70, t71, t72, t73, t74, t75, t76, t77, t78, t79, t80, t81, t82, t83, t84, t85, t86, t87, t88, t89, t90, t91, t92, t93, t94, t95, t96, t97, t98, t99, t100, t101, t102, t103, t104, t105, t106, t107, t108, t109, t110, t111, t112, t113, t114, t115, t116, t117, t118, t119, t120, t121, t122, t123, t124, t125, t126, t127, t128, t129, t130, t131, t132, t133, t134, t135, t136, t137, t138, t139, t140, t141, t142, t143, t144, t145, t146, t147, t148, t149, t150, t151, t152, t153, t154, t155, t156, t157, t158, t159, t160, t161, t162, t163, t164, t165, t166, t167, t168, t169, t170, t171, t172, t173, t174, t175, t176, t177, t178, t179, t180, t181, t182, t183, t184, t185, t186, t187, t188, t189, t190, t191, t192, t193, t194, t195, t196, t197, t198, t199, t200, t201, t202, t203, t204, t205, t206, t207, t208, t209, t210, t211, t212, t213, t214, t215, t216, t217, t218, t219, t220, t221, t222, t223, t224, t225, t226, t227, t228, t229, t230, t231, t232, t233, t234, t235, t236, t237, t238, t239, t240, t241, t242, t243, t244, t245, t246, t247, t248, t249, t250, t251, t252, t253, t254, t255, t256, t257, t258, t259, t260, t261, t262, t263, t264, t265, t266, t267, t268, t269, t270, t271, t272, t273, t274, t275, t276, t277, t278, t279, t280, t281, t282, t283, t284, t285, t286, t287, t288, t289, t290, t291, t292, t293, t294, t295, t296, t297, t298, t299, t300, t301, t302, t303, t304, t305, t306, t307, t308, t309], []⟩ W := by
  have HQ0 := hid hQ
  have HB := hid hbx
  have HW0 := hid hW
  clear hQ hW
  conv => arg 2; whnf
  go_wp2
  go_loopw [21] (fun v21 wr => ∃ i : Nat, i ≤ n ∧ v21 = .int .i64 (i : Nat) ∧ SPw V wr lo hi 57 7 2 a n H) (fun v21 _ => n - (intOf v21).toNat)
  case atStart => exact ⟨0, Nat.zero_le _, rfl, HW0.out⟩
  case round =>
    clear HW0
    obtain ⟨i, hi', rfl, hW⟩ := hrel
    have HW := hid hW
    have kV := hW.fr.bk HB.out hbo
    have x1 : ∀ j, wr.cell? ⟨bI, j, none⟩ = _ := kV.cell
    have l1 := kV.lt
    by_cases hlt : i < n
    case neg =>
      obtain rfl : i = n := by omega
      clear hW kV
      go_wp2
      exact HQ0.out _ _ _ _ _ _ _ _ _ _ _ _ _ _ _ _ _ _ _ _ _ _ _ _ _ _ _ _ _ _ _ _ _ _ HW.out
    obtain ⟨g, rfl, _, _, hwb⟩ := hW.outer (by omega)
    clear hW kV hwb
    go_wp2
    go_loopw [22] (fun v22 wr => ∃ k : Nat, k ≤ (H i).2.1 ∧ v22 = .int .i64 (k : Nat) ∧ SPw V wr lo hi 57 7 2 (some ⟨g, 0, none⟩) n H) (fun v22 _ => (H i).2.1 - (intOf v22).toNat)
    case atStart => exact ⟨0, Nat.zero_le _, rfl, HW.out⟩
    case round =>
      clear HW x1 l1
      obtain ⟨k, hk, rfl, hW⟩ := hrel
      have HW := hid hW
      have kV := hW.fr.bk HB.out hbo
      have x1 : ∀ j, wr.cell? ⟨bI, j, none⟩ = _ := kV.cell
      have l1 := kV.lt
      obtain ⟨g', e', _, _, hwb⟩ := hW.outer (by omega)
      cases e'
      have lg := hwb.lt
      have c2 := (hW.row g i rfl hlt).1
      have hlen := hH i hlt
      by_cases hlk : k < (H i).2.1
      case pos =>
        obtain ⟨b', x, e1, e2, hx, hf, hl, hset⟩ := hW.put (by decide) hlt hlk
        rw [e1] at c2
        have HS := hid (hset (.int .i64 (-5)))
        clear hW kV hwb hset e1
        generalize (H i).2.1 = m at *
        generalize (H i).2.2 = mc at *
        go_wp2
        go_roundw
        case rel => exact ⟨k + 1, by omega, by go_num, HS.out⟩
        case measure => simp [intOf]; omega
      obtain rfl : k = (H i).2.1 := by omega
      obtain ⟨⟨x, hx⟩, hf, hl, hset⟩ := hW.name (k := i * 7 + 1) (by omega) (by omega) (fun j _ => by omega)
      have HS := hid (hset (.string ⟨#[115, 112, 111, 105, 108, 116]⟩))
      clear hW kV hwb hset
      generalize (H i).1 = ma at *
      generalize (H i).2.1 = m at *
      generalize (H i).2.2 = mc at *
      go_wp2
      go_roundw
      case rel => exact ⟨i + 1, by omega, by go_num, HS.out⟩
      case measure => simp [intOf]; omega
end Go.Proofs.Ytfaoegiignalkaa
namespace Go.Proofs.Ytfaoegiignalkaa
open Go.RowKit Go.Shelf
attribute [local go_sem] Oper.semAt_some

theorem step_weak {w : World} {ops : Array Oper} {o : Oper} {a : Act} {K : Act → World → Prop} {Q : Exit → Act → World → Prop} {E : Prop} (hgd : o.guard = none) (s x : Operand)
    (ho : o.op = .call { callee := .builtin .append, args := #[s, x], argTypes := #[43, 43] }) {i3 : TypeInfo} (hi : Try.prog.info? 3 = some i3 ∧ i3.zero = some (.int .i64 0) ∧ i3.size = 1 ∧ i3.bytes = 8)
    (lo : Nat) (v : Value) (n : Nat) (xs : List Value) (hs : a.eval s = v) (hown : w.ownsRow lo 3 1 v n xs) (ad : Addr) (c : Nat) (y : Value) (hx : a.eval x = .slice (some ad) 1 c) (hy : w.cell? ad = some y) (h1 : y.oneCell' = true) (hn : n ≤ 8192) (hlo : lo ≤ w.heap.size)
    (h : ∀ v' w', OWk w' lo v' (n + 1) → w.grownBy w' v.ownBlock → (v'.ownBlock = v.ownBlock ∨ v'.ownBlock = some w.heap.size) → (∀ u k, OWk w lo u k → OWk w' lo u k) → K (a.put o.dst v') w') :
    if Region.wanted o (yielded ops a.tmps) = true then Oper.wp Try.prog o a w K Q else E := by
  have hw : Region.wanted o (yielded ops a.tmps) = true := by simp [Region.wanted, hgd]
  rw [if_pos hw]
  obtain ⟨v', w', hr, h2, h3, h4, h5⟩ := app_weak hi.1 hi.2.1 hi.2.2.1 hi.2.2.2 o.type w lo v n xs hown ad c y hy h1 hn hlo
  unfold Oper.wp execOp
  simp only [ho, resolve, invoke, builtin, Sem.run_bind, Sem.run_pure, Result.andThen_ok, List.map_toArray, List.map_cons, List.map_nil, hs, hx, hr]
  exact h v' w' h2 h3 h4 h5
theorem wpList_weak {w : World} {ops : Array Oper} {rest : List Oper} {o : Oper} {a : Act} {Q : Exit → Act → World → Prop} (hgd : o.guard = none) (s x : Operand)
    (ho : o.op = .call { callee := .builtin .append, args := #[s, x], argTypes := #[43, 43] }) {i3 : TypeInfo} (hi : Try.prog.info? 3 = some i3 ∧ i3.zero = some (.int .i64 0) ∧ i3.size = 1 ∧ i3.bytes = 8)
    (lo : Nat) (v : Value) (n : Nat) (xs : List Value) (hs : a.eval s = v) (hown : w.ownsRow lo 3 1 v n xs) (ad : Addr) (c : Nat) (y : Value) (hx : a.eval x = .slice (some ad) 1 c) (hy : w.cell? ad = some y) (h1 : y.oneCell' = true) (hn : n ≤ 8192) (hlo : lo ≤ w.heap.size)
    (h : ∀ v' w', OWk w' lo v' (n + 1) → w.grownBy w' v.ownBlock → (v'.ownBlock = v.ownBlock ∨ v'.ownBlock = some w.heap.size) → (∀ u k, OWk w lo u k → OWk w' lo u k) → wpList Try.prog ops Q rest (a.put o.dst v') w') :
    wpList Try.prog ops Q (o :: rest) a w := by
  refine wpList_plain hgd fun K hK => ?_
  obtain ⟨v', w', hr, h2, h3, h4, h5⟩ := app_weak hi.1 hi.2.1 hi.2.2.1 hi.2.2.2 o.type w lo v n xs hown ad c y hy h1 hn hlo
  unfold Oper.wp execOp
  simp only [ho, resolve, invoke, builtin, Sem.run_bind, Sem.run_pure, Result.andThen_ok, List.map_toArray, List.map_cons, List.map_nil, hs, hx, hr]
  exact hK _ _ (h v' w' h2 h3 h4 h5)
set_option maxHeartbeats 8000000 in
set_option maxRecDepth 100000 in
theorem loopY {t0 t1 t2 t3 t4 t5 t6 t7 t8 t9 t11 t12 t13 t14 t15 t16 t17 t18 t19 t20 t21 t22 t23 t24 t25 t26 t27 t28 t29 t30 t31 t32 t33 t34 t35 t36 t37 t38 t39 t40 t41 t42 t43 t44 t45 t46 t47 t48 t49 t50 t51 t52 t53 t54 t55 t56 t57 t58 t59 t60 t61 t62 t63 t64 t65 t66 t67 t68 t69 t70 t71 t72 t73 t74 t75 t76 t77 t78 t79 t80 t81 t82 t83 t84 t85 t86 t87 t88 t89 t90 t91 t92 t93 t94 t95 t96 t97 t98 t99 t100 t101 t102 t103 t104 t105 t106 t107 t108 t109 t110 t111 t112 t113 t114 t115 t116 t117 t118 t119 t120 t121 t122 t123 t124 t125 t126 t127 t128 t129 t130 t131 t132 t133 t134 t135 t136 t137 t138 t139 t140 t141 t142 t143 t144 t145 t146 t147 t148 t149 t150 t151 t152 t153 t154 t155 t156 t157 t158 t159 t160 t161 t162 t163 t164 t165 t166 t167 t168 t169 t170 t171 t172 t173 t174 t175 t176 t177 t178 t179 t180 t181 t182 t183 t184 t185 t186 t187 t188 t189 t190 t191 t192 t193 t194 t195 t196 t197 t198 t199 t200 t201 t202 t203 t204 t205 t206 t207 t208 t209 t210 t211 t212 t213 t214 t215 t216 t217 t218 t219 t220 t221 t222 t223 t224 t225 t226 t227 t228 t229 t230 t231 t232 t233 t234 t235 t236 t237 t238 t239 t240 t241 t242 t243 t244 t245 t246 t247 t248 t249 t250 t251 t252 t253 t254 t255 t256 t257 t258 t259 t260 t261 t262 t263 t264 t265 t266 t267 t268 t269 t270 t271 t272 t273 t274 t275 t276 t277 t278 t279 t280 t281 t282 t283 t284 t285 t286 t287 t288 t289 t290 t291 t292 t293 t294 t295 t296 t297 t298 t299 t300 t301 t302 t303 t304 t305 t306 t307 t308 t309 : Value} {Q : Exit → Act → World → Prop} {V W : World} {lo hi bI n cp : Nat} {q b : Int} {a : Option Addr} {H : Nat → Option Addr × Nat × Nat} (hbx : BK V bI #[.int .i64 q, .int .i64 b, .slice a n cp] 24) (hbo : bI < lo ∨ hi ≤ bI) (hcp : n ≤ cp) (hn : n ≤ 8192) (_hlo : lo ≤ V.heap.size) (hH : ∀ i, i < n → (H i).2.1 ≤ 4096) (hW : SPw V W lo hi 57 7 2 a n H)
    (hQ : ∀ (s23 s24 s25 s173 s174 s175 s176 s177 s178 s179 s180 s181 s182 s183 s184 s185 s186 s187 s188 s189 s190 s191 s192 s193 s194 s195 s196 s197 s198 s199 s200 s201 s202 s203 s204 s205 s206 s207 s208 s209 s210 s211 s212 s213 s214 s215 : Value) (W : World), Fr V W lo hi → Q .normal ⟨#[t0, t1, t2, t3, t4, t5, t6, t7, t8, t9, .pointer (some ⟨bI, 0, none⟩), t11, t12, t13, t14, t15, t16, t17, t18, t19, t20, t21, t22, s23, s24, s25, t26, t27, t28, t29, t30, t31, t32, t33, t34, t35, t36, t37, t38, t39, t40, t41, t42, t43, t44, t45, t46, t47, t48, t49, t50, t51, t52, t53, t54, t55, t56, t57, t58, t59, t60, t61, t62, t63, t64, t65, t66, t67, t68, t69, t70, t71, t72, t73, t74, t75, t76, t77, t78, t79, t80, t81, t82, t83, t84, t85, t86, t87, t88, t89, t90, t91, t92, t93, t94, t95, t96, t97, t98, t99, t100, t101, t102, t103, t104, t105, t106, t107, t108, t109, t110, t111, t112, t113, t114, t115, t116, t117, t118, t119, t120, t121, t122, t123, t124, t125, t126, t127, t128, t129, t130, t131, t132, t133, t134, t135, t136, t137, t138, t139, t140, t141, t142, t143, t144, t145, t146, t147, t148, t149, t150, t151, t152, t153, t154, t155, t156, t157, t158, t159, t160, t161, t162, t163, t164, t165, t166, t167, t168, t169, t170, t171, t172, s173, s174, s175, s176, s177, s178, s179, s180, s181, s182, s183, s184, s185, s186, s187, s188, s189, s190, s191, s192, s193, s194, s195, s196, s197, s198, s199, s200, s201, s202, s203, s204, s205, s206, s207, s208, s209, s210, s211, s212, s213, s214, s215, t216, t217, t218, t219, t220, t221, t222, t223, t224, t225, t226, t227, t228, t229, t230, t231, t232, t233, t234, t235, t236, t237, t238, t239, t240, t241, t242, t243, t244, t245, t246, t247, t248, t249, t250, t251, t252, t253, t254, t255, t256, t257, t258, t259, t260, t261, t262, t263, t264, t265, t266, t267, t268, t269, t270, t271, t272, t273, t274, t275, t276, t277, t278, t279, t280, t281, t282, t283, t284, t285, t286, t287, t288, t289, t290, t291, t292, t293, t294, t295, t296, t297, t298, t299, t300, t301, t302, t303, t304, t305, t306, t307, t308, t309], []⟩ W) :
    (sl (sr (sr (sr (sr (sr (sr (sr (sr (sr (sr (sr (sr (sr (sr (sr (Try.f8.body.getD .skip))))))))))))))))).wp Try.prog Q ⟨#[t0, t1, t2, t3, t4, t5, t6, t7, t8, t9, .pointer (some ⟨bI, 0, none⟩), t11, t12, t13, t14, t15, t16, t17, t18, t19, t20, t21, t22, t23, t24, t25, t26, t27, t28, t29, t30, t31, t32, t33, t34, t35, t36, t37, t38, t39, t40, t41, t42, t43, t44, t45, t46, t47, t48, t49, t50, t51, t52, t53, t54, t55, t56, t57, t58, t59, t60, t61, t62, t63, t64, t65, t66, t67, t68, t69, t70, t71, t72, t73, t74, t75, t76, t77, t78, t79, t80, t81, t82, t83, t84, t85, t86, t87, t88, t89, t90, t91, t92, t93, t94, t95, t96, t97, t98, t99, t100, t101, t102, t103, t104, t105, t106, t107, t108, t109, t110, t111, t112, t113, t114, t115, t116, t117, t118, t119, t120, t121, t122, t123, t124, t125, t126, t127, t128, t129, t130, t131, t132, t133, t134, t135, t136, t137, t138, t139, t140, t141, t142, t143, t144, t145, t146, t147, t148, t149, t150, t151, t152, t153, t154, t155, t156, t157, t158, t159, t160, t161, t162, t163, t164, t165, t166, t167, t168, t169, t170, t171, t172, t173, t174, t175, t176, t177, t178, t179, t180, t181, t182, t183, t184, t185, t186, t187, t188, t189, t190, t191, t192, t193, t194, t195, t196, t197, t198, t199, t200, t201, t202, t203, t204, t205, t206, t207, t208, t209, t210, t211, t212, t213, t214, t215, t216, t217, t218, t219, t220, t221, t222, t223, t224, t225, t226, t227, t228, t229, t230, t231, t232, t233, t234, t235, t236, t237, t238, t239, t240, t241, t242, t243, t244, t245, t246, t247, t248, t249, t250, t251, t252, t253, t254, t255, t256, t257, t258, t259, t260, t261, t262, t263, t264, t265, t266, t267, t268, t269, t270, t271, t272, t273, t274, t275, t276, t277, t278, t279, t280, t281, t282, t283, t284, t285, t286, t287, t288, t289, t290, t291, t292, t293, t294, t295, t296, t297, t298, t299, t300, t301, t302, t303, t304, t305, t306, t307, t308, t309], []⟩ W := by
  obtain ⟨i3, hi3, hz3, hs3, hb3⟩ := info_parts Try.info3
  have HI3 : Hid (Try.prog.info? 3 = some i3 ∧ i3.zero = some (.int .i64 0) ∧ i3.size = 1 ∧ i3.bytes = 8) := ⟨hi3, hz3, hs3, hb3⟩
  clear hi3 hz3 hs3 hb3
  have HQ0 := hid hQ
  have HB := hid hbx
  have HW0 := hid hW
  have HH0 := hid hH
  clear hQ hW hH
  conv => arg 2; whnf
  go_wp2
  go_loopw [23] (fun v23 wr => ∃ (i : Nat) (H : Nat → Option Addr × Nat × Nat), i ≤ n ∧ v23 = .int .i64 (i : Nat) ∧ Hid (∀ j, i ≤ j → j < n → (H j).2.1 ≤ 4096) ∧ SPw V wr lo hi 57 7 2 a n H) (fun v23 _ => n - (intOf v23).toNat)
  case atStart => exact ⟨0, H, Nat.zero_le _, rfl, fun j _ hj => HH0.out j hj, HW0.out⟩
  case round =>
    clear HW0 HH0
    obtain ⟨i, H, hi', rfl, HHB, hW⟩ := hrel
    have HW := hid hW
    have kV := hW.fr.bk HB.out hbo
    have x1 : ∀ j, wr.cell? ⟨bI, j, none⟩ = _ := kV.cell
    have l1 := kV.lt
    by_cases hlt : i < n
    case neg =>
      obtain rfl : i = n := by omega
      clear hW kV
      go_wp2
      exact HQ0.out _ _ _ _ _ _ _ _ _ _ _ _ _ _ _ _ _ _ _ _ _ _ _ _ _ _ _ _ _ _ _ _ _ _ _ _ _ _ _ _ _ _ _ _ _ _ _ HW.out.fr
    obtain ⟨g, rfl, _, _, hwb⟩ := hW.outer (by omega)
    have hlen := HHB.out i (Nat.le_refl _) hlt
    clear hW kV hwb
    go_wp2
    go_loopw [24] (fun v24 wr => ∃ k : Nat, k ≤ (H i).2.1 ∧ v24 = .int .i64 (k : Nat) ∧ SPw V wr lo hi 57 7 2 (some ⟨g, 0, none⟩) n H) (fun v24 _ => (H i).2.1 - (intOf v24).toNat)
    case atStart => exact ⟨0, Nat.zero_le _, rfl, HW.out⟩
    case round =>
      clear HW x1 l1
      obtain ⟨k, hk, rfl, hW⟩ := hrel
      have HW := hid hW
      have kV := hW.fr.bk HB.out hbo
      have x1 : ∀ j, wr.cell? ⟨bI, j, none⟩ = _ := kV.cell
      have l1 := kV.lt
      obtain ⟨g', e', _, _, hwb⟩ := hW.outer (by omega)
      cases e'
      have lg := hwb.lt
      have c2 := (hW.row g i rfl hlt).1
      by_cases hlk : k < (H i).2.1
      case pos =>
        obtain ⟨b', x, e1, e2, hx, hf, hl, hset⟩ := hW.put (by decide) hlt hlk
        rw [e1] at c2
        have HS := hid (hset (.int .i64 (-6)))
        clear hW kV hwb hset e1
        generalize (H i).2.1 = m at *
        generalize (H i).2.2 = mc at *
        go_wp2
        go_roundw
        case rel => exact ⟨k + 1, by omega, by go_num, HS.out⟩
        case measure => simp [intOf]; omega
      obtain rfl : k = (H i).2.1 := by omega
      have HLEN := hid hlen
      clear hlen
      clear hW kV hwb
      generalize (H i).1 = ma at *
      generalize (H i).2.2 = mc at *
      go_wp2
      go_loopw [25] (fun v25 wr => ∃ (t : Nat) (H : Nat → Option Addr × Nat × Nat), t ≤ 8 ∧ v25 = .int .i64 (t : Nat) ∧ Hid ((H i).2.1 ≤ 4096 + t ∧ ∀ j, i + 1 ≤ j → j < n → (H j).2.1 ≤ 4096) ∧ SPw V wr lo hi 57 7 2 (some ⟨g, 0, none⟩) n H) (fun v25 _ => 8 - (intOf v25).toNat)
      case atStart => exact ⟨0, H, Nat.zero_le _, rfl, ⟨HLEN.out, fun j hj hjn => HHB.out j (by omega) hjn⟩, HW.out⟩
      case round =>
        clear HW x1 l1 lg c2 HLEN HHB
        obtain ⟨t, H, ht, rfl, HHC, hW⟩ := hrel
        have HW := hid hW
        have kV := hW.fr.bk HB.out hbo
        have x1 : ∀ j, wr.cell? ⟨bI, j, none⟩ = _ := kV.cell
        have l1 := kV.lt
        by_cases hlt8 : t < 8
        case neg =>
          obtain rfl : t = 8 := by omega
          clear hW kV
          go_wp2
          go_roundw
          case rel => exact ⟨i + 1, H, by omega, by go_num, HHC.out.2, HW.out⟩
          case measure => simp [intOf]; omega
        case pos =>
          have hlen := HHC.out.1
          have HHB : Hid (∀ j, i + 1 ≤ j → j < n → (H j).2.1 ≤ 4096) := HHC.out.2
          obtain ⟨g', e', _, _, hwb⟩ := hW.outer (by omega)
          cases e'
          have lg := hwb.lt
          obtain ⟨c2, ⟨xs, hxs⟩, _⟩ := hW.row g i rfl hlt
          have f2 := hwb.free (i * 7 + 2)
          have hVs := hW.fr.size
          have HX : Hid (wr.ownsRow lo 3 1 (.slice (H i).1 (H i).2.1 (H i).2.2) (H i).2.1 xs) := hxs
          have HAPP : Hid (∀ w8 {a8 c8}, Below wr.heap.size wr (wr.drew.alloc (.cells #[.int .i64 (-7)] 3)) → OWk w8 lo (.slice a8 ((H i).2.1 + 1) c8) ((H i).2.1 + 1) → (wr.drew.alloc (.cells #[.int .i64 (-7)] 3)).grownBy w8 (Value.slice (H i).1 (H i).2.1 (H i).2.2).ownBlock → ((Value.slice a8 ((H i).2.1 + 1) c8).ownBlock = (Value.slice (H i).1 (H i).2.1 (H i).2.2).ownBlock ∨ (Value.slice a8 ((H i).2.1 + 1) c8).ownBlock = some (wr.drew.alloc (.cells #[.int .i64 (-7)] 3)).heap.size) → (∀ u k, OWk (wr.drew.alloc (.cells #[.int .i64 (-7)] 3)) lo u k → OWk w8 lo u k) →
              w8.cell? ⟨g, i * 7 + 2, none⟩ = some (.slice (H i).1 (H i).2.1 (H i).2.2) ∧ w8.frozen? ⟨g, i * 7 + 2, none⟩ = false ∧ g < w8.heap.size ∧ Fr V w8 lo hi ∧ SPw V (w8.setCell ⟨g, i * 7 + 2, none⟩ (.slice a8 ((H i).2.1 + 1) c8)) lo hi 57 7 2 (some ⟨g, 0, none⟩) n (hset H i (a8, (H i).2.1 + 1, c8))) :=
            fun w8 a8 c8 hB how hg hloc hall => by
              obtain ⟨h1, h2, h3, h4, h5⟩ := hW.app (by decide) (by decide) hlt hB (x := (a8, (H i).2.1 + 1, c8)) how hg hloc hall
              exact ⟨h1 i hlt, h2, h3, h4, h5⟩
          have SK : Hid (∀ w', Below wr.heap.size wr w' → w'.cell? ⟨bI, 2, none⟩ = some (.slice (some ⟨g, 0, none⟩) n cp) ∧ w'.cell? ⟨g, i * 7 + 2, none⟩ = some (.slice (H i).1 (H i).2.1 (H i).2.2) ∧ w'.frozen? ⟨g, i * 7 + 2, none⟩ = false ∧ g < w'.heap.size ∧ bI < w'.heap.size) := fun w' h => ⟨(h.cell (p := ⟨bI, 2, none⟩) l1).trans (x1 2), (h.cell (p := ⟨g, i * 7 + 2, none⟩) lg).trans c2, (h.frozen (p := ⟨g, i * 7 + 2, none⟩) lg).trans f2, Nat.lt_of_lt_of_le lg h.size, Nat.lt_of_lt_of_le l1 h.size⟩
          clear hW kV hwb hxs HHC x1 c2 f2
          generalize (H i).1 = ma at *
          generalize hm : (H i).2.1 = m at *
          generalize (H i).2.2 = mc at *
          clear hm
          go_upto_region 43 with (fail)
          refine wp_region_noPanic ?_
          refine region_z (S := fun w' => w'.cell? ⟨bI, 2, none⟩ = some (.slice (some ⟨g, 0, none⟩) n cp) ∧ w'.cell? ⟨g, i * 7 + 2, none⟩ = some (.slice ma m mc) ∧ w'.frozen? ⟨g, i * 7 + 2, none⟩ = false ∧ g < w'.heap.size ∧ bI < w'.heap.size) 13 (by kernel_rfl) (SK.out _ (below_drew (Below.refl _ _))) (fun hHeld => ?_)
          refine zAny_take (i := 0) (oi := { dst := some 203, op := Op.fieldAddr 24 (Operand.tmp 10) 2, type := 0, pos := "law.go:223", after := #[], guard := none }) (v := ?_) rfl (by kernel_rfl) (by kernel_rfl) (by kernel_rfl) (by kernel_rfl) (fun _ _ _ h => h) (Or.inl ⟨by rfl, ?_⟩) (by assumption) ?_
          rotate_left
          (intro w0 hSw; (try dsimp only at hSw); go_simp; try (with_reducible rfl))
          (try simp only [Act.put, List.setIfInBounds_toArray, List.set_cons_zero, List.set_cons_succ])
          refine zAny_take (i := 1) (oi := { dst := some 204, op := Op.load 22 (Operand.tmp 203), type := 22, pos := "law.go:223", after := #[{ on := 0, ground := Ground.data }], guard := none }) (v := ?_) rfl (by kernel_rfl) (by kernel_rfl) (by kernel_rfl) (by kernel_rfl) (fun _ _ _ h => h) (Or.inl ⟨by rfl, ?_⟩) (by assumption) ?_
          rotate_left
          (intro w0 hSw; (try dsimp only at hSw); go_simp; try (with_reducible rfl))
          (try simp only [Act.put, List.setIfInBounds_toArray, List.set_cons_zero, List.set_cons_succ])
          refine zAny_take (i := 2) (oi := { dst := some 205, op := Op.move (Operand.tmp 23), type := 3, pos := "law.go:223", after := #[], guard := none }) (v := ?_) rfl (by kernel_rfl) (by kernel_rfl) (by kernel_rfl) (by kernel_rfl) (fun _ _ _ h => h) (Or.inl ⟨by rfl, ?_⟩) (by assumption) ?_
          rotate_left
          (intro w0 hSw; (try dsimp only at hSw); go_simp; try (with_reducible rfl))
          (try simp only [Act.put, List.setIfInBounds_toArray, List.set_cons_zero, List.set_cons_succ])
          refine zAny_take (i := 3) (oi := { dst := some 206, op := Op.fieldAddr 24 (Operand.tmp 10) 2, type := 0, pos := "law.go:223", after := #[], guard := none }) (v := ?_) rfl (by kernel_rfl) (by kernel_rfl) (by kernel_rfl) (by kernel_rfl) (fun _ _ _ h => h) (Or.inl ⟨by rfl, ?_⟩) (by assumption) ?_
          rotate_left
          (intro w0 hSw; (try dsimp only at hSw); go_simp; try (with_reducible rfl))
          (try simp only [Act.put, List.setIfInBounds_toArray, List.set_cons_zero, List.set_cons_succ])
          refine zAny_take (i := 4) (oi := { dst := some 207, op := Op.load 22 (Operand.tmp 206), type := 22, pos := "law.go:223", after := #[{ on := 3, ground := Ground.data }], guard := none }) (v := ?_) rfl (by kernel_rfl) (by kernel_rfl) (by kernel_rfl) (by kernel_rfl) (fun _ _ _ h => h) (Or.inl ⟨by rfl, ?_⟩) (by assumption) ?_
          rotate_left
          (intro w0 hSw; (try dsimp only at hSw); go_simp; try (with_reducible rfl))
          (try simp only [Act.put, List.setIfInBounds_toArray, List.set_cons_zero, List.set_cons_succ])
          refine zAny_take (i := 5) (oi := { dst := some 208, op := Op.move (Operand.tmp 23), type := 3, pos := "law.go:223", after := #[], guard := none }) (v := ?_) rfl (by kernel_rfl) (by kernel_rfl) (by kernel_rfl) (by kernel_rfl) (fun _ _ _ h => h) (Or.inl ⟨by rfl, ?_⟩) (by assumption) ?_
          rotate_left
          (intro w0 hSw; (try dsimp only at hSw); go_simp; try (with_reducible rfl))
          (try simp only [Act.put, List.setIfInBounds_toArray, List.set_cons_zero, List.set_cons_succ])
          refine zAny_take (i := 6) (oi := { dst := some 209, op := Op.indexAddr 22 (Operand.tmp 207) (Operand.tmp 208), type := 0, pos := "law.go:223", after := #[{ on := 4, ground := Ground.data }, { on := 5, ground := Ground.data }], guard := none }) (v := ?_) rfl (by kernel_rfl) (by kernel_rfl) (by kernel_rfl) (by kernel_rfl) (fun _ _ _ h => h) (Or.inl ⟨by rfl, ?_⟩) (by assumption) ?_
          rotate_left
          (intro w0 hSw; (try dsimp only at hSw); go_simp; try (with_reducible rfl))
          (try simp only [Act.put, List.setIfInBounds_toArray, List.set_cons_zero, List.set_cons_succ])
          refine zAny_take (i := 7) (oi := { dst := some 210, op := Op.fieldAddr 57 (Operand.tmp 209) 2, type := 0, pos := "law.go:223", after := #[{ on := 6, ground := Ground.data }], guard := none }) (v := ?_) rfl (by kernel_rfl) (by kernel_rfl) (by kernel_rfl) (by kernel_rfl) (fun _ _ _ h => h) (Or.inl ⟨by rfl, ?_⟩) (by assumption) ?_
          rotate_left
          (intro w0 hSw; (try dsimp only at hSw); go_simp; try (with_reducible rfl))
          (try simp only [Act.put, List.setIfInBounds_toArray, List.set_cons_zero, List.set_cons_succ])
          refine zAny_take (i := 8) (oi := { dst := some 211, op := Op.load 43 (Operand.tmp 210), type := 43, pos := "law.go:223", after := #[{ on := 7, ground := Ground.data }], guard := none }) (v := ?_) rfl (by kernel_rfl) (by kernel_rfl) (by kernel_rfl) (by kernel_rfl) (fun _ _ _ h => h) (Or.inl ⟨by rfl, ?_⟩) (by assumption) ?_
          rotate_left
          (intro w0 hSw; (try dsimp only at hSw); go_simp; try (with_reducible rfl))
          (try simp only [Act.put, List.setIfInBounds_toArray, List.set_cons_zero, List.set_cons_succ])
          refine zAny_ready (rs := [9]) (by kernel_rfl) (by simp) (zReady.cons (o := { dst := some 212, op := Op.buildSlice 43 1 #[(0, Operand.const (Value.int IntKind.i64 (-7)))], type := 43, pos := "law.go:223", after := #[], guard := none }) rfl (fun K hK => ?_) zReady.nil)
          go_simp
          have B9 : Below wr.heap.size wr (wr.drew.alloc (.cells #[.int .i64 (-7)] 3)) := bal (below_drew (Below.refl _ _)) _
          refine hK.out _ _ (fun _ => SK.out _ B9) (fun hHeld => ?_)
          have hHeld := hHeld (by decide)
          clear hK K
          (try simp only [Act.put, List.setIfInBounds_toArray, List.set_cons_zero, List.set_cons_succ])
          refine zAny_ready (rs := [10]) (by kernel_rfl) (by simp) (zReady.cons (o := { dst := some 213, op := Op.call { callee := Callee.builtin Builtin.append, args := #[Operand.tmp 211, Operand.tmp 212], argTypes := #[43, 43] }, type := 43, pos := "law.go:223", after := #[{ on := 8, ground := Ground.data }, { on := 9, ground := Ground.data }], guard := none }) rfl (fun K hK => ?_) zReady.nil)
          refine step_weak rfl _ _ (by rfl) HI3.out lo _ m xs (by rfl) (own_below HX.out B9) ⟨_, 0, none⟩ 1 (.int .i64 (-7)) (by rfl) (by simp [go_sem]) rfl (by omega) (by have := B9.size; omega) ?_
          intro v8 w8 how8 hgrow8 hloc8 hall8
          obtain ⟨xs8, hx8⟩ := how8
          obtain ⟨a8, c8, rfl⟩ := own_shape hx8
          obtain ⟨hcl, hfz, hgl, hFr, hSP⟩ := HAPP.out w8 B9 ⟨xs8, hx8⟩ hgrow8 hloc8 hall8
          have k8 := hFr.bk HB.out hbo
          refine hK.out _ _ (fun _ => ⟨k8.cell 2, hcl, hfz, hgl, k8.lt⟩) (fun hHeld => ?_)
          have hHeld := hHeld (by decide)
          clear hK K
          (try simp only [Act.put, List.setIfInBounds_toArray, List.set_cons_zero, List.set_cons_succ])
          refine zAny_ready (rs := [11]) (by kernel_rfl) (by simp) (zReady.cons (o := { dst := some 214, op := Op.indexAddr 22 (Operand.tmp 204) (Operand.tmp 205), type := 0, pos := "law.go:223", after := #[{ on := 1, ground := Ground.data }, { on := 2, ground := Ground.data }, { on := 0, ground := Ground.phase }, { on := 1, ground := Ground.phase }, { on := 2, ground := Ground.phase }, { on := 3, ground := Ground.phase }, { on := 4, ground := Ground.phase }, { on := 5, ground := Ground.phase }, { on := 6, ground := Ground.phase }, { on := 7, ground := Ground.phase }, { on := 8, ground := Ground.phase }, { on := 9, ground := Ground.phase }, { on := 10, ground := Ground.phase }], guard := none }) rfl (fun K hK => ?_) zReady.nil)
          go_simp
          refine hK.out _ _ (fun _ => hHeld) (fun hHeld => ?_)
          have hHeld := hHeld (by decide)
          clear hK K
          (try simp only [Act.put, List.setIfInBounds_toArray, List.set_cons_zero, List.set_cons_succ])
          refine zAny_take (i := 12) (oi := { dst := some 215, op := Op.fieldAddr 57 (Operand.tmp 214) 2, type := 0, pos := "law.go:223", after := #[{ on := 11, ground := Ground.data }, { on := 0, ground := Ground.phase }, { on := 1, ground := Ground.phase }, { on := 2, ground := Ground.phase }, { on := 3, ground := Ground.phase }, { on := 4, ground := Ground.phase }, { on := 5, ground := Ground.phase }, { on := 6, ground := Ground.phase }, { on := 7, ground := Ground.phase }, { on := 8, ground := Ground.phase }, { on := 9, ground := Ground.phase }, { on := 10, ground := Ground.phase }], guard := none }) (v := ?_) rfl (by kernel_rfl) (by kernel_rfl) (by kernel_rfl) (by kernel_rfl) (fun _ _ _ h => h) (Or.inl ⟨by rfl, ?_⟩) (by assumption) ?_
          rotate_left
          (intro w0 hSw; (try dsimp only at hSw); go_simp; try (with_reducible rfl))
          (try simp only [Act.put, List.setIfInBounds_toArray, List.set_cons_zero, List.set_cons_succ])
          refine zAny_ready (rs := [13]) (by kernel_rfl) (by simp) (zReady.cons (o := { dst := none, op := Op.store 43 (Operand.tmp 215) (Operand.tmp 213), type := 0, pos := "law.go:223", after := #[{ on := 12, ground := Ground.data }, { on := 10, ground := Ground.data }, { on := 10, ground := Ground.chain }, { on := 0, ground := Ground.phase }, { on := 1, ground := Ground.phase }, { on := 2, ground := Ground.phase }, { on := 3, ground := Ground.phase }, { on := 4, ground := Ground.phase }, { on := 5, ground := Ground.phase }, { on := 6, ground := Ground.phase }, { on := 7, ground := Ground.phase }, { on := 8, ground := Ground.phase }, { on := 9, ground := Ground.phase }, { on := 10, ground := Ground.phase }], guard := none }) rfl (fun K hK => ?_) zReady.nil)
          have q1 := hHeld.2.1
          have q2 := hHeld.2.2.1
          have q3 := hHeld.2.2.2.1
          go_simp
          refine hK.out _ _ (fun h => absurd rfl h) (fun _ => ?_)
          clear hK K
          (try simp only [Act.put, List.setIfInBounds_toArray, List.set_cons_zero, List.set_cons_succ])
          refine zAny_done (by kernel_rfl) ?_ _
          refine NoPanic.normal ?_
          have HSP := hid hSP
          clear hSP hcl hfz hgl hFr k8 q1 q2 q3 hHeld hgrow8 hloc8 hall8 hx8 B9
          go_wp2
          go_roundw
          case rel => exact ⟨t + 1, _, by omega, by go_num, ⟨by simp [hset]; omega, fun j hj hjn => by have := HHB.out j (by omega) hjn; unfold hset; rw [if_neg (by omega)]; exact this⟩, HSP.out⟩
          case measure => simp [intOf]; omega
end Go.Proofs.Ytfaoegiignalkaa
namespace Go.Proofs.Ytfaoegiignalkaa
open Go.RowKit Go.Shelf
attribute [local go_sem] Oper.semAt_some

set_option maxHeartbeats 8000000 in
set_option maxRecDepth 100000 in
theorem loopL {t0 t1 t2 t3 t4 t5 t6 t7 t8 t9 t10 t11 t12 t13 t15 t16 t17 t18 t19 t20 t21 t22 t23 t24 t25 t26 t27 t28 t29 t30 t31 t32 t33 t34 t35 t36 t37 t38 t39 t40 t41 t42 t43 t44 t45 t46 t47 t48 t49 t50 t51 t52 t53 t54 t55 t56 t57 t58 t59 t60 t61 t62 t63 t64 t65 t66 t67 t68 t69 t70 t71 t72 t73 t74 t75 t76 t77 t78 t79 t80 t81 t82 t83 t84 t85 t86 t87 t88 t89 t90 t91 t92 t93 t94 t95 t96 t97 t98 t99 t100 t101 t102 t103 t104 t105 t106 t107 t108 t109 t110 t111 t112 t113 t114 t115 t116 t117 t118 t119 t120 t121 t122 t123 t124 t125 t126 t127 t128 t129 t130 t131 t132 t133 t134 t135 t136 t137 t138 t139 t140 t141 t142 t143 t144 t145 t146 t147 t148 t149 t150 t151 t152 t153 t154 t155 t156 t157 t158 t159 t160 t161 t162 t163 t164 t165 t166 t167 t168 t169 t170 t171 t172 t173 t174 t175 t176 t177 t178 t179 t180 t181 t182 t183 t184 t185 t186 t187 t188 t189 t190 t191 t192 t193 t194 t195 t196 t197 t198 t199 t200 t201 t202 t203 t204 t205 t206 t207 t208 t209 t210 t211 t212 t213 t214 t215 t216 t217 t218 t219 t220 t221 t222 t223 t224 t225 t226 t227 t228 t229 t230 t231 t232 t233 t234 t235 t236 t237 t238 t239 t240 t241 t242 t243 t244 t245 t246 t247 t248 t249 t250 t251 t252 t253 t254 t255 t256 t257 t258 t259 t260 t261 t262 t263 t264 t265 t266 t267 t268 t269 t270 t271 t272 t273 t274 t275 t276 t277 t278 t279 t280 t281 t282 t283 t284 t285 t286 t287 t288 t289 t290 t291 t292 t293 t294 t295 t296 t297 t298 t299 t300 t301 t302 t303 t304 t305 t306 t307 t308 t309 : Value} {Q : Exit → Act → World → Prop} {V W : World} {lo hi n cp : Nat} {a : Option Addr} {H : Nat → Option Addr × Nat × Nat} (hcp : n ≤ cp) (hn : n ≤ 8192) (_hlo : lo ≤ V.heap.size) (hH : ∀ i, i < n → (H i).2.1 ≤ 4096) (hW : SPw V W lo hi 43 1 0 a n H)
    (hQ : ∀ (s26 s27 s28 s216 s217 s218 s219 s220 s221 s222 s223 s224 s225 s226 s227 s228 s229 s230 s231 s232 s233 s234 s235 s236 s237 s238 s239 s240 s241 s242 s243 s244 s245 s246 s247 s248 s249 : Value) (W : World), Fr V W lo hi → Q .normal ⟨#[t0, t1, t2, t3, t4, t5, t6, t7, t8, t9, t10, t11, t12, t13, .slice a n cp, t15, t16, t17, t18, t19, t20, t21, t22, t23, t24, t25, s26, s27, s28, t29, t30, t31, t32, t33, t34, t35, t36, t37, t38, t39, t40, t41, t42, t43, t44, t45, t46, t47, t48, t49, t50, t51, t52, t53, t54, t55, t56, t57, t58, t59, t60, t61, t62, t63, t64, t65, t66, t67, t68, t69, t70, t71, t72, t73, t74, t75, t76, t77, t78, t79, t80, t81, t82, t83, t84, t85, t86, t87, t88, t89, t90, t91, t92, t93, t94, t95, t96, t97, t98, t99, t100, t101, t102, t103, t104, t105, t106, t107, t108, t109, t110, t111, t112, t113, t114, t115, t116, t117, t118, t119, t120, t121, t122, t123, t124, t125, t126, t127, t128, t129, t130, t131, t132, t133, t134, t135, t136, t137, t138, t139, t140, t141, t142, t143, t144, t145, t146, t147, t148, t149, t150, t151, t152, t153, t154, t155, t156, t157, t158, t159, t160, t161, t162, t163, t164, t165, t166, t167, t168, t169, t170, t171, t172, t173, t174, t175, t176, t177, t178, t179, t180, t181, t182, t183, t184, t185, t186, t187, t188, t189, t190, t191, t192, t193, t194, t195, t196, t197, t198, t199, t200, t201, t202, t203, t204, t205, t206, t207, t208, t209, t210, t211, t212, t213, t214, t215, s216, s217, s218, s219, s220, s221, s222, s223, s224, s225, s226, s227, s228, s229, s230, s231, s232, s233, s234, s235, s236, s237, s238, s239, s240, s241, s242, s243, s244, s245, s246, s247, s248, s249, t250, t251, t252, t253, t254, t255, t256, t257, t258, t259, t260, t261, t262, t263, t264, t265, t266, t267, t268, t269, t270, t271, t272, t273, t274, t275, t276, t277, t278, t279, t280, t281, t282, t283, t284, t285, t286, t287, t288, t289, t290, t291, t292, t293, t294, t295, t296, t297, t298, t299, t300, t301, t302, t303, t304, t305, t306, t307, t308, t309], []⟩ W) :
    (sl (sr (sr (sr (sr (sr (sr (sr (sr (sr (sr (sr (sr (sr (sr (sr (sr (Try.f8.body.getD .skip)))))))))))))))))).wp Try.prog Q ⟨#[t0, t1, t2, t3, t4, t5, t6, t7, t8, t9, t10, t11, t12, t13, .slice a n cp, t15, t16, t17, t18, t19, t20, t21, t22, t23, t24, t25, t26, t27, t28, t29, t30, t31, t32, t33, t34, t35, t36, t37, t38, t39, t40, t41, t42, t43, t44, t45, t46, t47, t48, t49, t50, t51, t52, t53, t54, t55, t56, t57, t58, t59, t60, t61, t62, t63, t64, t65, t66, t67, t68, t69, t70, t71, t72, t73, t74, t75, t76, t77, t78, t79, t80, t81, t82, t83, t84, t85, t86, t87, t88, t89, t90, t91, t92, t93, t94, t95, t96, t97, t98, t99, t100, t101, t102, t103, t104, t105, t106, t107, t108, t109, t110, t111, t112, t113, t114, t115, t116, t117, t118, t119, t120, t121, t122, t123, t124, t125, t126, t127, t128, t129, t130, t131, t132, t133, t134, t135, t136, t137, t138, t139, t140, t141, t142, t143, t144, t145, t146, t147, t148, t149, t150, t151, t152, t153, t154, t155, t156, t157, t158, t159, t160, t161, t162, t163, t164, t165, t166, t167, t168, t169, t170, t171, t172, t173, t174, t175, t176, t177, t178, t179, t180, t181, t182, t183, t184, t185, t186, t187, t188, t189, t190, t191, t192, t193, t194, t195, t196, t197, t198, t199, t200, t201, t202, t203, t204, t205, t206, t207, t208, t209, t210, t211, t212, t213, t214, t215, t216, t217, t218, t219, t220, t221, t222, t223, t224, t225, t226, t227, t228, t229, t230, t231, t232, t233, t234, t235, t236, t237, t238, t239, t240, t241, t242, t243, t244, t245, t246, t247, t248, t249, t250, t251, t252, t253, t254, t255, t256, t257, t258, t259, t260, t261, t262, t263, t264, t265, t266, t267, t268, t269, t270, t271, t272, t273, t274, t275, t276, t277, t278, t279, t280, t281, t282, t283, t284, t285, t286, t287, t288, t289, t290, t291, t292, t293, t294, t295, t296, t297, t298, t299, t300, t301, t302, t303, t304, t305, t306, t307, t308, t309], []⟩ W := by
  obtain ⟨i3, hi3, hz3, hs3, hb3⟩ := info_parts Try.info3
  have HI3 : Hid (Try.prog.info? 3 = some i3 ∧ i3.zero = some (.int .i64 0) ∧ i3.size = 1 ∧ i3.bytes = 8) := ⟨hi3, hz3, hs3, hb3⟩
  clear hi3 hz3 hs3 hb3
  have HQ0 := hid hQ
  have HW0 := hid hW
  have HH0 := hid hH
  clear hQ hW hH
  conv => arg 2; whnf
  go_wp2
  go_loopw [26] (fun v26 wr => ∃ (i : Nat) (H : Nat → Option Addr × Nat × Nat), i ≤ n ∧ v26 = .int .i64 (i : Nat) ∧ Hid (∀ j, i ≤ j → j < n → (H j).2.1 ≤ 4096) ∧ SPw V wr lo hi 43 1 0 a n H) (fun v26 _ => n - (intOf v26).toNat)
  case atStart => exact ⟨0, H, Nat.zero_le _, rfl, fun j _ hj => HH0.out j hj, HW0.out⟩
  case round =>
    clear HW0 HH0
    obtain ⟨i, H, hi', rfl, HHB, hW⟩ := hrel
    have HW := hid hW
    by_cases hlt : i < n
    case neg =>
      obtain rfl : i = n := by omega
      clear hW
      go_wp2
      exact HQ0.out _ _ _ _ _ _ _ _ _ _ _ _ _ _ _ _ _ _ _ _ _ _ _ _ _ _ _ _ _ _ _ _ _ _ _ _ _ _ HW.out.fr
    obtain ⟨g, rfl, _, _, hwb⟩ := hW.outer (by omega)
    have hlen := HHB.out i (Nat.le_refl _) hlt
    clear hW hwb
    go_wp2
    go_loopw [27] (fun v27 wr => ∃ k : Nat, k ≤ (H i).2.1 ∧ v27 = .int .i64 (k : Nat) ∧ SPw V wr lo hi 43 1 0 (some ⟨g, 0, none⟩) n H) (fun v27 _ => (H i).2.1 - (intOf v27).toNat)
    case atStart => exact ⟨0, Nat.zero_le _, rfl, HW.out⟩
    case round =>
      clear HW
      obtain ⟨k, hk, rfl, hW⟩ := hrel
      have HW := hid hW
      obtain ⟨g', e', _, _, hwb⟩ := hW.outer (by omega)
      cases e'
      have lg := hwb.lt
      have c2 := (hW.row g i rfl hlt).1
      rw [Nat.mul_one, Nat.add_zero] at c2
      by_cases hlk : k < (H i).2.1
      case pos =>
        obtain ⟨b', x, e1, e2, hx, hf, hl, hset⟩ := hW.put (by decide) hlt hlk
        rw [e1] at c2
        have HS := hid (hset (.int .i64 (-8)))
        clear hW hwb hset e1
        generalize (H i).2.1 = m at *
        generalize (H i).2.2 = mc at *
        go_wp2
        go_roundw
        case rel => exact ⟨k + 1, by omega, by go_num, HS.out⟩
        case measure => simp [intOf]; omega
      obtain rfl : k = (H i).2.1 := by omega
      have HLEN := hid hlen
      clear hlen
      clear hW hwb
      generalize (H i).1 = ma at *
      generalize (H i).2.2 = mc at *
      go_wp2
      go_loopw [28] (fun v28 wr => ∃ (t : Nat) (H : Nat → Option Addr × Nat × Nat), t ≤ 8 ∧ v28 = .int .i64 (t : Nat) ∧ Hid ((H i).2.1 ≤ 4096 + t ∧ ∀ j, i + 1 ≤ j → j < n → (H j).2.1 ≤ 4096) ∧ SPw V wr lo hi 43 1 0 (some ⟨g, 0, none⟩) n H) (fun v28 _ => 8 - (intOf v28).toNat)
      case atStart => exact ⟨0, H, Nat.zero_le _, rfl, ⟨HLEN.out, fun j hj hjn => HHB.out j (by omega) hjn⟩, HW.out⟩
      case round =>
        clear HW lg c2 HLEN HHB
        obtain ⟨t, H, ht, rfl, HHC, hW⟩ := hrel
        have HW := hid hW
        by_cases hlt8 : t < 8
        case neg =>
          obtain rfl : t = 8 := by omega
          clear hW
          go_wp2
          go_roundw
          case rel => exact ⟨i + 1, H, by omega, by go_num, HHC.out.2, HW.out⟩
          case measure => simp [intOf]; omega
        case pos =>
          have hlen := HHC.out.1
          have HHB : Hid (∀ j, i + 1 ≤ j → j < n → (H j).2.1 ≤ 4096) := HHC.out.2
          obtain ⟨g', e', _, _, hwb⟩ := hW.outer (by omega)
          cases e'
          have lg := hwb.lt
          obtain ⟨c2, ⟨xs, hxs⟩, _⟩ := hW.row g i rfl hlt
          rw [Nat.mul_one, Nat.add_zero] at c2
          have hVs := hW.fr.size
          have HX : Hid (wr.ownsRow lo 3 1 (.slice (H i).1 (H i).2.1 (H i).2.2) (H i).2.1 xs) := hxs
          have HAPP : Hid (∀ w1 w8 {a8 c8}, Below wr.heap.size wr w1 → OWk w8 lo (.slice a8 ((H i).2.1 + 1) c8) ((H i).2.1 + 1) → w1.grownBy w8 (Value.slice (H i).1 (H i).2.1 (H i).2.2).ownBlock → ((Value.slice a8 ((H i).2.1 + 1) c8).ownBlock = (Value.slice (H i).1 (H i).2.1 (H i).2.2).ownBlock ∨ (Value.slice a8 ((H i).2.1 + 1) c8).ownBlock = some w1.heap.size) → (∀ u k, OWk w1 lo u k → OWk w8 lo u k) →
              w8.cell? ⟨g, i, none⟩ = some (.slice (H i).1 (H i).2.1 (H i).2.2) ∧ w8.frozen? ⟨g, i, none⟩ = false ∧ g < w8.heap.size ∧ SPw V (w8.setCell ⟨g, i, none⟩ (.slice a8 ((H i).2.1 + 1) c8)) lo hi 43 1 0 (some ⟨g, 0, none⟩) n (hset H i (a8, (H i).2.1 + 1, c8))) :=
            fun w1 w8 a8 c8 hB how hg hloc hall => by
              obtain ⟨h1, h2, h3, _, h5⟩ := hW.app (by decide) (by decide) hlt hB (x := (a8, (H i).2.1 + 1, c8)) how hg hloc hall
              have h1 := h1 i hlt
              simp only [Nat.mul_one, Nat.add_zero] at h1 h2 h5
              exact ⟨h1, h2, h3, h5⟩
          clear hW hwb hxs HHC
          generalize (H i).1 = ma at *
          generalize hm : (H i).2.1 = m at *
          generalize (H i).2.2 = mc at *
          clear hm
          go_wp2_with (at_builtin; refine Hid.out ?_)
          refine hid ?_
          refine wpList_weak rfl _ _ rfl HI3.out lo _ m xs rfl (own_below HX.out (bal (Below.refl _ _) _)) ⟨_, 0, none⟩ 1 (.int .i64 (-9)) rfl (by simp [go_sem]) rfl (by omega) (by simp; omega) ?_
          intro v8 w8 how8 hgrow8 hloc8 hall8
          obtain ⟨xs8, hx8⟩ := how8
          obtain ⟨a8, c8, rfl⟩ := own_shape hx8
          obtain ⟨hcl, hfz, hgl, hSP⟩ := HAPP.out _ w8 (bal (Below.refl _ _) _) ⟨xs8, hx8⟩ hgrow8 hloc8 hall8
          have HSP := hid hSP
          clear hSP hgrow8 hloc8 hall8 hx8 c2
          go_wp2
          go_roundw
          case rel => exact ⟨t + 1, _, by omega, by go_num, ⟨by simp [hset]; omega, fun j hj hjn => by have := HHB.out j (by omega) hjn; unfold hset; rw [if_neg (by omega)]; exact this⟩, HSP.out⟩
          case measure => simp [intOf]; omega
end Go.Proofs.Ytfaoegiignalkaa
namespace Go.Proofs.Ytfaoegiignalkaa
open Go.RowKit Go.Shelf

theorem append_none (a b : Option Addr) (n c d : Nat) (h : n ≤ c) (ty : TypeId) (w : World) : (Builtin.append_ #[43, 43] ty #[.slice a n c, .slice b 0 d]).run Try.prog w = .ok (.slice a n c) w := by
  unfold Builtin.append_
  simp [go_sem]
  rw [if_pos h]
  cases a <;> cases b <;> simp [go_sem]
/-- append of whole numbers, or of none, at a row that is owned. -/
theorem append_ints {i3 : TypeInfo} (hi : Try.prog.info? 3 = some i3 ∧ i3.zero = some (.int .i64 0) ∧ i3.size = 1 ∧ i3.bytes = 8) (ty : TypeId) (w : World) (base : Nat) (v : Value) (n : Nat) (xs : List Value) (hown : w.ownsRow base 3 1 v n xs) (ax : Option Addr) (c : Nat) (l : List Int) (hq : QS w ax c l) (hl : n + l.length ≤ 8192) (hbase : base ≤ w.heap.size) :
    ∃ v' w', (Builtin.append_ #[43, 43] ty #[v, .slice ax l.length c]).run Try.prog w = .ok v' w' ∧ w'.ownsRow base 3 1 v' (n + l.length) (xs ++ zl l) ∧ w.grownBy w' v.ownBlock ∧ (v'.ownBlock = v.ownBlock ∨ v'.ownBlock = some w.heap.size) := by
  rcases Nat.eq_zero_or_pos l.length with h0 | h0
  · obtain rfl : l = [] := List.eq_nil_of_length_eq_zero h0
    obtain ⟨a, k, rfl, hk⟩ := own_cap hown
    refine ⟨_, w, append_none _ _ _ _ _ hk _ _, ?_, World.grownBy.refl w _, .inl rfl⟩
    simpa [zl] using hown
  · obtain ⟨b, o, rfl, hc⟩ := hq.cells h0
    obtain ⟨v', w', h1, h2, h3, _, h5⟩ := run_append_own_at (P := Try.prog) w base 43 ty 3 i3 (.int .i64 0) 1 8 Try.underlying43 hi.1 hi.2.1 hi.2.2.1 hi.2.2.2 rfl (by decide) v n xs hown ⟨b, o, none⟩ l.length c (zl l) (by simp [zl]) hc (zl_one l) (by unfold maxLen; omega) (by omega) hbase
    exact ⟨v', w', h1, h2, h3, h5⟩
theorem wpList_ints {w : World} {ops : Array Oper} {rest : List Oper} {o : Oper} {a : Act} {Q : Exit → Act → World → Prop} (hgd : o.guard = none) (s x : Operand)
    (ho : o.op = .call { callee := .builtin .append, args := #[s, x], argTypes := #[43, 43] }) {i3 : TypeInfo} (hi : Try.prog.info? 3 = some i3 ∧ i3.zero = some (.int .i64 0) ∧ i3.size = 1 ∧ i3.bytes = 8)
    (base : Nat) (v : Value) (n : Nat) (xs : List Value) (hs : a.eval s = v) (hown : w.ownsRow base 3 1 v n xs) (ax : Option Addr) (c : Nat) (l : List Int) (hx : a.eval x = .slice ax l.length c) (hq : QS w ax c l) (hl : n + l.length ≤ 8192) (hbase : base ≤ w.heap.size)
    (h : ∀ v' w', w'.ownsRow base 3 1 v' (n + l.length) (xs ++ zl l) → w.grownBy w' v.ownBlock → (v'.ownBlock = v.ownBlock ∨ v'.ownBlock = some w.heap.size) → wpList Try.prog ops Q rest (a.put o.dst v') w') :
    wpList Try.prog ops Q (o :: rest) a w := by
  refine wpList_plain hgd fun K hK => ?_
  obtain ⟨v', w', hr, h2, h3, h5⟩ := append_ints hi o.type w base v n xs hown ax c l hq hl hbase
  unfold Oper.wp execOp
  simp only [ho, resolve, invoke, builtin, Sem.run_bind, Sem.run_pure, Result.andThen_ok, List.map_toArray, List.map_cons, List.map_nil, hs, hx, hr]
  exact hK _ _ (h v' w' h2 h3 h5)
set_option maxHeartbeats 4000000 in
set_option maxRecDepth 100000 in
theorem copy2_any (c : Ci) (a : Option Addr) (cp : Nat) (A : Nat → Option Addr) (C : Nat → Nat) (w : World) (H : OS w a cp c.ops A C) (hl4 : c.ops.length ≤ 4096) (hq : ∀ k (h : k < c.ops.length), c.ops[k].qs.length ≤ 100) :
    Calls Try.prog 29 #[civ c a cp] w fun e w' => ∃ a' c' vs, e = .returned (civ c a' c') ∧ OO w' w.heap.size (.slice a' c.ops.length c') c.ops vs ∧ Below w.heap.size w w' := by
  obtain ⟨i3, hi3, hz3, hs3, hb3⟩ := info_parts Try.info3
  have HI3 : Hid (Try.prog.info? 3 = some i3 ∧ i3.zero = some (.int .i64 0) ∧ i3.size = 1 ∧ i3.bytes = 8) := ⟨hi3, hz3, hs3, hb3⟩
  obtain ⟨i0, hi0, hz0, hz1, hz2⟩ := info_parts Try.info57
  have HI0 := hid hi0
  have HI1 := hid hz0
  have HI2 := hid hz1
  have HI4 := hid hz2
  clear hi3 hz3 hs3 hb3 hi0 hz0 hz1 hz2
  have HO : Hid (OS w a cp c.ops A C) := H
  have HQ := hid hq
  have hcap := H.cap
  clear H hq
  obtain ⟨q, b, os⟩ := c
  simp only at *
  go_enter Try.func29, Try.ntmps29
  go_wp2
  go_loopw [4] (fun s wr => ∃ k : Nat, k ≤ os.length ∧ s = .int .i64 (k : Nat) ∧ ∃ v vs, CP w wr ⟨q, b, os⟩ a cp v (os.take k) vs) (fun s _ => os.length - (intOf s).toNat)
  case atStart =>
    refine ⟨0, Nat.zero_le _, rfl, .slice none 0 0, [], bal (bal (bal (Below.refl _ _) _) _) _, ((bk_new _ _ _).alloc _).alloc _, (bk_at _ _ (by simp)).alloc _, bk_at _ _ (by simp), OO.nil _ _⟩
  case round =>
    obtain ⟨k, hk, rfl, v, vs, hi⟩ := hrel
    obtain ⟨av, cv, rfl⟩ := hi.oo.shape
    have hlen : (os.take k).length = k := by rw [List.length_take]; omega
    rw [hlen] at hi
    have x1 : ∀ j, wr.cell? ⟨w.heap.size, j, none⟩ = _ := hi.b1.cell
    have x2 : ∀ j, wr.cell? ⟨w.heap.size + 1, j, none⟩ = _ := hi.b2.cell
    have x3 : ∀ j, wr.cell? ⟨w.heap.size + 1 + 1, j, none⟩ = _ := hi.b3.cell
    have y2 : ∀ j, wr.frozen? ⟨w.heap.size + 1, j, none⟩ = _ := hi.b2.free
    have y3 : ∀ j, wr.frozen? ⟨w.heap.size + 1 + 1, j, none⟩ = _ := hi.b3.free
    have z1 := hi.b1.lt
    have z2 := hi.b2.lt
    have z3 := hi.b3.lt
    have HI := hid hi
    by_cases hlt : k < os.length
    case neg =>
      obtain rfl : k = os.length := by omega
      clear hi
      go_wp2
      have b2 := ((HI.out.b2.set 0 (.int .i64 q)).set 1 (.int .i64 b)).set 2 (.slice av os.length cv)
      have O2 := HI.out.oo.other HI.out.b2 (by decide) (by decide) (gb_set (gb_set (gb_set (gb_refl wr (w.heap.size + 1)) (w.heap.size + 1) 0 (.int .i64 q) (.inl rfl)) (w.heap.size + 1) 1 (.int .i64 b) (.inl rfl)) (w.heap.size + 1) 2 (.slice av os.length cv) (.inl rfl))
      rw [List.take_length] at O2
      have c2 := b2.cell
      refine bodyPost_ret (v := civ ⟨q, b, os⟩ av cv) (by simp [results, Try.results29, go_sem, c2]) rfl ⟨av, cv, rfl, ⟨vs, O2⟩, ?_⟩
      exact bset (bset (bset HI.out.below _ _ _ (by omega)) _ _ _ (by omega)) _ _ _ (by omega)
    obtain ⟨b', o', rfl, r⟩ := (HO.out.below hi.below).at_ k hlt
    have hQ := (HO.out.below hi.below).qs k hlt
    have m0 := r.c0 k hlt
    have m1 := r.c1 k hlt
    have m2 := r.c2 k hlt
    have m3 := r.c3 k hlt
    have m4 := r.c4 k hlt
    have m5 := r.c5 k hlt
    have m6 := r.c6 k hlt
    have hbl := r.lt
    have hfit := hid (HO.out.fit k hlt)
    have hq1 := HQ.out k hlt
    have HT : Hid (os.take (k + 1) = os.take k ++ [os[k]]) := List.take_succ_eq_append_getElem hlt
    clear r hi
    generalize os[k] = o at *
    generalize A k = ak at *
    generalize C k = ck at *
    have HQ2 : Hid (∀ x y, QS ((wr.alloc x).alloc y) ak ck o.qs) := fun x y => hQ.below (bal (bal (Below.refl _ _) x) y)
    clear hQ
    go_wp2_with (at_builtin; refine Hid.out ?_)
    refine hid ?_
    refine wpList_ints rfl _ _ rfl HI3.out wr.heap.size _ 0 [] rfl (own_new (by simp) (by omega)) ak ck o.qs rfl (HQ2.out _ _) (by omega) (by simp; omega) ?_
    intro v6 w6 hown6 hgrow6 _
    rw [Nat.zero_add, List.nil_append] at hown6
    obtain ⟨a6, c6, rfl⟩ := own_shape hown6
    have hB6 : Below wr.heap.size wr w6 := (bal (bal (Below.refl _ _) _) _).grown hgrow6 (by simp; omega) (fun k e => by have e2 : wr.heap.size + 1 = k := Option.some.inj e; omega)
    have kb : BK w6 wr.heap.size _ 57 := (hgrow6.block _ (by simp; omega) (fun e => by have e2 : wr.heap.size = wr.heap.size + 1 := Option.some.inj e; omega)).trans ((bk_new wr #[.int .i64 o.k, .string o.n, .slice ak o.qs.length ck, .int .i64 o.b, .bool o.f, .int .u64 o.m, .int .u64 o.v] 57).alloc _)
    have kc : ∀ j, w6.cell? ⟨wr.heap.size, j, none⟩ = _ := kb.cell
    have kf : ∀ j, w6.frozen? ⟨wr.heap.size, j, none⟩ = _ := kb.free
    have i6 := HI.out.blw hB6
    have p3 : ∀ j, w6.cell? ⟨w.heap.size + 1 + 1, j, none⟩ = _ := i6.b3.cell
    have pf : ∀ j, w6.frozen? ⟨w.heap.size + 1 + 1, j, none⟩ = _ := i6.b3.free
    have n1 : wr.heap.size ≠ w.heap.size + 1 + 1 := by omega
    have n2 : w.heap.size + 1 + 1 ≠ wr.heap.size := by omega
    have l6 := kb.lt
    have l7 := i6.b3.lt
    have HB6 := hid hB6
    have HKB := hid kb
    have HO6 := hid hown6
    clear i6 hB6 hown6 hgrow6 kb m0 m1 m2 m3 m4 m5 m6 x1 x2 x3 y2 y3
    go_wp2_with (at_builtin; refine Hid.out ?_)
    refine hid ?_
    have kb : BK w6 wr.heap.size #[.int .i64 o.k, .string o.n, .slice ak o.qs.length ck, .int .i64 o.b, .bool o.f, .int .u64 o.m, .int .u64 o.v] 57 := HKB.out
    have hB7 := bal (bset HB6.out wr.heap.size 2 (.slice a6 o.qs.length c6) (Nat.le_refl _)) (.cells #[.int .i64 o.k, .string o.n, .slice a6 o.qs.length c6, .int .i64 o.b, .bool o.f, .int .u64 o.m, .int .u64 o.v] 57)
    have hq7 := own_mono (own_below (own_kept HO6.out (gb_set (gb_refl w6 wr.heap.size) wr.heap.size 2 (.slice a6 o.qs.length c6) (.inl rfl)) (own_ne HO6.out kb (by decide))) (bal (Below.refl _ _) (.cells #[.int .i64 o.k, .string o.n, .slice a6 o.qs.length c6, .int .i64 o.b, .bool o.f, .int .u64 o.m, .int .u64 o.v] 57))) HI.out.below.size
    have hrow := (HI.out.blw hB7).oo.own
    rw [hlen] at hrow
    refine wpList_append_own_at _ rfl _ _ 22 rfl w.heap.size 57 i0 _ 7 80 Try.underlying22 HI0.out HI1.out HI2.out HI4.out rfl (by decide) _ _ _ rfl hrow ⟨w6.heap.size, 0, none⟩ 1 1 (opc o a6 c6) rfl rfl (new_op _ _ (by simp [World.setCell]) o _ _) (one_op o _ _) (by unfold maxLen; omega) (by omega) (by have := hB7.size; omega) ?_
    intro v8 w8 hown8 hgrow8 _ _
    obtain ⟨hN, p6⟩ := HI.out.next hfit.out hB7 hq7 (by rw [hlen]; exact hown8) hgrow8
    obtain ⟨a8, c8, rfl⟩ := own_shape hown8
    have p8 : ∀ j, w8.cell? ⟨w.heap.size + 1 + 1, j, none⟩ = _ := p6.cell
    have pf8 : ∀ j, w8.frozen? ⟨w.heap.size + 1 + 1, j, none⟩ = _ := p6.free
    have HN := hid hN
    clear hN p6 hgrow8 hown8 hrow hq7 hB7 kb
    go_wp2
    go_roundw
    case rel => exact ⟨k + 1, by omega, by simp, _, _, HT.out ▸ HN.out⟩
    case measure => first | (simp [intOf]; done) | (simp [intOf]; omega)
end Go.Proofs.Ytfaoegiignalkaa
