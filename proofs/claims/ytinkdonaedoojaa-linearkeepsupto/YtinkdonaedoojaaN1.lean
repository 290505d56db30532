/-
  What stands while some blocks turn; a row copied with two numbers more.
-/
import Derived.Test.YtinkdonaedoojaaS5
import Derived.Test.YtinkdonaedoojaaAH
namespace Go.Proofs.Ytinkdonaedoojaa
open Go.RowKit

/-- Rows that may be none at all, in a block between B and M. -/
def OQ (W : World) (B M : Nat) (a : Option Addr) (g n : Nat) (f : Nat → Nat) : Prop := n = 0 ∨ (a = some ⟨g, 0, none⟩ ∧ B ≤ g ∧ g < M ∧ OR W g n f)
theorem OQ.on {W W' : World} {B M g n : Nat} {a : Option Addr} {f : Nat → Nat} (h : OQ W B M a g n f) (hb : Below W.heap.size W W') : OQ W' B M a g n f := h.imp id fun ⟨e, h1, h2, h3⟩ => ⟨e, h1, h2, h3.on hb⟩
theorem oq_of {W : World} {B n : Nat} {a : Option Addr} {c : Nat} {f : Nat → Nat} (h : OS W B (.slice a n c) n f) : ∃ g, OQ W B W.heap.size a g n f ∧ n ≤ c ∧ c ≤ 9223372036854775807 := by
  obtain ⟨a', c', e, h1, h2, h3⟩ := h
  obtain ⟨rfl, rfl⟩ : a = a' ∧ c = c' := by simpa using e
  rcases h3 with h3 | ⟨g, e2, hg, hO⟩
  · exact ⟨0, .inl h3, h1, h2⟩
  · exact ⟨g, .inr ⟨e2, hg, hO.gl, hO⟩, h1, h2⟩
theorem OQ.rr {W : World} {B M g n c : Nat} {a : Option Addr} {f : Nat → Nat} (h : OQ W B M a g n f) (hc : n ≤ c) (hm : c ≤ 9223372036854775807) : RR W a n f := by
  rcases h with rfl | ⟨rfl, _, _, h⟩
  · exact ⟨fun i hi => absurd hi (Nat.not_lt_zero _), fun i hi => absurd hi (Nat.not_lt_zero _), Nat.zero_le _⟩
  · exact h.rr (by omega)
/-- Outside of S nothing has turned. -/
def Kx (S : Nat → Prop) (W W' : World) : Prop := W.heap.size ≤ W'.heap.size ∧ ∀ b, b < W.heap.size → ¬ S b → W'.heap[b]? = W.heap[b]?
section
variable {S : Nat → Prop} {W W' : World}
theorem Kx.refl (S : Nat → Prop) (W : World) : Kx S W W := ⟨Nat.le_refl _, fun _ _ _ => rfl⟩
theorem Kx.on {W2 : World} (h : Kx S W W') (hb : Below W'.heap.size W' W2) : Kx S W W2 := ⟨Nat.le_trans h.1 hb.size, fun b hl hs => (hb.block b (Nat.lt_of_lt_of_le hl h.1)).trans (h.2 b hl hs)⟩
theorem Kx.set (h : Kx S W W') {b : Nat} (hs : S b) (o : Nat) (v : Value) : Kx S W (W'.setCell ⟨b, o, none⟩ v) :=
  ⟨by have := h.1; simpa [World.setCell] using this, fun c hl hc => by
    have hne : c ≠ b := fun e => hc (e ▸ hs)
    rw [← h.2 c hl hc]
    simp [World.setCell, Array.getElem?_modify, Ne.symm hne]⟩
theorem Kx.bk {b : Nat} {cs : Array Value} {T : TypeId} (h : Kx S W W') (k : BK W b cs T) (hs : ¬ S b) : BK W' b cs T := (h.2 b k.lt hs).trans k
theorem Kx.or {g n : Nat} {f : Nat → Nat} (h : Kx S W W') (k : OR W g n f) (hs : ¬ S g) : OR W' g n f := k.of_block (h.2 g k.gl hs)
theorem Kx.oq {B M g n : Nat} {a : Option Addr} {f : Nat → Nat} (h : Kx S W W') (k : OQ W B M a g n f) (hs : B ≤ g → g < M → ¬ S g) : OQ W' B M a g n f :=
  k.imp id fun ⟨e, h1, h2, h3⟩ => ⟨e, h1, h2, h.or h3 (hs h1 h2)⟩
theorem cell_of_block {b o : Nat} (e : W'.heap[b]? = W.heap[b]?) : W'.cell? ⟨b, o, none⟩ = W.cell? ⟨b, o, none⟩ := by
  unfold World.cell?
  simp only [e]
theorem frozen_of_block {b o : Nat} (e : W'.heap[b]? = W.heap[b]?) : W'.frozen? ⟨b, o, none⟩ = W.frozen? ⟨b, o, none⟩ := by
  unfold World.frozen?
  simp only [e]
theorem Kx.oz {B : Nat} {v : Value} {l : List (Nat × Nat)} (h : Kx S W W') (k : OZ W B v l) (hs : ∀ b, B ≤ b → ¬ S b) : OZ W' B v l := by
  obtain ⟨a, c, A, C, e, h1, h2, h3, h4⟩ := k.ex
  refine ⟨a, c, A, C, e, h1, h2, fun i hi => ?_, fun i hi => ?_⟩
  · obtain ⟨g, e, hB, ⟨cs, hk⟩, hc⟩ := h3 i hi
    exact ⟨g, e, hB, ⟨cs, h.bk hk (hs g hB)⟩, fun t u hu => (cell_of_block (h.2 g hk.lt (hs g hB))).trans (hc t u hu)⟩
  · obtain ⟨hC, b, e, hB, ⟨cs, hk⟩, c0, c1, hf⟩ := h4 i hi
    have eb := h.2 b hk.lt (hs b hB)
    exact ⟨hC, b, e, hB, ⟨cs, h.bk hk (hs b hB)⟩, (cell_of_block eb).trans c0, (cell_of_block eb).trans c1, fun k => (frozen_of_block eb).trans (hf k)⟩
end
/-- Gates whose qubits may be written: only their places are told. -/
structure SZ (W : World) (B M : Nat) (a : Option Addr) (L c : Nat) : Prop where
  hc : L ≤ c
  hm : c ≤ 9223372036854775807
  ex : ∃ (g : Nat) (A C : Nat → Nat), ∀ i, i < L → a = some ⟨g, 0, none⟩ ∧ W.cell? ⟨g, i * 7 + 2, none⟩ = some (.slice (some ⟨A i, 0, none⟩) 2 (C i)) ∧ 2 ≤ C i ∧ B ≤ A i ∧ A i < M ∧ B ≤ g ∧ g < M ∧ (∃ cs, BK W g cs 58) ∧ ∃ cs : Array Value, 2 ≤ cs.size ∧ BK W (A i) cs 3
theorem sz_of {W : World} {B c : Nat} {a : Option Addr} {l : List (Nat × Nat)} (h : OZ W B (.slice a l.length c) l) : SZ W B W.heap.size a l.length c := by
  obtain ⟨a', c', A, C, e, h1, h2, h3, h4⟩ := h.ex
  obtain ⟨rfl, rfl⟩ : a = a' ∧ c = c' := by simpa using e
  refine ⟨h1, h2, ?_⟩
  rcases Nat.eq_zero_or_pos l.length with h0 | h0
  · exact ⟨0, fun _ => 0, fun _ => 0, fun i hi => by omega⟩
  · obtain ⟨g, ea, hBg, hk, _⟩ := h3 0 h0
    have key : ∀ i, i < l.length → ∃ b, W.cell? ⟨g, i * 7 + 2, none⟩ = some (.slice (some ⟨b, 0, none⟩) 2 (C i)) ∧ 2 ≤ C i ∧ B ≤ b ∧ b < W.heap.size ∧ ∃ cs : Array Value, 2 ≤ cs.size ∧ BK W b cs 3 := fun i hi => by
      obtain ⟨g2, ea2, _, _, hcell⟩ := h3 i hi
      obtain rfl : g = g2 := by
        rw [ea] at ea2
        cases ea2
        rfl
      obtain ⟨hC, b, eA, hB, ⟨cs, hb⟩, c0, c1, _⟩ := h4 i hi
      refine ⟨b, ?_, hC, hB, hb.lt, cs, ?_, hb⟩
      · have := hcell 2 _ rfl
        rw [eA] at this
        exact this
      · rw [hb.cell 1] at c1
        have := (Array.getElem?_eq_some_iff.1 c1).1
        omega
    refine ⟨g, fun i => if h : i < l.length then (key i h).choose else 0, C, fun i hi => ?_⟩
    simp only [dif_pos hi]
    obtain ⟨k1, k2, k3, k4, k5⟩ := (key i hi).choose_spec
    exact ⟨ea, k1, k2, k3, k4, hBg, hk.choose_spec.lt, hk, k5⟩
theorem SZ.kx {S : Nat → Prop} {W W' : World} {B M L c : Nat} {a : Option Addr} (h : SZ W B M a L c) (k : Kx S W W') (hs : ∀ b, B ≤ b → b < M → ¬ S b) : SZ W' B M a L c := by
  obtain ⟨h1, h2, g, A, C, h3⟩ := h
  refine ⟨h1, h2, g, A, C, fun i hi => ?_⟩
  obtain ⟨ea, e1, e2, e3, e4, e5, e6, ⟨cs, e7⟩, cs2, e8, e9⟩ := h3 i hi
  exact ⟨ea, (cell_of_block (k.2 g e7.lt (hs g e5 e6))).trans e1, e2, e3, e4, e5, e6, ⟨cs, k.bk e7 (hs g e5 e6)⟩, cs2, e8, k.bk e9 (hs _ e3 e4)⟩
theorem SZ.on {W W' : World} {B M L c : Nat} {a : Option Addr} (h : SZ W B M a L c) (hb : Below W.heap.size W W') : SZ W' B M a L c :=
  h.kx (S := fun _ => False) ((Kx.refl _ W).on hb) (fun _ _ _ => id)
theorem bk_kind {W : World} {b : Nat} {cs ds : Array Value} {T U : TypeId} (h : BK W b cs T) (k : BK W b ds U) : T = U := by
  have h : W.heap[b]? = some (.cells cs T (0, 0)) := h
  rw [k] at h
  cases h
  rfl
/-- A qubit written. -/
theorem SZ.put {W : World} {B M L c b o : Nat} {a : Option Addr} {cs : Array Value} (h : SZ W B M a L c) (k : BK W b cs 3) (x : Value) : SZ (W.setCell ⟨b, o, none⟩ x) B M a L c := by
  obtain ⟨h1, h2, g, A, C, h3⟩ := h
  refine ⟨h1, h2, g, A, C, fun i hi => ?_⟩
  obtain ⟨ea, e1, e2, e3, e4, e5, e6, ⟨cs1, e7⟩, cs2, e8, e9⟩ := h3 i hi
  have hg : b ≠ g := fun e => by
    subst e
    exact absurd (bk_kind k e7) (by decide)
  refine ⟨ea, ?_, e2, e3, e4, e5, e6, ⟨cs1, e7.far hg o x⟩, ?_⟩
  · rw [(e7.far hg o x).cell, ← e7.cell]
    exact e1
  · by_cases e : b = A i
    · subst e
      exact ⟨_, by rw [Array.size_setIfInBounds]; exact e8, e9.set o x⟩
    · exact ⟨cs2, e8, e9.far e o x⟩
/-- The numbers f, and 71 and 72 behind them. -/
def f2 (n : Nat) (f : Nat → Nat) : Nat → Nat := fun i => if i < n then f i else if i = n then 71 else 72
theorem xsl_f2 (n : Nat) (f : Nat → Nat) : xsl (n + 2) (f2 n f) = xsl n f ++ [.int .u64 71, .int .u64 72] := by
  rw [show n + 2 = n + 1 + 1 from rfl, xsl_succ, xsl_succ]
  have e1 : f2 n f n = 71 := by unfold f2; rw [if_neg (by omega), if_pos rfl]
  have e2 : f2 n f (n + 1) = 72 := by unfold f2; rw [if_neg (by omega), if_neg (by omega)]
  rw [e1, e2, List.append_assoc]
  congr 1
  unfold xsl
  refine List.map_congr_left fun i hi => ?_
  have := List.mem_range.1 hi
  unfold f2
  rw [if_pos this]
theorem f2_lt {n : Nat} {f : Nat → Nat} (h : ∀ i, i < n → f i < 18446744073709551616) : ∀ i, i < n + 2 → f2 n f i < 18446744073709551616 := fun i hi => by
  unfold f2
  split
  · exact h i (by assumption)
  · split <;> omega
/-- append([]uint64{}, s...): s may be nil; the row is told. -/
theorem app_row {W : World} {n : Nat} {f : Nat → Nat} {ao : Option Addr} {c : Nat} {ops : Array Oper} {rest : List Oper} {o : Oper} {a : Act} {Q : Exit → Act → World → Prop}
    (hg : o.guard = none) (s x : Operand) (hop : o.op = Op.call { callee := Callee.builtin Builtin.append, args := #[s, x], argTypes := #[22, 22] })
    (hs : a.eval s = .slice (some ⟨W.heap.size, 0, none⟩) 0 0) (hx : a.eval x = .slice ao n c) (H : RR W ao n f) (hn : n ≤ 1048576)
    (hK : ∀ v' w', w'.ownsRow W.heap.size 25 1 v' n (xsl n f) → Below W.heap.size W w' → wpList Try.prog ops Q rest (a.put o.dst v') w') :
    wpList Try.prog ops Q (o :: rest) a (W.alloc (.cells #[] 25)) := by
  obtain ⟨i7, hi7, hz7, hs7, hb7⟩ := info_parts Try.info25
  have H2 := H.below (bal (Below.refl W.heap.size W) (.cells #[] 25))
  cases ao with
  | none =>
    have h0 : n = 0 := by
      rcases Nat.eq_zero_or_pos n with h | h
      · exact h
      · obtain ⟨_, _, e, _⟩ := H.at_ 0 h
        cases e
    subst h0
    refine wpList_plain hg fun K hK' => ?_
    have hrun := run_app_nil (W.alloc (.cells #[] 25)) o.type ⟨W.heap.size, 0, none⟩ 0 0 c (Nat.le_refl _)
    unfold Oper.wp
    simp [execOp, hop, resolve, invoke, builtin, hs, hx, hrun, Result.andThen]
    exact hK' _ _ (hK _ _ (own_empty25 W) (bal (Below.refl _ _) _))
  | some ad =>
    refine wpList_append_own_at _ hg s x 22 hop W.heap.size 25 i7 _ 1 8 Try.underlying22 hi7 hz7 hs7 hb7 rfl (by decide) _ 0 [] hs (own_empty25 W) ad n c (xsl n f) hx (by rw [xsl_len, Nat.mul_one]) (fun j u hu => ?_) (xsl_one n f) (by unfold maxLen; omega) (by omega) (bal (Below.refl _ _) _).size ?_
    · have hj : j < n := by
        have := (List.getElem?_eq_some_iff.1 hu).1
        rwa [xsl_len] at this
      obtain ⟨b1, o1, e1, h1, _⟩ := H2.at_ j hj
      cases e1
      rw [xsl_get n f j hj] at hu
      rw [WideShapes.add_plain, ← Option.some.inj hu]
      exact h1
    · intro v6 w6 hown6 hgrow6 _ _
      rw [Nat.zero_add, List.nil_append] at hown6
      exact hK v6 w6 hown6 (below_own (bal (Below.refl W.heap.size W) _) (own_empty25 W) hgrow6)
/-- Two numbers put behind the row. -/
theorem app_two {W V : World} {n : Nat} {f : Nat → Nat} {v : Value} {ops : Array Oper} {rest : List Oper} {o : Oper} {a : Act} {Q : Exit → Act → World → Prop}
    (hg : o.guard = none) (s x : Operand) (hop : o.op = Op.call { callee := Callee.builtin Builtin.append, args := #[s, x], argTypes := #[22, 22] })
    (hs : a.eval s = v) (hx : a.eval x = .slice (some ⟨V.heap.size, 0, none⟩) 2 2) (hO : V.ownsRow W.heap.size 25 1 v n (xsl n f)) (hB : Below W.heap.size W V) (hn : n ≤ 1048576) (hf : ∀ i, i < n → f i < 18446744073709551616)
    (hK : ∀ g cg w', W.heap.size ≤ g → OR w' g (n + 2) (f2 n f) → n + 2 ≤ cg → cg ≤ 9223372036854775807 → Below W.heap.size W w' → wpList Try.prog ops Q rest (a.put o.dst (.slice (some ⟨g, 0, none⟩) (n + 2) cg)) w') :
    wpList Try.prog ops Q (o :: rest) a (V.alloc (.cells #[.int .u64 71, .int .u64 72] 25)) := by
  obtain ⟨i7, hi7, hz7, hs7, hb7⟩ := info_parts Try.info25
  have hA := bal (Below.refl V.heap.size V) (.cells #[.int .u64 71, .int .u64 72] 25)
  have hO2 := own_below hO hA
  have kN := bk_new V #[.int .u64 71, .int .u64 72] 25
  refine wpList_append_own_at _ hg s x 22 hop W.heap.size 25 i7 _ 1 8 Try.underlying22 hi7 hz7 hs7 hb7 rfl (by decide) _ n (xsl n f) hs hO2 ⟨V.heap.size, 0, none⟩ 2 2 [.int .u64 71, .int .u64 72] hx rfl (fun j u hu => ?_) (by intro u hu; simp at hu; rcases hu with rfl | rfl <;> rfl) (by unfold maxLen; omega) (by omega) (Nat.le_trans hB.size hA.size) ?_
  · rw [WideShapes.add_plain, Nat.zero_add, kN.cell]
    match j, hu with
    | 0, hu => exact hu
    | 1, hu => exact hu
  · intro v6 w6 hown6 hgrow6 _ _
    rw [← xsl_f2] at hown6
    obtain ⟨a', c', e, h1, h2, h3⟩ := os_own hown6 (f2_lt hf)
    rcases h3 with h3 | ⟨g, rfl, hg2, hOR⟩
    · omega
    · subst e
      exact hK g c' w6 hg2 hOR h1 h2 (below_own (btr hB hA) hO2 hgrow6)
end Go.Proofs.Ytinkdonaedoojaa
