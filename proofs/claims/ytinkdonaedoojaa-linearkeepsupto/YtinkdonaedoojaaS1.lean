/-
  A row added to another one, kept as a gate.
-/
import Derived.Test.YtinkdonaedoojaaAI
import Derived.Test.YtinkdonaedoojaaCI
namespace Go.Proofs.Ytinkdonaedoojaa
open Go.RowKit

theorem Try.underlying48 : Try.prog.underlying 48 = some (.slice 58) := by kernel_rfl
/-- The gate cx of two qubits. -/
abbrev cxo (p : Nat × Nat) : CL.Oq := ⟨1, ⟨#[99, 120]⟩, [(p.1 : Int), (p.2 : Int)], 0, false, 0, 0⟩
theorem cxo_fit (p : Nat × Nat) : CL.Fit (cxo p) :=
  ⟨by show (0 : Int) ≤ 0; omega, by show (0 : Int) ≤ 18446744073709551615; omega, by show (0 : Int) ≤ 0; omega, by show (0 : Int) ≤ 18446744073709551615; omega, by show 2 ≤ 9223372036854775807; omega⟩
/-- Gates cx in memory of one's own. -/
def OC (W : World) (B : Nat) (v : Value) (l : List (Nat × Nat)) : Prop := ∃ vs, CL.OO W B v (l.map cxo) vs
theorem OC.on {W W' : World} {B : Nat} {v : Value} {l : List (Nat × Nat)} (h : OC W B v l) (hb : Below W.heap.size W W') : OC W' B v l := by
  obtain ⟨vs, h⟩ := h
  exact ⟨vs, h.below hb⟩
theorem OC.far {W : World} {B b o T : Nat} {v x : Value} {l : List (Nat × Nat)} {cs : Array Value} (h : OC W B v l) (K : BK W b cs T) (h1 : T ≠ 58) (h2 : T ≠ 3) : OC (W.setCell ⟨b, o, none⟩ x) B v l := by
  obtain ⟨vs, h⟩ := h
  refine ⟨vs, h.kept (gb_set (gb_refl W b) b o x (.inl rfl)) (fun g e cs' => ?_)⟩
  cases e
  have k : W.heap[b]? = some (.cells cs T (0, 0)) := K
  rw [k]
  exact ⟨fun e => by cases e; exact h1 rfl, fun e => by cases e; exact h2 rfl⟩
/-- A descent: its rows at g, its gates. -/
structure DS (W : World) (B d g n c : Nat) (f : Nat → Nat) (l : List (Nat × Nat)) : Prop where
  bx : ∃ v, BK W d #[.slice (some ⟨g, 0, none⟩) n c, v] 79 ∧ OC W B v l
  rows : OR W g n f
  hd : B ≤ d
  hg : B ≤ g
/-- What a descent's steps leave as it was. -/
def F3 (B : Nat) (w w' : World) : Prop := w.heap.size ≤ w'.heap.size ∧ (∀ W : World, W.heap.size ≤ B → Below W.heap.size W w → Below W.heap.size W w') ∧ ∀ b cs T, T ≠ 25 → T ≠ 79 → T ≠ 58 → T ≠ 3 → BK w b cs T → BK w' b cs T
theorem F3.refl (B : Nat) (w : World) : F3 B w w := ⟨Nat.le_refl _, fun _ _ h => h, fun _ _ _ _ _ _ _ h => h⟩
theorem F3.trans {B : Nat} {w w1 w2 : World} (h : F3 B w w1) (g : F3 B w1 w2) : F3 B w w2 := ⟨Nat.le_trans h.1 g.1, fun W a b => g.2.1 W a (h.2.1 W a b), fun b cs T a1 a2 a3 a4 k => g.2.2 b cs T a1 a2 a3 a4 (h.2.2 b cs T a1 a2 a3 a4 k)⟩
theorem F3.of {B : Nat} {w w' : World} (h : Below w.heap.size w w') : F3 B w w' := ⟨h.size, fun _ _ hb => btr hb h, fun _ _ _ _ _ _ _ k => bk_on k h⟩
theorem F3.set {B b o : Nat} {w : World} {cs : Array Value} {T : Nat} (x : Value) (K : BK w b cs T) (hT : T = 25 ∨ T = 79) (hb : B ≤ b) : F3 B w (w.setCell ⟨b, o, none⟩ x) :=
  ⟨by simp [World.setCell], fun W hW h => h.setCell (p := ⟨b, o, none⟩) (Nat.le_trans hW hb) x, fun b' cs' T' a1 a2 a3 a4 k => k.far (fun e => by
    subst e
    have k1 : w.heap[b]? = some (.cells cs T (0, 0)) := K
    have k2 : w.heap[b]? = some (.cells cs' T' (0, 0)) := k
    rw [k1] at k2
    cases k2
    rcases hT with rfl | rfl
    · exact a1 rfl
    · exact a2 rfl) _ _⟩
theorem OR.bk25 {W : World} {g n : Nat} {f : Nat → Nat} (h : OR W g n f) : ∃ cs, BK W g cs 25 := by
  obtain ⟨m, F, hm, ⟨c, hr, _⟩, he⟩ := h.row
  exact ⟨c, hr⟩
theorem own_new2 (W : World) (x y : Int) : (W.alloc (.cells #[.int .i64 x, .int .i64 y] 3)).ownsRow W.heap.size 3 1 (.slice (some ⟨W.heap.size, 0, none⟩) 2 2) 2 (CL.zl [x, y]) :=
  ⟨rfl, .inr ⟨W.heap.size, 2, #[.int .i64 x, .int .i64 y], rfl, Nat.le_refl _, heap_alloc_new W _, Nat.le_refl _, by unfold maxLen; omega, rfl, rfl⟩⟩
theorem F3.grown {B n : Nat} {w w' : World} {v : Value} {xs : List Value} (ho : w.ownsRow B 58 7 v n xs) (hg : w.grownBy w' v.ownBlock) : F3 B w w' :=
  ⟨hg.size, fun W hW h => ⟨hg.os.trans h.os, hg.tape.trans h.tape, hg.output.trans h.output, Nat.le_trans h.size hg.size, fun k hk => (hg.block k (Nat.lt_of_lt_of_le hk h.size) (fun e => by
    rcases ho.2 with ⟨rfl, _⟩ | ⟨g', cap, cur, rfl, hb, _⟩
    · cases e
    · have e : some k = some g' := e
      have := Option.some.inj e
      omega)).trans (h.block k hk)⟩, fun b cs T _ _ h58 _ k => (hg.block b k.lt (fun e => own_ne ho k (Ne.symm h58) b e.symm rfl)).trans k⟩
set_option maxHeartbeats 4000000 in
set_option maxRecDepth 100000 in
theorem dadd_any (n d g c B : Nat) (f : Nat → Nat) (l : List (Nat × Nat)) (p i : Nat) (w : World) (H : DS w B d g n c f l) (hp : p < n) (hi : i < n) (hl : l.length ≤ 5000) (hB : B ≤ w.heap.size) :
    Calls Try.prog 48 #[.pointer (some ⟨d, 0, none⟩), .int .i64 p, .int .i64 i] w fun e w' => e = .returned (.tuple #[]) ∧ DS w' B d g n c (adr f p i) (l ++ [(p, i)]) ∧ F3 B w w' := by
  obtain ⟨⟨v, K, OCv⟩, O, hBd, hBg⟩ := H
  obtain ⟨vs, hO⟩ := OCv
  obtain ⟨i8, hi8, hz8, hs8, hb8⟩ := info_parts CL.Try.info58
  have HI8 := hid hi8
  clear hi8
  obtain ⟨a1, c1, rfl⟩ := own_shape hO.own
  have d0 := K.cell
  have l0 := K.lt
  have x1 := O.cell hp
  have x2 := O.cell hi
  have x3 := O.free i
  have x4 := O.gl
  have b1 := O.lt i hi
  have b2 := O.lt p hp
  have hne : g ≠ d := O.bk K (by decide)
  have e1 := i_xor (f i) (f p) b1 b2
  have Ob := hid (O.set i (f i ^^^ f p) (xor_lt b1 b2)).drew
  have Kb := hid (BK.drew (K.far (c := g) hne i (.int .u64 ((f i ^^^ f p : Nat) : Int))))
  have Fb : Hid (F3 B w (w.setCell ⟨g, i, none⟩ (.int .u64 ((f i ^^^ f p : Nat) : Int))).drew) := by
    obtain ⟨cs, k⟩ := O.bk25
    exact (F3.set (.int .u64 ((f i ^^^ f p : Nat) : Int)) k (.inl rfl) hBg).trans (F3.of (below_drew (Below.refl _ _)))
  have hOb : Hid (CL.OO (w.setCell ⟨g, i, none⟩ (.int .u64 ((f i ^^^ f p : Nat) : Int))).drew B (.slice a1 (l.map cxo).length c1) (l.map cxo) vs) := by
    obtain ⟨cs, k⟩ := O.bk25
    refine (hO.kept (gb_set (gb_refl w g) g i (.int .u64 ((f i ^^^ f p : Nat) : Int)) (.inl rfl)) (fun g' e cs' => ?_)).below (below_drew (Below.refl _ _))
    cases e
    have k : w.heap[g]? = some (.cells cs 25 (0, 0)) := k
    rw [k]
    exact ⟨(fun e => by cases e), (fun e => by cases e)⟩
  have HLl : Hid ((l.map cxo).length ≤ 5000) := by show _ ≤ _; rw [List.length_map]; exact hl
  have HL1 : Hid ((l.map cxo).length = l.length) := List.length_map _
  have hBw : B ≤ w.heap.size := hB
  clear K O hO b1 b2
  generalize hos : l.map cxo = os at *
  have HOS := hid hos
  clear hos
  go_enter Try.func48, Try.ntmps48
  go_wp2
  go_region
  all_goals
    generalize (w.setCell ⟨g, i, none⟩ (.int .u64 ((f i ^^^ f p : Nat) : Int))).drew = X at *
    clear d0 l0 x1 x2 x3 x4 e1
    have d0 := Kb.out.cell
    have l0 := Kb.out.lt
    go_wp2_with (at_builtin; refine Hid.out ?_)
    refine hid ?_
    have hBX : B ≤ X.heap.size := Nat.le_trans hBw Fb.out.1
    have hB2 := bal (bal (Below.refl X.heap.size X) (.cells #[.int .i64 (p : Int), .int .i64 (i : Int)] 3)) (.cells (CL.opc (cxo (p, i)) (some ⟨X.heap.size, 0, none⟩) 2).toArray 58)
    have hO2 := hOb.out.below hB2
    have hq := own_below (own_mono (own_new2 X p i) hBX) (bal (Below.refl _ _) (.cells (CL.opc (cxo (p, i)) (some ⟨X.heap.size, 0, none⟩) 2).toArray 58))
    have hnew := CL.new_op (X.alloc (.cells #[.int .i64 (p : Int), .int .i64 (i : Int)] 3)) (X.heap.size + 1) (alz _ _).symm (cxo (p, i)) (some ⟨X.heap.size, 0, none⟩) 2
    have hLL := HLl.out
    refine wpList_append_own_at _ rfl _ _ 48 rfl B 58 i8 _ 7 80 Try.underlying48 HI8.out hz8 hs8 hb8 rfl (by decide) _ os.length (CL.opw os vs) rfl hO2.own _ 1 1 (CL.opc (cxo (p, i)) (some ⟨X.heap.size, 0, none⟩) 2) rfl rfl hnew (CL.one_op _ _ _) (by unfold maxLen; omega) (by omega) (Nat.le_trans hBX hB2.size) ?_
    intro v6 w6 hown6 hgrow6 _ _
    have hO6 := hid (hO2.put hq (cxo_fit (p, i)) hgrow6 hown6)
    have K6 := hid ((hgrow6.block d (bk_on Kb.out hB2).lt (fun e => own_ne hO2.own (bk_on Kb.out hB2) (by decide) d e.symm rfl)).trans (bk_on Kb.out hB2))
    have O6 : Hid (OR w6 g n (adr f p i)) := by
      have h2 := Ob.out.on hB2
      obtain ⟨cs, k⟩ := h2.bk25
      exact h2.of_block (hgrow6.block g h2.gl (fun e => own_ne hO2.own k (by decide) g e.symm rfl))
    have F6 := hid ((Fb.out.trans (F3.of hB2)).trans (F3.grown hO2.own hgrow6))
    obtain ⟨a6, c6, rfl⟩ := own_shape hown6
    clear hgrow6 hown6 hO2 hq hnew hB2 Kb Ob Fb hOb d0 l0
    have d0 : ∀ k, w6.cell? ⟨d, k, none⟩ = #[Value.slice (some ⟨g, 0, none⟩) n c, Value.slice a1 os.length c1][k]? := BK.cell K6.out
    have f0 : ∀ k, w6.frozen? ⟨d, k, none⟩ = false := BK.free K6.out
    have l0 : d < w6.heap.size := BK.lt K6.out
    go_wp2
    go_end0
    refine ⟨rfl, ⟨⟨_, BK.set K6.out 1 _, ?_⟩, O6.out.far (b := d) hne _, hBd, hBg⟩, F6.out.trans (F3.set _ K6.out (.inr rfl) hBd)⟩
    have hE : OC w6 B (.slice a6 (os.length + 1) c6) (l ++ [(p, i)]) := ⟨_, by rw [List.map_append, HOS.out]; exact hO6.out⟩
    exact hE.far K6.out (by decide) (by decide)
end Go.Proofs.Ytinkdonaedoojaa
