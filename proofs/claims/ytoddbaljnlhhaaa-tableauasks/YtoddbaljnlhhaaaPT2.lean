/-
  The bytes of a text: laws for the walks of both Texts.
-/
import Derived.Test.YtoddbaljnlhhaaaPT1
namespace Go.Proofs.Ytoddbaljnlhhaaa.PL
open Go.RowKit Go.Sort

/-- The slice v is new memory, behind W0, that holds these bytes. -/
structure TB (W0 : World) (v : Value) (l : List UInt8) (W : World) : Prop where
  ob : OB W W0.heap.size v l
  below : Below W0.heap.size W0 W
theorem OB.below {w w' : World} {base : Nat} {v : Value} {l : List UInt8} (h : OB w base v l) (hb : Below w.heap.size w w') : OB w' base v l := by
  have hlt := h.lt
  rcases h with h | ⟨g, cap, cur, fz, rfl, hbg, hg, r⟩
  · refine .inl ⟨h.1, ?_⟩
    rcases h.2 with h2 | ⟨g, cap, cur, rfl, hbg, hg, r⟩
    · exact .inl h2
    · exact .inr ⟨g, cap, cur, rfl, hbg, by rw [hb.block g (hlt g rfl).2]; exact hg, r⟩
  · exact .inr ⟨g, cap, cur, fz, rfl, hbg, by rw [hb.block g (hlt g rfl).2]; exact hg, r⟩
theorem TB.on {W0 W W' : World} {v : Value} {l : List UInt8} (h : TB W0 v l W) (hb : Below W.heap.size W W') : TB W0 v l W' := ⟨h.ob.below hb, btr h.below hb⟩
theorem TB.alloc {W0 W : World} {v : Value} {l : List UInt8} (h : TB W0 v l W) (o : Obj) : TB W0 v l (W.alloc o) := h.on (bal (Below.refl _ _) _)
theorem TB.drew {W0 W : World} {v : Value} {l : List UInt8} (h : TB W0 v l W) : TB W0 v l W.drew := ⟨h.ob, below_drew h.below⟩
theorem TB.nil (W : World) : TB W (.slice none 0 0) [] W := ⟨.inl (World.ownsRow_nil _ _ _ _), Below.refl _ _⟩
theorem TB.form {W0 W : World} {v : Value} {l : List UInt8} (h : TB W0 v l W) : ∃ a c, v = .slice a l.length c := by
  rcases h.ob with h | ⟨g, cap, cur, fz, rfl, _⟩
  · rcases h.2 with ⟨rfl, e⟩ | ⟨g, cap, cur, rfl, _⟩
    · exact ⟨none, 0, by rw [e]⟩
    · exact ⟨_, _, rfl⟩
  · exact ⟨_, _, rfl⟩
theorem add0 (b o : Nat) : (⟨b, o, none⟩ : Addr).add 0 = ⟨b, o, none⟩ := by unfold Addr.add; split <;> simp_all

/-- append(v, b), the byte in a block that has just been laid for it. -/
theorem wp_app {o : Oper} {a : Act} {K : Act → World → Prop} {Q : Exit → Act → World → Prop} (s x : Operand) (ho : o.op = .call { callee := .builtin .append, args := #[s, x], argTypes := #[89, 89] })
    (l : List UInt8) (v : Value) (W0 wr : World) (ht : TB W0 v l wr) (hs : a.eval s = v) (b : UInt8) (bI : Int) (hbI : bI = (b.toNat : Int)) (hx : a.eval x = .slice (some ⟨wr.heap.size, 0, none⟩) 1 1) (hl : l.length + 1 ≤ 1000)
    (h : ∀ v' w3, TB W0 v' (l ++ [b]) w3 → K (a.put o.dst v') w3) : o.wp Try.prog a (wr.alloc (.cells #[.int .u8 bI] 5)) K Q := by
  subst hbI
  have hsz := ht.below.size
  obtain ⟨g, cap, w', hr, h2, h3, _, _⟩ := (ht.alloc (.cells #[.int .u8 (b.toNat : Int)] 5)).ob.append o.type b ⟨wr.heap.size, 0, none⟩ 1 (World.cell?_alloc_at _ _ _ _ rfl) (add0 _ _) hl (by simp; omega)
  unfold Oper.wp execOp
  simp only [ho, resolve, invoke, builtin, Sem.run_bind, Sem.run_pure, Result.andThen_ok, List.map_toArray, List.map_cons, List.map_nil, hs, hx, hr]
  exact h _ w' ⟨h2, (ht.below.alloc ht.below.size _).grown h3 (by have := ht.below.size; simp; omega) (fun k e => (ht.ob.lt k e).1)⟩
theorem wpList_app {ops : Array Oper} {rest : List Oper} {o : Oper} {a : Act} {Q : Exit → Act → World → Prop} (hgd : o.guard = none) (s x : Operand) (ho : o.op = .call { callee := .builtin .append, args := #[s, x], argTypes := #[89, 89] })
    (l : List UInt8) (v : Value) (W0 wr : World) (ht : TB W0 v l wr) (hs : a.eval s = v) (b : UInt8) (bI : Int) (hbI : bI = (b.toNat : Int)) (hx : a.eval x = .slice (some ⟨wr.heap.size, 0, none⟩) 1 1) (hl : l.length + 1 ≤ 1000)
    (h : ∀ v' w3, TB W0 v' (l ++ [b]) w3 → wpList Try.prog ops Q rest (a.put o.dst v') w3) : wpList Try.prog ops Q (o :: rest) a (wr.alloc (.cells #[.int .u8 bI] 5)) :=
  wpList_plain hgd fun _ hK => wp_app s x ho l v W0 wr ht hs b bI hbI hx hl fun v' w3 h3 => hK _ _ (h v' w3 h3)
theorem step_app {ops : Array Oper} {o : Oper} {a : Act} {K : Act → World → Prop} {Q : Exit → Act → World → Prop} {E : Prop} (hgd : o.guard = none) (s x : Operand) (ho : o.op = .call { callee := .builtin .append, args := #[s, x], argTypes := #[89, 89] })
    (l : List UInt8) (v : Value) (W0 wr : World) (ht : TB W0 v l wr) (hs : a.eval s = v) (b : UInt8) (bI : Int) (hbI : bI = (b.toNat : Int)) (hx : a.eval x = .slice (some ⟨wr.heap.size, 0, none⟩) 1 1) (hl : l.length + 1 ≤ 1000)
    (h : ∀ v' w3, TB W0 v' (l ++ [b]) w3 → K (a.put o.dst v') w3) : if Region.wanted o (yielded ops a.tmps) = true then Oper.wp Try.prog o a (wr.alloc (.cells #[.int .u8 bI] 5)) K Q else E := by
  have hw : Region.wanted o (yielded ops a.tmps) = true := by simp [Region.wanted, hgd]
  rw [if_pos hw]
  exact wp_app s x ho l v W0 wr ht hs b bI hbI hx hl h
theorem strCells_is (l : List UInt8) : Lib.strCells ⟨l.toArray⟩ = bvals l := rfl
/-- append(nil, s...). -/
theorem wpList_app_text {ops : Array Oper} {rest : List Oper} {o : Oper} {a : Act} {Q : Exit → Act → World → Prop} (hgd : o.guard = none) (sl x : Operand) (ho : o.op = .call { callee := .builtin .append, args := #[sl, x], argTypes := #[89, 9] })
    (w : World) (l : List UInt8) (hs : a.eval sl = .slice none 0 0) (hx : a.eval x = .string ⟨l.toArray⟩) (hl : l.length ≤ 1000)
    (h : ∀ v' w3, TB w v' l w3 → wpList Try.prog ops Q rest (a.put o.dst v') w3) : wpList Try.prog ops Q (o :: rest) a w := by
  obtain ⟨i, hi, hz0, hz1, hz2⟩ := info_parts Try.info5
  have hsz : (⟨l.toArray⟩ : ByteArray).size = l.length := rfl
  refine Lib.wpList_append_own_string w hgd sl x 89 9 ho w.heap.size 5 i Try.underlying89 Try.underlying9 hi hz0 hz1 hz2 (.slice none 0 0) 0 [] hs (World.ownsRow_nil _ _ _ _) ⟨l.toArray⟩ hx (by rw [hsz]; unfold maxLen; omega) (by rw [hsz]; omega) (Nat.le_refl _) ?_
  intro v' w' h2 h3 _
  rw [hsz, Nat.zero_add, strCells_is, List.nil_append] at h2
  exact h v' w' ⟨.inl h2, (Below.refl _ _).grown h3 (Nat.le_refl _) (fun k e => by simp [Value.ownBlock] at e)⟩
/-- []byte(s). -/
theorem conv_tb (l : List UInt8) (hl : l.length ≤ 1000) (w : World) : ∃ v W, (convert 9 89 (.string ⟨l.toArray⟩)).run Try.prog w = .ok v W ∧ TB w v l W := by
  have hsz : (⟨l.toArray⟩ : ByteArray).size = l.length := rfl
  have hr := run_bytes_of_string (P := Try.prog) w 9 89 5 ⟨l.toArray⟩ Try.underlying9 Try.underlying89 Try.underlying5
  have hge := grownCap_ge w (⟨l.toArray⟩ : ByteArray).size 0 5
  have hbs : (bytesRow ⟨l.toArray⟩ (grownCap w (⟨l.toArray⟩ : ByteArray).size 0 5)).size = grownCap w (⟨l.toArray⟩ : ByteArray).size 0 5 := by
    unfold bytesRow
    simp only [Array.size_append, Array.size_map, Array.size_replicate]
    rw [hsz] at *
    simp
    omega
  refine ⟨_, _, hr, .inr ⟨w.heap.size, grownCap w (⟨l.toArray⟩ : ByteArray).size 0 5, _, _, rfl, Nat.le_refl _, heap_alloc_new w.drew _, by rw [hbs]; exact Nat.le_refl _, hge, grownCap_le_maxLen _ _ _ _ (by rw [hsz]; unfold maxLen; omega), hbs, ?_⟩, (below_drew (Below.refl _ _)).alloc (Nat.le_refl _) _⟩
  unfold bytesRow
  rw [Array.toList_append]
  have : (Array.map (fun b : UInt8 => Value.int .u8 (b.toNat : Int)) (⟨l.toArray⟩ : ByteArray).data).toList = bvals l := by simp [bvals]
  rw [this, ← bvals_len l]
  exact List.take_left
/-- string(v). -/
theorem conv_back {W0 W : World} {v : Value} {l : List UInt8} (h : TB W0 v l W) (hl : 0 < l.length) : (convert 89 9 v).run Try.prog W = .ok (.string ⟨l.toArray⟩) W := by
  obtain ⟨a, c, rfl⟩ := h.form
  rcases h.ob.cells with ⟨rfl, _⟩ | ⟨g, rfl, _, hc⟩
  · simp at hl
  · exact run_convert_bytes_back (P := Try.prog) W 89 9 5 ⟨g, 0, none⟩ c l Try.underlying89 Try.underlying5 Try.underlying9 hc

/-! ### The text -/
def signL (f : Nat) : List UInt8 := if f = 0 then [43] else if f = 1 then [43, 105] else if f = 2 then [45] else [45, 105]
theorem signL_len (f : Nat) : 0 < (signL f).length ∧ (signL f).length ≤ 2 := by unfold signL; repeat (first | decide | split)
def letK (k : Nat) : UInt8 := if k = 0 then 73 else if k = 1 then 88 else if k = 2 then 89 else 90
/-- The letters of the m highest of n qubits, the highest first. -/
def lts (x z n : Nat) : Nat → List UInt8
  | 0 => []
  | m + 1 => lts x z n m ++ [letK (atK (bt x (n - 1 - m)) (bt z (n - 1 - m)))]
theorem lts_len (x z n m : Nat) : (lts x z n m).length = m := by
  induction m with
  | zero => rfl
  | succ m ih => simp [lts, ih]
def PS.text (p : PS) : List UInt8 := signL p.f ++ lts p.x p.z p.n p.n
theorem PS.text_len (p : PS) : 0 < p.text.length := by unfold PS.text; have := signL_len p.f; simp; omega

end Go.Proofs.Ytoddbaljnlhhaaa.PL
