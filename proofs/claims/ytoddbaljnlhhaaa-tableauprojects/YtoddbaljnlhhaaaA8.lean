/-
  tableau: rows of one's own; slices.Clone.
-/
import Derived.Test.YtoddbaljnlhhaaaXE
namespace Go.Proofs.Ytoddbaljnlhhaaa
open Go.RowKit Go.Sort
open PL (pv PS bt)

/-- The cells of rows. -/
def prz (rs : List Pr) : List Value := rs.flatMap Pr.cs
theorem prz_cons (r : Pr) (rs : List Pr) : prz (r :: rs) = r.cs ++ prz rs := rfl
theorem prz_app (a b : List Pr) : prz (a ++ b) = prz a ++ prz b := List.flatMap_append
theorem prz_len : ∀ rs : List Pr, (prz rs).length = rs.length * 4
  | [] => rfl
  | r :: rs => by
    rw [prz_cons, List.length_append, prz_len rs]
    show 4 + rs.length * 4 = (rs.length + 1) * 4
    omega
theorem prz_one (rs : List Pr) : ∀ u ∈ prz rs, u.oneCell' = true := fun u hu => by
  obtain ⟨r, _, hu⟩ := List.mem_flatMap.1 hu
  simp [Pr.cs] at hu
  rcases hu with rfl | rfl | rfl | rfl <;> rfl
theorem prz_at (rs : List Pr) (j : Nat) (h : j < rs.length) : (prz rs)[j * 4]? = some (.int .i64 rs[j].n) ∧ (prz rs)[j * 4 + 1]? = some (.int .u64 (rs[j].x : Int)) ∧ (prz rs)[j * 4 + 2]? = some (.int .u64 (rs[j].z : Int)) ∧ (prz rs)[j * 4 + 3]? = some (.int .i64 rs[j].f) := by
  induction rs generalizing j with
  | nil => exact absurd h (Nat.not_lt_zero _)
  | cons r rs ih =>
    rw [prz_cons]
    cases j with
    | zero => exact ⟨rfl, rfl, rfl, rfl⟩
    | succ j =>
      have h4 : r.cs.length = 4 := rfl
      have := ih j (by rw [List.length_cons] at h; omega)
      refine ⟨?_, ?_, ?_, ?_⟩
      · rw [List.getElem?_append_right (by rw [h4]; omega), h4, show (j + 1) * 4 - 4 = j * 4 by omega]; exact this.1
      · rw [List.getElem?_append_right (by rw [h4]; omega), h4, show (j + 1) * 4 + 1 - 4 = j * 4 + 1 by omega]; exact this.2.1
      · rw [List.getElem?_append_right (by rw [h4]; omega), h4, show (j + 1) * 4 + 2 - 4 = j * 4 + 2 by omega]; exact this.2.2.1
      · rw [List.getElem?_append_right (by rw [h4]; omega), h4, show (j + 1) * 4 + 3 - 4 = j * 4 + 3 by omega]; exact this.2.2.2
theorem rp_cells {W : World} {b o : Nat} {rs : List Pr} (h : RP W b o rs) : ∀ j u, (prz rs)[j]? = some u → W.cell? ((⟨b, o, none⟩ : Addr).add j) = some u := fun j u hj => by
  have hl : j < rs.length * 4 := by
    have := (List.getElem?_eq_some_iff.1 hj).1
    rwa [prz_len] at this
  have hk : j / 4 < rs.length := by omega
  obtain ⟨e0, e1, e2, e3⟩ := prz_at rs (j / 4) hk
  rw [WideShapes.add_plain]
  have hm : j % 4 = 0 ∨ j % 4 = 1 ∨ j % 4 = 2 ∨ j % 4 = 3 := by omega
  rcases hm with hm | hm | hm | hm
  · have e : j = j / 4 * 4 := by omega
    rw [e, e0] at hj
    rw [← Option.some.inj hj, show o + j = o + j / 4 * 4 by omega]
    exact h.c0 (j / 4) hk
  · have e : j = j / 4 * 4 + 1 := by omega
    rw [e, e1] at hj
    rw [← Option.some.inj hj, show o + j = o + j / 4 * 4 + 1 by omega]
    exact h.c1 (j / 4) hk
  · have e : j = j / 4 * 4 + 2 := by omega
    rw [e, e2] at hj
    rw [← Option.some.inj hj, show o + j = o + j / 4 * 4 + 2 by omega]
    exact h.c2 (j / 4) hk
  · have e : j = j / 4 * 4 + 3 := by omega
    rw [e, e3] at hj
    rw [← Option.some.inj hj, show o + j = o + j / 4 * 4 + 3 by omega]
    exact h.c3 (j / 4) hk
/-- Rows of one's own. -/
structure OT (W : World) (B : Nat) (v : Value) (rs : List Pr) : Prop where
  own : W.ownsRow B 27 4 v rs.length (prz rs)
  w64 : ∀ k (h : k < rs.length), rs[k].w64
  l : rs.length ≤ 1000
theorem OT.ts {W : World} {B : Nat} {v : Value} {rs : List Pr} (h : OT W B v rs) : ∃ a c, v = .slice a rs.length c ∧ TS W a c rs := by
  rcases h.own.2 with ⟨rfl, hn⟩ | ⟨g, cap, cur, rfl, hb, hheap, hnc, hcm, hx, hy⟩
  · obtain rfl : rs = [] := List.eq_nil_of_length_eq_zero hn
    exact ⟨none, 0, rfl, TS.nil _ _ _ (by omega)⟩
  · refine ⟨some ⟨g, 0, none⟩, cap, rfl, hnc, fun k hk => ⟨g, 0, rfl, ?_⟩, h.w64, by unfold maxLen at hcm; omega⟩
    obtain ⟨g', cap', e, _, _, hcell, _, hlt⟩ := own_at h.own (show 0 < rs.length by omega)
    cases e
    have get : ∀ j x, (prz rs)[j]? = some x → W.cell? ⟨g, j, none⟩ = some x := fun j x e => by
      have hj : j < (prz rs).length := (List.getElem?_eq_some_iff.1 e).1
      rw [List.getElem?_eq_getElem hj] at e
      rw [hcell j hj, Option.some.inj e]
    refine ⟨fun j hj => ?_, fun j hj => ?_, fun j hj => ?_, fun j hj => ?_, hlt⟩
    all_goals
      obtain ⟨e0, e1, e2, e3⟩ := prz_at rs j hj
      rw [Nat.zero_add]
      first | exact get _ _ e0 | exact get _ _ e1 | exact get _ _ e2 | exact get _ _ e3
theorem OT.below {W W' : World} {B : Nat} {v : Value} {rs : List Pr} (h : OT W B v rs) (hb : Below W.heap.size W W') : OT W' B v rs := ⟨own_below h.own hb, h.w64, h.l⟩
abbrev zPr : Value := .agg #[.int .i64 0, .int .u64 0, .int .u64 0, .int .i64 0]
theorem Try.info27 : (Try.prog.info? 27).map (fun i => (i.zero, i.size, i.bytes)) = some (some zPr, 4, 32) := by kernel_rfl
theorem own_emptyP (w : World) : (w.alloc (.cells #[] 27)).ownsRow w.heap.size 27 4 (.slice (some ⟨w.heap.size, 0, none⟩) 0 0) 0 [] :=
  ⟨rfl, .inr ⟨w.heap.size, 0, #[], rfl, Nat.le_refl _, heap_alloc_new w _, Nat.le_refl _, by unfold maxLen; omega, rfl, rfl⟩⟩
theorem Try.underlying22 : Try.prog.underlying 22 = some (.slice 27) := by kernel_rfl
theorem below_own {w W W' : World} {T c n : Nat} {v : Value} {xs : List Value} (h : Below w.heap.size w W) (ho : W.ownsRow w.heap.size T c v n xs) (g : W.grownBy W' v.ownBlock) : Below w.heap.size w W' :=
  ⟨g.os.trans h.os, g.tape.trans h.tape, g.output.trans h.output, Nat.le_trans h.size g.size, fun k hk => (g.block k (Nat.lt_of_lt_of_le hk h.size) (fun e => by
    rcases ho.2 with ⟨rfl, _⟩ | ⟨g', cap, cur, rfl, hb, _⟩
    · cases e
    · have e : some k = some g' := e
      have := Option.some.inj e
      omega)).trans (h.block k hk)⟩
set_option maxHeartbeats 1000000 in
set_option maxRecDepth 100000 in
theorem clone_any (rs : List Pr) (a : Option Addr) (c : Nat) (w : World) (H : TS w a c rs) (hl : rs.length ≤ 1000) :
    Calls Try.prog 76 #[.slice a rs.length c] w fun e w' => ∃ v, e = .returned v ∧ OT w' w.heap.size v rs ∧ Below w.heap.size w w' := by
  obtain ⟨i7, hi7, hz7, hs7, hb7⟩ := info_parts Try.info27
  have HI7 := hid hi7
  have HH := hid H
  have hcap := H.cap
  clear hi7 H
  cases a with
  | none =>
    have h0 : rs = [] := by
      rcases Nat.eq_zero_or_pos rs.length with h | h
      · exact List.eq_nil_of_length_eq_zero h
      · obtain ⟨_, _, e, _⟩ := HH.out.at_ 0 h
        cases e
    subst h0
    have EQ : ∀ w : World, (binOp .eql 22 (.slice none 0 c) (.slice none 0 0)).run Try.prog w = .ok (.bool true) w := fun w => by kernel_rfl
    go_enter Try.func76, Try.ntmps76
    go_wp2
    go_ret
    exact ⟨_, rfl, ⟨World.ownsRow_nil _ _ _ _, fun _ h => absurd h (Nat.not_lt_zero _), Nat.zero_le _⟩, Below.refl _ _⟩
  | some ad =>
    have EQ : ∀ w : World, (binOp .eql 22 (.slice (some ad) rs.length c) (.slice none 0 0)).run Try.prog w = .ok (.bool false) w := fun w => by kernel_rfl
    have hc2 : Hid (∀ j u, (prz rs)[j]? = some u → (w.alloc (.cells #[] 27)).cell? (ad.add j) = some u) := fun j u hu => by
      have hj : j < rs.length * 4 := by
        have := (List.getElem?_eq_some_iff.1 hu).1
        rwa [prz_len] at this
      obtain ⟨b1, o1, e1, h1⟩ := (HH.out.below (bal (Below.refl _ _) (.cells #[] 27))).at_ 0 (by omega)
      cases e1
      exact rp_cells h1 j u hu
    go_enter Try.func76, Try.ntmps76
    go_wp2_with (at_builtin; refine Hid.out ?_)
    refine hid ?_
    refine wpList_append_own_at _ rfl _ _ 22 rfl w.heap.size 27 i7 _ 4 32 Try.underlying22 HI7.out hz7 hs7 hb7 rfl (by decide) _ 0 [] rfl (own_emptyP w) ad rs.length c (prz rs) rfl (prz_len rs) hc2.out (prz_one rs) (by unfold maxLen; omega) (by omega) (bal (Below.refl _ _) _).size ?_
    intro v6 w6 hown6 hgrow6 _ _
    rw [Nat.zero_add, List.nil_append] at hown6
    have hB6 := below_own (bal (Below.refl w.heap.size w) _) (own_emptyP w) hgrow6
    clear hgrow6
    go_wp2
    go_ret
    exact ⟨v6, rfl, ⟨hown6, HH.out.w64, hl⟩, hB6⟩
end Go.Proofs.Ytoddbaljnlhhaaa
