/-
  Apply where it refuses; slices.Clone; the pair of a matrix.
-/
import Derived.Test.YtinkdonaedoojaaA5
namespace Go.Proofs.Ytinkdonaedoojaa
open Go.RowKit Go.Sort

set_option maxHeartbeats 2000000 in
set_option maxRecDepth 100000 in
theorem apply_bad (N : Int) (n : Nat) (a : Option Addr) (c : Nat) (f : Nat → Nat) (x : Nat) (w : World) (H : RR w a n f) (hx : x < 18446744073709551616) (hb : ¬ (Gd N n f ∧ x < 2 ^ n)) :
    Calls Try.prog 16 #[lv N a n c, .int .u64 x] w fun e w' => e = .returned (.tuple #[.int .u64 0, .int .i64 2]) ∧ Below w.heap.size w w' := by
  have HB0 := hid (bal (Below.refl w.heap.size w) (.cells (lcs N a n c) 24))
  by_cases hf : Gd N n f
  case neg =>
    have C1 := fun w' (h : Below w.heap.size w w') => check_bad N n a c f w' (H.below h) hf
    clear H hf hb
    go_enter Try.func16, Try.ntmps16
    go_wp2_with (go_at_call 9; (with_reducible refine (C1 _ HB0.out).mono ?_); rintro e w1 ⟨rfl, hN⟩)
    go_ret2
    exact ⟨rfl, btr HB0.out hN⟩
  obtain ⟨_, hn, e, hf⟩ := hf
  subst e
  have hn : n ≤ 64 := by omega
  have hxn : ¬ x < 2 ^ n := fun h => hb ⟨⟨by omega, by omega, rfl, hf⟩, h⟩
  have C1 := fun w' (h : Below w.heap.size w w') => check_good n a c f w' (H.below h) hn hf
  have C2 := fun w' => fits_any x n w' hx hn
  rw [decide_eq_false hxn] at C2
  have HK0 := hid (bk_new w (lcs n a n c) 24)
  clear H hf hx hb hxn
  go_enter Try.func16, Try.ntmps16
  go_upto_region 2 with (go_at_call 9; (with_reducible refine (C1 _ HB0.out).mono ?_); rintro e w1 ⟨rfl, hN⟩)
  have HB1 := hid (btr HB0.out hN)
  have K0 := hid (bk_on HK0.out hN)
  clear HB0 HK0 hN C1
  have d0 := K0.out.cell
  have l0 := K0.out.lt
  go_wp2_with (go_at_call 26; (with_reducible refine (C2 _).mono ?_); rintro e w2 ⟨rfl, rfl⟩)
  go_ret2
  exact ⟨rfl, HB1.out⟩
/-- The cells of numbers. -/
def xsl (n : Nat) (f : Nat → Nat) : List Value := (List.range n).map fun i => Value.int .u64 (f i : Int)
theorem xsl_len (n : Nat) (f : Nat → Nat) : (xsl n f).length = n := by simp [xsl]
theorem xsl_get (n : Nat) (f : Nat → Nat) (i : Nat) (h : i < n) : (xsl n f)[i]? = some (.int .u64 (f i : Int)) := by simp [xsl, h]
theorem xsl_one (n : Nat) (f : Nat → Nat) : ∀ u ∈ xsl n f, u.oneCell' = true := fun u hu => by
  obtain ⟨i, _, rfl⟩ := List.mem_map.1 hu
  rfl
theorem xsl_succ (n : Nat) (f : Nat → Nat) : xsl (n + 1) f = xsl n f ++ [.int .u64 (f n : Int)] := by unfold xsl; rw [List.range_succ, List.map_append]; rfl
theorem os_own {W : World} {B n : Nat} {v : Value} {f : Nat → Nat} (h : W.ownsRow B 25 1 v n (xsl n f)) (hf : ∀ i, i < n → f i < 18446744073709551616) : OS W B v n f := by
  rcases h.2 with ⟨rfl, rfl⟩ | ⟨g, cap, cur, rfl, hb, hh, hnc, hcm, hs, ht⟩
  · exact OS.nil _ _ _
  · refine OS.of ⟨⟨cap, fun i => cur.getD i (.int .u64 0), hnc, ⟨cur, hh, by omega, fun i hi => ?_⟩, fun i hi => ?_⟩, hf⟩ hnc (by unfold maxLen at hcm; omega) hb
    · have hlt : i < cur.size := by omega
      rw [Array.getElem?_eq_getElem hlt]; simp [Array.getD, hlt]
    · have hlt : i < cur.size := by omega
      have e := xsl_get n f i hi
      rw [← ht, Nat.mul_one, List.getElem?_take, if_pos hi] at e
      simp only [Array.getElem?_toList] at e
      rw [Array.getElem?_eq_getElem hlt] at e
      show cur.getD i _ = _
      simp only [Array.getD, hlt, dif_pos]
      exact Option.some.inj e
theorem own_empty25 (w : World) : (w.alloc (.cells #[] 25)).ownsRow w.heap.size 25 1 (.slice (some ⟨w.heap.size, 0, none⟩) 0 0) 0 [] :=
  ⟨rfl, .inr ⟨w.heap.size, 0, #[], rfl, Nat.le_refl _, heap_alloc_new w _, Nat.le_refl _, by unfold maxLen; omega, rfl, rfl⟩⟩
theorem below_own {w W W' : World} {T c n : Nat} {v : Value} {xs : List Value} (h : Below w.heap.size w W) (ho : W.ownsRow w.heap.size T c v n xs) (g : W.grownBy W' v.ownBlock) : Below w.heap.size w W' :=
  ⟨g.os.trans h.os, g.tape.trans h.tape, g.output.trans h.output, Nat.le_trans h.size g.size, fun k hk => (g.block k (Nat.lt_of_lt_of_le hk h.size) (fun e => by
    rcases ho.2 with ⟨rfl, _⟩ | ⟨g', cap, cur, rfl, hb, _⟩
    · cases e
    · have e : some k = some g' := e
      have := Option.some.inj e
      omega)).trans (h.block k hk)⟩
set_option maxHeartbeats 1000000 in
set_option maxRecDepth 100000 in
theorem clone_any (n : Nat) (f : Nat → Nat) (a : Option Addr) (c : Nat) (w : World) (H : RR w a n f) (hl : n ≤ 1000) :
    Calls Try.prog 38 #[.slice a n c] w fun e w' => ∃ v, e = .returned v ∧ OS w' w.heap.size v n f ∧ Below w.heap.size w w' := by
  obtain ⟨i7, hi7, hz7, hs7, hb7⟩ := info_parts Try.info25
  have HI7 := hid hi7
  have HH := hid H
  have HLT := hid H.lt
  clear hi7 H
  cases a with
  | none =>
    have h0 : n = 0 := by
      rcases Nat.eq_zero_or_pos n with h | h
      · exact h
      · obtain ⟨_, _, e, _⟩ := HH.out.at_ 0 h
        cases e
    subst h0
    have EQ : ∀ w : World, (binOp .eql 22 (.slice none 0 c) (.slice none 0 0)).run Try.prog w = .ok (.bool true) w := fun w => by kernel_rfl
    go_enter Try.func38, Try.ntmps38
    go_wp2
    go_ret
    exact ⟨_, rfl, OS.nil _ _ _, Below.refl _ _⟩
  | some ad =>
    have EQ : ∀ w : World, (binOp .eql 22 (.slice (some ad) n c) (.slice none 0 0)).run Try.prog w = .ok (.bool false) w := fun w => by kernel_rfl
    have hc2 : Hid (∀ j u, (xsl n f)[j]? = some u → (w.alloc (.cells #[] 25)).cell? (ad.add j) = some u) := fun j u hu => by
      have hj : j < n := by
        have := (List.getElem?_eq_some_iff.1 hu).1
        rwa [xsl_len] at this
      obtain ⟨b1, o1, e1, h1, _⟩ := (HH.out.below (bal (Below.refl _ _) (.cells #[] 25))).at_ j hj
      cases e1
      rw [xsl_get n f j hj] at hu
      rw [WideShapes.add_plain, ← Option.some.inj hu]
      exact h1
    go_enter Try.func38, Try.ntmps38
    go_wp2_with (at_builtin; refine Hid.out ?_)
    refine hid ?_
    refine wpList_append_own_at _ rfl _ _ 22 rfl w.heap.size 25 i7 _ 1 8 Try.underlying22 HI7.out hz7 hs7 hb7 rfl (by decide) _ 0 [] rfl (own_empty25 w) ad n c (xsl n f) rfl (by rw [xsl_len, Nat.mul_one]) hc2.out (xsl_one n f) (by unfold maxLen; omega) (by omega) (bal (Below.refl _ _) _).size ?_
    intro v6 w6 hown6 hgrow6 _ _
    rw [Nat.zero_add, List.nil_append] at hown6
    have hB6 := below_own (bal (Below.refl w.heap.size w) _) (own_empty25 w) hgrow6
    clear hgrow6
    go_wp2
    go_ret
    exact ⟨v6, rfl, os_own hown6 HLT.out, hB6⟩
/-- Two slices of one's own that lie apart. -/
def P2 (W : World) (B : Nat) (v1 v2 : Value) (n : Nat) (f h : Nat → Nat) : Prop :=
  ∃ a1 c1 a2 c2, v1 = .slice a1 n c1 ∧ v2 = .slice a2 n c2 ∧ n ≤ c1 ∧ c1 ≤ 9223372036854775807 ∧ n ≤ c2 ∧ c2 ≤ 9223372036854775807 ∧
    (n = 0 ∨ ∃ g1 g2, a1 = some ⟨g1, 0, none⟩ ∧ a2 = some ⟨g2, 0, none⟩ ∧ g1 ≠ g2 ∧ B ≤ g1 ∧ B ≤ g2 ∧ OR W g1 n f ∧ OR W g2 n h)
theorem P2.mk1 {V W1 W2 : World} {v : Value} {n : Nat} {f h : Nat → Nat} (h1 : OS W1 V.heap.size v n f) (hV : Below V.heap.size V W1) (h2 : OR W2 W1.heap.size n h) (hB : Below W1.heap.size W1 W2) (hn : n ≤ 64) : P2 W2 V.heap.size v (.slice (some ⟨W1.heap.size, 0, none⟩) n n) n f h := by
  obtain ⟨a, c, e, i1, i2, h3⟩ := h1
  refine ⟨a, c, _, n, e, rfl, i1, i2, Nat.le_refl _, by omega, h3.imp id ?_⟩
  rintro ⟨g, e, hg, ho⟩
  exact ⟨g, W1.heap.size, e, rfl, by have := ho.gl; omega, hg, hV.size, ho.on hB, h2⟩
theorem P2.mk2 {V W1 W2 : World} {v : Value} {n : Nat} {f h : Nat → Nat} (h2 : OR W1 V.heap.size n h) (h1 : OS W2 W1.heap.size v n f) (hB : Below W1.heap.size W1 W2) (hn : n ≤ 64) : P2 W2 V.heap.size v (.slice (some ⟨V.heap.size, 0, none⟩) n n) n f h := by
  obtain ⟨a, c, e, i1, i2, h3⟩ := h1
  refine ⟨a, c, _, n, e, rfl, i1, i2, Nat.le_refl _, by omega, h3.imp id ?_⟩
  rintro ⟨g, e, hg, ho⟩
  have := h2.gl
  exact ⟨g, V.heap.size, e, rfl, by omega, by omega, Nat.le_refl _, ho, h2.on hB⟩
end Go.Proofs.Ytinkdonaedoojaa
