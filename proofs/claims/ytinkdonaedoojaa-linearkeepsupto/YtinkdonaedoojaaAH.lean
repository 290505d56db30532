/-
  The reference's Mul where it refuses, its Rank.
-/
import Derived.Test.YtinkdonaedoojaaAG
namespace Go.Proofs.Ytinkdonaedoojaa
open Go.RowKit Go.Sort

set_option maxHeartbeats 2000000 in
set_option maxRecDepth 100000 in
theorem rmul_bad (N N' : Int) (n n' : Nat) (a a' : Option Addr) (c c' : Nat) (f g F : Nat → Nat) (w : World) (H : RR w a n f) (H' : RR w a' n' g) (hx : ¬ (Gd N n f ∧ Gd N' n' g ∧ N = N')) :
    Calls Try.prog 15 #[lv N a n c, lv N' a' n' c'] w fun e w' => LR w w' e 0 0 F 2 := by
  obtain ⟨hB0, hK0, hK1, hK2⟩ := boxes3 w (lcs N a n c) (lcs N' a' n' c') zl
  have HB0 := hid hB0
  have HK0 := hid hK0
  have HK1 := hid hK1
  have HK2 := hid hK2
  clear hB0 hK0 hK1 hK2
  by_cases h1 : Gd N n f
  case neg =>
    have C1 := fun w' (h : Below w.heap.size w w') => rcheck_bad N n a c f w' (H.below h) h1
    clear hx H H' h1
    go_enter Try.func15, Try.ntmps15
    go_upto_region 2 with (go_at_call 10; (with_reducible refine (C1 _ HB0.out).mono ?_); rintro e w1 ⟨rfl, hN⟩)
    have HB1 := hid (btr HB0.out hN)
    have K2 := hid (bk_on HK2.out hN)
    clear HB0 HK0 HK1 HK2 hN C1
    have d2 := K2.out.cell
    have l2 := K2.out.lt
    have f2 := K2.out.free
    obtain ⟨q0, q1⟩ := two_set K2.out (.int .i64 0) (.slice none 0 0)
    go_wp2
    exact bodyPost_ret (v := .tuple #[.agg #[.int .i64 0, .slice none 0 0], .int .i64 2]) (by simp [results, Try.results15, go_sem, q0, q1]) rfl (lr_zero F (bset (bset HB1.out (w.heap.size + 2) 0 _ (by omega)) (w.heap.size + 2) 1 _ (by omega)))
  have C1 := fun w' (h : Below w.heap.size w w') => rcheck_any N n a c f 0 w' (H.below h) (.inl ⟨rfl, h1⟩)
  obtain ⟨E, hE⟩ := gd_or N' n' g
  have C2 := fun w' (h : Below w.heap.size w w') => rcheck_any N' n' a' c' g E w' (H'.below h) hE
  by_cases h2 : Gd N' n' g
  case neg =>
    obtain rfl : E = 2 := by rcases hE with ⟨_, h⟩ | ⟨h, _⟩; exact absurd h h2; exact h
    clear hx H H' h1 h2 hE
    go_enter Try.func15, Try.ntmps15
    go_upto_region 2 with (first
      | (go_at_call 10; (with_reducible refine (C1 _ HB0.out).mono ?_); rintro e w1 ⟨rfl, hN⟩; (have HB1 := hid (btr HB0.out hN)); (have K1 := hid (bk_on HK1.out hN)); (have K2 := hid (bk_on HK2.out hN)); clear hN; (have d1 := K1.out.cell); (have l1 := K1.out.lt))
      | (go_at_call 10; (with_reducible refine (C2 _ HB1.out).mono ?_); rintro e w2 ⟨rfl, hN⟩; (have HB2 := hid (btr HB1.out hN)); (have M2 := hid (bk_on K2.out hN)); clear hN; (have d2 := M2.out.cell); (have l2 := M2.out.lt); (have f2 := M2.out.free)))
    obtain ⟨q0, q1⟩ := two_set M2.out (.int .i64 0) (.slice none 0 0)
    clear C1 C2
    go_wp2
    exact bodyPost_ret (v := .tuple #[.agg #[.int .i64 0, .slice none 0 0], .int .i64 2]) (by simp [results, Try.results15, go_sem, q0, q1]) rfl (lr_zero F (bset (bset HB2.out (w.heap.size + 2) 0 _ (by omega)) (w.heap.size + 2) 1 _ (by omega)))
  obtain rfl : E = 0 := by rcases hE with ⟨h, _⟩ | ⟨_, h⟩; exact h; exact absurd h2 h
  have h3 : (N != N') = true := bne_iff_ne.2 (fun e => hx ⟨h1, h2, e⟩)
  clear hx H H' h1 h2 hE
  go_enter Try.func15, Try.ntmps15
  go_upto_region 2 with (first
    | (go_at_call 10; (with_reducible refine (C1 _ HB0.out).mono ?_); rintro e w1 ⟨rfl, hN⟩; (have HB1 := hid (btr HB0.out hN)); (have K0 := hid (bk_on HK0.out hN)); (have K1 := hid (bk_on HK1.out hN)); (have K2 := hid (bk_on HK2.out hN)); clear hN; (have d1 := K1.out.cell); (have l1 := K1.out.lt))
    | (go_at_call 10; (with_reducible refine (C2 _ HB1.out).mono ?_); rintro e w2 ⟨rfl, hN⟩; (have HB2 := hid (btr HB1.out hN)); (have M0 := hid (bk_on K0.out hN)); (have M1 := hid (bk_on K1.out hN)); (have M2 := hid (bk_on K2.out hN)); clear hN; (have e0 := M0.out.cell); (have m0 := M0.out.lt); (have e1 := M1.out.cell); (have m1 := M1.out.lt); (have d2 := M2.out.cell); (have l2 := M2.out.lt); (have f2 := M2.out.free)))
  obtain ⟨q0, q1⟩ := two_set M2.out (.int .i64 0) (.slice none 0 0)
  clear C1 C2
  go_wp2
  exact bodyPost_ret (v := .tuple #[.agg #[.int .i64 0, .slice none 0 0], .int .i64 2]) (by simp [results, Try.results15, go_sem, q0, q1]) rfl (lr_zero F (bset (bset HB2.out (w.heap.size + 2) 0 _ (by omega)) (w.heap.size + 2) 1 _ (by omega)))
theorem run_app_nil (w : World) (ty : TypeId) (a : Addr) (n cap c : Nat) (hn : n ≤ cap) : (Builtin.append_ #[22, 22] ty #[.slice (some a) n cap, .slice none 0 c]).run Try.prog w = .ok (.slice (some a) n cap) w := by
  obtain ⟨i7, hi7, _⟩ := info_parts Try.info25
  simp [Builtin.append_, run_underlying Try.underlying22, sizeOf, typeInfo, Builtin.lenOf, Builtin.firstCells, loadCells, go_sem, hn, hi7]
/-- append([]uint64{}, s...): s may be nil. -/
theorem app_copy {W : World} {n : Nat} {f : Nat → Nat} {ao : Option Addr} {c : Nat} {ops : Array Oper} {rest : List Oper} {o : Oper} {a : Act} {Q : Exit → Act → World → Prop}
    (hg : o.guard = none) (s x : Operand) (hop : o.op = Op.call { callee := Callee.builtin Builtin.append, args := #[s, x], argTypes := #[22, 22] })
    (hs : a.eval s = .slice (some ⟨W.heap.size, 0, none⟩) 0 0) (hx : a.eval x = .slice ao n c) (H : RR W ao n f) (hn : n ≤ 1000)
    (hK : ∀ v' w', OS w' W.heap.size v' n f → Below W.heap.size W w' → wpList Try.prog ops Q rest (a.put o.dst v') w') :
    wpList Try.prog ops Q (o :: rest) a (W.alloc (.cells #[] 25)) := by
  obtain ⟨i7, hi7, hz7, hs7, hb7⟩ := info_parts Try.info25
  have H2 := H.below (bal (Below.refl W.heap.size W) (.cells #[] 25))
  cases ao with
  | none =>
    have h0 : n = 0 := by
      rcases Nat.eq_zero_or_pos n with h | h
      · exact h
      · obtain ⟨_, _, e, _⟩ := H.at_ 0 h
        cases e
    subst h0
    refine wpList_plain hg fun K hK' => ?_
    have hrun := run_app_nil (W.alloc (.cells #[] 25)) o.type ⟨W.heap.size, 0, none⟩ 0 0 c (Nat.le_refl _)
    unfold Oper.wp
    simp [execOp, hop, resolve, invoke, builtin, hs, hx, hrun, Result.andThen]
    exact hK' _ _ (hK _ _ ⟨_, 0, rfl, Nat.le_refl _, by omega, .inl rfl⟩ (bal (Below.refl _ _) _))
  | some ad =>
    refine wpList_append_own_at _ hg s x 22 hop W.heap.size 25 i7 _ 1 8 Try.underlying22 hi7 hz7 hs7 hb7 rfl (by decide) _ 0 [] hs (own_empty25 W) ad n c (xsl n f) hx (by rw [xsl_len, Nat.mul_one]) (fun j u hu => ?_) (xsl_one n f) (by unfold maxLen; omega) (by omega) (bal (Below.refl _ _) _).size ?_
    · have hj : j < n := by
        have := (List.getElem?_eq_some_iff.1 hu).1
        rwa [xsl_len] at this
      obtain ⟨b1, o1, e1, h1, _⟩ := H2.at_ j hj
      cases e1
      rw [xsl_get n f j hj] at hu
      rw [WideShapes.add_plain, ← Option.some.inj hu]
      exact h1
    · intro v6 w6 hown6 hgrow6 _ _
      rw [Nat.zero_add, List.nil_append] at hown6
      exact hK v6 w6 (os_own hown6 H.lt) (below_own (bal (Below.refl W.heap.size W) _) (own_empty25 W) hgrow6)
theorem rreduce_nought (a1 a2 : Option Addr) (c1 c2 : Nat) (w : World) :
    Calls Try.prog 34 #[.slice a1 0 c1, .slice a2 0 c2, .int .i64 0] w fun e w' => e = .returned (.int .i64 0) ∧ w' = w := by
  go_enter Try.func34, Try.ntmps34
  go_wp2
  go_loop [7, 8] (fun r i => r = .int .i64 0 ∧ i = .int .i64 0) (fun _ _ => 0)
  case atStart => exact ⟨rfl, rfl⟩
  case round =>
    obtain ⟨rfl, rfl⟩ := hrel
    go_wp2
    go_ret
    exact ⟨rfl, rfl⟩
theorem rreduceP (n : Nat) (v1 v2 : Value) (f h : Nat → Nat) (B : Nat) (w : World) (H : P2 w B v1 v2 n f h) (hn : n ≤ 64) :
    Calls Try.prog 34 #[v1, v2, .int .i64 n] w fun e w' => e = .returned (.int .i64 ((rd n f h n).r : Nat)) ∧ P2 w' B v1 v2 n (rd n f h n).f (rd n f h n).h ∧ Fr B w w' := by
  obtain ⟨a1, c1, a2, c2, rfl, rfl, i1, i2, i3, i4, h5⟩ := H
  rcases h5 with rfl | ⟨g1, g2, rfl, rfl, hne, j1, j2, O1, O2⟩
  · refine (rreduce_nought a1 a2 c1 c2 w).mono ?_
    rintro e w' ⟨rfl, rfl⟩
    exact ⟨rfl, ⟨a1, c1, a2, c2, rfl, rfl, i1, i2, i3, i4, .inl rfl⟩, Fr.of (Below.refl _ _)⟩
  · refine (rreduce_any n g1 g2 c1 c2 f h w O1 O2 hne hn).mono ?_
    rintro e w' ⟨rfl, P1, P2', hG⟩
    exact ⟨rfl, ⟨_, c1, _, c2, rfl, rfl, i1, i2, i3, i4, .inr ⟨g1, g2, rfl, rfl, hne, j1, j2, P1, P2'⟩⟩, Fr.g2 hG O1 O2 j1 j2⟩
theorem rd_indep (n : Nat) (f h h' : Nat → Nat) : ∀ j, (rd n f h j).f = (rd n f h' j).f ∧ (rd n f h j).r = (rd n f h' j).r
  | 0 => ⟨rfl, rfl⟩
  | j + 1 => by
    obtain ⟨e1, e2⟩ := rd_indep n f h h' j
    unfold rd
    generalize rd n f h j = s at *
    generalize rd n f h' j = s' at *
    obtain ⟨sf, sh, sr⟩ := s
    obtain ⟨sf', sh', sr'⟩ := s'
    simp only at *
    subst e1
    subst e2
    unfold stp
    simp only
    split <;> exact ⟨rfl, rfl⟩
theorem rd_rank (n : Nat) (f h : Nat → Nat) : (rd n f h n).r = rk n f := (rd_indep n f h _ n).2
set_option maxHeartbeats 2000000 in
set_option maxRecDepth 100000 in
theorem rrank_bad (N : Int) (n : Nat) (a : Option Addr) (c : Nat) (f : Nat → Nat) (w : World) (H : RR w a n f) (hf : ¬ Gd N n f) :
    Calls Try.prog 19 #[lv N a n c] w fun e w' => e = .returned (.tuple #[.int .i64 0, .int .i64 2]) ∧ Below w.heap.size w w' := by
  have C1 := fun w' (h : Below w.heap.size w w') => rcheck_bad N n a c f w' (H.below h) hf
  have HB0 := hid (bal (Below.refl w.heap.size w) (.cells (lcs N a n c) 24))
  clear H hf
  go_enter Try.func19, Try.ntmps19
  go_wp2_with (go_at_call 10; (with_reducible refine (C1 _ HB0.out).mono ?_); rintro e w1 ⟨rfl, hN⟩)
  go_ret2
  exact ⟨rfl, btr HB0.out hN⟩
set_option maxHeartbeats 4000000 in
set_option maxRecDepth 100000 in
theorem rrank_good (n : Nat) (a : Option Addr) (c : Nat) (f : Nat → Nat) (w : World) (H : RR w a n f) (hf : Gd n n f) :
    Calls Try.prog 19 #[lv n a n c] w fun e w' => e = .returned (.tuple #[.int .i64 (rk n f : Nat), .int .i64 0]) ∧ Below w.heap.size w w' := by
  have hn : n ≤ 64 := by have := hf.2.1; omega
  have C1 := fun w' (h : Below w.heap.size w w') => rcheck_good n a c f w' (H.below h) hn hf.2.2.2
  have C3 := fun v1 v2 B w' (h : P2 w' B v1 v2 n f (fun _ => 0)) => rreduceP n v1 v2 f (fun _ => 0) B w' h hn
  rw [rd_rank] at C3
  have mk := made_u64 n (by omega)
  have HB0 := hid (bal (Below.refl w.heap.size w) (.cells (lcs n a n c) 24))
  have HK0 := hid (bk_new w (lcs n a n c) 24)
  have HH := hid H
  clear H hf
  go_enter Try.func19, Try.ntmps19
  go_wp2_with (first
    | (go_at_call 10; (with_reducible refine (C1 _ HB0.out).mono ?_); rintro e w1 ⟨rfl, hN⟩; (have HB1 := hid (btr HB0.out hN)); (have K0 := hid (bk_on HK0.out hN)); clear hN; (have d0 := K0.out.cell); (have l0 := K0.out.lt))
    | (at_builtin; refine Hid.out ?_))
  refine hid ?_
  refine app_copy rfl _ _ rfl rfl rfl (HH.out.below HB1.out) (by omega) ?_
  intro v6 w6 hO6 hB6
  obtain ⟨a6, c6, rfl⟩ := os_shape hO6
  have K6 := hid (bk_on K0.out hB6)
  have HB7 := hid (btr HB1.out hB6)
  have HP : Hid (P2 (w6.alloc (.cells (madeCells #[.int .u64 0] n) 25)) w1.heap.size (.slice a6 n c6) (.slice (some ⟨w6.heap.size, 0, none⟩) n n) n f (fun _ => 0)) := P2.mk1 hO6 hB6 (or_made w6 n) (bal (Below.refl _ _) _) hn
  have HBM := hid (bal (Below.refl w6.heap.size w6) (.cells (madeCells #[.int .u64 0] n) 25))
  clear C1 d0 l0 HB0 HK0 K0 hB6 hO6
  have d0 := K6.out.cell
  have l0 := K6.out.lt
  have d1 := (K6.out.alloc (.cells (madeCells #[.int .u64 0] n) 25)).cell
  have l1 := (K6.out.alloc (.cells (madeCells #[.int .u64 0] n) 25)).lt
  have hz : w.heap.size ≤ w1.heap.size := HB1.out.size
  go_wp2
  have HPd : Hid (P2 (w6.alloc (.cells (madeCells #[.int .u64 0] n) 25)).drew w1.heap.size (.slice a6 n c6) (.slice (some ⟨w6.heap.size, 0, none⟩) n n) n f (fun _ => 0)) := HP.out.on drew_ofr
  go_region_with (go_at_call 34; (with_reducible refine (C3 _ _ _ _ HPd.out).mono ?_); rintro e w8 ⟨rfl, hP8, hF⟩)
  all_goals
    have hE := hF.2.1 w hz (btr (btr HB7.out HBM.out) drew_ofr)
    clear hP8 hF d0 l0 d1 l1
    go_wp2
    go_ret2
    exact ⟨rfl, hE⟩
end Go.Proofs.Ytinkdonaedoojaa
