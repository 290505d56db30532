/-
  The reference's Eye.
-/
import Derived.Test.YtinkdonaedoojaaAD
import Derived.Test.YtinkdonaedoojaaZ0
namespace Go.Proofs.Ytinkdonaedoojaa
open Go.RowKit Go.Sort

theorem drew_ofr {W : World} : Below W.heap.size W W.drew := below_drew (Below.refl _ _)
theorem bk_grown {W W' : World} {B b n : Nat} {v : Value} {xs : List Value} {cs : Array Value} {T : TypeId} (ho : W.ownsRow B 25 1 v n xs) (hg : W.grownBy W' v.ownBlock) (hb : BK W b cs T) (hT : 25 ≠ T) : BK W' b cs T :=
  (hg.block b hb.lt (fun e => own_ne ho hb hT b e.symm rfl)).trans hb
theorem own_set {W : World} {B T c n b : Nat} {v : Value} {xs : List Value} (h : W.ownsRow B T c v n xs) (hne : ∀ g, v.ownBlock = some g → some g ≠ some b) (o : Nat) (x : Value) : (W.setCell ⟨b, o, none⟩ x).ownsRow B T c v n xs :=
  own_kept h (gb_set (gb_refl W b) b o x (.inl rfl)) hne
theorem own_put {W : World} {B b U n : Nat} {v : Value} {xs : List Value} {cs : Array Value} (h : W.ownsRow B 25 1 v n xs) (hb : BK W b cs U) (hU : 25 ≠ U) (o : Nat) (x : Value) : (W.setCell ⟨b, o, none⟩ x).ownsRow B 25 1 v n xs := own_set h (own_ne h hb hU) o x
set_option maxHeartbeats 4000000 in
set_option maxRecDepth 100000 in
theorem reye_good (n : Nat) (w : World) (hn : n ≤ 64) : Calls Try.prog 12 #[.int .i64 n] w fun e w' => LR w w' e n n (fun i => 2 ^ i) 0 := by
  obtain ⟨i7, hi7, hz7, hs7, hb7⟩ := info_parts Try.info25
  have HI7 := hid hi7
  have g3 : ¬ ((n : Nat) : Int) < 0 := by omega
  have g4 : ¬ 64 < ((n : Nat) : Int) := by omega
  clear hi7
  obtain ⟨hB0, hK0, hK1⟩ := boxes2 w zl #[.int .i64 (n : Nat), .slice none 0 0]
  have HB0 := hid hB0
  have HK0 := hid hK0
  have HK1 := hid hK1
  clear hB0 hK0 hK1
  go_enter Try.func12, Try.ntmps12
  go_wp2
  go_loopw [5] (fun v5 wx => ∃ (q : Nat) (v : Value), q ≤ n ∧ v5 = .int .i64 (q : Nat) ∧ Hid (BK wx w.heap.size zl 24) ∧ Hid (BK wx (w.heap.size + 1) #[.int .i64 (n : Nat), v] 24) ∧ Hid (wx.ownsRow w.heap.size 25 1 v q (xsl q (fun i => 2 ^ i))) ∧ Hid (Below w.heap.size w wx)) (fun v5 _ => n - (intOf v5).toNat)
  case atStart => exact ⟨0, .slice none 0 0, Nat.zero_le _, rfl, HK0, HK1, World.ownsRow_nil _ _ _ _, HB0⟩
  case round =>
    clear HK0 HK1 HB0
    obtain ⟨q, v, hq, rfl, K0, K1, HO, HB⟩ := hrel
    have d1 := K1.out.cell
    have l1 := K1.out.lt
    obtain ⟨a1, c1, rfl⟩ := own_shape HO.out
    by_cases hlq : q < n
    case neg =>
      obtain rfl : n = q := by omega
      have f0 := K0.out.free
      have d0 := K0.out.cell
      have l0 := K0.out.lt
      have HOS := os_own HO.out (fun i hi => pow_lt (by omega))
      obtain ⟨q0, q1⟩ := two_set K0.out (.int .i64 (n : Int)) (.slice a1 n c1)
      go_wp2
      exact bodyPost_ret (v := .tuple #[.agg #[.int .i64 (n : Int), .slice a1 n c1], .int .i64 0]) (by simp [results, Try.results12, go_sem, q0, q1]) rfl (lr_end HOS K0.out (Nat.le_refl _) HB.out)
    have hp := i_pow q (by omega)
    have HSX : Hid (xsl (q + 1) (fun i => 2 ^ i) = xsl q (fun i => 2 ^ i) ++ [.int .u64 ((2 ^ q : Nat) : Int)]) := xsl_succ q _
    generalize xsl q (fun i => 2 ^ i) = L at *
    generalize (2 ^ q : Nat) = P at *
    have HD1 := hid (bk_on K1.out drew_ofr)
    have KX0 := hid (bk_on K0.out drew_ofr)
    have HX := hid (own_below HO.out drew_ofr)
    have HBX := hid (btr HB.out drew_ofr)
    clear K0 K1 HO HB
    go_upto_region 7 with (fail)
    refine wp_region_noPanic ?_
    refine region_z (S := fun w' => w'.cell? ⟨w.heap.size + 1, 1, none⟩ = some (.slice a1 q c1)) 7 (by kernel_rfl) (HD1.out.cell 1) (fun hHeld => ?_)
    generalize wr.drew = X at *
    refine zAny_take (i := 0) (oi := { dst := some 20, op := Op.fieldAddr 24 (Operand.tmp 4) 1, type := 0, pos := "ref.go:39", after := #[], guard := none }) (v := ?_) rfl (by kernel_rfl) (by kernel_rfl) (by kernel_rfl) (by kernel_rfl) (fun _ _ _ h => h) (Or.inl ⟨by rfl, ?_⟩) (by assumption) ?_
    rotate_left
    (intro w0 hSw; (try dsimp only at hSw); go_simp; try (with_reducible rfl))
    (try simp only [Act.put, List.setIfInBounds_toArray, List.set_cons_zero, List.set_cons_succ])
    refine zAny_take (i := 1) (oi := { dst := some 21, op := Op.load 22 (Operand.tmp 20), type := 22, pos := "ref.go:39", after := #[{ on := 0, ground := Ground.data }], guard := none }) (v := ?_) rfl (by kernel_rfl) (by kernel_rfl) (by kernel_rfl) (by kernel_rfl) (fun _ _ _ h => h) (Or.inl ⟨by rfl, ?_⟩) (by assumption) ?_
    rotate_left
    (intro w0 hSw; (try dsimp only at hSw); go_simp; try (with_reducible rfl))
    (try simp only [Act.put, List.setIfInBounds_toArray, List.set_cons_zero, List.set_cons_succ])
    refine zAny_take (i := 2) (oi := { dst := some 22, op := Op.move (Operand.tmp 5), type := 3, pos := "ref.go:39", after := #[], guard := none }) (v := ?_) rfl (by kernel_rfl) (by kernel_rfl) (by kernel_rfl) (by kernel_rfl) (fun _ _ _ h => h) (Or.inl ⟨by rfl, ?_⟩) (by assumption) ?_
    rotate_left
    (intro w0 hSw; (try dsimp only at hSw); go_simp; try (with_reducible rfl))
    (try simp only [Act.put, List.setIfInBounds_toArray, List.set_cons_zero, List.set_cons_succ])
    refine zAny_take (i := 3) (oi := { dst := some 23, op := Op.binOp BinOp.shl 25 (Operand.const (Value.int IntKind.u64 1)) (Operand.tmp 22) 3, type := 25, pos := "ref.go:39", after := #[{ on := 2, ground := Ground.data }], guard := none }) (v := ?_) rfl (by kernel_rfl) (by kernel_rfl) (by kernel_rfl) (by kernel_rfl) (fun _ _ _ h => h) (Or.inl ⟨by rfl, ?_⟩) (by assumption) ?_
    rotate_left
    (intro w0 hSw; (try dsimp only at hSw); go_simp; try (with_reducible rfl))
    (try simp only [Act.put, List.setIfInBounds_toArray, List.set_cons_zero, List.set_cons_succ])
    refine zAny_ready (rs := [4]) (by kernel_rfl) (by simp) (zReady.cons (o := { dst := some 24, op := Op.buildSlice 22 1 #[(0, Operand.tmp 23)], type := 22, pos := "ref.go:39", after := #[{ on := 3, ground := Ground.data }], guard := none }) rfl (fun K hK => ?_) zReady.nil)
    go_simp
    refine hK.out _ _ (fun _ => (HD1.out.alloc _).cell 1) (fun _ => ?_)
    clear hK K
    (try simp only [Act.put, List.setIfInBounds_toArray, List.set_cons_zero, List.set_cons_succ])
    refine zAny_ready (rs := [5]) (by kernel_rfl) (by simp) (zReady.cons (o := { dst := some 25, op := Op.call { callee := Callee.builtin Builtin.append, args := #[Operand.tmp 21, Operand.tmp 24], argTypes := #[22, 22] }, type := 22, pos := "ref.go:39", after := #[{ on := 1, ground := Ground.data }, { on := 4, ground := Ground.data }], guard := none }) rfl (fun K hK => ?_) zReady.nil)
    have hB2 := bal (Below.refl X.heap.size X) (.cells #[.int .u64 (P : Int)] 25)
    have hO3 := own_below (HX.out) hB2
    have hK1 := HD1.out.alloc (.cells #[.int .u64 (P : Int)] 25)
    have hnew : ∀ j u, [Value.int .u64 (P : Int)][j]? = some u → (X.alloc (.cells #[.int .u64 (P : Int)] 25)).cell? ((⟨X.heap.size, 0, none⟩ : Addr).add j) = some u := fun j u hj => by
      have h := bk_new X #[.int .u64 (P : Int)] 25
      rw [WideShapes.add_plain, Nat.zero_add]
      rw [h.cell j, ← hj]
      exact List.getElem?_toArray
    refine step_own rfl _ _ 22 rfl w.heap.size 25 i7 _ 1 8 Try.underlying22 HI7.out hz7 hs7 hb7 rfl (by decide) _ q L rfl hO3 ⟨_, 0, none⟩ 1 1 [.int .u64 (P : Int)] rfl rfl hnew (by intro u hu; simp at hu; rcases hu with rfl; rfl) (by unfold maxLen; omega) (by omega) (by have h1 := HBX.out.size; have h2 := hB2.size; exact Nat.le_trans h1 h2) ?_
    intro v6 w6 hown6 hgrow6 _
    have hown7 := hid hown6
    obtain ⟨a6, c6, rfl⟩ := own_shape hown6
    have HB6 := hid (below_own (btr HBX.out hB2) hO3 hgrow6)
    have HK0 := hid (bk_grown hO3 hgrow6 (bk_on KX0.out hB2) (by decide))
    have HK6 := hid (bk_grown hO3 hgrow6 hK1 (by decide))
    clear hgrow6 hown6 hO3 hK1 hB2 hnew
    refine hK.out _ _ (fun _ => HK6.out.cell 1) (fun _ => ?_)
    clear hK K
    (try simp only [Act.put, List.setIfInBounds_toArray, List.set_cons_zero, List.set_cons_succ])
    have hH4 := HK6.out.cell 1
    refine zAny_take (i := 6) (oi := { dst := some 26, op := Op.fieldAddr 24 (Operand.tmp 4) 1, type := 0, pos := "ref.go:39", after := #[{ on := 0, ground := Ground.phase }, { on := 1, ground := Ground.phase }, { on := 2, ground := Ground.phase }, { on := 3, ground := Ground.phase }, { on := 4, ground := Ground.phase }, { on := 5, ground := Ground.phase }], guard := none }) (v := ?_) rfl (by kernel_rfl) (by kernel_rfl) (by kernel_rfl) (by kernel_rfl) (fun _ _ _ h => h) (Or.inl ⟨by rfl, ?_⟩) (by assumption) ?_
    rotate_left
    (intro w0 hSw; (try dsimp only at hSw); go_simp; try (with_reducible rfl))
    (try simp only [Act.put, List.setIfInBounds_toArray, List.set_cons_zero, List.set_cons_succ])
    refine zAny_ready (rs := [7]) (by kernel_rfl) (by simp) (zReady.cons (o := { dst := none, op := Op.store 22 (Operand.tmp 26) (Operand.tmp 25), type := 0, pos := "ref.go:39", after := #[{ on := 6, ground := Ground.data }, { on := 5, ground := Ground.data }, { on := 5, ground := Ground.chain }, { on := 0, ground := Ground.phase }, { on := 1, ground := Ground.phase }, { on := 2, ground := Ground.phase }, { on := 3, ground := Ground.phase }, { on := 4, ground := Ground.phase }, { on := 5, ground := Ground.phase }], guard := none }) rfl (fun K hK => ?_) zReady.nil)
    have y1 := HK6.out.cell
    have y2 := HK6.out.free
    have y3 := HK6.out.lt
    go_simp
    refine hK.out _ _ (fun h => absurd rfl h) (fun _ => ?_)
    clear hK K hHeld
    (try simp only [Act.put, List.setIfInBounds_toArray, List.set_cons_zero, List.set_cons_succ])
    refine zAny_done (by kernel_rfl) ?_ _
    refine NoPanic.normal ?_
    have HO7 := hid (own_put hown7.out HK6.out (by decide) 1 (.slice a6 (q + 1) c6))
    rw [← HSX.out] at HO7
    go_wp2
    exact ⟨⟨q + 1, .slice a6 (q + 1) c6, by omega, by go_num, HK0.out.far (c := w.heap.size + 1) (by omega) _ _, HK6.out.set 1 _, HO7, bset HB6.out (w.heap.size + 1) 1 _ (by omega)⟩, by simp only [intOf]; omega⟩
set_option maxHeartbeats 1000000 in
theorem reye_bad (N : Int) (F : Nat → Nat) (w : World) (hn : N < 0 ∨ 64 < N) : Calls Try.prog 12 #[.int .i64 N] w fun e w' => LR w w' e 0 0 F 2 := by
  by_cases h0 : N < 0
  · clear hn
    go_enter Try.func12, Try.ntmps12
    go_wp2
    exact bodyPost_ret (v := .tuple #[.agg #[.int .i64 0, .slice none 0 0], .int .i64 2]) (by simp [results, Try.results12, go_sem]) rfl (lr_zero F (bal (Below.refl _ _) _))
  · have h1 : 64 < N := by omega
    clear hn
    go_enter Try.func12, Try.ntmps12
    go_wp2
    exact bodyPost_ret (v := .tuple #[.agg #[.int .i64 0, .slice none 0 0], .int .i64 2]) (by simp [results, Try.results12, go_sem]) rfl (lr_zero F (bal (Below.refl _ _) _))
end Go.Proofs.Ytinkdonaedoojaa
