/-
  Put together of: J7.
-/
import Derived.Test.YtoddbaljnlhhaaaXL
import Derived.Test.YtoddbaljnlhhaaaXM
import Derived.Test.YtoddbaljnlhhaaaYB
namespace Go.Proofs.Ytoddbaljnlhhaaa
open Go.RowKit Go.Sort
open PL (pv PS bt)

set_option maxHeartbeats 4000000 in
set_option maxRecDepth 100000 in
theorem rcopy_some (n : Int) (rs : List Pr) (ad : Addr) (c : Nat) (w : World) (H : TS w (some ad) c rs) (hl : rs.length ≤ 1000) :
    Calls Try.prog 35 #[.agg #[.int .i64 n, .slice (some ad) rs.length c]] w fun e w' => ∃ v, e = .returned (.agg #[.int .i64 n, v]) ∧ OT w' w.heap.size v rs ∧ Below w.heap.size w w' := by
  obtain ⟨i7, hi7, hz7, hs7, hb7⟩ := info_parts Try.info27
  have HI7 := hid hi7
  have HH := hid H
  have hcap := H.cap
  clear hi7 H
  obtain ⟨W0, hW0⟩ : ∃ W0, W0 = (w.alloc (.cells #[.int .i64 n, .slice (some ad) rs.length c] 24)).alloc (.cells #[.int .i64 0, .slice none 0 0] 24) := ⟨_, rfl⟩
  have HB0 : Hid (Below w.heap.size w W0) := by rw [hW0]; exact bal (bal (Below.refl _ _) _) _
  have HD0 : Hid (BK W0 w.heap.size #[.int .i64 n, .slice (some ad) rs.length c] 24) := by rw [hW0]; exact (bk_new w _ _).alloc _
  have HJ0 : Hid (BK W0 (w.heap.size + 1) #[.int .i64 0, .slice none 0 0] 24) := by
    rw [hW0]
    have h := bk_new (w.alloc (.cells #[.int .i64 n, .slice (some ad) rs.length c] 24)) #[.int .i64 0, .slice none 0 0] 24
    rw [PL.alz] at h
    exact h
  have HBw := hid (below_drew HB0.out)
  have HD := hid (bk_on HD0.out drew_ofr)
  have HJ := hid (bk_on HJ0.out drew_ofr)
  have HK2 := hid (HD.out.alloc (.cells #[] 27))
  have HJ2 := hid (HJ.out.alloc (.cells #[] 27))
  have HB2 := hid (bal HBw.out (.cells #[] 27))
  have HEM : Hid ((W0.drew.alloc (.cells #[] 27)).ownsRow w.heap.size 27 4 (.slice (some ⟨W0.drew.heap.size, 0, none⟩) 0 0) 0 []) :=
    ⟨rfl, .inr ⟨W0.drew.heap.size, 0, #[], rfl, HBw.out.size, heap_alloc_new W0.drew _, Nat.le_refl _, by unfold maxLen; omega, rfl, rfl⟩⟩
  have HSZ : Hid (w.heap.size ≤ (W0.drew.alloc (.cells #[] 27)).heap.size) := HB2.out.size
  have HC2 : Hid (∀ j u, (prz rs)[j]? = some u → (W0.drew.alloc (.cells #[] 27)).cell? (ad.add j) = some u) := fun j u hu => by
    have hj : j < rs.length * 4 := by
      have := (List.getElem?_eq_some_iff.1 hu).1
      rwa [prz_len] at this
    obtain ⟨b1, o1, e1, h1⟩ := (HH.out.below HB2.out).at_ 0 (by omega)
    cases e1
    exact rp_cells h1 j u hu
  go_enter Try.func35, Try.ntmps35
  go_upto_region 1 with (fail)
  rw [← hW0]
  clear hW0
  refine wp_region_noPanic ?_
  refine region_z (S := fun w' => w'.cell? ⟨w.heap.size, 0, none⟩ = some (.int .i64 n) ∧ w'.cell? ⟨w.heap.size, 1, none⟩ = some (.slice (some ad) rs.length c)) 7 (by kernel_rfl) (⟨HD.out.cell 0, HD.out.cell 1⟩) (fun hHeld => ?_)
  refine zAny_take (i := 0) (oi := { dst := some 3, op := Op.fieldAddr 24 (Operand.tmp 1) 0, type := 0, pos := "ref.go:208", after := #[], guard := none }) (v := ?_) rfl (by kernel_rfl) (by kernel_rfl) (by kernel_rfl) (by kernel_rfl) (fun _ _ _ h => h) (Or.inl ⟨by rfl, ?_⟩) (by assumption) ?_
  rotate_left
  (intro w0 hSw; (try dsimp only at hSw); go_simp; try (with_reducible rfl))
  (try simp only [Act.put, List.setIfInBounds_toArray, List.set_cons_zero, List.set_cons_succ])
  refine zAny_take (i := 1) (oi := { dst := some 4, op := Op.load 3 (Operand.tmp 3), type := 3, pos := "ref.go:208", after := #[{ on := 0, ground := Ground.data }], guard := none }) (v := ?_) rfl (by kernel_rfl) (by kernel_rfl) (by kernel_rfl) (by kernel_rfl) (fun _ _ _ h => h) (Or.inl ⟨by rfl, ?_⟩) (by assumption) ?_
  rotate_left
  (intro w0 hSw; (try dsimp only at hSw); go_simp; try (with_reducible rfl))
  (try simp only [Act.put, List.setIfInBounds_toArray, List.set_cons_zero, List.set_cons_succ])
  refine zAny_take (i := 3) (oi := { dst := some 6, op := Op.fieldAddr 24 (Operand.tmp 1) 1, type := 0, pos := "ref.go:208", after := #[], guard := none }) (v := ?_) rfl (by kernel_rfl) (by kernel_rfl) (by kernel_rfl) (by kernel_rfl) (fun _ _ _ h => h) (Or.inl ⟨by rfl, ?_⟩) (by assumption) ?_
  rotate_left
  (intro w0 hSw; (try dsimp only at hSw); go_simp; try (with_reducible rfl))
  (try simp only [Act.put, List.setIfInBounds_toArray, List.set_cons_zero, List.set_cons_succ])
  refine zAny_take (i := 4) (oi := { dst := some 7, op := Op.load 22 (Operand.tmp 6), type := 22, pos := "ref.go:208", after := #[{ on := 3, ground := Ground.data }], guard := none }) (v := ?_) rfl (by kernel_rfl) (by kernel_rfl) (by kernel_rfl) (by kernel_rfl) (fun _ _ _ h => h) (Or.inl ⟨by rfl, ?_⟩) (by assumption) ?_
  rotate_left
  (intro w0 hSw; (try dsimp only at hSw); go_simp; try (with_reducible rfl))
  (try simp only [Act.put, List.setIfInBounds_toArray, List.set_cons_zero, List.set_cons_succ])
  refine zAny_ready (rs := [2]) (by kernel_rfl) (by simp) (zReady.cons (o := { dst := some 5, op := Op.buildSlice 22 0 #[], type := 22, pos := "ref.go:208", after := #[], guard := none }) rfl (fun K hK => ?_) zReady.nil)
  go_simp
  refine hK.out _ _ (fun _ => ⟨(HK2.out.cell 0), (HK2.out.cell 1)⟩) (fun _ => ?_)
  clear hK K
  (try simp only [Act.put, List.setIfInBounds_toArray, List.set_cons_zero, List.set_cons_succ])
  refine zAny_ready (rs := [5]) (by kernel_rfl) (by simp) (zReady.cons (o := { dst := some 8, op := Op.call { callee := Callee.builtin Builtin.append, args := #[Operand.tmp 5, Operand.tmp 7], argTypes := #[22, 22] }, type := 22, pos := "ref.go:208", after := #[{ on := 2, ground := Ground.data }, { on := 4, ground := Ground.data }], guard := none }) rfl (fun K hK => ?_) zReady.nil)
  refine step_own rfl _ _ 22 rfl w.heap.size 27 i7 _ 4 32 Try.underlying22 HI7.out hz7 hs7 hb7 rfl (by decide) _ 0 [] rfl HEM.out ad rs.length c (prz rs) rfl (prz_len rs) HC2.out (prz_one rs) (by unfold maxLen; omega) (by omega) HSZ.out ?_
  intro v6 w6 hown6 hgrow6 _
  rw [Nat.zero_add, List.nil_append] at hown6
  have HB6 := hid (below_own HB2.out HEM.out hgrow6)
  have HK6 := hid (bk_grown HEM.out hgrow6 HK2.out (by decide))
  have HJ6 := hid (bk_grown HEM.out hgrow6 HJ2.out (by decide))
  have HO6 : Hid (OT w6 w.heap.size v6 rs) := ⟨hown6, HH.out.w64, hl⟩
  obtain ⟨a6, c6, rfl⟩ := own_shape hown6
  clear hgrow6 hown6
  refine hK.out _ _ (fun _ => ⟨HK6.out.cell 0, HK6.out.cell 1⟩) (fun _ => ?_)
  clear hK K
  (try simp only [Act.put, List.setIfInBounds_toArray, List.set_cons_zero, List.set_cons_succ])
  have hH4 : w6.cell? ⟨w.heap.size, 0, none⟩ = some (.int .i64 n) ∧ w6.cell? ⟨w.heap.size, 1, none⟩ = some (.slice (some ad) rs.length c) := ⟨HK6.out.cell 0, HK6.out.cell 1⟩
  refine zAny_take (i := 6) (oi := { dst := some 9, op := Op.build 24 #[(0, Operand.tmp 4), (1, Operand.tmp 8)], type := 24, pos := "ref.go:208", after := #[{ on := 1, ground := Ground.data }, { on := 5, ground := Ground.data }], guard := none }) (v := ?_) rfl (by kernel_rfl) (by kernel_rfl) (by kernel_rfl) (by kernel_rfl) (fun _ _ _ h => h) (Or.inl ⟨by rfl, ?_⟩) (by assumption) ?_
  rotate_left
  (intro w0 hSw; (try dsimp only at hSw); go_simp; try (with_reducible rfl))
  (try simp only [Act.put, List.setIfInBounds_toArray, List.set_cons_zero, List.set_cons_succ])
  refine zAny_ready (rs := [7]) (by kernel_rfl) (by simp) (zReady.cons (o := { dst := none, op := Op.store 24 (Operand.tmp 2) (Operand.tmp 9), type := 0, pos := "ref.go:208", after := #[{ on := 6, ground := Ground.data }, { on := 5, ground := Ground.chain }, { on := 0, ground := Ground.phase }, { on := 1, ground := Ground.phase }, { on := 2, ground := Ground.phase }, { on := 3, ground := Ground.phase }, { on := 4, ground := Ground.phase }, { on := 5, ground := Ground.phase }, { on := 6, ground := Ground.phase }], guard := none }) rfl (fun K hK => ?_) zReady.nil)
  have y1 := HJ6.out.cell
  have y2 := HJ6.out.free
  have y3 := HJ6.out.lt
  go_simp
  refine hK.out _ _ (fun h => absurd rfl h) (fun _ => ?_)
  clear hK K hHeld
  (try simp only [Act.put, List.setIfInBounds_toArray, List.set_cons_zero, List.set_cons_succ])
  refine zAny_done (by kernel_rfl) ?_ _
  refine NoPanic.normal ?_
  have HO7 := hid ((HO6.out.put HJ6.out (by decide) 0 (.int .i64 n)).put (HJ6.out.set 0 (.int .i64 n)) (by decide) 1 (.slice a6 rs.length c6))
  have r1 := (HJ6.out.set 0 (.int .i64 n)).set 1 (.slice a6 rs.length c6)
  have HB7 := hid (bset (bset HB6.out (w.heap.size + 1) 0 (.int .i64 n) (by omega)) (w.heap.size + 1) 1 (.slice a6 rs.length c6) (by omega))
  have q0 : ((w6.setCell ⟨w.heap.size + 1, 0, none⟩ (.int .i64 n)).setCell ⟨w.heap.size + 1, 1, none⟩ (.slice a6 rs.length c6)).cell? ⟨w.heap.size + 1, 0, none⟩ = some (.int .i64 n) := r1.cell 0
  have q1 : ((w6.setCell ⟨w.heap.size + 1, 0, none⟩ (.int .i64 n)).setCell ⟨w.heap.size + 1, 1, none⟩ (.slice a6 rs.length c6)).cell? ⟨w.heap.size + 1, 1, none⟩ = some (.slice a6 rs.length c6) := r1.cell 1
  go_wp2
  exact bodyPost_ret (v := .agg #[.int .i64 n, .slice a6 rs.length c6]) (by simp [results, Try.results35, go_sem, q0, q1]) rfl ⟨_, rfl, HO7.out, HB7.out⟩
theorem run_app_nil (w : World) (ty : TypeId) (a : Addr) (n cap c : Nat) (hn : n ≤ cap) : (Builtin.append_ #[22, 22] ty #[.slice (some a) n cap, .slice none 0 c]).run Try.prog w = .ok (.slice (some a) n cap) w := by
  obtain ⟨i7, hi7, _⟩ := info_parts Try.info27
  simp [Builtin.append_, run_underlying Try.underlying22, sizeOf, typeInfo, Builtin.lenOf, Builtin.firstCells, loadCells, go_sem, hn, hi7]
theorem step_nil {w : World} {ops : Array Oper} {o : Oper} {a : Act} {K : Act → World → Prop} {Q : Exit → Act → World → Prop} {E : Prop} (hgd : o.guard = none) (s x : Operand)
    (ho : o.op = .call { callee := .builtin .append, args := #[s, x], argTypes := #[22, 22] }) (ad : Addr) (n cap c : Nat) (hn : n ≤ cap) (hs : a.eval s = .slice (some ad) n cap) (hx : a.eval x = .slice none 0 c)
    (h : K (a.put o.dst (.slice (some ad) n cap)) w) : if Region.wanted o (yielded ops a.tmps) = true then Oper.wp Try.prog o a w K Q else E := by
  have hw : Region.wanted o (yielded ops a.tmps) = true := by simp [Region.wanted, hgd]
  rw [if_pos hw]
  unfold Oper.wp execOp
  simp only [ho, resolve, invoke, builtin, Sem.run_bind, Sem.run_pure, Result.andThen_ok, List.map_toArray, List.map_cons, List.map_nil, hs, hx, run_app_nil w _ _ _ _ _ hn]
  exact h
set_option maxHeartbeats 4000000 in
set_option maxRecDepth 100000 in
theorem rcopy_none (n : Int) (c : Nat) (w : World) :
    Calls Try.prog 35 #[.agg #[.int .i64 n, .slice none 0 c]] w fun e w' => ∃ v, e = .returned (.agg #[.int .i64 n, v]) ∧ OT w' w.heap.size v [] ∧ Below w.heap.size w w' := by
  obtain ⟨W0, hW0⟩ : ∃ W0, W0 = (w.alloc (.cells #[.int .i64 n, .slice none 0 c] 24)).alloc (.cells #[.int .i64 0, .slice none 0 0] 24) := ⟨_, rfl⟩
  have HB0 : Hid (Below w.heap.size w W0) := by rw [hW0]; exact bal (bal (Below.refl _ _) _) _
  have HD0 : Hid (BK W0 w.heap.size #[.int .i64 n, .slice none 0 c] 24) := by rw [hW0]; exact (bk_new w _ _).alloc _
  have HJ0 : Hid (BK W0 (w.heap.size + 1) #[.int .i64 0, .slice none 0 0] 24) := by
    rw [hW0]
    have h := bk_new (w.alloc (.cells #[.int .i64 n, .slice none 0 c] 24)) #[.int .i64 0, .slice none 0 0] 24
    rw [PL.alz] at h
    exact h
  have HBw := hid (below_drew HB0.out)
  have HD := hid (bk_on HD0.out drew_ofr)
  have HJ := hid (bk_on HJ0.out drew_ofr)
  have HK2 := hid (HD.out.alloc (.cells #[] 27))
  have HJ2 := hid (HJ.out.alloc (.cells #[] 27))
  have HB2 := hid (bal HBw.out (.cells #[] 27))
  have HEM : Hid (OT (W0.drew.alloc (.cells #[] 27)) w.heap.size (.slice (some ⟨W0.heap.size, 0, none⟩) 0 0) []) :=
    ⟨⟨rfl, .inr ⟨W0.drew.heap.size, 0, #[], rfl, HBw.out.size, heap_alloc_new W0.drew _, Nat.le_refl _, by unfold maxLen; omega, rfl, rfl⟩⟩, fun _ h => absurd h (Nat.not_lt_zero _), Nat.zero_le _⟩
  go_enter Try.func35, Try.ntmps35
  go_upto_region 1 with (fail)
  rw [← hW0]
  clear hW0
  refine wp_region_noPanic ?_
  refine region_z (S := fun w' => w'.cell? ⟨w.heap.size, 0, none⟩ = some (.int .i64 n) ∧ w'.cell? ⟨w.heap.size, 1, none⟩ = some (.slice none 0 c)) 7 (by kernel_rfl) (⟨HD.out.cell 0, HD.out.cell 1⟩) (fun hHeld => ?_)
  refine zAny_take (i := 0) (oi := { dst := some 3, op := Op.fieldAddr 24 (Operand.tmp 1) 0, type := 0, pos := "ref.go:208", after := #[], guard := none }) (v := ?_) rfl (by kernel_rfl) (by kernel_rfl) (by kernel_rfl) (by kernel_rfl) (fun _ _ _ h => h) (Or.inl ⟨by rfl, ?_⟩) (by assumption) ?_
  rotate_left
  (intro w0 hSw; (try dsimp only at hSw); go_simp; try (with_reducible rfl))
  (try simp only [Act.put, List.setIfInBounds_toArray, List.set_cons_zero, List.set_cons_succ])
  refine zAny_take (i := 1) (oi := { dst := some 4, op := Op.load 3 (Operand.tmp 3), type := 3, pos := "ref.go:208", after := #[{ on := 0, ground := Ground.data }], guard := none }) (v := ?_) rfl (by kernel_rfl) (by kernel_rfl) (by kernel_rfl) (by kernel_rfl) (fun _ _ _ h => h) (Or.inl ⟨by rfl, ?_⟩) (by assumption) ?_
  rotate_left
  (intro w0 hSw; (try dsimp only at hSw); go_simp; try (with_reducible rfl))
  (try simp only [Act.put, List.setIfInBounds_toArray, List.set_cons_zero, List.set_cons_succ])
  refine zAny_take (i := 3) (oi := { dst := some 6, op := Op.fieldAddr 24 (Operand.tmp 1) 1, type := 0, pos := "ref.go:208", after := #[], guard := none }) (v := ?_) rfl (by kernel_rfl) (by kernel_rfl) (by kernel_rfl) (by kernel_rfl) (fun _ _ _ h => h) (Or.inl ⟨by rfl, ?_⟩) (by assumption) ?_
  rotate_left
  (intro w0 hSw; (try dsimp only at hSw); go_simp; try (with_reducible rfl))
  (try simp only [Act.put, List.setIfInBounds_toArray, List.set_cons_zero, List.set_cons_succ])
  refine zAny_take (i := 4) (oi := { dst := some 7, op := Op.load 22 (Operand.tmp 6), type := 22, pos := "ref.go:208", after := #[{ on := 3, ground := Ground.data }], guard := none }) (v := ?_) rfl (by kernel_rfl) (by kernel_rfl) (by kernel_rfl) (by kernel_rfl) (fun _ _ _ h => h) (Or.inl ⟨by rfl, ?_⟩) (by assumption) ?_
  rotate_left
  (intro w0 hSw; (try dsimp only at hSw); go_simp; try (with_reducible rfl))
  (try simp only [Act.put, List.setIfInBounds_toArray, List.set_cons_zero, List.set_cons_succ])
  refine zAny_ready (rs := [2]) (by kernel_rfl) (by simp) (zReady.cons (o := { dst := some 5, op := Op.buildSlice 22 0 #[], type := 22, pos := "ref.go:208", after := #[], guard := none }) rfl (fun K hK => ?_) zReady.nil)
  go_simp
  refine hK.out _ _ (fun _ => ⟨(HK2.out.cell 0), (HK2.out.cell 1)⟩) (fun _ => ?_)
  clear hK K
  (try simp only [Act.put, List.setIfInBounds_toArray, List.set_cons_zero, List.set_cons_succ])
  refine zAny_ready (rs := [5]) (by kernel_rfl) (by simp) (zReady.cons (o := { dst := some 8, op := Op.call { callee := Callee.builtin Builtin.append, args := #[Operand.tmp 5, Operand.tmp 7], argTypes := #[22, 22] }, type := 22, pos := "ref.go:208", after := #[{ on := 2, ground := Ground.data }, { on := 4, ground := Ground.data }], guard := none }) rfl (fun K hK => ?_) zReady.nil)
  refine step_nil rfl _ _ rfl ⟨W0.heap.size, 0, none⟩ 0 0 c (Nat.le_refl _) rfl rfl ?_
  refine hK.out _ _ (fun _ => ⟨HK2.out.cell 0, HK2.out.cell 1⟩) (fun _ => ?_)
  clear hK K
  (try simp only [Act.put, List.setIfInBounds_toArray, List.set_cons_zero, List.set_cons_succ])
  obtain ⟨W5, hW5⟩ : ∃ W5, W5 = (W0.alloc (.cells #[] 27)).drew := ⟨_, rfl⟩
  have hW6 : W0.drew.alloc (.cells #[] 27) = W5 := by rw [hW5]; rfl
  rw [hW6] at HEM HJ2 HB2 HK2
  rw [← hW5]
  clear hW5 hW6
  have hH4 : W5.cell? ⟨w.heap.size, 0, none⟩ = some (.int .i64 n) ∧ W5.cell? ⟨w.heap.size, 1, none⟩ = some (.slice none 0 c) := ⟨HK2.out.cell 0, HK2.out.cell 1⟩
  refine zAny_take (i := 6) (oi := { dst := some 9, op := Op.build 24 #[(0, Operand.tmp 4), (1, Operand.tmp 8)], type := 24, pos := "ref.go:208", after := #[{ on := 1, ground := Ground.data }, { on := 5, ground := Ground.data }], guard := none }) (v := ?_) rfl (by kernel_rfl) (by kernel_rfl) (by kernel_rfl) (by kernel_rfl) (fun _ _ _ h => h) (Or.inl ⟨by rfl, ?_⟩) (by assumption) ?_
  rotate_left
  (intro w0 hSw; (try dsimp only at hSw); go_simp; try (with_reducible rfl))
  (try simp only [Act.put, List.setIfInBounds_toArray, List.set_cons_zero, List.set_cons_succ])
  refine zAny_ready (rs := [7]) (by kernel_rfl) (by simp) (zReady.cons (o := { dst := none, op := Op.store 24 (Operand.tmp 2) (Operand.tmp 9), type := 0, pos := "ref.go:208", after := #[{ on := 6, ground := Ground.data }, { on := 5, ground := Ground.chain }, { on := 0, ground := Ground.phase }, { on := 1, ground := Ground.phase }, { on := 2, ground := Ground.phase }, { on := 3, ground := Ground.phase }, { on := 4, ground := Ground.phase }, { on := 5, ground := Ground.phase }, { on := 6, ground := Ground.phase }], guard := none }) rfl (fun K hK => ?_) zReady.nil)
  have y1 := HJ2.out.cell
  have y2 := HJ2.out.free
  have y3 := HJ2.out.lt
  go_simp
  refine hK.out _ _ (fun h => absurd rfl h) (fun _ => ?_)
  clear hK K hHeld
  (try simp only [Act.put, List.setIfInBounds_toArray, List.set_cons_zero, List.set_cons_succ])
  refine zAny_done (by kernel_rfl) ?_ _
  refine NoPanic.normal ?_
  have HO7 := hid ((HEM.out.put HJ2.out (by decide) 0 (.int .i64 n)).put (HJ2.out.set 0 (.int .i64 n)) (by decide) 1 (.slice (some ⟨W0.heap.size, 0, none⟩) 0 0))
  have r1 := (HJ2.out.set 0 (.int .i64 n)).set 1 (.slice (some ⟨W0.heap.size, 0, none⟩) 0 0)
  have HB7 := hid (bset (bset HB2.out (w.heap.size + 1) 0 (.int .i64 n) (by omega)) (w.heap.size + 1) 1 (.slice (some ⟨W0.heap.size, 0, none⟩) 0 0) (by omega))
  have q0 : ((W5.setCell ⟨w.heap.size + 1, 0, none⟩ (.int .i64 n)).setCell ⟨w.heap.size + 1, 1, none⟩ (.slice (some ⟨W0.heap.size, 0, none⟩) 0 0)).cell? ⟨w.heap.size + 1, 0, none⟩ = some (.int .i64 n) := r1.cell 0
  have q1 : ((W5.setCell ⟨w.heap.size + 1, 0, none⟩ (.int .i64 n)).setCell ⟨w.heap.size + 1, 1, none⟩ (.slice (some ⟨W0.heap.size, 0, none⟩) 0 0)).cell? ⟨w.heap.size + 1, 1, none⟩ = some (.slice (some ⟨W0.heap.size, 0, none⟩) 0 0) := r1.cell 1
  go_wp2
  exact bodyPost_ret (v := .agg #[.int .i64 n, .slice (some ⟨W0.heap.size, 0, none⟩) 0 0]) (by simp [results, Try.results35, go_sem, q0, q1]) rfl ⟨_, rfl, HO7.out, HB7.out⟩
/-- The reference's Copy. -/
theorem rcopy_any (t : Tb) (a : Option Addr) (c : Nat) (w : World) (H : TS w a c t.rows) (hl : t.rows.length ≤ 1000) :
    Calls Try.prog 35 #[t.v a c] w fun e w' => ∃ v, e = .returned (.agg #[.int .i64 t.n, v]) ∧ OT w' w.heap.size v t.rows ∧ Below w.heap.size w w' := by
  obtain ⟨n, rs⟩ := t
  cases a with
  | some ad => exact rcopy_some n rs ad c w H hl
  | none =>
    have h0 : rs = [] := by
      rcases Nat.eq_zero_or_pos rs.length with h | h
      · exact List.eq_nil_of_length_eq_zero h
      · obtain ⟨_, _, e, _⟩ := H.at_ 0 h
        cases e
    subst h0
    exact rcopy_none n c w
end Go.Proofs.Ytoddbaljnlhhaaa
