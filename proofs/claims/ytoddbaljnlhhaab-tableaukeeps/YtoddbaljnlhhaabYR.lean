/-
  Put together of: J7 J9 JA JC.
-/
import Derived.Test.YtoddbaljnlhhaabXL
import Derived.Test.YtoddbaljnlhhaabXM
import Derived.Test.YtoddbaljnlhhaabYA
import Derived.Test.YtoddbaljnlhhaabYT
import Derived.Test.YtoddbaljnlhhaabYQ
import Derived.BigRegion
namespace Go.Proofs.Ytoddbaljnlhhaab
open Go.RowKit Go.Sort
open PL (pv PS bt)

set_option maxHeartbeats 4000000 in
set_option maxRecDepth 100000 in
theorem rcopy_some (n : Int) (rs : List Pr) (ad : Addr) (c : Nat) (w : World) (H : TS w (some ad) c rs) (hl : rs.length ≤ 1000) :
    Calls Try.prog 19 #[.agg #[.int .i64 n, .slice (some ad) rs.length c]] w fun e w' => ∃ v, e = .returned (.agg #[.int .i64 n, v]) ∧ OT w' w.heap.size v rs ∧ Below w.heap.size w w' := by
  obtain ⟨i7, hi7, hz7, hs7, hb7⟩ := info_parts Try.info29
  have HI7 := hid hi7
  have HH := hid H
  have hcap := H.cap
  clear hi7 H
  obtain ⟨W0, hW0⟩ : ∃ W0, W0 = (w.alloc (.cells #[.int .i64 n, .slice (some ad) rs.length c] 24)).alloc (.cells #[.int .i64 0, .slice none 0 0] 24) := ⟨_, rfl⟩
  have HB0 : Hid (Below w.heap.size w W0) := by rw [hW0]; exact bal (bal (Below.refl _ _) _) _
  have HD0 : Hid (BK W0 w.heap.size #[.int .i64 n, .slice (some ad) rs.length c] 24) := by rw [hW0]; exact (bk_new w _ _).alloc _
  have HJ0 : Hid (BK W0 (w.heap.size + 1) #[.int .i64 0, .slice none 0 0] 24) := by
    rw [hW0]
    have h := bk_new (w.alloc (.cells #[.int .i64 n, .slice (some ad) rs.length c] 24)) #[.int .i64 0, .slice none 0 0] 24
    rw [PL.alz] at h
    exact h
  have HBw := hid (below_drew HB0.out)
  have HD := hid (bk_on HD0.out drew_ofr)
  have HJ := hid (bk_on HJ0.out drew_ofr)
  have HK2 := hid (HD.out.alloc (.cells #[] 29))
  have HJ2 := hid (HJ.out.alloc (.cells #[] 29))
  have HB2 := hid (bal HBw.out (.cells #[] 29))
  have HEM : Hid ((W0.drew.alloc (.cells #[] 29)).ownsRow w.heap.size 29 4 (.slice (some ⟨W0.drew.heap.size, 0, none⟩) 0 0) 0 []) :=
    ⟨rfl, .inr ⟨W0.drew.heap.size, 0, #[], rfl, HBw.out.size, heap_alloc_new W0.drew _, Nat.le_refl _, by unfold maxLen; omega, rfl, rfl⟩⟩
  have HSZ : Hid (w.heap.size ≤ (W0.drew.alloc (.cells #[] 29)).heap.size) := HB2.out.size
  have HC2 : Hid (∀ j u, (prz rs)[j]? = some u → (W0.drew.alloc (.cells #[] 29)).cell? (ad.add j) = some u) := fun j u hu => by
    have hj : j < rs.length * 4 := by
      have := (List.getElem?_eq_some_iff.1 hu).1
      rwa [prz_len] at this
    obtain ⟨b1, o1, e1, h1⟩ := (HH.out.below HB2.out).at_ 0 (by omega)
    cases e1
    exact rp_cells h1 j u hu
  go_enter Try.func19, Try.ntmps19
  go_upto_region 1 with (fail)
  rw [← hW0]
  clear hW0
  refine wp_region_noPanic ?_
  refine region_z (S := fun w' => w'.cell? ⟨w.heap.size, 0, none⟩ = some (.int .i64 n) ∧ w'.cell? ⟨w.heap.size, 1, none⟩ = some (.slice (some ad) rs.length c)) 7 (by kernel_rfl) (⟨HD.out.cell 0, HD.out.cell 1⟩) (fun hHeld => ?_)
  refine zAny_take (i := 0) (oi := { dst := some 3, op := Op.fieldAddr 24 (Operand.tmp 1) 0, type := 0, pos := "ref.go:208", after := #[], guard := none }) (v := ?_) rfl (by kernel_rfl) (by kernel_rfl) (by kernel_rfl) (by kernel_rfl) (fun _ _ _ h => h) (Or.inl ⟨by rfl, ?_⟩) (by assumption) ?_
  rotate_left
  (intro w0 hSw; (try dsimp only at hSw); go_simp; try (with_reducible rfl))
  (try simp only [Act.put, List.setIfInBounds_toArray, List.set_cons_zero, List.set_cons_succ])
  refine zAny_take (i := 1) (oi := { dst := some 4, op := Op.load 3 (Operand.tmp 3), type := 3, pos := "ref.go:208", after := #[{ on := 0, ground := Ground.data }], guard := none }) (v := ?_) rfl (by kernel_rfl) (by kernel_rfl) (by kernel_rfl) (by kernel_rfl) (fun _ _ _ h => h) (Or.inl ⟨by rfl, ?_⟩) (by assumption) ?_
  rotate_left
  (intro w0 hSw; (try dsimp only at hSw); go_simp; try (with_reducible rfl))
  (try simp only [Act.put, List.setIfInBounds_toArray, List.set_cons_zero, List.set_cons_succ])
  refine zAny_take (i := 3) (oi := { dst := some 6, op := Op.fieldAddr 24 (Operand.tmp 1) 1, type := 0, pos := "ref.go:208", after := #[], guard := none }) (v := ?_) rfl (by kernel_rfl) (by kernel_rfl) (by kernel_rfl) (by kernel_rfl) (fun _ _ _ h => h) (Or.inl ⟨by rfl, ?_⟩) (by assumption) ?_
  rotate_left
  (intro w0 hSw; (try dsimp only at hSw); go_simp; try (with_reducible rfl))
  (try simp only [Act.put, List.setIfInBounds_toArray, List.set_cons_zero, List.set_cons_succ])
  refine zAny_take (i := 4) (oi := { dst := some 7, op := Op.load 22 (Operand.tmp 6), type := 22, pos := "ref.go:208", after := #[{ on := 3, ground := Ground.data }], guard := none }) (v := ?_) rfl (by kernel_rfl) (by kernel_rfl) (by kernel_rfl) (by kernel_rfl) (fun _ _ _ h => h) (Or.inl ⟨by rfl, ?_⟩) (by assumption) ?_
  rotate_left
  (intro w0 hSw; (try dsimp only at hSw); go_simp; try (with_reducible rfl))
  (try simp only [Act.put, List.setIfInBounds_toArray, List.set_cons_zero, List.set_cons_succ])
  refine zAny_ready (rs := [2]) (by kernel_rfl) (by simp) (zReady.cons (o := { dst := some 5, op := Op.buildSlice 22 0 #[], type := 22, pos := "ref.go:208", after := #[], guard := none }) rfl (fun K hK => ?_) zReady.nil)
  go_simp
  refine hK.out _ _ (fun _ => ⟨(HK2.out.cell 0), (HK2.out.cell 1)⟩) (fun _ => ?_)
  clear hK K
  (try simp only [Act.put, List.setIfInBounds_toArray, List.set_cons_zero, List.set_cons_succ])
  refine zAny_ready (rs := [5]) (by kernel_rfl) (by simp) (zReady.cons (o := { dst := some 8, op := Op.call { callee := Callee.builtin Builtin.append, args := #[Operand.tmp 5, Operand.tmp 7], argTypes := #[22, 22] }, type := 22, pos := "ref.go:208", after := #[{ on := 2, ground := Ground.data }, { on := 4, ground := Ground.data }], guard := none }) rfl (fun K hK => ?_) zReady.nil)
  refine step_own rfl _ _ 22 rfl w.heap.size 29 i7 _ 4 32 Try.underlying22 HI7.out hz7 hs7 hb7 rfl (by decide) _ 0 [] rfl HEM.out ad rs.length c (prz rs) rfl (prz_len rs) HC2.out (prz_one rs) (by unfold maxLen; omega) (by omega) HSZ.out ?_
  intro v6 w6 hown6 hgrow6 _
  rw [Nat.zero_add, List.nil_append] at hown6
  have HB6 := hid (below_own HB2.out HEM.out hgrow6)
  have HK6 := hid (bk_grown HEM.out hgrow6 HK2.out (by decide))
  have HJ6 := hid (bk_grown HEM.out hgrow6 HJ2.out (by decide))
  have HO6 : Hid (OT w6 w.heap.size v6 rs) := ⟨hown6, HH.out.w64, hl⟩
  obtain ⟨a6, c6, rfl⟩ := own_shape hown6
  clear hgrow6 hown6
  refine hK.out _ _ (fun _ => ⟨HK6.out.cell 0, HK6.out.cell 1⟩) (fun _ => ?_)
  clear hK K
  (try simp only [Act.put, List.setIfInBounds_toArray, List.set_cons_zero, List.set_cons_succ])
  have hH4 : w6.cell? ⟨w.heap.size, 0, none⟩ = some (.int .i64 n) ∧ w6.cell? ⟨w.heap.size, 1, none⟩ = some (.slice (some ad) rs.length c) := ⟨HK6.out.cell 0, HK6.out.cell 1⟩
  refine zAny_take (i := 6) (oi := { dst := some 9, op := Op.build 24 #[(0, Operand.tmp 4), (1, Operand.tmp 8)], type := 24, pos := "ref.go:208", after := #[{ on := 1, ground := Ground.data }, { on := 5, ground := Ground.data }], guard := none }) (v := ?_) rfl (by kernel_rfl) (by kernel_rfl) (by kernel_rfl) (by kernel_rfl) (fun _ _ _ h => h) (Or.inl ⟨by rfl, ?_⟩) (by assumption) ?_
  rotate_left
  (intro w0 hSw; (try dsimp only at hSw); go_simp; try (with_reducible rfl))
  (try simp only [Act.put, List.setIfInBounds_toArray, List.set_cons_zero, List.set_cons_succ])
  refine zAny_ready (rs := [7]) (by kernel_rfl) (by simp) (zReady.cons (o := { dst := none, op := Op.store 24 (Operand.tmp 2) (Operand.tmp 9), type := 0, pos := "ref.go:208", after := #[{ on := 6, ground := Ground.data }, { on := 5, ground := Ground.chain }, { on := 0, ground := Ground.phase }, { on := 1, ground := Ground.phase }, { on := 2, ground := Ground.phase }, { on := 3, ground := Ground.phase }, { on := 4, ground := Ground.phase }, { on := 5, ground := Ground.phase }, { on := 6, ground := Ground.phase }], guard := none }) rfl (fun K hK => ?_) zReady.nil)
  have y1 := HJ6.out.cell
  have y2 := HJ6.out.free
  have y3 := HJ6.out.lt
  go_simp
  refine hK.out _ _ (fun h => absurd rfl h) (fun _ => ?_)
  clear hK K hHeld
  (try simp only [Act.put, List.setIfInBounds_toArray, List.set_cons_zero, List.set_cons_succ])
  refine zAny_done (by kernel_rfl) ?_ _
  refine NoPanic.normal ?_
  have HO7 := hid ((HO6.out.put HJ6.out (by decide) 0 (.int .i64 n)).put (HJ6.out.set 0 (.int .i64 n)) (by decide) 1 (.slice a6 rs.length c6))
  have r1 := (HJ6.out.set 0 (.int .i64 n)).set 1 (.slice a6 rs.length c6)
  have HB7 := hid (bset (bset HB6.out (w.heap.size + 1) 0 (.int .i64 n) (by omega)) (w.heap.size + 1) 1 (.slice a6 rs.length c6) (by omega))
  have q0 : ((w6.setCell ⟨w.heap.size + 1, 0, none⟩ (.int .i64 n)).setCell ⟨w.heap.size + 1, 1, none⟩ (.slice a6 rs.length c6)).cell? ⟨w.heap.size + 1, 0, none⟩ = some (.int .i64 n) := r1.cell 0
  have q1 : ((w6.setCell ⟨w.heap.size + 1, 0, none⟩ (.int .i64 n)).setCell ⟨w.heap.size + 1, 1, none⟩ (.slice a6 rs.length c6)).cell? ⟨w.heap.size + 1, 1, none⟩ = some (.slice a6 rs.length c6) := r1.cell 1
  go_wp2
  exact bodyPost_ret (v := .agg #[.int .i64 n, .slice a6 rs.length c6]) (by simp [results, Try.results19, go_sem, q0, q1]) rfl ⟨_, rfl, HO7.out, HB7.out⟩
theorem run_app_nil (w : World) (ty : TypeId) (a : Addr) (n cap c : Nat) (hn : n ≤ cap) : (Builtin.append_ #[22, 22] ty #[.slice (some a) n cap, .slice none 0 c]).run Try.prog w = .ok (.slice (some a) n cap) w := by
  obtain ⟨i7, hi7, _⟩ := info_parts Try.info29
  simp [Builtin.append_, run_underlying Try.underlying22, sizeOf, typeInfo, Builtin.lenOf, Builtin.firstCells, loadCells, go_sem, hn, hi7]
theorem step_nil {w : World} {ops : Array Oper} {o : Oper} {a : Act} {K : Act → World → Prop} {Q : Exit → Act → World → Prop} {E : Prop} (hgd : o.guard = none) (s x : Operand)
    (ho : o.op = .call { callee := .builtin .append, args := #[s, x], argTypes := #[22, 22] }) (ad : Addr) (n cap c : Nat) (hn : n ≤ cap) (hs : a.eval s = .slice (some ad) n cap) (hx : a.eval x = .slice none 0 c)
    (h : K (a.put o.dst (.slice (some ad) n cap)) w) : if Region.wanted o (yielded ops a.tmps) = true then Oper.wp Try.prog o a w K Q else E := by
  have hw : Region.wanted o (yielded ops a.tmps) = true := by simp [Region.wanted, hgd]
  rw [if_pos hw]
  unfold Oper.wp execOp
  simp only [ho, resolve, invoke, builtin, Sem.run_bind, Sem.run_pure, Result.andThen_ok, List.map_toArray, List.map_cons, List.map_nil, hs, hx, run_app_nil w _ _ _ _ _ hn]
  exact h
set_option maxHeartbeats 4000000 in
set_option maxRecDepth 100000 in
theorem rcopy_none (n : Int) (c : Nat) (w : World) :
    Calls Try.prog 19 #[.agg #[.int .i64 n, .slice none 0 c]] w fun e w' => ∃ v, e = .returned (.agg #[.int .i64 n, v]) ∧ OT w' w.heap.size v [] ∧ Below w.heap.size w w' := by
  obtain ⟨W0, hW0⟩ : ∃ W0, W0 = (w.alloc (.cells #[.int .i64 n, .slice none 0 c] 24)).alloc (.cells #[.int .i64 0, .slice none 0 0] 24) := ⟨_, rfl⟩
  have HB0 : Hid (Below w.heap.size w W0) := by rw [hW0]; exact bal (bal (Below.refl _ _) _) _
  have HD0 : Hid (BK W0 w.heap.size #[.int .i64 n, .slice none 0 c] 24) := by rw [hW0]; exact (bk_new w _ _).alloc _
  have HJ0 : Hid (BK W0 (w.heap.size + 1) #[.int .i64 0, .slice none 0 0] 24) := by
    rw [hW0]
    have h := bk_new (w.alloc (.cells #[.int .i64 n, .slice none 0 c] 24)) #[.int .i64 0, .slice none 0 0] 24
    rw [PL.alz] at h
    exact h
  have HBw := hid (below_drew HB0.out)
  have HD := hid (bk_on HD0.out drew_ofr)
  have HJ := hid (bk_on HJ0.out drew_ofr)
  have HK2 := hid (HD.out.alloc (.cells #[] 29))
  have HJ2 := hid (HJ.out.alloc (.cells #[] 29))
  have HB2 := hid (bal HBw.out (.cells #[] 29))
  have HEM : Hid (OT (W0.drew.alloc (.cells #[] 29)) w.heap.size (.slice (some ⟨W0.heap.size, 0, none⟩) 0 0) []) :=
    ⟨⟨rfl, .inr ⟨W0.drew.heap.size, 0, #[], rfl, HBw.out.size, heap_alloc_new W0.drew _, Nat.le_refl _, by unfold maxLen; omega, rfl, rfl⟩⟩, fun _ h => absurd h (Nat.not_lt_zero _), Nat.zero_le _⟩
  go_enter Try.func19, Try.ntmps19
  go_upto_region 1 with (fail)
  rw [← hW0]
  clear hW0
  refine wp_region_noPanic ?_
  refine region_z (S := fun w' => w'.cell? ⟨w.heap.size, 0, none⟩ = some (.int .i64 n) ∧ w'.cell? ⟨w.heap.size, 1, none⟩ = some (.slice none 0 c)) 7 (by kernel_rfl) (⟨HD.out.cell 0, HD.out.cell 1⟩) (fun hHeld => ?_)
  refine zAny_take (i := 0) (oi := { dst := some 3, op := Op.fieldAddr 24 (Operand.tmp 1) 0, type := 0, pos := "ref.go:208", after := #[], guard := none }) (v := ?_) rfl (by kernel_rfl) (by kernel_rfl) (by kernel_rfl) (by kernel_rfl) (fun _ _ _ h => h) (Or.inl ⟨by rfl, ?_⟩) (by assumption) ?_
  rotate_left
  (intro w0 hSw; (try dsimp only at hSw); go_simp; try (with_reducible rfl))
  (try simp only [Act.put, List.setIfInBounds_toArray, List.set_cons_zero, List.set_cons_succ])
  refine zAny_take (i := 1) (oi := { dst := some 4, op := Op.load 3 (Operand.tmp 3), type := 3, pos := "ref.go:208", after := #[{ on := 0, ground := Ground.data }], guard := none }) (v := ?_) rfl (by kernel_rfl) (by kernel_rfl) (by kernel_rfl) (by kernel_rfl) (fun _ _ _ h => h) (Or.inl ⟨by rfl, ?_⟩) (by assumption) ?_
  rotate_left
  (intro w0 hSw; (try dsimp only at hSw); go_simp; try (with_reducible rfl))
  (try simp only [Act.put, List.setIfInBounds_toArray, List.set_cons_zero, List.set_cons_succ])
  refine zAny_take (i := 3) (oi := { dst := some 6, op := Op.fieldAddr 24 (Operand.tmp 1) 1, type := 0, pos := "ref.go:208", after := #[], guard := none }) (v := ?_) rfl (by kernel_rfl) (by kernel_rfl) (by kernel_rfl) (by kernel_rfl) (fun _ _ _ h => h) (Or.inl ⟨by rfl, ?_⟩) (by assumption) ?_
  rotate_left
  (intro w0 hSw; (try dsimp only at hSw); go_simp; try (with_reducible rfl))
  (try simp only [Act.put, List.setIfInBounds_toArray, List.set_cons_zero, List.set_cons_succ])
  refine zAny_take (i := 4) (oi := { dst := some 7, op := Op.load 22 (Operand.tmp 6), type := 22, pos := "ref.go:208", after := #[{ on := 3, ground := Ground.data }], guard := none }) (v := ?_) rfl (by kernel_rfl) (by kernel_rfl) (by kernel_rfl) (by kernel_rfl) (fun _ _ _ h => h) (Or.inl ⟨by rfl, ?_⟩) (by assumption) ?_
  rotate_left
  (intro w0 hSw; (try dsimp only at hSw); go_simp; try (with_reducible rfl))
  (try simp only [Act.put, List.setIfInBounds_toArray, List.set_cons_zero, List.set_cons_succ])
  refine zAny_ready (rs := [2]) (by kernel_rfl) (by simp) (zReady.cons (o := { dst := some 5, op := Op.buildSlice 22 0 #[], type := 22, pos := "ref.go:208", after := #[], guard := none }) rfl (fun K hK => ?_) zReady.nil)
  go_simp
  refine hK.out _ _ (fun _ => ⟨(HK2.out.cell 0), (HK2.out.cell 1)⟩) (fun _ => ?_)
  clear hK K
  (try simp only [Act.put, List.setIfInBounds_toArray, List.set_cons_zero, List.set_cons_succ])
  refine zAny_ready (rs := [5]) (by kernel_rfl) (by simp) (zReady.cons (o := { dst := some 8, op := Op.call { callee := Callee.builtin Builtin.append, args := #[Operand.tmp 5, Operand.tmp 7], argTypes := #[22, 22] }, type := 22, pos := "ref.go:208", after := #[{ on := 2, ground := Ground.data }, { on := 4, ground := Ground.data }], guard := none }) rfl (fun K hK => ?_) zReady.nil)
  refine step_nil rfl _ _ rfl ⟨W0.heap.size, 0, none⟩ 0 0 c (Nat.le_refl _) rfl rfl ?_
  refine hK.out _ _ (fun _ => ⟨HK2.out.cell 0, HK2.out.cell 1⟩) (fun _ => ?_)
  clear hK K
  (try simp only [Act.put, List.setIfInBounds_toArray, List.set_cons_zero, List.set_cons_succ])
  obtain ⟨W5, hW5⟩ : ∃ W5, W5 = (W0.alloc (.cells #[] 29)).drew := ⟨_, rfl⟩
  have hW6 : W0.drew.alloc (.cells #[] 29) = W5 := by rw [hW5]; rfl
  rw [hW6] at HEM HJ2 HB2 HK2
  rw [← hW5]
  clear hW5 hW6
  have hH4 : W5.cell? ⟨w.heap.size, 0, none⟩ = some (.int .i64 n) ∧ W5.cell? ⟨w.heap.size, 1, none⟩ = some (.slice none 0 c) := ⟨HK2.out.cell 0, HK2.out.cell 1⟩
  refine zAny_take (i := 6) (oi := { dst := some 9, op := Op.build 24 #[(0, Operand.tmp 4), (1, Operand.tmp 8)], type := 24, pos := "ref.go:208", after := #[{ on := 1, ground := Ground.data }, { on := 5, ground := Ground.data }], guard := none }) (v := ?_) rfl (by kernel_rfl) (by kernel_rfl) (by kernel_rfl) (by kernel_rfl) (fun _ _ _ h => h) (Or.inl ⟨by rfl, ?_⟩) (by assumption) ?_
  rotate_left
  (intro w0 hSw; (try dsimp only at hSw); go_simp; try (with_reducible rfl))
  (try simp only [Act.put, List.setIfInBounds_toArray, List.set_cons_zero, List.set_cons_succ])
  refine zAny_ready (rs := [7]) (by kernel_rfl) (by simp) (zReady.cons (o := { dst := none, op := Op.store 24 (Operand.tmp 2) (Operand.tmp 9), type := 0, pos := "ref.go:208", after := #[{ on := 6, ground := Ground.data }, { on := 5, ground := Ground.chain }, { on := 0, ground := Ground.phase }, { on := 1, ground := Ground.phase }, { on := 2, ground := Ground.phase }, { on := 3, ground := Ground.phase }, { on := 4, ground := Ground.phase }, { on := 5, ground := Ground.phase }, { on := 6, ground := Ground.phase }], guard := none }) rfl (fun K hK => ?_) zReady.nil)
  have y1 := HJ2.out.cell
  have y2 := HJ2.out.free
  have y3 := HJ2.out.lt
  go_simp
  refine hK.out _ _ (fun h => absurd rfl h) (fun _ => ?_)
  clear hK K hHeld
  (try simp only [Act.put, List.setIfInBounds_toArray, List.set_cons_zero, List.set_cons_succ])
  refine zAny_done (by kernel_rfl) ?_ _
  refine NoPanic.normal ?_
  have HO7 := hid ((HEM.out.put HJ2.out (by decide) 0 (.int .i64 n)).put (HJ2.out.set 0 (.int .i64 n)) (by decide) 1 (.slice (some ⟨W0.heap.size, 0, none⟩) 0 0))
  have r1 := (HJ2.out.set 0 (.int .i64 n)).set 1 (.slice (some ⟨W0.heap.size, 0, none⟩) 0 0)
  have HB7 := hid (bset (bset HB2.out (w.heap.size + 1) 0 (.int .i64 n) (by omega)) (w.heap.size + 1) 1 (.slice (some ⟨W0.heap.size, 0, none⟩) 0 0) (by omega))
  have q0 : ((W5.setCell ⟨w.heap.size + 1, 0, none⟩ (.int .i64 n)).setCell ⟨w.heap.size + 1, 1, none⟩ (.slice (some ⟨W0.heap.size, 0, none⟩) 0 0)).cell? ⟨w.heap.size + 1, 0, none⟩ = some (.int .i64 n) := r1.cell 0
  have q1 : ((W5.setCell ⟨w.heap.size + 1, 0, none⟩ (.int .i64 n)).setCell ⟨w.heap.size + 1, 1, none⟩ (.slice (some ⟨W0.heap.size, 0, none⟩) 0 0)).cell? ⟨w.heap.size + 1, 1, none⟩ = some (.slice (some ⟨W0.heap.size, 0, none⟩) 0 0) := r1.cell 1
  go_wp2
  exact bodyPost_ret (v := .agg #[.int .i64 n, .slice (some ⟨W0.heap.size, 0, none⟩) 0 0]) (by simp [results, Try.results19, go_sem, q0, q1]) rfl ⟨_, rfl, HO7.out, HB7.out⟩
/-- The reference's Copy. -/
theorem rcopy_any (t : Tb) (a : Option Addr) (c : Nat) (w : World) (H : TS w a c t.rows) (hl : t.rows.length ≤ 1000) :
    Calls Try.prog 19 #[t.v a c] w fun e w' => ∃ v, e = .returned (.agg #[.int .i64 t.n, v]) ∧ OT w' w.heap.size v t.rows ∧ Below w.heap.size w w' := by
  obtain ⟨n, rs⟩ := t
  cases a with
  | some ad => exact rcopy_some n rs ad c w H hl
  | none =>
    have h0 : rs = [] := by
      rcases Nat.eq_zero_or_pos rs.length with h | h
      · exact List.eq_nil_of_length_eq_zero h
      · obtain ⟨_, _, e, _⟩ := H.at_ 0 h
        cases e
    subst h0
    exact rcopy_none n c w
end Go.Proofs.Ytoddbaljnlhhaab
namespace Go.Proofs.Ytoddbaljnlhhaab
open Go.RowKit Go.Sort
open PL (pv PS bt)

theorem rp_boxes (w : World) (n : Int) (v : Value) : Below w.heap.size w ((w.alloc (.cells #[.int .i64 n, v] 24)).alloc (.cells #[.int .i64 0, .slice none 0 0] 24)) ∧ BK ((w.alloc (.cells #[.int .i64 n, v] 24)).alloc (.cells #[.int .i64 0, .slice none 0 0] 24)) w.heap.size #[.int .i64 n, v] 24 ∧ BK ((w.alloc (.cells #[.int .i64 n, v] 24)).alloc (.cells #[.int .i64 0, .slice none 0 0] 24)) (w.heap.size + 1) #[.int .i64 0, .slice none 0 0] 24 := tt_boxes w n 0 v (.slice none 0 0)
set_option maxHeartbeats 1000000 in
set_option maxRecDepth 100000 in
theorem rproject_f (t : Tb) (a : Option Addr) (c : Nat) (q bit : Int) (w : World) (H : TS w a c t.rows) (hR : ¬ Rt t) :
    Calls Try.prog 9 #[t.v a c, .int .i64 q, .int .i64 bit] w fun e w' => e = .returned (.tuple #[.agg #[.int .i64 0, .slice none 0 0], .int .i64 180]) ∧ Below w.heap.size w w' := by
  have CK := fun w' (h : Below w.heap.size w w') => rcheck_f t a c w' (H.below h) hR
  obtain ⟨hB0, hK0, hL0⟩ := rp_boxes w t.n (.slice a t.rows.length c)
  clear H hR
  obtain ⟨n, rs⟩ := t
  simp only at *
  go_enter Try.func9, Try.ntmps9
  go_wp2_with (go_at_call 16; (with_reducible refine (CK _ hB0).mono ?_); rintro e w1 ⟨rfl, hB1⟩; (have k1 := bk_on hL0 hB1); (have d1 := k1.cell); (have f1 := k1.free); have l1 := k1.lt)
  have r1 := (k1.set 0 (.int .i64 0)).set 1 (.slice none 0 0)
  have q0 := r1.cell 0
  have q1 := r1.cell 1
  exact bodyPost_ret (v := .tuple #[.agg #[.int .i64 0, .slice none 0 0], .int .i64 180]) (by simp [results, Try.results9, go_sem, q0, q1]) rfl ⟨rfl, bset (bset (btr hB0 hB1) (w.heap.size + 1) 0 _ (by omega)) (w.heap.size + 1) 1 _ (by omega)⟩
/-- Where the qubit or the bit is none. -/
theorem rproject_bad (t : Tb) (a : Option Addr) (c : Nat) (q bit E : Int) (w : World) (H : TS w a c t.rows) (hR : Rt t) (h : (q < 0 ∨ 0 ≤ q ∧ t.n ≤ q) ∧ E = 112 ∨ (0 ≤ q ∧ q < t.n) ∧ (bit < 0 ∨ 0 ≤ bit ∧ 1 < bit) ∧ E = 2) :
    Calls Try.prog 9 #[t.v a c, .int .i64 q, .int .i64 bit] w fun e w' => e = .returned (.tuple #[.agg #[.int .i64 0, .slice none 0 0], .int .i64 E]) ∧ Below w.heap.size w w' := by
  have CK := fun w' (h : Below w.heap.size w w') => rcheck_t t a c w' (H.below h) hR
  obtain ⟨hB0, hK0, hL0⟩ := rp_boxes w t.n (.slice a t.rows.length c)
  clear H hR
  obtain ⟨n, rs⟩ := t
  simp only at *
  rcases h with ⟨g | ⟨g0, g⟩, rfl⟩ | ⟨⟨g0, g1⟩, g | ⟨g2, g⟩, rfl⟩
  · go_enter Try.func9, Try.ntmps9
    go_wp2_with (go_at_call 16; (with_reducible refine (CK _ hB0).mono ?_); rintro e w1 ⟨rfl, hB1⟩; (have k0 := bk_on hK0 hB1); (have d0 := k0.cell); (have l0 := k0.lt); (have k1 := bk_on hL0 hB1); (have d1 := k1.cell); (have f1 := k1.free); have l1 := k1.lt)
    have r1 := (k1.set 0 (.int .i64 0)).set 1 (.slice none 0 0)
    have q0 := r1.cell 0
    have q1 := r1.cell 1
    exact bodyPost_ret (v := .tuple #[.agg #[.int .i64 0, .slice none 0 0], .int .i64 112]) (by simp [results, Try.results9, go_sem, q0, q1]) rfl ⟨rfl, bset (bset (btr hB0 hB1) (w.heap.size + 1) 0 _ (by omega)) (w.heap.size + 1) 1 _ (by omega)⟩
  · have g3 : ¬ q < 0 := by omega
    go_enter Try.func9, Try.ntmps9
    go_wp2_with (go_at_call 16; (with_reducible refine (CK _ hB0).mono ?_); rintro e w1 ⟨rfl, hB1⟩; (have k0 := bk_on hK0 hB1); (have d0 := k0.cell); (have l0 := k0.lt); (have k1 := bk_on hL0 hB1); (have d1 := k1.cell); (have f1 := k1.free); have l1 := k1.lt)
    have r1 := (k1.set 0 (.int .i64 0)).set 1 (.slice none 0 0)
    have q0 := r1.cell 0
    have q1 := r1.cell 1
    exact bodyPost_ret (v := .tuple #[.agg #[.int .i64 0, .slice none 0 0], .int .i64 112]) (by simp [results, Try.results9, go_sem, q0, q1]) rfl ⟨rfl, bset (bset (btr hB0 hB1) (w.heap.size + 1) 0 _ (by omega)) (w.heap.size + 1) 1 _ (by omega)⟩
  · have g3 : ¬ q < 0 := by omega
    have g4 : ¬ n ≤ q := by omega
    go_enter Try.func9, Try.ntmps9
    go_wp2_with (go_at_call 16; (with_reducible refine (CK _ hB0).mono ?_); rintro e w1 ⟨rfl, hB1⟩; (have k0 := bk_on hK0 hB1); (have d0 := k0.cell); (have l0 := k0.lt); (have k1 := bk_on hL0 hB1); (have d1 := k1.cell); (have f1 := k1.free); have l1 := k1.lt)
    have r1 := (k1.set 0 (.int .i64 0)).set 1 (.slice none 0 0)
    have q0 := r1.cell 0
    have q1 := r1.cell 1
    exact bodyPost_ret (v := .tuple #[.agg #[.int .i64 0, .slice none 0 0], .int .i64 2]) (by simp [results, Try.results9, go_sem, q0, q1]) rfl ⟨rfl, bset (bset (btr hB0 hB1) (w.heap.size + 1) 0 _ (by omega)) (w.heap.size + 1) 1 _ (by omega)⟩
  · have g3 : ¬ q < 0 := by omega
    have g4 : ¬ n ≤ q := by omega
    have g5 : ¬ bit < 0 := by omega
    go_enter Try.func9, Try.ntmps9
    go_wp2_with (go_at_call 16; (with_reducible refine (CK _ hB0).mono ?_); rintro e w1 ⟨rfl, hB1⟩; (have k0 := bk_on hK0 hB1); (have d0 := k0.cell); (have l0 := k0.lt); (have k1 := bk_on hL0 hB1); (have d1 := k1.cell); (have f1 := k1.free); have l1 := k1.lt)
    have r1 := (k1.set 0 (.int .i64 0)).set 1 (.slice none 0 0)
    have q0 := r1.cell 0
    have q1 := r1.cell 1
    exact bodyPost_ret (v := .tuple #[.agg #[.int .i64 0, .slice none 0 0], .int .i64 2]) (by simp [results, Try.results9, go_sem, q0, q1]) rfl ⟨rfl, bset (bset (btr hB0 hB1) (w.heap.size + 1) 0 _ (by omega)) (w.heap.size + 1) 1 _ (by omega)⟩
end Go.Proofs.Ytoddbaljnlhhaab
namespace Go.Proofs.Ytoddbaljnlhhaab
open Go.RowKit Go.Sort
open PL (pv PS bt)

theorem fnd_in {t : Tb} {q o : Int} (hR : Rt t) (hf : fndT t q = (o, true, 0)) : ∃ (q' N : Nat), q = (q' : Int) ∧ t.n = (N : Int) ∧ q' < N := by
  by_cases hq : 0 ≤ q ∧ q < t.n
  · obtain ⟨q', rfl⟩ := Int.eq_ofNat_of_zero_le hq.1
    obtain ⟨N, hN⟩ := Int.eq_ofNat_of_zero_le hR.n0
    exact ⟨q', N, rfl, hN, by omega⟩
  · unfold fndT at hf
    rw [if_neg hq] at hf
    cases hf
theorem OT.up {W : World} {B B' : Nat} {v : Value} {rs : List Pr} (h : OT W B v rs) (hb : B' ≤ B) : OT W B' v rs := by
  refine ⟨?_, h.w64, h.l⟩
  rcases h.own.2 with ⟨rfl, hn⟩ | ⟨g, cap, cur, rfl, h1, h2⟩
  · exact ⟨h.own.1, .inl ⟨rfl, hn⟩⟩
  · exact ⟨h.own.1, .inr ⟨g, cap, cur, rfl, Nat.le_trans hb h1, h2⟩⟩
set_option maxHeartbeats 1000000 in
set_option maxRecDepth 100000 in
theorem rproject_same (t : Tb) (a : Option Addr) (c : Nat) (q bit : Int) (w : World) (H : TS w a c t.rows) (hR : Rt t) (hf : fndT t q = (bit, true, 0)) (hb : bit = 0 ∨ bit = 1) :
    Calls Try.prog 9 #[t.v a c, .int .i64 q, .int .i64 bit] w fun e w' => ∃ v, e = .returned (.tuple #[.agg #[.int .i64 t.n, v], .int .i64 0]) ∧ OT w' w.heap.size v t.rows ∧ Below w.heap.size w w' := by
  obtain ⟨q, N, rfl, hN, hqN⟩ := fnd_in hR hf
  obtain ⟨n, rs⟩ := t
  have hN : n = (N : Int) := hN
  subst hN
  have hl : rs.length ≤ 1000 := by have h1 := hR.len; have h2 := hR.n1; simp only at h1 h2; omega
  have CK := fun w' (h : Below w.heap.size w w') => rcheck_t ⟨(N : Nat), rs⟩ a c w' (H.below h) hR
  have CP := hid (fun w' (h : Below w.heap.size w w') => rcopy_any ⟨(N : Nat), rs⟩ a c w' (H.below h) hl)
  have CE := hid (fun w' (h : Below w.heap.size w w') => rfnd_any N rs a c q w' (H.below h) hR hqN)
  rw [hf] at CE
  obtain ⟨hB0, hK0, hL0⟩ := rp_boxes w (N : Nat) (.slice a rs.length c)
  have g3 : ¬ ((q : Nat) : Int) < 0 := by omega
  have g4 : ¬ ((N : Nat) : Int) ≤ (q : Nat) := by omega
  have g4' : ¬ N ≤ q := by omega
  have g5 : ¬ bit < 0 := by omega
  have g6 : ¬ 1 < bit := by omega
  clear H hR hf hb hl
  simp only at *
  go_enter Try.func9, Try.ntmps9
  go_wp2_with (first
    | (go_at_call 16; (with_reducible refine (CK _ hB0).mono ?_); rintro e w1 ⟨rfl, hB1⟩; (have k0 := bk_on hK0 hB1); (have d0 := k0.cell); (have l0 := k0.lt))
    | (go_at_call 19; refine Hid.out ?_))
  refine hid ?_
  refine (CP.out _ (btr hB0 hB1)).mono ?_
  rintro e w2 ⟨v, rfl, HO, hB2⟩
  have HA1 := hid (btr (btr hB0 hB1) hB2)
  have HO := hid (OT.up HO (btr hB0 hB1).size)
  obtain ⟨a1, c1, rfl⟩ := own_shape HO.out.own
  have K0b := hid (bk_on k0 hB2)
  have K2 := hid (bk_on (bk_on hL0 hB1) hB2)
  have HA2 := hid (bal HA1.out (.cells #[.int .i64 (N : Nat), .slice a1 rs.length c1] 24))
  have K0c := hid (K0b.out.alloc (.cells #[.int .i64 (N : Nat), .slice a1 rs.length c1] 24))
  have d2 := K0c.out.cell
  have l2 := K0c.out.lt
  clear d0 l0 k0
  go_wp2_with (go_at_call 20; refine Hid.out ?_)
  refine hid ?_
  refine (CE.out _ HA2.out).mono ?_
  rintro e w3 ⟨rfl, hB3⟩
  have B2 := bk_new w2 #[.int .i64 (N : Nat), .slice a1 rs.length c1] 24
  have B3 := hid (bk_on B2 hB3)
  have dB := B3.out.cell
  have lB := B3.out.lt
  have K3 := hid (bk_on (K2.out.alloc (.cells #[.int .i64 (N : Nat), .slice a1 rs.length c1] 24)) hB3)
  have f3 := K3.out.free
  have d3 := K3.out.cell
  have l3 := K3.out.lt
  have HO3 := hid ((HO.out.below (bal (Below.refl w2.heap.size w2) (.cells #[.int .i64 (N : Nat), .slice a1 rs.length c1] 24))).below hB3)
  have r0 := K3.out.set 0 (.int .i64 (N : Nat))
  have r1 := r0.set 1 (.slice a1 rs.length c1)
  have HO4 := hid ((HO3.out.put K3.out (by decide) 0 (.int .i64 (N : Nat))).put r0 (by decide) 1 (.slice a1 rs.length c1))
  have HB4 := hid (bset (bset (btr HA2.out hB3) (w.heap.size + 1) 0 (.int .i64 (N : Nat)) (by omega)) (w.heap.size + 1) 1 (.slice a1 rs.length c1) (by omega))
  have q0 : ((w3.setCell ⟨w.heap.size + 1, 0, none⟩ (.int .i64 (N : Nat))).setCell ⟨w.heap.size + 1, 1, none⟩ (.slice a1 rs.length c1)).cell? ⟨w.heap.size + 1, 0, none⟩ = some (.int .i64 (N : Nat)) := r1.cell 0
  have q1 : ((w3.setCell ⟨w.heap.size + 1, 0, none⟩ (.int .i64 (N : Nat))).setCell ⟨w.heap.size + 1, 1, none⟩ (.slice a1 rs.length c1)).cell? ⟨w.heap.size + 1, 1, none⟩ = some (.slice a1 rs.length c1) := r1.cell 1
  clear r0 r1
  go_wp2
  exact bodyPost_ret (v := .tuple #[.agg #[.int .i64 (N : Nat), .slice a1 rs.length c1], .int .i64 0]) (by simp [results, Try.results9, go_sem, q0, q1]) rfl ⟨_, rfl, HO4.out, HB4.out⟩
set_option maxHeartbeats 1000000 in
set_option maxRecDepth 100000 in
theorem rproject_null (t : Tb) (a : Option Addr) (c : Nat) (q o bit : Int) (w : World) (H : TS w a c t.rows) (hR : Rt t) (hf : fndT t q = (o, true, 0)) (hb : bit = 0 ∨ bit = 1) (ho : ¬ o = bit) :
    Calls Try.prog 9 #[t.v a c, .int .i64 q, .int .i64 bit] w fun e w' => e = .returned (.tuple #[.agg #[.int .i64 0, .slice none 0 0], .int .i64 131]) ∧ Below w.heap.size w w' := by
  obtain ⟨q, N, rfl, hN, hqN⟩ := fnd_in hR hf
  obtain ⟨n, rs⟩ := t
  have hN : n = (N : Int) := hN
  subst hN
  have hl : rs.length ≤ 1000 := by have h1 := hR.len; have h2 := hR.n1; simp only at h1 h2; omega
  have CK := fun w' (h : Below w.heap.size w w') => rcheck_t ⟨(N : Nat), rs⟩ a c w' (H.below h) hR
  have CP := hid (fun w' (h : Below w.heap.size w w') => rcopy_any ⟨(N : Nat), rs⟩ a c w' (H.below h) hl)
  have CE := hid (fun w' (h : Below w.heap.size w w') => rfnd_any N rs a c q w' (H.below h) hR hqN)
  rw [hf] at CE
  obtain ⟨hB0, hK0, hL0⟩ := rp_boxes w (N : Nat) (.slice a rs.length c)
  have g3 : ¬ ((q : Nat) : Int) < 0 := by omega
  have g4 : ¬ ((N : Nat) : Int) ≤ (q : Nat) := by omega
  have g4' : ¬ N ≤ q := by omega
  have g5 : ¬ bit < 0 := by omega
  have g6 : ¬ 1 < bit := by omega
  clear H hR hf hb hl
  simp only at *
  go_enter Try.func9, Try.ntmps9
  go_wp2_with (first
    | (go_at_call 16; (with_reducible refine (CK _ hB0).mono ?_); rintro e w1 ⟨rfl, hB1⟩; (have k0 := bk_on hK0 hB1); (have d0 := k0.cell); (have l0 := k0.lt))
    | (go_at_call 19; refine Hid.out ?_))
  refine hid ?_
  refine (CP.out _ (btr hB0 hB1)).mono ?_
  rintro e w2 ⟨v, rfl, HO, hB2⟩
  have HA1 := hid (btr (btr hB0 hB1) hB2)
  have HO := hid (OT.up HO (btr hB0 hB1).size)
  obtain ⟨a1, c1, rfl⟩ := own_shape HO.out.own
  have K0b := hid (bk_on k0 hB2)
  have K2 := hid (bk_on (bk_on hL0 hB1) hB2)
  have HA2 := hid (bal HA1.out (.cells #[.int .i64 (N : Nat), .slice a1 rs.length c1] 24))
  have K0c := hid (K0b.out.alloc (.cells #[.int .i64 (N : Nat), .slice a1 rs.length c1] 24))
  have d2 := K0c.out.cell
  have l2 := K0c.out.lt
  clear d0 l0 k0
  go_wp2_with (go_at_call 20; refine Hid.out ?_)
  refine hid ?_
  refine (CE.out _ HA2.out).mono ?_
  rintro e w3 ⟨rfl, hB3⟩
  have K3 := hid (bk_on (K2.out.alloc (.cells #[.int .i64 (N : Nat), .slice a1 rs.length c1] 24)) hB3)
  have f3 := K3.out.free
  have d3 := K3.out.cell
  have l3 := K3.out.lt
  have r1 := (K3.out.set 0 (.int .i64 0)).set 1 (.slice none 0 0)
  have q0 : ((w3.setCell ⟨w.heap.size + 1, 0, none⟩ (.int .i64 0)).setCell ⟨w.heap.size + 1, 1, none⟩ (.slice none 0 0)).cell? ⟨w.heap.size + 1, 0, none⟩ = some (.int .i64 0) := r1.cell 0
  have q1 : ((w3.setCell ⟨w.heap.size + 1, 0, none⟩ (.int .i64 0)).setCell ⟨w.heap.size + 1, 1, none⟩ (.slice none 0 0)).cell? ⟨w.heap.size + 1, 1, none⟩ = some (.slice none 0 0) := r1.cell 1
  have HB4 := hid (bset (bset (btr HA2.out hB3) (w.heap.size + 1) 0 (.int .i64 0) (by omega)) (w.heap.size + 1) 1 (.slice none 0 0) (by omega))
  have ho' : (o != bit) = true := bne_iff_ne.2 ho
  clear r1
  go_wp2
  exact bodyPost_ret (v := .tuple #[.agg #[.int .i64 0, .slice none 0 0], .int .i64 131]) (by simp [results, Try.results9, go_sem, q0, q1]) rfl ⟨rfl, HB4.out⟩
end Go.Proofs.Ytoddbaljnlhhaab
namespace Go.Proofs.Ytoddbaljnlhhaab
open Go.RowKit Go.Sort
open PL (pv PS bt)

/-- The first j rows turned, but for those at i and at L. -/
def mixI (f : Pr → Pr) (i L : Nat) (rs : List Pr) (j : Nat) : List Pr := rs.mapIdx fun k r => if k < j ∧ k ≠ i ∧ k ≠ L then f r else r
section
variable {f : Pr → Pr} {i L : Nat} {rs : List Pr}
theorem mixI_len (j : Nat) : (mixI f i L rs j).length = rs.length := by unfold mixI; simp
theorem mixI_get (j k : Nat) : (mixI f i L rs j)[k]? = rs[k]?.map fun r => if k < j ∧ k ≠ i ∧ k ≠ L then f r else r := by unfold mixI; rw [List.getElem?_mapIdx]
theorem mixI_zero : mixI f i L rs 0 = rs := List.ext_getElem? fun k => by
  rw [mixI_get]
  cases rs[k]? with
  | none => rfl
  | some r => simp
theorem mixI_at {j : Nat} (h : j < rs.length) : (mixI f i L rs j)[j]? = some rs[j] := by
  rw [mixI_get, List.getElem?_eq_getElem h]
  simp
theorem mixI_skip {j : Nat} (h : j = i ∨ j = L) : mixI f i L rs (j + 1) = mixI f i L rs j := List.ext_getElem? fun k => by
  rw [mixI_get, mixI_get]
  congr 1
  funext r
  by_cases e : k = j
  · subst e
    rw [if_neg (by omega), if_neg (by omega)]
  · by_cases g : k < j
    · simp only [show k < j + 1 by omega, g]
    · simp only [show ¬ k < j + 1 by omega, g]
theorem mixI_same {j : Nat} (h : j < rs.length) (he : f rs[j] = rs[j]) : mixI f i L rs (j + 1) = mixI f i L rs j := List.ext_getElem? fun k => by
  rw [mixI_get, mixI_get]
  by_cases e : k = j
  · subst e
    rw [List.getElem?_eq_getElem h]
    simp only [Option.map_some]
    rw [he]
    simp
  · congr 1
    funext r
    by_cases g : k < j
    · simp only [show k < j + 1 by omega, g]
    · simp only [show ¬ k < j + 1 by omega, g]
theorem mixI_set {j : Nat} (h : j < rs.length) (hi : j ≠ i) (hL : j ≠ L) : (mixI f i L rs j).set j (f rs[j]) = mixI f i L rs (j + 1) := List.ext_getElem? fun k => by
  rw [List.getElem?_set, mixI_get, mixI_get, mixI_len]
  by_cases e : j = k
  · subst e
    rw [if_pos rfl, if_pos h, List.getElem?_eq_getElem h]
    simp only [Option.map_some]
    rw [if_pos ⟨by omega, hi, hL⟩]
  · rw [if_neg e]
    congr 1
    funext r
    by_cases g : k < j
    · simp only [show k < j + 1 by omega, g]
    · simp only [show ¬ k < j + 1 by omega, g]
theorem mixI_end {p z : Pr} : ((mixI f i L rs rs.length).set i p).set L z = ((rs.map f).set i p).set L z := List.ext_getElem? fun k => by
  simp only [List.getElem?_set, List.length_set, mixI_len, List.length_map, mixI_get, List.getElem?_map]
  by_cases e : L = k
  · rw [if_pos e, if_pos e]
  · rw [if_neg e, if_neg e]
    by_cases g : i = k
    · rw [if_pos g, if_pos g]
    · rw [if_neg g, if_neg g]
      by_cases hk : k < rs.length
      · congr 1
        funext r
        rw [if_pos ⟨hk, fun x => g x.symm, fun x => e x.symm⟩]
      · rw [List.getElem?_eq_none (by omega)]
        rfl
end
/-- What the rows ahead of the first that flips the qubit are. -/
theorem ff_rows {N q i : Nat} {rs : List Pr} (hl : rs.length = 2 * N) (hi : i = ffN q (rs.drop N)) (hiN : i < N) : (∀ k (h : N + k < rs.length), k < i → flp q rs[N + k] = false) ∧ ∀ h : N + i < rs.length, flp q rs[N + i] = true := by
  constructor
  · intro k h hk
    have h1 : k < (rs.drop N).length := by rw [List.length_drop]; omega
    have := ffN_not q (rs.drop N) k h1 (by omega)
    rwa [List.getElem_drop] at this
  · intro h
    have h1 : ffN q (rs.drop N) < (rs.drop N).length := by rw [List.length_drop]; omega
    have := ffN_at q (rs.drop N) h1
    rw [List.getElem_drop] at this
    subst hi
    exact this
end Go.Proofs.Ytoddbaljnlhhaab
