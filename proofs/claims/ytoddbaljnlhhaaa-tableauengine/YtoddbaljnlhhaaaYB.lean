/-
  Put together of: J4.
-/
import Derived.Test.YtoddbaljnlhhaaaXL
import Derived.Test.YtoddbaljnlhhaaaXM
import Derived.Test.YtoddbaljnlhhaaaYA
namespace Go.Proofs.Ytoddbaljnlhhaaa
open Go.RowKit Go.Sort
open PL (pv PS bt)

set_option maxHeartbeats 4000000 in
set_option maxRecDepth 100000 in
theorem rzero_yes (N : Nat) (w : World) (hN : N ≤ 64) : Calls Try.prog 10 #[.int .i64 (N : Nat)] w fun e w' => ∃ v, e = .returned (.tuple #[.agg #[.int .i64 (N : Nat), v], .int .i64 0]) ∧ OT w' w.heap.size v (zUp N 2) ∧ Below w.heap.size w w' := by
  obtain ⟨i7, hi7, hz7, hs7, hb7⟩ := info_parts Try.info27
  have HI7 := hid hi7
  have RN0 : ∀ q w, q < N → Calls Try.prog 36 #[.int .i64 (N : Nat), .int .i64 (q : Nat), .int .u8 88, .int .i64 0] w fun e w' => e = .returned (pv (zRow N 0 q).n (zRow N 0 q).x (zRow N 0 q).z (zRow N 0 q).f) ∧ Below w.heap.size w w' := fun q w h => ron_any (N : Nat) (q : Nat) 88 (2 ^ q) 0 N 0 w (fun w => PL.rone_x N q w hN h)
  have RN1 : ∀ q w, q < N → Calls Try.prog 36 #[.int .i64 (N : Nat), .int .i64 (q : Nat), .int .u8 90, .int .i64 0] w fun e w' => e = .returned (pv (zRow N 1 q).n (zRow N 1 q).x (zRow N 1 q).z (zRow N 1 q).f) ∧ Below w.heap.size w w' := fun q w h => ron_any (N : Nat) (q : Nat) 90 0 (2 ^ q) N 0 w (fun w => PL.rone_z N q w hN h)
  have g1 : decide (((N : Nat) : Int) < 0) = false := decide_eq_false (by omega)
  have g2 : decide (64 < ((N : Nat) : Int)) = false := decide_eq_false (by omega)
  have g3 : ¬ ((N : Nat) : Int) < 0 := by omega
  have g4 : ¬ 64 < ((N : Nat) : Int) := by omega
  clear hi7
  have HB0 := hid (bal (bal (Below.refl w.heap.size w) (.cells #[.int .i64 0, .slice none 0 0] 24)) (.cells #[.int .i64 (N : Nat), .slice none 0 0] 24))
  have HK0 := hid ((bk_new w #[.int .i64 0, .slice none 0 0] 24).alloc (.cells #[.int .i64 (N : Nat), .slice none 0 0] 24))
  have HK1 : Hid (BK ((w.alloc (.cells #[.int .i64 0, .slice none 0 0] 24)).alloc (.cells #[.int .i64 (N : Nat), .slice none 0 0] 24)) (w.heap.size + 1) #[.int .i64 (N : Nat), .slice none 0 0] 24) := by
    have h := bk_new (w.alloc (.cells #[.int .i64 0, .slice none 0 0] 24)) #[.int .i64 (N : Nat), .slice none 0 0] 24
    rw [PL.alz] at h
    exact h
  go_enter Try.func10, Try.ntmps10
  go_wp2
  go_loopw [5] (fun v5 wx => ∃ (q : Nat) (v : Value), q ≤ N ∧ v5 = .int .i64 (q : Nat) ∧ Hid (BK wx w.heap.size #[.int .i64 0, .slice none 0 0] 24) ∧ Hid (BK wx (w.heap.size + 1) #[.int .i64 (N : Nat), v] 24) ∧ Hid (OT wx w.heap.size v (zUp N 0 ++ zPart N 0 q)) ∧ Hid (Below w.heap.size w wx)) (fun v5 _ => N - (intOf v5).toNat)
  case atStart => exact ⟨0, .slice none 0 0, Nat.zero_le _, rfl, HK0, HK1, OT.nil _ _, HB0⟩
  case round =>
    clear HK0 HK1 HB0
    obtain ⟨q, v, hq, rfl, K0, K1, HO, HB⟩ := hrel
    by_cases hlq : q < N
    case neg =>
      obtain rfl : N = q := by omega
      have HO2 : Hid (OT wr w.heap.size v (zUp N 1 ++ zPart N 1 0)) := by
        show OT _ _ _ (zUp N 1 ++ [])
        rw [List.append_nil]
        exact HO.out
      clear HO
      have l1 := K1.out.lt
      go_wp2
      go_loopw [6] (fun v6 wx => ∃ (q : Nat) (v : Value), q ≤ N ∧ v6 = .int .i64 (q : Nat) ∧ Hid (BK wx w.heap.size #[.int .i64 0, .slice none 0 0] 24) ∧ Hid (BK wx (w.heap.size + 1) #[.int .i64 (N : Nat), v] 24) ∧ Hid (OT wx w.heap.size v (zUp N 1 ++ zPart N 1 q)) ∧ Hid (Below w.heap.size w wx)) (fun v6 _ => N - (intOf v6).toNat)
      case atStart => exact ⟨0, v, Nat.zero_le _, rfl, K0, K1, HO2, HB⟩
      case round =>
        clear K0 K1 HO2 HB l1 hlq
        obtain ⟨q, v, hq, rfl, K0, K1, HO, HB⟩ := hrel
        by_cases hlq : q < N
        case neg =>
          obtain rfl : N = q := by omega
          obtain ⟨L, hL⟩ : ∃ L, Hid (L = zUp N 2) := ⟨_, rfl⟩
          have HO3 : Hid (OT wr w.heap.size v L) := by
            show OT _ _ _ _
            rw [hL.out]
            exact HO.out
          clear HO
          have d1 := K1.out.cell
          have l1 := K1.out.lt
          have f0 := K0.out.free
          have d0 := K0.out.cell
          have l0 := K0.out.lt
          obtain ⟨a1, c1, rfl⟩ := own_shape HO3.out.own
          have r0 := K0.out.set 0 (.int .i64 (N : Nat))
          have r1 := r0.set 1 (.slice a1 L.length c1)
          have HO4 := hid ((HO3.out.put K0.out (by decide) 0 (.int .i64 (N : Nat))).put r0 (by decide) 1 (.slice a1 L.length c1))
          have HB4 := hid (bset (bset HB.out w.heap.size 0 (.int .i64 (N : Nat)) (Nat.le_refl _)) w.heap.size 1 (.slice a1 L.length c1) (Nat.le_refl _))
          have q0 : ((wr.setCell ⟨w.heap.size, 0, none⟩ (.int .i64 (N : Nat))).setCell ⟨w.heap.size, 1, none⟩ (.slice a1 L.length c1)).cell? ⟨w.heap.size, 0, none⟩ = some (.int .i64 (N : Nat)) := r1.cell 0
          have q1 : ((wr.setCell ⟨w.heap.size, 0, none⟩ (.int .i64 (N : Nat))).setCell ⟨w.heap.size, 1, none⟩ (.slice a1 L.length c1)).cell? ⟨w.heap.size, 1, none⟩ = some (.slice a1 L.length c1) := r1.cell 1
          go_wp2
          exact bodyPost_ret (v := .tuple #[.agg #[.int .i64 (N : Nat), .slice a1 L.length c1], .int .i64 0]) (by simp [results, Try.results10, go_sem, q0, q1]) rfl ⟨_, rfl, by rw [← hL.out]; exact HO4.out, HB4.out⟩
        have RR := fun w => RN1 q w hlq
        have HW := hid (zRow_lt 1 hN hlq)
        have HP : Hid (zPart N 1 (q + 1) = zPart N 1 q ++ [zRow N 1 q]) := zPart_succ N 1 q
        obtain ⟨L, hL⟩ : ∃ L, Hid (L = zUp N 1 ++ zPart N 1 q) := ⟨_, rfl⟩
        rw [← hL.out] at HO
        have HLL : Hid (L.length ≤ 128) := by
          show _ ≤ 128
          rw [hL.out, List.length_append, zUp_len, zPart_len]
          omega
        clear RN0 RN1
        generalize zRow N 1 q = r at *
        obtain ⟨rn, rx, rz, rf⟩ := r
        simp only at *
        obtain ⟨a1, c1, rfl⟩ := own_shape HO.out.own
        have d1 := K1.out.cell
        have l1 := K1.out.lt
        have HD1 := hid (bk_on K1.out drew_ofr)
        go_upto_region 11 with (fail)
        refine wp_region_noPanic ?_
        refine region_z (S := fun w' => w'.cell? ⟨w.heap.size + 1, 1, none⟩ = some (.slice a1 L.length c1)) 8 (by kernel_rfl) (HD1.out.cell 1) (fun hHeld => ?_)
        refine zAny_take (i := 0) (oi := { dst := some 34, op := Op.fieldAddr 24 (Operand.tmp 4) 1, type := 0, pos := "ref.go:182", after := #[], guard := none }) (v := ?_) rfl (by kernel_rfl) (by kernel_rfl) (by kernel_rfl) (by kernel_rfl) (fun _ _ _ h => h) (Or.inl ⟨by rfl, ?_⟩) (by assumption) ?_
        rotate_left
        (intro w0 hSw; (try dsimp only at hSw); go_simp; try (with_reducible rfl))
        (try simp only [Act.put, List.setIfInBounds_toArray, List.set_cons_zero, List.set_cons_succ])
        refine zAny_take (i := 1) (oi := { dst := some 35, op := Op.load 22 (Operand.tmp 34), type := 22, pos := "ref.go:182", after := #[{ on := 0, ground := Ground.data }], guard := none }) (v := ?_) rfl (by kernel_rfl) (by kernel_rfl) (by kernel_rfl) (by kernel_rfl) (fun _ _ _ h => h) (Or.inl ⟨by rfl, ?_⟩) (by assumption) ?_
        rotate_left
        (intro w0 hSw; (try dsimp only at hSw); go_simp; try (with_reducible rfl))
        (try simp only [Act.put, List.setIfInBounds_toArray, List.set_cons_zero, List.set_cons_succ])
        refine zAny_take (i := 2) (oi := { dst := some 36, op := Op.move (Operand.tmp 0), type := 3, pos := "ref.go:182", after := #[], guard := none }) (v := ?_) rfl (by kernel_rfl) (by kernel_rfl) (by kernel_rfl) (by kernel_rfl) (fun _ _ _ h => h) (Or.inl ⟨by rfl, ?_⟩) (by assumption) ?_
        rotate_left
        (intro w0 hSw; (try dsimp only at hSw); go_simp; try (with_reducible rfl))
        (try simp only [Act.put, List.setIfInBounds_toArray, List.set_cons_zero, List.set_cons_succ])
        refine zAny_take (i := 3) (oi := { dst := some 37, op := Op.move (Operand.tmp 6), type := 3, pos := "ref.go:182", after := #[], guard := none }) (v := ?_) rfl (by kernel_rfl) (by kernel_rfl) (by kernel_rfl) (by kernel_rfl) (fun _ _ _ h => h) (Or.inl ⟨by rfl, ?_⟩) (by assumption) ?_
        rotate_left
        (intro w0 hSw; (try dsimp only at hSw); go_simp; try (with_reducible rfl))
        (try simp only [Act.put, List.setIfInBounds_toArray, List.set_cons_zero, List.set_cons_succ])
        refine zAny_ready (rs := [4]) (by kernel_rfl) (by simp) (zReady.cons (o := { dst := some 38, op := Op.call { callee := Callee.value (Operand.func 36), args := #[Operand.tmp 36, Operand.tmp 37, Operand.const (Value.int IntKind.u8 90), Operand.const (Value.int IntKind.i64 0)], argTypes := #[3, 3, 5, 3] }, type := 27, pos := "ref.go:182", after := #[{ on := 2, ground := Ground.data }, { on := 3, ground := Ground.data }], guard := none }) rfl (fun K hK => ?_) zReady.nil)
        go_simp
        refine (RR _).mono ?_
        rintro e w1 ⟨rfl, hB1⟩
        have HK1b := hid (bk_on HD1.out hB1)
        have HBc := hid (btr drew_ofr hB1)
        clear hB1
        refine hK.out _ _ (fun _ => HK1b.out.cell 1) (fun _ => ?_)
        clear hK K
        (try simp only [Act.put, List.setIfInBounds_toArray, List.set_cons_zero, List.set_cons_succ])
        refine zAny_ready (rs := [5]) (by kernel_rfl) (by simp) (zReady.cons (o := { dst := some 39, op := Op.buildSlice 22 1 #[(0, Operand.tmp 38)], type := 22, pos := "ref.go:182", after := #[{ on := 4, ground := Ground.data }], guard := none }) rfl (fun K hK => ?_) zReady.nil)
        go_simp
        refine hK.out _ _ (fun _ => (HK1b.out.alloc _).cell 1) (fun _ => ?_)
        clear hK K
        (try simp only [Act.put, List.setIfInBounds_toArray, List.set_cons_zero, List.set_cons_succ])
        refine zAny_ready (rs := [6]) (by kernel_rfl) (by simp) (zReady.cons (o := { dst := some 40, op := Op.call { callee := Callee.builtin Builtin.append, args := #[Operand.tmp 35, Operand.tmp 39], argTypes := #[22, 22] }, type := 22, pos := "ref.go:182", after := #[{ on := 1, ground := Ground.data }, { on := 5, ground := Ground.data }, { on := 4, ground := Ground.chain }], guard := none }) rfl (fun K hK => ?_) zReady.nil)
        have hB2 := bal HBc.out (PL.pc rn rx rz rf)
        have hO2 := HO.out.own
        have hO3 := own_below hO2 hB2
        have hK1 := HK1b.out.alloc (PL.pc rn rx rz rf)
        have hnew : ∀ j u, (Pr.cs ⟨rn, rx, rz, rf⟩)[j]? = some u → (w1.alloc (PL.pc rn rx rz rf)).cell? ((⟨w1.heap.size, 0, none⟩ : Addr).add j) = some u := fun j u hj => by
          have h := bk_new w1 #[.int .i64 rn, .int .u64 (rx : Int), .int .u64 (rz : Int), .int .i64 rf] 27
          rw [WideShapes.add_plain, Nat.zero_add]
          rw [h.cell j, ← hj]
          exact List.getElem?_toArray
        have hLL := HLL.out
        refine step_own rfl _ _ 22 rfl w.heap.size 27 i7 _ 4 32 Try.underlying22 HI7.out hz7 hs7 hb7 rfl (by decide) _ L.length (prz L) rfl hO3 ⟨_, 0, none⟩ 1 1 (Pr.cs ⟨rn, rx, rz, rf⟩) rfl rfl hnew (by intro u hu; simp [Pr.cs] at hu; rcases hu with rfl | rfl | rfl | rfl <;> rfl) (by unfold maxLen; omega) (by omega) (by have h1 := HB.out.size; have h2 := hB2.size; exact Nat.le_trans h1 h2) ?_
        intro v6 w6 hown6 hgrow6 _
        have hO6 := OT.app HO.out hown6 HW.out HO.out.w64 (by omega)
        obtain ⟨a6, c6, rfl⟩ := own_shape hown6
        have HB6 := hid (below_own (btr HB.out hB2) hO3 hgrow6)
        have HK0 := hid (bk_grown hO3 hgrow6 (bk_on K0.out hB2) (by decide))
        have HK6 := hid (bk_grown hO3 hgrow6 hK1 (by decide))
        have HO6 := hid hO6
        clear hgrow6 hown6 hO6 hO3 hO2 hK1 hB2 hnew hLL
        refine hK.out _ _ (fun _ => HK6.out.cell 1) (fun _ => ?_)
        clear hK K
        (try simp only [Act.put, List.setIfInBounds_toArray, List.set_cons_zero, List.set_cons_succ])
        have hH4 := HK6.out.cell 1
        refine zAny_take (i := 7) (oi := { dst := some 41, op := Op.fieldAddr 24 (Operand.tmp 4) 1, type := 0, pos := "ref.go:182", after := #[{ on := 0, ground := Ground.phase }, { on := 1, ground := Ground.phase }, { on := 2, ground := Ground.phase }, { on := 3, ground := Ground.phase }, { on := 4, ground := Ground.phase }, { on := 5, ground := Ground.phase }, { on := 6, ground := Ground.phase }], guard := none }) (v := ?_) rfl (by kernel_rfl) (by kernel_rfl) (by kernel_rfl) (by kernel_rfl) (fun _ _ _ h => h) (Or.inl ⟨by rfl, ?_⟩) (by assumption) ?_
        rotate_left
        (intro w0 hSw; (try dsimp only at hSw); go_simp; try (with_reducible rfl))
        (try simp only [Act.put, List.setIfInBounds_toArray, List.set_cons_zero, List.set_cons_succ])
        refine zAny_ready (rs := [8]) (by kernel_rfl) (by simp) (zReady.cons (o := { dst := none, op := Op.store 22 (Operand.tmp 41) (Operand.tmp 40), type := 0, pos := "ref.go:182", after := #[{ on := 7, ground := Ground.data }, { on := 6, ground := Ground.data }, { on := 6, ground := Ground.chain }, { on := 0, ground := Ground.phase }, { on := 1, ground := Ground.phase }, { on := 2, ground := Ground.phase }, { on := 3, ground := Ground.phase }, { on := 4, ground := Ground.phase }, { on := 5, ground := Ground.phase }, { on := 6, ground := Ground.phase }], guard := none }) rfl (fun K hK => ?_) zReady.nil)
        have y1 := HK6.out.cell
        have y2 := HK6.out.free
        have y3 := HK6.out.lt
        go_simp
        refine hK.out _ _ (fun h => absurd rfl h) (fun _ => ?_)
        clear hK K hHeld
        (try simp only [Act.put, List.setIfInBounds_toArray, List.set_cons_zero, List.set_cons_succ])
        refine zAny_done (by kernel_rfl) ?_ _
        refine NoPanic.normal ?_
        have HF : Hid (L ++ [⟨rn, rx, rz, rf⟩] = zUp N 1 ++ zPart N 1 (q + 1)) := by show _ = _; rw [hL.out, HP.out, List.append_assoc]
        have HO7 := hid (HO6.out.put HK6.out (by decide) 1 (.slice a6 (L.length + 1) c6))
        rw [HF.out] at HO7
        go_wp2
        exact ⟨⟨q + 1, .slice a6 (L.length + 1) c6, by omega, rfl, HK0.out.far (c := w.heap.size + 1) (by omega) _ _, HK6.out.set 1 _, HO7.out, bset HB6.out (w.heap.size + 1) 1 _ (by omega)⟩, by simp only [intOf]; omega⟩
    have RR := fun w => RN0 q w hlq
    have HW := hid (zRow_lt 0 hN hlq)
    have HP : Hid (zPart N 0 (q + 1) = zPart N 0 q ++ [zRow N 0 q]) := zPart_succ N 0 q
    obtain ⟨L, hL⟩ : ∃ L, Hid (L = zUp N 0 ++ zPart N 0 q) := ⟨_, rfl⟩
    rw [← hL.out] at HO
    have HLL : Hid (L.length ≤ 128) := by
      show _ ≤ 128
      rw [hL.out, List.length_append, zUp_len, zPart_len]
      omega
    clear RN0 RN1
    generalize zRow N 0 q = r at *
    obtain ⟨rn, rx, rz, rf⟩ := r
    simp only at *
    obtain ⟨a1, c1, rfl⟩ := own_shape HO.out.own
    have d1 := K1.out.cell
    have l1 := K1.out.lt
    have HD1 := hid (bk_on K1.out drew_ofr)
    go_upto_region 7 with (fail)
    refine wp_region_noPanic ?_
    refine region_z (S := fun w' => w'.cell? ⟨w.heap.size + 1, 1, none⟩ = some (.slice a1 L.length c1)) 8 (by kernel_rfl) (HD1.out.cell 1) (fun hHeld => ?_)
    refine zAny_take (i := 0) (oi := { dst := some 21, op := Op.fieldAddr 24 (Operand.tmp 4) 1, type := 0, pos := "ref.go:179", after := #[], guard := none }) (v := ?_) rfl (by kernel_rfl) (by kernel_rfl) (by kernel_rfl) (by kernel_rfl) (fun _ _ _ h => h) (Or.inl ⟨by rfl, ?_⟩) (by assumption) ?_
    rotate_left
    (intro w0 hSw; (try dsimp only at hSw); go_simp; try (with_reducible rfl))
    (try simp only [Act.put, List.setIfInBounds_toArray, List.set_cons_zero, List.set_cons_succ])
    refine zAny_take (i := 1) (oi := { dst := some 22, op := Op.load 22 (Operand.tmp 21), type := 22, pos := "ref.go:179", after := #[{ on := 0, ground := Ground.data }], guard := none }) (v := ?_) rfl (by kernel_rfl) (by kernel_rfl) (by kernel_rfl) (by kernel_rfl) (fun _ _ _ h => h) (Or.inl ⟨by rfl, ?_⟩) (by assumption) ?_
    rotate_left
    (intro w0 hSw; (try dsimp only at hSw); go_simp; try (with_reducible rfl))
    (try simp only [Act.put, List.setIfInBounds_toArray, List.set_cons_zero, List.set_cons_succ])
    refine zAny_take (i := 2) (oi := { dst := some 23, op := Op.move (Operand.tmp 0), type := 3, pos := "ref.go:179", after := #[], guard := none }) (v := ?_) rfl (by kernel_rfl) (by kernel_rfl) (by kernel_rfl) (by kernel_rfl) (fun _ _ _ h => h) (Or.inl ⟨by rfl, ?_⟩) (by assumption) ?_
    rotate_left
    (intro w0 hSw; (try dsimp only at hSw); go_simp; try (with_reducible rfl))
    (try simp only [Act.put, List.setIfInBounds_toArray, List.set_cons_zero, List.set_cons_succ])
    refine zAny_take (i := 3) (oi := { dst := some 24, op := Op.move (Operand.tmp 5), type := 3, pos := "ref.go:179", after := #[], guard := none }) (v := ?_) rfl (by kernel_rfl) (by kernel_rfl) (by kernel_rfl) (by kernel_rfl) (fun _ _ _ h => h) (Or.inl ⟨by rfl, ?_⟩) (by assumption) ?_
    rotate_left
    (intro w0 hSw; (try dsimp only at hSw); go_simp; try (with_reducible rfl))
    (try simp only [Act.put, List.setIfInBounds_toArray, List.set_cons_zero, List.set_cons_succ])
    refine zAny_ready (rs := [4]) (by kernel_rfl) (by simp) (zReady.cons (o := { dst := some 25, op := Op.call { callee := Callee.value (Operand.func 36), args := #[Operand.tmp 23, Operand.tmp 24, Operand.const (Value.int IntKind.u8 88), Operand.const (Value.int IntKind.i64 0)], argTypes := #[3, 3, 5, 3] }, type := 27, pos := "ref.go:179", after := #[{ on := 2, ground := Ground.data }, { on := 3, ground := Ground.data }], guard := none }) rfl (fun K hK => ?_) zReady.nil)
    go_simp
    refine (RR _).mono ?_
    rintro e w1 ⟨rfl, hB1⟩
    have HK1b := hid (bk_on HD1.out hB1)
    have HBc := hid (btr drew_ofr hB1)
    clear hB1
    refine hK.out _ _ (fun _ => HK1b.out.cell 1) (fun _ => ?_)
    clear hK K
    (try simp only [Act.put, List.setIfInBounds_toArray, List.set_cons_zero, List.set_cons_succ])
    refine zAny_ready (rs := [5]) (by kernel_rfl) (by simp) (zReady.cons (o := { dst := some 26, op := Op.buildSlice 22 1 #[(0, Operand.tmp 25)], type := 22, pos := "ref.go:179", after := #[{ on := 4, ground := Ground.data }], guard := none }) rfl (fun K hK => ?_) zReady.nil)
    go_simp
    refine hK.out _ _ (fun _ => (HK1b.out.alloc _).cell 1) (fun _ => ?_)
    clear hK K
    (try simp only [Act.put, List.setIfInBounds_toArray, List.set_cons_zero, List.set_cons_succ])
    refine zAny_ready (rs := [6]) (by kernel_rfl) (by simp) (zReady.cons (o := { dst := some 27, op := Op.call { callee := Callee.builtin Builtin.append, args := #[Operand.tmp 22, Operand.tmp 26], argTypes := #[22, 22] }, type := 22, pos := "ref.go:179", after := #[{ on := 1, ground := Ground.data }, { on := 5, ground := Ground.data }, { on := 4, ground := Ground.chain }], guard := none }) rfl (fun K hK => ?_) zReady.nil)
    have hB2 := bal HBc.out (PL.pc rn rx rz rf)
    have hO2 := HO.out.own
    have hO3 := own_below hO2 hB2
    have hK1 := HK1b.out.alloc (PL.pc rn rx rz rf)
    have hnew : ∀ j u, (Pr.cs ⟨rn, rx, rz, rf⟩)[j]? = some u → (w1.alloc (PL.pc rn rx rz rf)).cell? ((⟨w1.heap.size, 0, none⟩ : Addr).add j) = some u := fun j u hj => by
      have h := bk_new w1 #[.int .i64 rn, .int .u64 (rx : Int), .int .u64 (rz : Int), .int .i64 rf] 27
      rw [WideShapes.add_plain, Nat.zero_add]
      rw [h.cell j, ← hj]
      exact List.getElem?_toArray
    have hLL := HLL.out
    refine step_own rfl _ _ 22 rfl w.heap.size 27 i7 _ 4 32 Try.underlying22 HI7.out hz7 hs7 hb7 rfl (by decide) _ L.length (prz L) rfl hO3 ⟨_, 0, none⟩ 1 1 (Pr.cs ⟨rn, rx, rz, rf⟩) rfl rfl hnew (by intro u hu; simp [Pr.cs] at hu; rcases hu with rfl | rfl | rfl | rfl <;> rfl) (by unfold maxLen; omega) (by omega) (by have h1 := HB.out.size; have h2 := hB2.size; exact Nat.le_trans h1 h2) ?_
    intro v6 w6 hown6 hgrow6 _
    have hO6 := OT.app HO.out hown6 HW.out HO.out.w64 (by omega)
    obtain ⟨a6, c6, rfl⟩ := own_shape hown6
    have HB6 := hid (below_own (btr HB.out hB2) hO3 hgrow6)
    have HK0 := hid (bk_grown hO3 hgrow6 (bk_on K0.out hB2) (by decide))
    have HK6 := hid (bk_grown hO3 hgrow6 hK1 (by decide))
    have HO6 := hid hO6
    clear hgrow6 hown6 hO6 hO3 hO2 hK1 hB2 hnew hLL
    refine hK.out _ _ (fun _ => HK6.out.cell 1) (fun _ => ?_)
    clear hK K
    (try simp only [Act.put, List.setIfInBounds_toArray, List.set_cons_zero, List.set_cons_succ])
    have hH4 := HK6.out.cell 1
    refine zAny_take (i := 7) (oi := { dst := some 28, op := Op.fieldAddr 24 (Operand.tmp 4) 1, type := 0, pos := "ref.go:179", after := #[{ on := 0, ground := Ground.phase }, { on := 1, ground := Ground.phase }, { on := 2, ground := Ground.phase }, { on := 3, ground := Ground.phase }, { on := 4, ground := Ground.phase }, { on := 5, ground := Ground.phase }, { on := 6, ground := Ground.phase }], guard := none }) (v := ?_) rfl (by kernel_rfl) (by kernel_rfl) (by kernel_rfl) (by kernel_rfl) (fun _ _ _ h => h) (Or.inl ⟨by rfl, ?_⟩) (by assumption) ?_
    rotate_left
    (intro w0 hSw; (try dsimp only at hSw); go_simp; try (with_reducible rfl))
    (try simp only [Act.put, List.setIfInBounds_toArray, List.set_cons_zero, List.set_cons_succ])
    refine zAny_ready (rs := [8]) (by kernel_rfl) (by simp) (zReady.cons (o := { dst := none, op := Op.store 22 (Operand.tmp 28) (Operand.tmp 27), type := 0, pos := "ref.go:179", after := #[{ on := 7, ground := Ground.data }, { on := 6, ground := Ground.data }, { on := 6, ground := Ground.chain }, { on := 0, ground := Ground.phase }, { on := 1, ground := Ground.phase }, { on := 2, ground := Ground.phase }, { on := 3, ground := Ground.phase }, { on := 4, ground := Ground.phase }, { on := 5, ground := Ground.phase }, { on := 6, ground := Ground.phase }], guard := none }) rfl (fun K hK => ?_) zReady.nil)
    have y1 := HK6.out.cell
    have y2 := HK6.out.free
    have y3 := HK6.out.lt
    go_simp
    refine hK.out _ _ (fun h => absurd rfl h) (fun _ => ?_)
    clear hK K hHeld
    (try simp only [Act.put, List.setIfInBounds_toArray, List.set_cons_zero, List.set_cons_succ])
    refine zAny_done (by kernel_rfl) ?_ _
    refine NoPanic.normal ?_
    have HF : Hid (L ++ [⟨rn, rx, rz, rf⟩] = zUp N 0 ++ zPart N 0 (q + 1)) := by show _ = _; rw [hL.out, HP.out, List.append_assoc]
    have HO7 := hid (HO6.out.put HK6.out (by decide) 1 (.slice a6 (L.length + 1) c6))
    rw [HF.out] at HO7
    go_wp2
    exact ⟨⟨q + 1, .slice a6 (L.length + 1) c6, by omega, rfl, HK0.out.far (c := w.heap.size + 1) (by omega) _ _, HK6.out.set 1 _, HO7.out, bset HB6.out (w.heap.size + 1) 1 _ (by omega)⟩, by simp only [intOf]; omega⟩
set_option maxHeartbeats 1000000 in
theorem rzero_no (n : Int) (w : World) (h : ¬ (0 ≤ n ∧ n ≤ 64)) : Calls Try.prog 10 #[.int .i64 n] w fun e w' => e = .returned (.tuple #[.agg #[.int .i64 0, .slice none 0 0], .int .i64 2]) ∧ Below w.heap.size w w' := by
  have k0 := bk_new w #[.int .i64 0, .slice none 0 0] 24
  have r1 := (k0.set 0 (.int .i64 0)).set 1 (.slice none 0 0)
  by_cases g : n < 0
  · go_enter Try.func10, Try.ntmps10
    go_wp2
    exact bodyPost_ret (v := .tuple #[.agg #[.int .i64 0, .slice none 0 0], .int .i64 2]) (by simp [results, Try.results10, go_sem]) rfl ⟨rfl, bal (Below.refl _ _) _⟩
  · have g2 : 64 < n := by omega
    clear h
    go_enter Try.func10, Try.ntmps10
    go_wp2
    exact bodyPost_ret (v := .tuple #[.agg #[.int .i64 0, .slice none 0 0], .int .i64 2]) (by simp [results, Try.results10, go_sem]) rfl ⟨rfl, bal (Below.refl _ _) _⟩
/-- What Zero tells. -/
def zrT (n : Int) : Tb × Int := if 0 ≤ n ∧ n ≤ 64 then (⟨n, zUp n.toNat 2⟩, 0) else (⟨0, []⟩, 2)
theorem rzero_any (n : Int) (w : World) : Calls Try.prog 10 #[.int .i64 n] w fun e w' => ∃ v, e = .returned (.tuple #[.agg #[.int .i64 (zrT n).1.n, v], .int .i64 (zrT n).2]) ∧ OT w' w.heap.size v (zrT n).1.rows ∧ Below w.heap.size w w' := by
  unfold zrT
  by_cases h : 0 ≤ n ∧ n ≤ 64
  · rw [if_pos h]
    obtain ⟨N, rfl⟩ := Int.eq_ofNat_of_zero_le h.1
    exact rzero_yes N w (by omega)
  · rw [if_neg h]
    exact (rzero_no n w h).mono fun e w' ⟨h1, h2⟩ => ⟨_, h1, OT.nil _ _, h2⟩
theorem zero_any (n : Int) (w : World) : Calls Try.prog 14 #[.int .i64 n] w fun e w' => ∃ v, e = .returned (.tuple #[.agg #[.int .i64 (zrT n).1.n, v], .int .i64 (zrT n).2]) ∧ OT w' w.heap.size v (zrT n).1.rows ∧ Below w.heap.size w w' := by
  unfold zrT
  by_cases h : 0 ≤ n ∧ n ≤ 64
  · rw [if_pos h]
    obtain ⟨N, rfl⟩ := Int.eq_ofNat_of_zero_le h.1
    exact zero_yes N w (by omega)
  · rw [if_neg h]
    exact (zero_no n w h).mono fun e w' ⟨h1, h2⟩ => ⟨_, h1, OT.nil _ _, h2⟩
end Go.Proofs.Ytoddbaljnlhhaaa
