/-
  The law LinearSynth, where the rank is full.
-/
import Derived.Test.YtinkdonaedoojaaS5
import Derived.Test.YtinkdonaedoojaaZ0
namespace Go.Proofs.Ytinkdonaedoojaa
open Go.RowKit

abbrev z7 : Array Value := #[.int .i64 0, .string ⟨#[]⟩, .slice none 0 0, .int .i64 0, .bool false, .int .u64 0, .int .u64 0]
abbrev oc7 (b q : Nat) : Array Value := #[.int .i64 1, .string cxN, .slice (some ⟨b, 0, none⟩) 2 q, .int .i64 0, .bool false, .int .u64 0, .int .u64 0]
theorem rr_congr {W : World} {a : Option Addr} {n : Nat} {f g : Nat → Nat} (h : RR W a n f) (e : ∀ i, i < n → f i = g i) : RR W a n g :=
  ⟨fun i hi => by rw [← e i hi]; exact h.at_ i hi, fun i hi => by rw [← e i hi]; exact h.lt i hi, h.l⟩
/-- A gate at place k. -/
structure RA (W : World) (g k b q x y : Nat) : Prop where
  c0 : W.cell? ⟨g, k * 7, none⟩ = some (.int .i64 1)
  c1 : W.cell? ⟨g, k * 7 + 1, none⟩ = some (.string cxN)
  c2 : W.cell? ⟨g, k * 7 + 2, none⟩ = some (.slice (some ⟨b, 0, none⟩) 2 q)
  c3 : W.cell? ⟨g, k * 7 + 3, none⟩ = some (.int .i64 0)
  c4 : W.cell? ⟨g, k * 7 + 4, none⟩ = some (.bool false)
  c5 : W.cell? ⟨g, k * 7 + 5, none⟩ = some (.int .u64 0)
  c6 : W.cell? ⟨g, k * 7 + 6, none⟩ = some (.int .u64 0)
  gl : g < W.heap.size
  q0 : W.cell? ⟨b, 0, none⟩ = some (.int .i64 x)
  q1 : W.cell? ⟨b, 1, none⟩ = some (.int .i64 y)
  bl : b < W.heap.size
theorem RA.on {W W' : World} {g k b q x y : Nat} (h : RA W g k b q x y) (hb : Below W.heap.size W W') : RA W' g k b q x y := by
  have e := fun o => hb.cell (p := ⟨g, o, none⟩) h.gl
  have d := fun o => hb.cell (p := ⟨b, o, none⟩) h.bl
  exact ⟨(e _).trans h.c0, (e _).trans h.c1, (e _).trans h.c2, (e _).trans h.c3, (e _).trans h.c4, (e _).trans h.c5, (e _).trans h.c6, Nat.lt_of_lt_of_le h.gl hb.size, (d _).trans h.q0, (d _).trans h.q1, Nat.lt_of_lt_of_le h.bl hb.size⟩
theorem oz_ra {W : World} {B : Nat} {a : Option Addr} {c : Nat} {l : List (Nat × Nat)} (h : OZ W B (.slice a l.length c) l) {k : Nat} (hk : k < l.length) : ∃ g b q, a = some ⟨g, 0, none⟩ ∧ RA W g k b q l[k].1 l[k].2 := by
  obtain ⟨a', c', A, C, e, h1, h2, h3, h4⟩ := h.ex
  obtain ⟨rfl, rfl⟩ : a = a' ∧ c = c' := by simpa using e
  obtain ⟨g, ha, _, ⟨cs, hg⟩, hc⟩ := h3 k hk
  obtain ⟨_, b, hA, _, ⟨cs2, hb⟩, q0, q1, _⟩ := h4 k hk
  rw [hA] at hc
  exact ⟨g, b, C k, ha, hc 0 _ rfl, hc 1 _ rfl, hc 2 _ rfl, hc 3 _ rfl, hc 4 _ rfl, hc 5 _ rfl, hc 6 _ rfl, hg.lt, q0, q1, hb.lt⟩
set_option maxHeartbeats 8000000 in
set_option maxRecDepth 100000 in
theorem lsynth_yes (n : Nat) (a : Option Addr) (c : Nat) (f : Nat → Nat) (w : World) (H : RR w a n f) (hg : Gd n n f) (hb : syB n f n = true) :
    Calls Try.prog 5 #[lv n a n c] w fun e w' => e = .returned (.bool true) ∧ Below w.heap.size w w' := by
  have hn : n ≤ 64 := by have := hg.2.1; omega
  have hr := sy_full hg.2.2.2 hb
  have P1 : ∀ w', Below w.heap.size w w' → Calls Try.prog 24 #[lv n a n c] w' fun e w2 => CR w' w2 e n (syS n f n).l.reverse 0 := fun w' h => by
    refine (synth_good n a c f w' (H.below h) hg).mono ?_
    rintro e w2 (⟨_, h2⟩ | ⟨h1, _⟩)
    · exact h2
    · rw [hb] at h1; cases h1
  have P2 := fun w' (h : Below w.heap.size w w') => check_good n a c f w' (H.below h) hn hg.2.2.2
  have P3 : ∀ w', Below w.heap.size w w' → Calls Try.prog 20 #[lv n a n c] w' fun e w2 => LR w' w2 e n n (iv n f) 0 := fun w' h => by
    refine (inverse_good n a c f w' (H.below h) hg).mono ?_
    rintro e w2 (⟨_, h2⟩ | ⟨h1, _⟩)
    · exact h2
    · omega
  have hq : GQ n (syS n f n).l.reverse := fun g hg => syS_q n f n (Nat.le_refl _) g (List.mem_reverse.1 hg)
  have hlen : (syS n f n).l.reverse.length ≤ n * n := by rw [List.length_reverse]; exact syS_len2 n f n (Nat.le_refl _)
  have hnn : n * n ≤ 4096 := Nat.mul_le_mul hn hn
  have hbk := sy_back hg.2.2.2 hb
  have P5 : ∀ w' B a' c', OZ w' B (.slice a' (syS n f n).l.reverse.length c') (syS n f n).l.reverse → Calls Try.prog 22 #[.agg #[.int .i64 (n : Nat), .int .i64 0, .slice a' (syS n f n).l.reverse.length c']] w' fun e w2 => LR w' w2 e n n (runG (fun i => 2 ^ i) (syS n f n).l.reverse) 0 := fun w' B a' c' hO => by
    obtain ⟨a2, c2, A, C, e, hS⟩ := hO.read
    obtain ⟨rfl, rfl⟩ : a' = a2 ∧ c' = c2 := by simpa using e
    have h := from_any ⟨(n : Int), 0, (syS n f n).l.reverse.map cxo⟩ a' c' A C w' hS
    rw [frR_cx hn hq (Nat.le_trans hlen hnn)] at h
    have h2 : Calls Try.prog 22 #[.agg #[.int .i64 (n : Int), .int .i64 0, .slice a' ((syS n f n).l.reverse.map cxo).length c']] w' fun e w2 => LR w' w2 e n n (runG (fun i => 2 ^ i) (syS n f n).l.reverse) 0 := h
    rw [List.length_map] at h2
    exact h2
  have P6 : ∀ w' (a' : Option Addr) (c' : Nat), Below w.heap.size w w' → RR w' a' n (runG (fun i => 2 ^ i) (syS n f n).l.reverse) → Calls Try.prog 13 #[lv n a' n c', lv n a n c] w' fun e w2 => e = .returned (.bool true) ∧ Below w'.heap.size w' w2 := fun w' a' c' h hR =>
    same_any n n n n a' a c' c f f w' (rr_congr hR hbk) (H.below h) true (fun _ _ _ => rfl) (fun h => absurd ⟨rfl, rfl, fun _ _ => rfl⟩ h)
  have HB := hid (bal (Below.refl w.heap.size w) (.cells (lcs n a n c) 24))
  have K0 := hid (bk_new w (lcs n a n c) 24)
  have AL := alive_any
  clear H hg hb hr hbk hq
  generalize runG (fun i => 2 ^ i) (syS n f n).l.reverse = F at *
  generalize (syS n f n).l.reverse = l at *
  have hL : ¬ (wrap64 ((n : Int) * (n : Int)) < (l.length : Int)) := by
    have : ((n * n : Nat) : Int) = (n : Int) * n := by simp
    rw [wrap64_small (by omega) (by omega)]
    omega
  have hL2 : (l.length : Int) ≤ wrap64 ((n : Int) * (n : Int)) := by omega
  have HLn := hid (Nat.le_trans hlen hnn)
  clear hlen hnn
  go_enter Try.func5, Try.ntmps5
  go_upto_region 3 with (go_at_call 8; (with_reducible refine (AL _).mono ?_); rintro e w1 ⟨rfl, hN⟩)
  replace HB := hid (btr HB.out hN)
  replace K0 := hid (bk_on K0.out hN)
  clear hN AL
  have d0 := K0.out.cell
  have l0 := K0.out.lt
  go_upto_region 4 with (go_at_call 24; (with_reducible refine (P1 _ HB.out).mono ?_); rintro e wa hC; obtain ⟨a3, c3, rfl, hO, hN⟩ := cr_box hC)
  have hA := bal (Below.refl wa.heap.size wa) (.cells (ccs n a3 l.length c3) 50)
  replace HB := hid (btr (btr HB.out hN) hA)
  replace K0 := hid (bk_on (bk_on K0.out hN) hA)
  have K3 := hid (bk_new wa (ccs n a3 l.length c3) 50)
  have O3 := hid (hO.on hA)
  clear hN hO d0 l0 hC hA
  generalize hV : wa.alloc (.cells (ccs n a3 l.length c3) 50) = V at *
  clear hV
  generalize wa.heap.size = b3 at *
  have d0 := K0.out.cell
  have l0 := K0.out.lt
  go_upto_region 7 with (go_at_call 9; (with_reducible refine (P2 _ HB.out).mono ?_); rintro e wb ⟨rfl, hN⟩)
  replace HB := hid (btr HB.out hN)
  replace K0 := hid (bk_on K0.out hN)
  replace K3 := hid (bk_on K3.out hN)
  replace O3 := hid (O3.out.on hN)
  clear hN d0 l0 P2
  have d0 := K0.out.cell
  have l0 := K0.out.lt
  go_upto_region 8 with (go_at_call 20; (with_reducible refine (P3 _ HB.out).mono ?_); rintro e wc hC; obtain ⟨ax, cx, rfl, hN⟩ := lr_box2 hC)
  have hA := bal (Below.refl wc.heap.size wc) (.cells #[.int .i64 (n : Int), .slice ax n cx] 24)
  replace HB := hid (btr (btr HB.out hN) hA)
  replace K0 := hid (bk_on (bk_on K0.out hN) hA)
  replace K3 := hid (bk_on (bk_on K3.out hN) hA)
  replace O3 := hid ((O3.out.on hN).on hA)
  clear hN d0 l0 P3 hC hA
  generalize wc.alloc (.cells #[.int .i64 (n : Int), .slice ax n cx] 24) = V2 at *
  have d0 := K0.out.cell
  have l0 := K0.out.lt
  go_upto_region 13 with (go_at_call 24; (with_reducible refine (P1 _ HB.out).mono ?_); rintro e wd hC; obtain ⟨a8, c8, rfl, hO, hN⟩ := cr_box hC)
  have hA := bal (Below.refl wd.heap.size wd) (.cells (ccs n a8 l.length c8) 50)
  replace HB := hid (btr (btr HB.out hN) hA)
  replace K0 := hid (bk_on (bk_on K0.out hN) hA)
  replace K3 := hid (bk_on (bk_on K3.out hN) hA)
  replace O3 := hid ((O3.out.on hN).on hA)
  have K8 := hid (bk_new wd (ccs n a8 l.length c8) 50)
  have O8 := hid (hO.on hA)
  clear hN d0 l0 P1 hC hO hA
  generalize wd.alloc (.cells (ccs n a8 l.length c8) 50) = V3 at *
  generalize wd.heap.size = b8 at *
  have d0 := K0.out.cell
  have l0 := K0.out.lt
  have d3 := K3.out.cell
  have l3 := K3.out.lt
  have d8 := K8.out.cell
  have l8 := K8.out.lt
  have hnn2 : ((n : Int) != (n : Int)) = false := bne_self_eq_false' _
  have hll2 : ((l.length : Int) != (l.length : Int)) = false := bne_self_eq_false' _
  have hL3 : decide (wrap64 ((n : Int) * (n : Int)) < (l.length : Int)) = false := decide_eq_false (by omega)
  go_cut [90] from 57 to 89 (fun v90 W => v90 = Value.bool false ∧ V3 = W)
  case first =>
    clear P5 P6
    go_wp2
    go_meet
    case rel => exact ⟨rfl, rfl⟩
  obtain ⟨rfl, rfl⟩ := hcut
  go_wp2
  go_loopw [10] (fun v10 wx => ∃ k : Nat, k ≤ l.length ∧ v10 = .int .i64 k ∧ Hid (Below V3.heap.size V3 wx)) (fun v10 _ => l.length - (intOf v10).toNat)
  case atStart => exact ⟨0, Nat.zero_le _, rfl, hid (Below.refl _ _)⟩
  case round =>
    clear d0 l0 d3 l3 d8 l8
    obtain ⟨k, hk, rfl, HBw⟩ := hrel
    have hl4 := HLn.out
    have k3 := bk_on K3.out HBw.out
    have k8 := bk_on K8.out HBw.out
    have d3 := k3.cell
    have l3 := k3.lt
    have d8 := k8.cell
    have l8 := k8.lt
    by_cases hlt : k < l.length
    case neg =>
      obtain rfl : k = l.length := by omega
      have hBB := btr HB.out HBw.out
      have k0 := bk_on K0.out HBw.out
      have C5 := P5 _ _ _ _ (O3.out.on HBw.out)
      clear d8 l8 k8
      go_upto_region 22 with (go_at_call 22; (with_reducible refine C5.mono ?_); rintro e we ⟨v, rfl, hO, hN⟩; obtain ⟨a13, c13, rfl, hR⟩ := hO.rr)
      have hA := bal (Below.refl we.heap.size we) (.cells #[.int .i64 (n : Int), .slice a13 n c13] 24)
      have hB2 := btr (btr hBB hN) hA
      have k0' := bk_on (bk_on k0 hN) hA
      have k13 := bk_new we #[.int .i64 (n : Int), .slice a13 n c13] 24
      have C6 := P6 _ a13 c13 hB2 (hR.below hA)
      clear k0 hR hO hN hA hBB d3 l3 k3
      generalize we.alloc (.cells #[.int .i64 (n : Int), .slice a13 n c13] 24) = V4 at *
      have d0 := k0'.cell
      have l0 := k0'.lt
      have d13 := k13.cell
      have l13 := k13.lt
      go_wp2_with (go_at_call 13; (with_reducible refine C6.mono ?_); rintro e wz ⟨rfl, hN⟩)
      go_ret
      exact ⟨rfl, btr hB2 hN⟩
    obtain ⟨g3, bq3, q3, rfl, r3⟩ := oz_ra (O3.out.on HBw.out) hlt
    obtain ⟨g8, bq8, q8, rfl, r8⟩ := oz_ra (O8.out.on HBw.out) hlt
    have z3 : wr.cell? ⟨b3, 2, none⟩ = some (.slice (some ⟨g3, 0, none⟩) l.length c3) := d3 2
    have z8 : wr.cell? ⟨b8, 2, none⟩ = some (.slice (some ⟨g8, 0, none⟩) l.length c8) := d8 2
    generalize l[k].1 = x at *
    generalize l[k].2 = y at *
    have hx : ((x : Int) != (x : Int)) = false := bne_self_eq_false' _
    have hy : ((y : Int) != (y : Int)) = false := bne_self_eq_false' _
    go_upto_region 18 with (fail)
    clear d3 d8
    refine wp_region_noPanic ?_
    refine region_z (S := fun W => Below wr.heap.size wr W) 13 (by kernel_rfl) (below_drew (Below.refl _ _)) (fun hHeld => ?_)
    clear hHeld
    have HX : Hid (Below wr.heap.size wr wr.drew) := hid (below_drew (Below.refl _ _))
    have hXz : wr.heap.size ≤ wr.drew.heap.size := HX.out.size
    generalize wr.drew = X at *
    refine zAny_take (i := 0) (oi := { dst := some 98, op := Op.fieldAddr 50 (Operand.tmp 3) 2, type := 0, pos := "law.go:96", after := #[], guard := none }) (v := ?_) rfl (by kernel_rfl) (by kernel_rfl) (by kernel_rfl) (by kernel_rfl) (fun _ _ _ h => h) (Or.inl ⟨by rfl, ?_⟩) HX.out ?_
    rotate_left
    (intro w0 hSw; clear hSw; go_simp; try (with_reducible rfl))
    (try simp only [Act.put, List.setIfInBounds_toArray, List.set_cons_zero, List.set_cons_succ])
    refine zAny_take (i := 1) (oi := { dst := some 99, op := Op.load 48 (Operand.tmp 98), type := 48, pos := "law.go:96", after := #[{ on := 0, ground := Ground.data }], guard := none }) (v := ?_) rfl (by kernel_rfl) (by kernel_rfl) (by kernel_rfl) (by kernel_rfl) (fun _ _ _ h => h) (Or.inl ⟨by rfl, ?_⟩) HX.out ?_
    rotate_left
    (intro w0 hSw; have e0 := (Below.cell (p := ⟨b3, 2, none⟩) hSw l3).trans z3; clear hSw; go_simp; try (with_reducible rfl))
    (try simp only [Act.put, List.setIfInBounds_toArray, List.set_cons_zero, List.set_cons_succ])
    refine zAny_take (i := 2) (oi := { dst := some 100, op := Op.move (Operand.tmp 10), type := 3, pos := "law.go:96", after := #[], guard := none }) (v := ?_) rfl (by kernel_rfl) (by kernel_rfl) (by kernel_rfl) (by kernel_rfl) (fun _ _ _ h => h) (Or.inl ⟨by rfl, ?_⟩) HX.out ?_
    rotate_left
    (intro w0 hSw; clear hSw; go_simp; try (with_reducible rfl))
    (try simp only [Act.put, List.setIfInBounds_toArray, List.set_cons_zero, List.set_cons_succ])
    refine zAny_take (i := 3) (oi := { dst := some 101, op := Op.indexAddr 48 (Operand.tmp 99) (Operand.tmp 100), type := 0, pos := "law.go:96", after := #[{ on := 1, ground := Ground.data }, { on := 2, ground := Ground.data }], guard := none }) (v := ?_) rfl (by kernel_rfl) (by kernel_rfl) (by kernel_rfl) (by kernel_rfl) (fun _ _ _ h => h) (Or.inl ⟨by rfl, ?_⟩) HX.out ?_
    rotate_left
    (intro w0 hSw; clear hSw; go_simp; try (with_reducible rfl))
    (try simp only [Act.put, List.setIfInBounds_toArray, List.set_cons_zero, List.set_cons_succ])
    refine zAny_take (i := 4) (oi := { dst := some 102, op := Op.load 58 (Operand.tmp 101), type := 58, pos := "law.go:96", after := #[{ on := 3, ground := Ground.data }], guard := none }) (v := ?_) rfl (by kernel_rfl) (by kernel_rfl) (by kernel_rfl) (by kernel_rfl) (fun _ _ _ h => h) (Or.inl ⟨by rfl, ?_⟩) HX.out ?_
    rotate_left
    (intro w0 hSw; have e := r3.on hSw; have e0 := e.c0; have e1 := e.c1; have e2 := e.c2; have e3 := e.c3; have e4 := e.c4; have e5 := e.c5; have e6 := e.c6; clear e; clear hSw; go_simp; try (with_reducible rfl))
    (try simp only [Act.put, List.setIfInBounds_toArray, List.set_cons_zero, List.set_cons_succ])
    refine zAny_take (i := 5) (oi := { dst := some 103, op := Op.fieldAddr 50 (Operand.tmp 8) 2, type := 0, pos := "law.go:96", after := #[{ on := 12, ground := Ground.gcOnly Departure.lateStores }], guard := none }) (v := ?_) rfl (by kernel_rfl) (by kernel_rfl) (by kernel_rfl) (by kernel_rfl) (fun _ _ _ h => h) (Or.inl ⟨by rfl, ?_⟩) HX.out ?_
    rotate_left
    (intro w0 hSw; clear hSw; go_simp; try (with_reducible rfl))
    (try simp only [Act.put, List.setIfInBounds_toArray, List.set_cons_zero, List.set_cons_succ])
    refine zAny_take (i := 6) (oi := { dst := some 104, op := Op.load 48 (Operand.tmp 103), type := 48, pos := "law.go:96", after := #[{ on := 5, ground := Ground.data }, { on := 12, ground := Ground.gcOnly Departure.lateStores }], guard := none }) (v := ?_) rfl (by kernel_rfl) (by kernel_rfl) (by kernel_rfl) (by kernel_rfl) (fun _ _ _ h => h) (Or.inl ⟨by rfl, ?_⟩) HX.out ?_
    rotate_left
    (intro w0 hSw; have e0 := (Below.cell (p := ⟨b8, 2, none⟩) hSw l8).trans z8; clear hSw; go_simp; try (with_reducible rfl))
    (try simp only [Act.put, List.setIfInBounds_toArray, List.set_cons_zero, List.set_cons_succ])
    refine zAny_take (i := 7) (oi := { dst := some 105, op := Op.move (Operand.tmp 10), type := 3, pos := "law.go:96", after := #[{ on := 12, ground := Ground.gcOnly Departure.lateStores }], guard := none }) (v := ?_) rfl (by kernel_rfl) (by kernel_rfl) (by kernel_rfl) (by kernel_rfl) (fun _ _ _ h => h) (Or.inl ⟨by rfl, ?_⟩) HX.out ?_
    rotate_left
    (intro w0 hSw; clear hSw; go_simp; try (with_reducible rfl))
    (try simp only [Act.put, List.setIfInBounds_toArray, List.set_cons_zero, List.set_cons_succ])
    refine zAny_take (i := 8) (oi := { dst := some 106, op := Op.indexAddr 48 (Operand.tmp 104) (Operand.tmp 105), type := 0, pos := "law.go:96", after := #[{ on := 6, ground := Ground.data }, { on := 7, ground := Ground.data }, { on := 12, ground := Ground.gcOnly Departure.lateStores }], guard := none }) (v := ?_) rfl (by kernel_rfl) (by kernel_rfl) (by kernel_rfl) (by kernel_rfl) (fun _ _ _ h => h) (Or.inl ⟨by rfl, ?_⟩) HX.out ?_
    rotate_left
    (intro w0 hSw; clear hSw; go_simp; try (with_reducible rfl))
    (try simp only [Act.put, List.setIfInBounds_toArray, List.set_cons_zero, List.set_cons_succ])
    refine zAny_take (i := 9) (oi := { dst := some 107, op := Op.load 58 (Operand.tmp 106), type := 58, pos := "law.go:96", after := #[{ on := 8, ground := Ground.data }, { on := 12, ground := Ground.gcOnly Departure.lateStores }], guard := none }) (v := ?_) rfl (by kernel_rfl) (by kernel_rfl) (by kernel_rfl) (by kernel_rfl) (fun _ _ _ h => h) (Or.inl ⟨by rfl, ?_⟩) HX.out ?_
    rotate_left
    (intro w0 hSw; have e := r8.on hSw; have e0 := e.c0; have e1 := e.c1; have e2 := e.c2; have e3 := e.c3; have e4 := e.c4; have e5 := e.c5; have e6 := e.c6; clear e; clear hSw; go_simp; try (with_reducible rfl))
    (try simp only [Act.put, List.setIfInBounds_toArray, List.set_cons_zero, List.set_cons_succ])
    refine zAny_ready (rs := [10, 11]) (by kernel_rfl) (by simp) (zReady.cons (o := { dst := some 11, op := Op.alloc 58, type := 0, pos := "law.go:96", after := #[], guard := none }) rfl (fun K hK => ?_) (zReady.cons (o := { dst := some 12, op := Op.alloc 58, type := 0, pos := "law.go:96", after := #[], guard := none }) rfl (fun K hK => ?_) zReady.nil))
    · go_simp
      refine hK.out _ _ (fun _ => bal HX.out _) (fun _ => ?_)
      clear hK K
      (try simp only [Act.put, List.setIfInBounds_toArray, List.set_cons_zero, List.set_cons_succ])
      refine zAny_ready (rs := [11]) (by kernel_rfl) (by simp) (zReady.cons (o := { dst := some 12, op := Op.alloc 58, type := 0, pos := "law.go:96", after := #[], guard := none }) rfl (fun K hK => ?_) zReady.nil)
      · go_simp
        refine hK.out _ _ (fun _ => bal (bal HX.out _) _) (fun _ => ?_)
        clear hK K
        (try simp only [Act.put, List.setIfInBounds_toArray, List.set_cons_zero, List.set_cons_succ])
        have k11 : Hid (BK ((X.alloc (.cells z7 58)).alloc (.cells z7 58)) X.heap.size z7 58) := hid ((bk_new X z7 58).alloc _)
        have k12 : Hid (BK ((X.alloc (.cells z7 58)).alloc (.cells z7 58)) (X.heap.size + 1) z7 58) := hid (bk_box1 z7 58)
        have nn : X.heap.size ≠ (X.heap.size + 1) := by omega
        have q11 : wr.heap.size ≤ X.heap.size := by omega
        have q12 : wr.heap.size ≤ (X.heap.size + 1) := by omega
        replace HX : Hid (Below wr.heap.size wr ((X.alloc (.cells z7 58)).alloc (.cells z7 58))) := hid (bal (bal HX.out _) _)
        clear hXz
        generalize ((X.alloc (.cells z7 58)).alloc (.cells z7 58)) = Y at *
        generalize X.heap.size + 1 = p12 at *
        generalize X.heap.size = p11 at *
        refine zAny_ready (rs := [12]) (by kernel_rfl) (by simp) (zReady.cons (o := { dst := none, op := Op.store 58 (Operand.tmp 11) (Operand.tmp 102), type := 0, pos := "law.go:96", after := #[{ on := 10, ground := Ground.data }, { on := 4, ground := Ground.data }, { on := 0, ground := Ground.phase }, { on := 1, ground := Ground.phase }, { on := 2, ground := Ground.phase }, { on := 3, ground := Ground.phase }, { on := 4, ground := Ground.phase }, { on := 5, ground := Ground.textOnly Departure.lateStores }, { on := 6, ground := Ground.textOnly Departure.lateStores }, { on := 7, ground := Ground.textOnly Departure.lateStores }, { on := 8, ground := Ground.textOnly Departure.lateStores }, { on := 9, ground := Ground.textOnly Departure.lateStores }, { on := 10, ground := Ground.phase }, { on := 11, ground := Ground.phase }], guard := none }) rfl (fun K hK => ?_) zReady.nil)
        have xc := k11.out.cell
        have xf := k11.out.free
        have xl := k11.out.lt
        go_simp
        refine hK.out _ _ (fun h => (bset (bset (bset (bset (bset (bset (bset HX.out p11 0 (.int .i64 1) q11) p11 1 (.string cxN) q11) p11 2 (.slice (some ⟨bq3, 0, none⟩) 2 q3) q11) p11 3 (.int .i64 0) q11) p11 4 (.bool false) q11) p11 5 (.int .u64 0) q11) p11 6 (.int .u64 0) q11)) (fun _ => ?_)
        clear hK K xc xf xl
        (try simp only [Act.put, List.setIfInBounds_toArray, List.set_cons_zero, List.set_cons_succ])
        replace HX : Hid (Below wr.heap.size wr (((((((Y.setCell ⟨p11, 0, none⟩ (.int .i64 1)).setCell ⟨p11, 1, none⟩ (.string cxN)).setCell ⟨p11, 2, none⟩ (.slice (some ⟨bq3, 0, none⟩) 2 q3)).setCell ⟨p11, 3, none⟩ (.int .i64 0)).setCell ⟨p11, 4, none⟩ (.bool false)).setCell ⟨p11, 5, none⟩ (.int .u64 0)).setCell ⟨p11, 6, none⟩ (.int .u64 0))) := hid (bset (bset (bset (bset (bset (bset (bset HX.out p11 0 (.int .i64 1) q11) p11 1 (.string cxN) q11) p11 2 (.slice (some ⟨bq3, 0, none⟩) 2 q3) q11) p11 3 (.int .i64 0) q11) p11 4 (.bool false) q11) p11 5 (.int .u64 0) q11) p11 6 (.int .u64 0) q11)
        replace k11 : Hid (BK (((((((Y.setCell ⟨p11, 0, none⟩ (.int .i64 1)).setCell ⟨p11, 1, none⟩ (.string cxN)).setCell ⟨p11, 2, none⟩ (.slice (some ⟨bq3, 0, none⟩) 2 q3)).setCell ⟨p11, 3, none⟩ (.int .i64 0)).setCell ⟨p11, 4, none⟩ (.bool false)).setCell ⟨p11, 5, none⟩ (.int .u64 0)).setCell ⟨p11, 6, none⟩ (.int .u64 0)) p11 (oc7 bq3 q3) 58) := hid (((((((k11.out.set 0 (.int .i64 1)).set 1 (.string cxN)).set 2 (.slice (some ⟨bq3, 0, none⟩) 2 q3)).set 3 (.int .i64 0)).set 4 (.bool false)).set 5 (.int .u64 0)).set 6 (.int .u64 0))
        replace k12 : Hid (BK (((((((Y.setCell ⟨p11, 0, none⟩ (.int .i64 1)).setCell ⟨p11, 1, none⟩ (.string cxN)).setCell ⟨p11, 2, none⟩ (.slice (some ⟨bq3, 0, none⟩) 2 q3)).setCell ⟨p11, 3, none⟩ (.int .i64 0)).setCell ⟨p11, 4, none⟩ (.bool false)).setCell ⟨p11, 5, none⟩ (.int .u64 0)).setCell ⟨p11, 6, none⟩ (.int .u64 0)) p12 z7 58) := hid (((((((k12.out.far (c := p11) (by omega) 0 (.int .i64 1)).far (c := p11) (by omega) 1 (.string cxN)).far (c := p11) (by omega) 2 (.slice (some ⟨bq3, 0, none⟩) 2 q3)).far (c := p11) (by omega) 3 (.int .i64 0)).far (c := p11) (by omega) 4 (.bool false)).far (c := p11) (by omega) 5 (.int .u64 0)).far (c := p11) (by omega) 6 (.int .u64 0))
        generalize (((((((Y.setCell ⟨p11, 0, none⟩ (.int .i64 1)).setCell ⟨p11, 1, none⟩ (.string cxN)).setCell ⟨p11, 2, none⟩ (.slice (some ⟨bq3, 0, none⟩) 2 q3)).setCell ⟨p11, 3, none⟩ (.int .i64 0)).setCell ⟨p11, 4, none⟩ (.bool false)).setCell ⟨p11, 5, none⟩ (.int .u64 0)).setCell ⟨p11, 6, none⟩ (.int .u64 0)) = Y12 at *
        refine zAny_ready (rs := [13]) (by kernel_rfl) (by simp) (zReady.cons (o := { dst := none, op := Op.store 58 (Operand.tmp 12) (Operand.tmp 107), type := 0, pos := "law.go:96", after := #[{ on := 11, ground := Ground.data }, { on := 9, ground := Ground.data }, { on := 12, ground := Ground.chain }, { on := 0, ground := Ground.phase }, { on := 1, ground := Ground.phase }, { on := 2, ground := Ground.phase }, { on := 3, ground := Ground.phase }, { on := 4, ground := Ground.phase }, { on := 5, ground := Ground.phase }, { on := 6, ground := Ground.phase }, { on := 7, ground := Ground.phase }, { on := 8, ground := Ground.phase }, { on := 9, ground := Ground.phase }, { on := 10, ground := Ground.phase }, { on := 11, ground := Ground.phase }, { on := 12, ground := Ground.phase }], guard := none }) rfl (fun K hK => ?_) zReady.nil)
        have xc := k12.out.cell
        have xf := k12.out.free
        have xl := k12.out.lt
        go_simp
        refine hK.out _ _ (fun h => absurd rfl h) (fun _ => ?_)
        clear hK K xc xf xl
        (try simp only [Act.put, List.setIfInBounds_toArray, List.set_cons_zero, List.set_cons_succ])
        replace HX : Hid (Below wr.heap.size wr (((((((Y12.setCell ⟨p12, 0, none⟩ (.int .i64 1)).setCell ⟨p12, 1, none⟩ (.string cxN)).setCell ⟨p12, 2, none⟩ (.slice (some ⟨bq8, 0, none⟩) 2 q8)).setCell ⟨p12, 3, none⟩ (.int .i64 0)).setCell ⟨p12, 4, none⟩ (.bool false)).setCell ⟨p12, 5, none⟩ (.int .u64 0)).setCell ⟨p12, 6, none⟩ (.int .u64 0))) := hid (bset (bset (bset (bset (bset (bset (bset HX.out p12 0 (.int .i64 1) q12) p12 1 (.string cxN) q12) p12 2 (.slice (some ⟨bq8, 0, none⟩) 2 q8) q12) p12 3 (.int .i64 0) q12) p12 4 (.bool false) q12) p12 5 (.int .u64 0) q12) p12 6 (.int .u64 0) q12)
        replace k12 : Hid (BK (((((((Y12.setCell ⟨p12, 0, none⟩ (.int .i64 1)).setCell ⟨p12, 1, none⟩ (.string cxN)).setCell ⟨p12, 2, none⟩ (.slice (some ⟨bq8, 0, none⟩) 2 q8)).setCell ⟨p12, 3, none⟩ (.int .i64 0)).setCell ⟨p12, 4, none⟩ (.bool false)).setCell ⟨p12, 5, none⟩ (.int .u64 0)).setCell ⟨p12, 6, none⟩ (.int .u64 0)) p12 (oc7 bq8 q8) 58) := hid (((((((k12.out.set 0 (.int .i64 1)).set 1 (.string cxN)).set 2 (.slice (some ⟨bq8, 0, none⟩) 2 q8)).set 3 (.int .i64 0)).set 4 (.bool false)).set 5 (.int .u64 0)).set 6 (.int .u64 0))
        replace k11 : Hid (BK (((((((Y12.setCell ⟨p12, 0, none⟩ (.int .i64 1)).setCell ⟨p12, 1, none⟩ (.string cxN)).setCell ⟨p12, 2, none⟩ (.slice (some ⟨bq8, 0, none⟩) 2 q8)).setCell ⟨p12, 3, none⟩ (.int .i64 0)).setCell ⟨p12, 4, none⟩ (.bool false)).setCell ⟨p12, 5, none⟩ (.int .u64 0)).setCell ⟨p12, 6, none⟩ (.int .u64 0)) p11 (oc7 bq3 q3) 58) := hid (((((((k11.out.far (c := p12) (by omega) 0 (.int .i64 1)).far (c := p12) (by omega) 1 (.string cxN)).far (c := p12) (by omega) 2 (.slice (some ⟨bq8, 0, none⟩) 2 q8)).far (c := p12) (by omega) 3 (.int .i64 0)).far (c := p12) (by omega) 4 (.bool false)).far (c := p12) (by omega) 5 (.int .u64 0)).far (c := p12) (by omega) 6 (.int .u64 0))
        generalize (((((((Y12.setCell ⟨p12, 0, none⟩ (.int .i64 1)).setCell ⟨p12, 1, none⟩ (.string cxN)).setCell ⟨p12, 2, none⟩ (.slice (some ⟨bq8, 0, none⟩) 2 q8)).setCell ⟨p12, 3, none⟩ (.int .i64 0)).setCell ⟨p12, 4, none⟩ (.bool false)).setCell ⟨p12, 5, none⟩ (.int .u64 0)).setCell ⟨p12, 6, none⟩ (.int .u64 0)) = Y13 at *
        refine zAny_done (by kernel_rfl) ?_ _
        refine NoPanic.normal ?_
        have d11 := k11.out.cell
        have l11 := k11.out.lt
        have d12 := k12.out.cell
        have l12 := k12.out.lt
        have u3 := (Below.cell (p := ⟨bq3, 0, none⟩) HX.out r3.bl).trans r3.q0
        have v3 := (Below.cell (p := ⟨bq3, 1, none⟩) HX.out r3.bl).trans r3.q1
        have w3 := Nat.lt_of_lt_of_le r3.bl HX.out.size
        have u8 := (Below.cell (p := ⟨bq8, 0, none⟩) HX.out r8.bl).trans r8.q0
        have v8 := (Below.cell (p := ⟨bq8, 1, none⟩) HX.out r8.bl).trans r8.q1
        have w8 := Nat.lt_of_lt_of_le r8.bl HX.out.size
        go_upto_region 19 with (fail)
        go_quiet (fail)
        all_goals
          go_wp2
          go_roundw
          case rel => exact ⟨k + 1, by omega, by go_num, hid (below_drewN (btr HBw.out HX.out) _)⟩
          case measure => simp [intOf]; omega
    · go_simp
      refine hK.out _ _ (fun _ => bal HX.out _) (fun _ => ?_)
      clear hK K
      (try simp only [Act.put, List.setIfInBounds_toArray, List.set_cons_zero, List.set_cons_succ])
      refine zAny_ready (rs := [10]) (by kernel_rfl) (by simp) (zReady.cons (o := { dst := some 11, op := Op.alloc 58, type := 0, pos := "law.go:96", after := #[], guard := none }) rfl (fun K hK => ?_) zReady.nil)
      · go_simp
        refine hK.out _ _ (fun _ => bal (bal HX.out _) _) (fun _ => ?_)
        clear hK K
        (try simp only [Act.put, List.setIfInBounds_toArray, List.set_cons_zero, List.set_cons_succ])
        have k12 : Hid (BK ((X.alloc (.cells z7 58)).alloc (.cells z7 58)) X.heap.size z7 58) := hid ((bk_new X z7 58).alloc _)
        have k11 : Hid (BK ((X.alloc (.cells z7 58)).alloc (.cells z7 58)) (X.heap.size + 1) z7 58) := hid (bk_box1 z7 58)
        have nn : (X.heap.size + 1) ≠ X.heap.size := by omega
        have q11 : wr.heap.size ≤ (X.heap.size + 1) := by omega
        have q12 : wr.heap.size ≤ X.heap.size := by omega
        replace HX : Hid (Below wr.heap.size wr ((X.alloc (.cells z7 58)).alloc (.cells z7 58))) := hid (bal (bal HX.out _) _)
        clear hXz
        generalize ((X.alloc (.cells z7 58)).alloc (.cells z7 58)) = Y at *
        generalize X.heap.size + 1 = p11 at *
        generalize X.heap.size = p12 at *
        refine zAny_ready (rs := [12]) (by kernel_rfl) (by simp) (zReady.cons (o := { dst := none, op := Op.store 58 (Operand.tmp 11) (Operand.tmp 102), type := 0, pos := "law.go:96", after := #[{ on := 10, ground := Ground.data }, { on := 4, ground := Ground.data }, { on := 0, ground := Ground.phase }, { on := 1, ground := Ground.phase }, { on := 2, ground := Ground.phase }, { on := 3, ground := Ground.phase }, { on := 4, ground := Ground.phase }, { on := 5, ground := Ground.textOnly Departure.lateStores }, { on := 6, ground := Ground.textOnly Departure.lateStores }, { on := 7, ground := Ground.textOnly Departure.lateStores }, { on := 8, ground := Ground.textOnly Departure.lateStores }, { on := 9, ground := Ground.textOnly Departure.lateStores }, { on := 10, ground := Ground.phase }, { on := 11, ground := Ground.phase }], guard := none }) rfl (fun K hK => ?_) zReady.nil)
        have xc := k11.out.cell
        have xf := k11.out.free
        have xl := k11.out.lt
        go_simp
        refine hK.out _ _ (fun h => (bset (bset (bset (bset (bset (bset (bset HX.out p11 0 (.int .i64 1) q11) p11 1 (.string cxN) q11) p11 2 (.slice (some ⟨bq3, 0, none⟩) 2 q3) q11) p11 3 (.int .i64 0) q11) p11 4 (.bool false) q11) p11 5 (.int .u64 0) q11) p11 6 (.int .u64 0) q11)) (fun _ => ?_)
        clear hK K xc xf xl
        (try simp only [Act.put, List.setIfInBounds_toArray, List.set_cons_zero, List.set_cons_succ])
        replace HX : Hid (Below wr.heap.size wr (((((((Y.setCell ⟨p11, 0, none⟩ (.int .i64 1)).setCell ⟨p11, 1, none⟩ (.string cxN)).setCell ⟨p11, 2, none⟩ (.slice (some ⟨bq3, 0, none⟩) 2 q3)).setCell ⟨p11, 3, none⟩ (.int .i64 0)).setCell ⟨p11, 4, none⟩ (.bool false)).setCell ⟨p11, 5, none⟩ (.int .u64 0)).setCell ⟨p11, 6, none⟩ (.int .u64 0))) := hid (bset (bset (bset (bset (bset (bset (bset HX.out p11 0 (.int .i64 1) q11) p11 1 (.string cxN) q11) p11 2 (.slice (some ⟨bq3, 0, none⟩) 2 q3) q11) p11 3 (.int .i64 0) q11) p11 4 (.bool false) q11) p11 5 (.int .u64 0) q11) p11 6 (.int .u64 0) q11)
        replace k11 : Hid (BK (((((((Y.setCell ⟨p11, 0, none⟩ (.int .i64 1)).setCell ⟨p11, 1, none⟩ (.string cxN)).setCell ⟨p11, 2, none⟩ (.slice (some ⟨bq3, 0, none⟩) 2 q3)).setCell ⟨p11, 3, none⟩ (.int .i64 0)).setCell ⟨p11, 4, none⟩ (.bool false)).setCell ⟨p11, 5, none⟩ (.int .u64 0)).setCell ⟨p11, 6, none⟩ (.int .u64 0)) p11 (oc7 bq3 q3) 58) := hid (((((((k11.out.set 0 (.int .i64 1)).set 1 (.string cxN)).set 2 (.slice (some ⟨bq3, 0, none⟩) 2 q3)).set 3 (.int .i64 0)).set 4 (.bool false)).set 5 (.int .u64 0)).set 6 (.int .u64 0))
        replace k12 : Hid (BK (((((((Y.setCell ⟨p11, 0, none⟩ (.int .i64 1)).setCell ⟨p11, 1, none⟩ (.string cxN)).setCell ⟨p11, 2, none⟩ (.slice (some ⟨bq3, 0, none⟩) 2 q3)).setCell ⟨p11, 3, none⟩ (.int .i64 0)).setCell ⟨p11, 4, none⟩ (.bool false)).setCell ⟨p11, 5, none⟩ (.int .u64 0)).setCell ⟨p11, 6, none⟩ (.int .u64 0)) p12 z7 58) := hid (((((((k12.out.far (c := p11) (by omega) 0 (.int .i64 1)).far (c := p11) (by omega) 1 (.string cxN)).far (c := p11) (by omega) 2 (.slice (some ⟨bq3, 0, none⟩) 2 q3)).far (c := p11) (by omega) 3 (.int .i64 0)).far (c := p11) (by omega) 4 (.bool false)).far (c := p11) (by omega) 5 (.int .u64 0)).far (c := p11) (by omega) 6 (.int .u64 0))
        generalize (((((((Y.setCell ⟨p11, 0, none⟩ (.int .i64 1)).setCell ⟨p11, 1, none⟩ (.string cxN)).setCell ⟨p11, 2, none⟩ (.slice (some ⟨bq3, 0, none⟩) 2 q3)).setCell ⟨p11, 3, none⟩ (.int .i64 0)).setCell ⟨p11, 4, none⟩ (.bool false)).setCell ⟨p11, 5, none⟩ (.int .u64 0)).setCell ⟨p11, 6, none⟩ (.int .u64 0)) = Y12 at *
        refine zAny_ready (rs := [13]) (by kernel_rfl) (by simp) (zReady.cons (o := { dst := none, op := Op.store 58 (Operand.tmp 12) (Operand.tmp 107), type := 0, pos := "law.go:96", after := #[{ on := 11, ground := Ground.data }, { on := 9, ground := Ground.data }, { on := 12, ground := Ground.chain }, { on := 0, ground := Ground.phase }, { on := 1, ground := Ground.phase }, { on := 2, ground := Ground.phase }, { on := 3, ground := Ground.phase }, { on := 4, ground := Ground.phase }, { on := 5, ground := Ground.phase }, { on := 6, ground := Ground.phase }, { on := 7, ground := Ground.phase }, { on := 8, ground := Ground.phase }, { on := 9, ground := Ground.phase }, { on := 10, ground := Ground.phase }, { on := 11, ground := Ground.phase }, { on := 12, ground := Ground.phase }], guard := none }) rfl (fun K hK => ?_) zReady.nil)
        have xc := k12.out.cell
        have xf := k12.out.free
        have xl := k12.out.lt
        go_simp
        refine hK.out _ _ (fun h => absurd rfl h) (fun _ => ?_)
        clear hK K xc xf xl
        (try simp only [Act.put, List.setIfInBounds_toArray, List.set_cons_zero, List.set_cons_succ])
        replace HX : Hid (Below wr.heap.size wr (((((((Y12.setCell ⟨p12, 0, none⟩ (.int .i64 1)).setCell ⟨p12, 1, none⟩ (.string cxN)).setCell ⟨p12, 2, none⟩ (.slice (some ⟨bq8, 0, none⟩) 2 q8)).setCell ⟨p12, 3, none⟩ (.int .i64 0)).setCell ⟨p12, 4, none⟩ (.bool false)).setCell ⟨p12, 5, none⟩ (.int .u64 0)).setCell ⟨p12, 6, none⟩ (.int .u64 0))) := hid (bset (bset (bset (bset (bset (bset (bset HX.out p12 0 (.int .i64 1) q12) p12 1 (.string cxN) q12) p12 2 (.slice (some ⟨bq8, 0, none⟩) 2 q8) q12) p12 3 (.int .i64 0) q12) p12 4 (.bool false) q12) p12 5 (.int .u64 0) q12) p12 6 (.int .u64 0) q12)
        replace k12 : Hid (BK (((((((Y12.setCell ⟨p12, 0, none⟩ (.int .i64 1)).setCell ⟨p12, 1, none⟩ (.string cxN)).setCell ⟨p12, 2, none⟩ (.slice (some ⟨bq8, 0, none⟩) 2 q8)).setCell ⟨p12, 3, none⟩ (.int .i64 0)).setCell ⟨p12, 4, none⟩ (.bool false)).setCell ⟨p12, 5, none⟩ (.int .u64 0)).setCell ⟨p12, 6, none⟩ (.int .u64 0)) p12 (oc7 bq8 q8) 58) := hid (((((((k12.out.set 0 (.int .i64 1)).set 1 (.string cxN)).set 2 (.slice (some ⟨bq8, 0, none⟩) 2 q8)).set 3 (.int .i64 0)).set 4 (.bool false)).set 5 (.int .u64 0)).set 6 (.int .u64 0))
        replace k11 : Hid (BK (((((((Y12.setCell ⟨p12, 0, none⟩ (.int .i64 1)).setCell ⟨p12, 1, none⟩ (.string cxN)).setCell ⟨p12, 2, none⟩ (.slice (some ⟨bq8, 0, none⟩) 2 q8)).setCell ⟨p12, 3, none⟩ (.int .i64 0)).setCell ⟨p12, 4, none⟩ (.bool false)).setCell ⟨p12, 5, none⟩ (.int .u64 0)).setCell ⟨p12, 6, none⟩ (.int .u64 0)) p11 (oc7 bq3 q3) 58) := hid (((((((k11.out.far (c := p12) (by omega) 0 (.int .i64 1)).far (c := p12) (by omega) 1 (.string cxN)).far (c := p12) (by omega) 2 (.slice (some ⟨bq8, 0, none⟩) 2 q8)).far (c := p12) (by omega) 3 (.int .i64 0)).far (c := p12) (by omega) 4 (.bool false)).far (c := p12) (by omega) 5 (.int .u64 0)).far (c := p12) (by omega) 6 (.int .u64 0))
        generalize (((((((Y12.setCell ⟨p12, 0, none⟩ (.int .i64 1)).setCell ⟨p12, 1, none⟩ (.string cxN)).setCell ⟨p12, 2, none⟩ (.slice (some ⟨bq8, 0, none⟩) 2 q8)).setCell ⟨p12, 3, none⟩ (.int .i64 0)).setCell ⟨p12, 4, none⟩ (.bool false)).setCell ⟨p12, 5, none⟩ (.int .u64 0)).setCell ⟨p12, 6, none⟩ (.int .u64 0)) = Y13 at *
        refine zAny_done (by kernel_rfl) ?_ _
        refine NoPanic.normal ?_
        have d11 := k11.out.cell
        have l11 := k11.out.lt
        have d12 := k12.out.cell
        have l12 := k12.out.lt
        have u3 := (Below.cell (p := ⟨bq3, 0, none⟩) HX.out r3.bl).trans r3.q0
        have v3 := (Below.cell (p := ⟨bq3, 1, none⟩) HX.out r3.bl).trans r3.q1
        have w3 := Nat.lt_of_lt_of_le r3.bl HX.out.size
        have u8 := (Below.cell (p := ⟨bq8, 0, none⟩) HX.out r8.bl).trans r8.q0
        have v8 := (Below.cell (p := ⟨bq8, 1, none⟩) HX.out r8.bl).trans r8.q1
        have w8 := Nat.lt_of_lt_of_le r8.bl HX.out.size
        go_upto_region 19 with (fail)
        go_quiet (fail)
        all_goals
          go_wp2
          go_roundw
          case rel => exact ⟨k + 1, by omega, by go_num, hid (below_drewN (btr HBw.out HX.out) _)⟩
          case measure => simp [intOf]; omega
end Go.Proofs.Ytinkdonaedoojaa
