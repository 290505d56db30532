/-
  The reference's Halves, Clean, Clifford.
-/
import Derived.Test.YtfaoegiignalkaaD4
namespace Go.Proofs.Ytfaoegiignalkaa
open Go.RowKit Go.Sort

theorem hsum_le : ∀ (l : List Oq), hsum l ≤ l.length
  | [] => Nat.le_refl _
  | o :: l => by rw [hsum_cons, List.length_cons]; have := hsum_le l; have := opH_le o; omega
theorem take_snoc {l : List Oq} {k : Nat} (h : k < l.length) : l.take (k + 1) = l.take k ++ [l[k]] := List.take_succ_eq_append_getElem h
set_option maxHeartbeats 1000000 in
set_option maxRecDepth 100000 in
theorem rhalvesC_any (c : Ci) (a : Option Addr) (cp : Nat) (A : Nat → Option Addr) (C : Nat → Nat) (w : World) (H : OS w a cp c.ops A C) :
    Calls Try.prog 11 #[civ c a cp] w fun e w' => e = .returned (.tuple #[.int .i64 ((lk c).2.1 : Nat), .int .i64 ((lk c).2.2 : Nat)]) ∧ Below w.heap.size w w' := by
  have L := fun w1 h => rcheck_any c a cp A C w1 h
  have HO : Hid (OS w a cp c.ops A C) := H
  have hcap := H.cap
  have hl := H.l
  clear H
  have H1 : Hid ((lk c).2.2 ≠ 0 → (lk c).2.1 = 0) := lk_no
  have H2 : Hid ((lk c).2.2 = 0 → (lk c).2.1 = hsum c.ops) := fun h => (lk_ok h).2.2.2
  have H3 : Hid ((lk c).2.2 = 0 → c.ops.length ≤ 4096) := fun h => (lk_ok h).2.1
  generalize (lk c).2.1 = R at *
  generalize (lk c).2.2 = E at *
  generalize (lk c).1 = P at *
  obtain ⟨q, b, os⟩ := c
  simp only at *
  by_cases hE : E = 0
  case neg =>
    obtain rfl := H1.out hE
    have hE1 : ((E : Int) != 0) = true := bne_iff_ne.2 (by omega)
    clear hE H1 H2
    go_enter Try.func11, Try.ntmps11
    go_wp2_with (go_at_call 10; (with_reducible refine (L _ (HO.out.below (bal (Below.refl _ _) _))).mono ?_); rintro e w1 ⟨rfl, hB⟩)
    go_ret2
    exact ⟨rfl, btr (bal (Below.refl _ _) _) hB⟩
  subst hE
  obtain rfl := H2.out rfl
  have hl4 := H3.out rfl
  clear H1 H2 H3
  have HT : Hid (∀ k (h : k < os.length), hsum (os.take (k + 1)) = hsum (os.take k) + opH os[k]) := fun k h => by rw [take_snoc h, hsum_snoc]
  have HL : Hid (∀ k, hsum (os.take k) ≤ os.length) := fun k => by have := hsum_le (os.take k); rw [List.length_take] at this; omega
  have HF : Hid (hsum (os.take os.length) = hsum os) := by show _ = _; rw [List.take_length]
  go_enter Try.func11, Try.ntmps11
  go_wp2_with (go_at_call 10; (with_reducible refine (L _ (HO.out.below (bal (Below.refl _ _) _))).mono ?_); rintro e w1 ⟨rfl, hB⟩; have HC : Hid (CB w w1 ⟨q, b, os⟩ a cp) := ⟨btr (bal (Below.refl _ _) _) hB, one_box hB⟩; clear hB)
  go_loopw [6, 7] (fun v6 v7 wr => ∃ k : Nat, k ≤ os.length ∧ v6 = .int .i64 (hsum (os.take k) : Nat) ∧ v7 = .int .i64 k ∧ Hid (CB w wr ⟨q, b, os⟩ a cp)) (fun _ v7 _ => os.length - (intOf v7).toNat)
  case atStart => exact ⟨0, Nat.zero_le _, rfl, rfl, HC⟩
  case round =>
    clear HC
    obtain ⟨k, hk, rfl, rfl, hL⟩ := hrel
    have d2 : wr.cell? ⟨w.heap.size, 2, none⟩ = some (.slice a os.length cp) := hL.out.box.cell 2
    have dz := hL.out.box.lt
    by_cases hlt : k < os.length
    case neg =>
      obtain rfl : k = os.length := by omega
      have hf := HF.out
      rw [hf]
      clear hf
      go_wp2
      go_ret2
      exact ⟨rfl, hL.out.below⟩
    obtain ⟨b', o', rfl, r⟩ := (HO.out.below hL.out.below).at_ k hlt
    have m0 := r.c0 k hlt
    have m1 := r.c1 k hlt
    have m2 := r.c2 k hlt
    have m3 := r.c3 k hlt
    have m4 := r.c4 k hlt
    have m5 := r.c5 k hlt
    have m6 := r.c6 k hlt
    have hbl := r.lt
    have hT := HT.out k hlt
    have hl1 := HL.out k
    have hH := opH_le os[k]
    clear r
    generalize os[k] = o at *
    generalize A k = ak at *
    generalize C k = ck at *
    have RH := fun w => rhalvesOp_any o ak ck w
    generalize opH o = hv at *
    have HT2 : Hid (hsum (os.take (k + 1)) = hsum (os.take k) + hv) := hT
    clear hT
    generalize hsum (os.take k) = s at *
    go_wp2_with (go_at_call 33; (with_reducible refine (RH _).mono ?_); rintro e w2 ⟨rfl, hN2⟩)
    go_roundw
    case rel => exact ⟨k + 1, by omega, by rw [HT2.out]; go_num, by go_num, hL.out.on hN2⟩
    case measure => simp [intOf]; omega
set_option maxHeartbeats 1000000 in
set_option maxRecDepth 100000 in
theorem rclean_any (c : Ci) (a : Option Addr) (cp : Nat) (A : Nat → Option Addr) (C : Nat → Nat) (w : World) (H : OS w a cp c.ops A C) :
    Calls Try.prog 12 #[civ c a cp] w fun e w' => e = .returned (.tuple #[.bool (clnB c), .int .i64 ((lk c).2.2 : Nat)]) ∧ Below w.heap.size w w' := by
  have L := fun w1 h => rcheck_any c a cp A C w1 h
  have HO : Hid (OS w a cp c.ops A C) := H
  have hcap := H.cap
  have hl := H.l
  clear H
  have HB : Hid (clnB c = (((lk c).2.2 == 0) && c.ops.all fun o => (o.k == 1) && !o.f)) := rfl
  generalize clnB c = R at *
  generalize (lk c).2.2 = E at *
  generalize (lk c).1 = P at *
  obtain ⟨q, b, os⟩ := c
  simp only at *
  by_cases hE : E = 0
  case neg =>
    obtain rfl : R = false := by rw [HB.out, beq_eq_false_iff_ne.2 hE]; rfl
    have hE1 : ((E : Int) != 0) = true := bne_iff_ne.2 (by omega)
    clear hE HB
    go_enter Try.func12, Try.ntmps12
    go_wp2_with (go_at_call 10; (with_reducible refine (L _ (HO.out.below (bal (Below.refl _ _) _))).mono ?_); rintro e w1 ⟨rfl, hB⟩)
    go_ret2
    exact ⟨rfl, btr (bal (Below.refl _ _) _) hB⟩
  subst hE
  have HB2 : Hid (R = os.all fun o => (o.k == 1) && !o.f) := by show _ = _; rw [HB.out]; rfl
  clear HB
  go_enter Try.func12, Try.ntmps12
  go_wp2_with (go_at_call 10; (with_reducible refine (L _ (HO.out.below (bal (Below.refl _ _) _))).mono ?_); rintro e w1 ⟨rfl, hB⟩; have HC : Hid (CB w w1 ⟨q, b, os⟩ a cp) := ⟨btr (bal (Below.refl _ _) _) hB, one_box hB⟩; clear hB)
  have d2 : w1.cell? ⟨w.heap.size, 2, none⟩ = some (.slice a os.length cp) := HC.out.box.cell 2
  have dz := HC.out.box.lt
  go_loop [6] (fun v => ∃ k : Nat, k ≤ os.length ∧ v = .int .i64 k ∧ Hid (∀ j (h : j < os.length), j < k → ((os[j].k == 1) && !os[j].f) = true)) (fun v => os.length - (intOf v).toNat)
  case atStart => exact ⟨0, Nat.zero_le _, rfl, fun j _ h => absurd h (Nat.not_lt_zero _)⟩
  case round =>
    obtain ⟨k, hk, rfl, hJ⟩ := hrel
    by_cases hlt : k < os.length
    case neg =>
      obtain rfl : k = os.length := by omega
      obtain rfl : R = true := by rw [HB2.out]; exact all_all (fun j hj => hJ.out j hj hj)
      go_wp2
      go_ret2
      exact ⟨rfl, HC.out.below⟩
    obtain ⟨b', o', rfl, r⟩ := (HO.out.below HC.out.below).at_ k hlt
    have m0 := r.c0 k hlt
    have m4 := r.c4 k hlt
    have hbl := r.lt
    have HN : Hid (((os[k].k == 1) && !os[k].f) = false → R = false) := fun h => by rw [HB2.out]; exact all_at k hlt h
    have HY : Hid (((os[k].k == 1) && !os[k].f) = true → ∀ j (h : j < os.length), j < k + 1 → ((os[j].k == 1) && !os[j].f) = true) := fun h j hj hjk => by
      by_cases e : j = k
      · subst e; exact h
      · exact hJ.out j hj (by omega)
    clear r hJ
    generalize os[k] = o at *
    obtain ⟨K, N, Q, B, F, M, V⟩ := o
    simp only at *
    cases hk1 : (K == 1) with
    | false =>
      have hk2 : (K != 1) = true := by rw [bne, hk1]; rfl
      obtain rfl := HN.out (by rw [hk1]; rfl)
      clear HN HY hk1
      go_wp2
      go_ret2
      exact ⟨rfl, HC.out.below⟩
    | true =>
      have hk2 : (K != 1) = false := by rw [bne, hk1]; rfl
      cases F with
      | true =>
        obtain rfl := HN.out (by rw [hk1]; rfl)
        clear HN HY hk1
        go_wp2
        go_ret2
        exact ⟨rfl, HC.out.below⟩
      | false =>
        have hJ2 : Hid (∀ j (h : j < os.length), j < k + 1 → ((os[j].k == 1) && !os[j].f) = true) := HY.out (by rw [hk1]; rfl)
        clear HN HY hk1
        go_wp2
        go_round
        case rel => exact ⟨k + 1, by omega, by go_num, hJ2⟩
        case measure => simp [intOf]; omega
set_option maxHeartbeats 1000000 in
set_option maxRecDepth 100000 in
theorem rcliffordC_any (c : Ci) (a : Option Addr) (cp : Nat) (A : Nat → Option Addr) (C : Nat → Nat) (w : World) (H : OS w a cp c.ops A C) :
    Calls Try.prog 13 #[civ c a cp] w fun e w' => e = .returned (.tuple #[.bool (cfdB c), .int .i64 ((lk c).2.2 : Nat)]) ∧ Below w.heap.size w w' := by
  have L := fun w1 h => rcheck_any c a cp A C w1 h
  have HO : Hid (OS w a cp c.ops A C) := H
  have hcap := H.cap
  have hl := H.l
  clear H
  have HB : Hid (cfdB c = (((lk c).2.2 == 0) && c.ops.all fun o => !(o.k == 1) || gcl o.n)) := rfl
  generalize cfdB c = R at *
  generalize (lk c).2.2 = E at *
  generalize (lk c).1 = P at *
  obtain ⟨q, b, os⟩ := c
  simp only at *
  by_cases hE : E = 0
  case neg =>
    obtain rfl : R = false := by rw [HB.out, beq_eq_false_iff_ne.2 hE]; rfl
    have hE1 : ((E : Int) != 0) = true := bne_iff_ne.2 (by omega)
    clear hE HB
    go_enter Try.func13, Try.ntmps13
    go_wp2_with (go_at_call 10; (with_reducible refine (L _ (HO.out.below (bal (Below.refl _ _) _))).mono ?_); rintro e w1 ⟨rfl, hB⟩)
    go_ret2
    exact ⟨rfl, btr (bal (Below.refl _ _) _) hB⟩
  subst hE
  have HB2 : Hid (R = os.all fun o => !(o.k == 1) || gcl o.n) := by show _ = _; rw [HB.out]; rfl
  clear HB
  go_enter Try.func13, Try.ntmps13
  go_wp2_with (go_at_call 10; (with_reducible refine (L _ (HO.out.below (bal (Below.refl _ _) _))).mono ?_); rintro e w1 ⟨rfl, hB⟩; have HC : Hid (CB w w1 ⟨q, b, os⟩ a cp) := ⟨btr (bal (Below.refl _ _) _) hB, one_box hB⟩; clear hB)
  have d2 : w1.cell? ⟨w.heap.size, 2, none⟩ = some (.slice a os.length cp) := HC.out.box.cell 2
  have dz := HC.out.box.lt
  go_loop [6] (fun v => ∃ k : Nat, k ≤ os.length ∧ v = .int .i64 k ∧ Hid (∀ j (h : j < os.length), j < k → (!(os[j].k == 1) || gcl os[j].n) = true)) (fun v => os.length - (intOf v).toNat)
  case atStart => exact ⟨0, Nat.zero_le _, rfl, fun j _ h => absurd h (Nat.not_lt_zero _)⟩
  case round =>
    obtain ⟨k, hk, rfl, hJ⟩ := hrel
    by_cases hlt : k < os.length
    case neg =>
      obtain rfl : k = os.length := by omega
      obtain rfl : R = true := by rw [HB2.out]; exact all_all (fun j hj => hJ.out j hj hj)
      go_wp2
      go_ret2
      exact ⟨rfl, HC.out.below⟩
    obtain ⟨b', o', rfl, r⟩ := (HO.out.below HC.out.below).at_ k hlt
    have m0 := r.c0 k hlt
    have m1 := r.c1 k hlt
    have hbl := r.lt
    have HN : Hid ((!(os[k].k == 1) || gcl os[k].n) = false → R = false) := fun h => by rw [HB2.out]; exact all_at (p := fun o => !(o.k == 1) || gcl o.n) k hlt h
    have HY : Hid ((!(os[k].k == 1) || gcl os[k].n) = true → ∀ j (h : j < os.length), j < k + 1 → (!(os[j].k == 1) || gcl os[j].n) = true) := fun h j hj hjk => by
      by_cases e : j = k
      · subst e; exact h
      · exact hJ.out j hj (by omega)
    clear r hJ
    generalize os[k] = o at *
    obtain ⟨K, N, Q, B, F, M, V⟩ := o
    simp only at *
    have GC := fun w => rclifford_any N w
    generalize gcl N = g at *
    cases hk1 : (K == 1) with
    | false =>
      have hJ2 : Hid (∀ j (h : j < os.length), j < k + 1 → (!(os[j].k == 1) || gcl os[j].n) = true) := HY.out (by rw [hk1]; rfl)
      clear HN HY
      go_wp2
      go_round
      case rel => exact ⟨k + 1, by omega, by go_num, hJ2⟩
      case measure => simp [intOf]; omega
    | true =>
      cases g with
      | false =>
        obtain rfl := HN.out (by rw [hk1]; rfl)
        clear HN HY
        go_wp2_with (go_at_call 34; (with_reducible refine (GC _).mono ?_); rintro e w2 ⟨rfl, rfl⟩)
        go_ret2
        exact ⟨rfl, HC.out.below⟩
      | true =>
        have hJ2 : Hid (∀ j (h : j < os.length), j < k + 1 → (!(os[j].k == 1) || gcl os[j].n) = true) := HY.out (by rw [hk1]; rfl)
        clear HN HY
        go_wp2_with (go_at_call 34; (with_reducible refine (GC _).mono ?_); rintro e w2 ⟨rfl, rfl⟩)
        go_round
        case rel => exact ⟨k + 1, by omega, by go_num, hJ2⟩
        case measure => simp [intOf]; omega
end Go.Proofs.Ytfaoegiignalkaa
