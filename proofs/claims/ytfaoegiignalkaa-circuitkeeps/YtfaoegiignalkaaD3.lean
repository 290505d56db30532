/-
  Clean and Clifford of the code; the reference's Check.
-/
import Derived.Test.YtfaoegiignalkaaD2
import Derived.Test.YtfaoegiignalkaaC4
namespace Go.Proofs.Ytfaoegiignalkaa
open Go.RowKit Go.Sort

def clnB (c : Ci) : Bool := ((lk c).2.2 == 0) && c.ops.all fun o => (o.k == 1) && !o.f
def cfdB (c : Ci) : Bool := ((lk c).2.2 == 0) && c.ops.all fun o => !(o.k == 1) || gcl o.n
theorem all_at {l : List Oq} {p : Oq → Bool} (k : Nat) (h : k < l.length) (hp : p l[k] = false) : l.all p = false := by
  rw [List.all_eq_false]
  exact ⟨l[k], List.getElem_mem h, by rw [hp]; decide⟩
theorem all_all {l : List Oq} {p : Oq → Bool} (h : ∀ k (h : k < l.length), p l[k] = true) : l.all p = true := by
  rw [List.all_eq_true]
  intro x hx
  obtain ⟨k, hk, rfl⟩ := List.getElem_of_mem hx
  exact h k hk
set_option maxHeartbeats 1000000 in
set_option maxRecDepth 100000 in
theorem clean_any (c : Ci) (a : Option Addr) (cp : Nat) (A : Nat → Option Addr) (C : Nat → Nat) (w : World) (H : OS w a cp c.ops A C) :
    Calls Try.prog 16 #[civ c a cp] w fun e w' => e = .returned (.tuple #[.bool (clnB c), .int .i64 ((lk c).2.2 : Nat)]) ∧ Below w.heap.size w w' := by
  have L := fun w1 h => check_any c a cp A C w1 h
  have HO : Hid (OS w a cp c.ops A C) := H
  have hcap := H.cap
  have hl := H.l
  clear H
  have HB : Hid (clnB c = (((lk c).2.2 == 0) && c.ops.all fun o => (o.k == 1) && !o.f)) := rfl
  generalize clnB c = R at *
  generalize (lk c).2.2 = E at *
  generalize (lk c).1 = P at *
  obtain ⟨q, b, os⟩ := c
  simp only at *
  by_cases hE : E = 0
  case neg =>
    obtain rfl : R = false := by rw [HB.out, beq_eq_false_iff_ne.2 hE]; rfl
    have hE1 : ((E : Int) != 0) = true := bne_iff_ne.2 (by omega)
    clear hE HB
    go_enter Try.func16, Try.ntmps16
    go_wp2_with (go_at_call 14; (with_reducible refine (L _ (HO.out.below (bal (Below.refl _ _) _))).mono ?_); rintro e w1 ⟨rfl, hB⟩)
    go_ret2
    exact ⟨rfl, btr (bal (Below.refl _ _) _) hB⟩
  subst hE
  have HB2 : Hid (R = os.all fun o => (o.k == 1) && !o.f) := by show _ = _; rw [HB.out]; rfl
  clear HB
  go_enter Try.func16, Try.ntmps16
  go_wp2_with (go_at_call 14; (with_reducible refine (L _ (HO.out.below (bal (Below.refl _ _) _))).mono ?_); rintro e w1 ⟨rfl, hB⟩; have bC := one_box hB; have qC : ∀ j, w1.cell? ⟨w.heap.size, j, none⟩ = _ := bC.cell; have zC := bC.lt; have HW : Hid (Below w.heap.size w w1) := btr (bal (Below.refl _ _) _) hB; clear bC hB)
  go_loopw [19] (fun v wr => ∃ k : Nat, k ≤ os.length ∧ v = .int .i64 k ∧ Hid (Below w1.heap.size w1 wr) ∧ Hid (∀ j (h : j < os.length), j < k → ((os[j].k == 1) && !os[j].f) = true)) (fun v _ => os.length - (intOf v).toNat)
  case atStart => exact ⟨0, Nat.zero_le _, rfl, Below.refl _ _, fun j _ h => absurd h (Nat.not_lt_zero _)⟩
  case round =>
    obtain ⟨k, hk, rfl, hW, hJ⟩ := hrel
    by_cases hlt : k < os.length
    case neg =>
      obtain rfl : k = os.length := by omega
      obtain rfl : R = true := by rw [HB2.out]; exact all_all (fun j hj => hJ.out j hj hj)
      go_wp2
      go_ret2
      exact ⟨rfl, btr HW.out hW.out⟩
    obtain ⟨b', o', rfl, r⟩ := (HO.out.below (btr HW.out hW.out)).at_ k hlt
    have m0 := r.c0 k hlt
    have m1 := r.c1 k hlt
    have m2 := r.c2 k hlt
    have m3 := r.c3 k hlt
    have m4 := r.c4 k hlt
    have m5 := r.c5 k hlt
    have m6 := r.c6 k hlt
    have hbl := r.lt
    have HN : Hid (((os[k].k == 1) && !os[k].f) = false → R = false) := fun h => by rw [HB2.out]; exact all_at k hlt h
    have HY : Hid (((os[k].k == 1) && !os[k].f) = true → ∀ j (h : j < os.length), j < k + 1 → ((os[j].k == 1) && !os[j].f) = true) := fun h j hj hjk => by
      by_cases e : j = k
      · subst e; exact h
      · exact hJ.out j hj (by omega)
    clear r hJ
    generalize os[k] = o at *
    generalize A k = ak at *
    generalize C k = ck at *
    obtain ⟨K, N, Q, B, F, M, V⟩ := o
    simp only at *
    cases hk1 : (K == 1) with
    | false =>
      have hk2 : (K != 1) = true := by rw [bne, hk1]; rfl
      obtain rfl := HN.out (by rw [hk1]; rfl)
      clear HN HY hk1
      go_wp2
      go_ret2
      exact ⟨rfl, btr HW.out (btr hW.out (bal (Below.refl _ _) _))⟩
    | true =>
      have hk2 : (K != 1) = false := by rw [bne, hk1]; rfl
      cases F with
      | true =>
        obtain rfl := HN.out (by rw [hk1]; rfl)
        clear HN HY hk1
        go_wp2
        go_ret2
        exact ⟨rfl, btr HW.out (btr hW.out (bal (Below.refl _ _) _))⟩
      | false =>
        have hJ2 : Hid (∀ j (h : j < os.length), j < k + 1 → ((os[j].k == 1) && !os[j].f) = true) := HY.out (by rw [hk1]; rfl)
        clear HN HY hk1
        go_wp2
        go_roundw
        case rel => exact ⟨k + 1, by omega, by go_num, bal hW.out _, hJ2⟩
        case measure => simp [intOf]; omega
set_option maxHeartbeats 1000000 in
set_option maxRecDepth 100000 in
theorem cliffordC_any (c : Ci) (a : Option Addr) (cp : Nat) (A : Nat → Option Addr) (C : Nat → Nat) (w : World) (H : OS w a cp c.ops A C) :
    Calls Try.prog 17 #[civ c a cp] w fun e w' => e = .returned (.tuple #[.bool (cfdB c), .int .i64 ((lk c).2.2 : Nat)]) ∧ Below w.heap.size w w' := by
  have L := fun w1 h => check_any c a cp A C w1 h
  have HO : Hid (OS w a cp c.ops A C) := H
  have hcap := H.cap
  have hl := H.l
  clear H
  have HB : Hid (cfdB c = (((lk c).2.2 == 0) && c.ops.all fun o => !(o.k == 1) || gcl o.n)) := rfl
  generalize cfdB c = R at *
  generalize (lk c).2.2 = E at *
  generalize (lk c).1 = P at *
  obtain ⟨q, b, os⟩ := c
  simp only at *
  by_cases hE : E = 0
  case neg =>
    obtain rfl : R = false := by rw [HB.out, beq_eq_false_iff_ne.2 hE]; rfl
    have hE1 : ((E : Int) != 0) = true := bne_iff_ne.2 (by omega)
    clear hE HB
    go_enter Try.func17, Try.ntmps17
    go_wp2_with (go_at_call 14; (with_reducible refine (L _ (HO.out.below (bal (Below.refl _ _) _))).mono ?_); rintro e w1 ⟨rfl, hB⟩)
    go_ret2
    exact ⟨rfl, btr (bal (Below.refl _ _) _) hB⟩
  subst hE
  have HB2 : Hid (R = os.all fun o => !(o.k == 1) || gcl o.n) := by show _ = _; rw [HB.out]; rfl
  clear HB
  go_enter Try.func17, Try.ntmps17
  go_wp2_with (go_at_call 14; (with_reducible refine (L _ (HO.out.below (bal (Below.refl _ _) _))).mono ?_); rintro e w1 ⟨rfl, hB⟩; have bC := one_box hB; have qC : ∀ j, w1.cell? ⟨w.heap.size, j, none⟩ = _ := bC.cell; have zC := bC.lt; have HW : Hid (Below w.heap.size w w1) := btr (bal (Below.refl _ _) _) hB; clear bC hB)
  go_loopw [19] (fun v wr => ∃ k : Nat, k ≤ os.length ∧ v = .int .i64 k ∧ Hid (Below w1.heap.size w1 wr) ∧ Hid (∀ j (h : j < os.length), j < k → (!(os[j].k == 1) || gcl os[j].n) = true)) (fun v _ => os.length - (intOf v).toNat)
  case atStart => exact ⟨0, Nat.zero_le _, rfl, Below.refl _ _, fun j _ h => absurd h (Nat.not_lt_zero _)⟩
  case round =>
    obtain ⟨k, hk, rfl, hW, hJ⟩ := hrel
    by_cases hlt : k < os.length
    case neg =>
      obtain rfl : k = os.length := by omega
      obtain rfl : R = true := by rw [HB2.out]; exact all_all (fun j hj => hJ.out j hj hj)
      go_wp2
      go_ret2
      exact ⟨rfl, btr HW.out hW.out⟩
    obtain ⟨b', o', rfl, r⟩ := (HO.out.below (btr HW.out hW.out)).at_ k hlt
    have m0 := r.c0 k hlt
    have m1 := r.c1 k hlt
    have m2 := r.c2 k hlt
    have m3 := r.c3 k hlt
    have m4 := r.c4 k hlt
    have m5 := r.c5 k hlt
    have m6 := r.c6 k hlt
    have hbl := r.lt
    have HN : Hid ((!(os[k].k == 1) || gcl os[k].n) = false → R = false) := fun h => by rw [HB2.out]; exact all_at (p := fun o => !(o.k == 1) || gcl o.n) k hlt h
    have HY : Hid ((!(os[k].k == 1) || gcl os[k].n) = true → ∀ j (h : j < os.length), j < k + 1 → (!(os[j].k == 1) || gcl os[j].n) = true) := fun h j hj hjk => by
      by_cases e : j = k
      · subst e; exact h
      · exact hJ.out j hj (by omega)
    clear r hJ
    generalize os[k] = o at *
    generalize A k = ak at *
    generalize C k = ck at *
    obtain ⟨K, N, Q, B, F, M, V⟩ := o
    simp only at *
    have GC := fun w => clifford_any N w
    generalize gcl N = g at *
    cases hk1 : (K == 1) with
    | false =>
      have hJ2 : Hid (∀ j (h : j < os.length), j < k + 1 → (!(os[j].k == 1) || gcl os[j].n) = true) := HY.out (by rw [hk1]; rfl)
      clear HN HY
      go_wp2
      go_roundw
      case rel => exact ⟨k + 1, by omega, by go_num, bal hW.out _, hJ2⟩
      case measure => simp [intOf]; omega
    | true =>
      cases g with
      | false =>
        obtain rfl := HN.out (by rw [hk1]; rfl)
        clear HN HY
        go_wp2_with (go_at_call 36; (with_reducible refine (GC _).mono ?_); rintro e w2 ⟨rfl, hB2⟩)
        go_ret2
        exact ⟨rfl, btr HW.out (btr hW.out (btr (bal (Below.refl _ _) _) hB2))⟩
      | true =>
        have hJ2 : Hid (∀ j (h : j < os.length), j < k + 1 → (!(os[j].k == 1) || gcl os[j].n) = true) := HY.out (by rw [hk1]; rfl)
        clear HN HY
        go_wp2_with (go_at_call 36; (with_reducible refine (GC _).mono ?_); rintro e w2 ⟨rfl, hB2⟩)
        go_roundw
        case rel => exact ⟨k + 1, by omega, by go_num, btr (bal hW.out _) hB2, hJ2⟩
        case measure => simp [intOf]; omega
end Go.Proofs.Ytfaoegiignalkaa
