/-
  Put together of: F9 FJ FC FO.
-/
import Derived.Test.YtdjfpghgklkejaaGreatDoorXO
import Derived.Test.YtdjfpghgklkejaaGreatDoorXP
import Derived.Test.YtdjfpghgklkejaaGreatDoorXS
namespace Go.Proofs.YtdjfpghgklkejaaGreatDoor
open Go.RowKit Go.Sort
def meaR (en : En) (sd : Sd) (r : Rw) : Except Fa (En × List TO) :=
 match r.args with
 | [a, c] => match elE en a 1 with
  | .error e => .error (sd.p, e)
  | .ok q => match elE en c 2 with
   | .error e => .error (sd.p, e)
   | .ok b => .ok (en, [⟨2, ⟨#[]⟩, [(q : Int)], b, stO sd⟩])
 | _ => .error (sd.p, 111)
theorem mea_no {en : En} {sd : Sd} {r : Rw} (h : r.args.length ≠ 2) : meaR en sd r = .error (sd.p, 111) := by
 unfold meaR
 match hr : r.args, h with
 | [], _ => rfl
 | [_], _ => rfl
 | [_, _], h => exact absurd rfl h
 | _ :: _ :: _ :: _, _ => rfl
theorem mea_e1 {en : En} {sd : Sd} {r : Rw} {a c : Ar} {e : Nat} (h : r.args = [a, c]) (he : elE en a 1 = .error e) : meaR en sd r = .error (sd.p, e) := by
 unfold meaR
 rw [h]
 simp only [he]
theorem mea_e2 {en : En} {sd : Sd} {r : Rw} {a c : Ar} {q e : Nat} (h : r.args = [a, c]) (hq : elE en a 1 = .ok q) (he : elE en c 2 = .error e) : meaR en sd r = .error (sd.p, e) := by
 unfold meaR
 rw [h]
 simp only [hq, he]
theorem mea_ok {en : En} {sd : Sd} {r : Rw} {a c : Ar} {q b : Nat} (h : r.args = [a, c]) (hq : elE en a 1 = .ok q) (he : elE en c 2 = .ok b) : meaR en sd r = .ok (en, [⟨2, ⟨#[]⟩, [(q : Int)], b, stO sd⟩]) := by
 unfold meaR
 rw [h]
 simp only [hq, he]
set_option maxHeartbeats 8000000 in
theorem measure_any {w0 W : World} {lb mb N : Nat} {hi : HG} {en : En} {pl : Int} (H : LK w0 W lb mb hi N en pl) (hok : EnOk en) (r : Rw) (aa : Option Addr) (ac : Nat) (sd : Sd) (hmv : sd.m < 18446744073709551616 ∧ sd.v < 18446744073709551616) (hgf : sd.g = false) (hsp : sd.p = pl) (hA : SA w0 (.slice aa r.args.length ac) r.args) (hsz : ∀ a ∈ r.args, a.n.size ≤ maxLen) :
  Calls Tryz.prog 88 #[.pointer (some ⟨lb, 0, none⟩), rwV r aa ac, sdV sd] W fun e W' => RowO w0 W W' lb mb hi N (en, sd.g) (meaR en sd r) e := by
 have HL := hid H
 have HGF := hid hgf
 have HMV := hid hmv
 clear hgf hmv
 obtain ⟨k, nm, ar, nu, ro, pc⟩ := r
 obtain ⟨p, n, g, m, v⟩ := sd
 simp only at *
 subst hsp
 by_cases hl : ar.length = 2
 case neg =>
  rw [mea_no (r := ⟨k, nm, ar, nu, ro, pc⟩) hl]
  have hl' : ((ar.length : Int) != 2) = true := bne_iff_ne.2 (by omega)
  clear hl H hA hok
  go_enter Tryz.func88, Tryz.ntmps88
  go_wp2
  refine bodyPost_ret (v := .tuple #[ppV pp0, .int .i64 111]) (by simp [results, Tryz.results88, go_sem]) rfl ?_
  exact rowO_bad HL.out (bal (bal (bal (Below.refl _ _) _) _) _) (by decide)
 obtain ⟨ag, bg, har⟩ : ∃ ag bg, ar = [ag, bg] := by
  match ar, hl with
  | [ag, bg], _ => exact ⟨ag, bg, rfl⟩
 have hag := hsz ag (by simp [har])
 have hbg := hsz bg (by simp [har])
 have F := fun w1 (h : Below W.heap.size W w1) => element_any (H.fr h) hok ag hag 1 (.inl rfl)
 have F2 := fun w1 (h : Below W.heap.size W w1) => element_any (H.fr h) hok bg hbg 2 (.inr rfl)
 rw [show ((1 : Nat) : Int) = 1 from rfl] at F
 rw [show ((2 : Nat) : Int) = 2 from rfl] at F2
 obtain ⟨b, o, c, e1, hc, a0, a1, al⟩ := sa_at (hA.below H.below) (k := 0) (by omega)
 cases e1
 obtain ⟨b', o', c', e1, _, c0, c1, _⟩ := sa_at (hA.below H.below) (k := 1) (by omega)
 cases e1
 have ez : ar[0]'(by omega) = ag := by simp [har]
 have ey : ar[1]'(by omega) = bg := by simp [har]
 rw [ez, Nat.zero_mul, Nat.add_zero] at a0 a1
 rw [ey, Nat.one_mul] at c0 c1
 have h1 : ((ar.length : Int) != 2) = false := by rw [hl]; rfl
 have h0 : 0 < ar.length := by omega
 have h2 : 1 < ar.length := by omega
 have al1 : b < W.heap.size + 1 := by omega
 have al2 : b < W.heap.size + 1 + 1 := by omega
 have al3 : b < W.heap.size + 1 + 1 + 1 := by omega
 have HOK := hid hok
 have HAR := hid har
 have KC : Hid (∀ w1 : World, Below W.heap.size W w1 → w1.cell? ⟨b, o + 2, none⟩ = some (.string bg.n) ∧ w1.cell? ⟨b, o + 2 + 1, none⟩ = some (.int .i64 bg.x) ∧ b < w1.heap.size) := fun w1 h => ⟨(h.cell (p := ⟨b, o + 2, none⟩) al).trans c0, (h.cell (p := ⟨b, o + 2 + 1, none⟩) al).trans c1, Nat.lt_of_lt_of_le al h.size⟩
 clear H hA hsz hok ez ey har hl c0 c1
 cases hX : elE en ag 1 with
 | error x =>
  rw [mea_e1 (r := ⟨k, nm, ar, nu, ro, pc⟩) HAR.out hX]
  have hx := el_err hX
  rw [hX] at F
  simp only [valE, errN] at F
  have hx2 : ((x : Int) != 0) = true := bne_iff_ne.2 (by omega)
  obtain ⟨an, ax⟩ := ag
  simp only at *
  clear hX F2
  go_enter Tryz.func88, Tryz.ntmps88
  go_wp2_with (go_at_call 139; (with_reducible refine (F _ (bal (bal (bal (Below.refl _ _) _) _) _)).mono ?_); rintro e w1 ⟨rfl, hB⟩; obtain ⟨hB1, k1, k2, k3⟩ := tri_box hB; have q1 := k1.cell; have q2 := k2.cell; have q3 := k3.cell; have f3 := k3.free; have l1 := k1.lt; have l2 := k2.lt; have l3 := k3.lt; clear k1 k2 k3)
  refine bodyPost_ret (v := .tuple #[ppV pp0, .int .i64 (x : Nat)]) (by simp [results, Tryz.results88, go_sem, *]) rfl ?_
  change RowO w0 W (w1.setCells (W.heap.size + 1 + 1) 0 (ppc pp0)) lb mb hi N (en, g) _ _
  exact rowO_bad HL.out (below_sets hB1 (by omega) _) hx
 | ok q =>
  rw [hX] at F
  simp only [valE, errN] at F
  obtain ⟨an, ax⟩ := ag
  obtain ⟨bn, bx⟩ := bg
  simp only at *
  cases hY : elE en ⟨bn, bx⟩ 2 with
  | error y =>
   rw [mea_e2 (r := ⟨k, nm, ar, nu, ro, pc⟩) HAR.out hX hY]
   have hy := el_err hY
   rw [hY] at F2
   simp only [valE, errN] at F2
   clear hX hY
   go_enter Tryz.func88, Tryz.ntmps88
   go_wp2_with (first
    | (go_at_call 139; (with_reducible refine (F _ (bal (bal (bal (Below.refl _ _) _) _) _)).mono ?_); rintro e w1 ⟨rfl, hB⟩; obtain ⟨hB1, k1, k2, k3⟩ := tri_box hB; obtain ⟨u0, u1, u2⟩ := KC.out w1 hB1; have q1 := k1.cell; have l1 := k1.lt; clear F)
    | (go_at_call 139; (with_reducible refine (F2 _ hB1).mono ?_); rintro e w2 ⟨rfl, hC⟩; have hC1 := btr hB1 hC; have m1 : BK w2 _ _ 79 := (hC.block _ k1.lt).trans k1; have m2 : BK w2 _ _ 69 := (hC.block _ k2.lt).trans k2; have m3 : BK w2 _ _ 113 := (hC.block _ k3.lt).trans k3; have s1 := m1.cell; have s2 := m2.cell; have s3 := m3.cell; have f3 := m3.free; have t1 := m1.lt; have t2 := m2.lt; have t3 := m3.lt; clear m1 m2 m3 k1 k2 k3 q1 u0 u1))
   refine bodyPost_ret (v := .tuple #[ppV ⟨⟨p, n, g, m, v⟩, 2, ⟨#[]⟩, [(q : Int)], some ⟨w2.heap.size, 0, none⟩, 1, 0, 0, none, 0, 0⟩, .int .i64 (y : Nat)]) (by simp [results, Tryz.results88, go_sem, *]) rfl ?_
   change RowO w0 W ((w2.setCells (W.heap.size + 1 + 1) 0 (ppc ⟨⟨p, n, g, m, v⟩, 2, ⟨#[]⟩, [(q : Int)], some ⟨w2.heap.size, 0, none⟩, 1, 0, 0, none, 0, 0⟩)).alloc (.cells #[.int .i64 (q : Int)] 3)) lb mb hi N (en, g) _ _
   exact rowO_bad HL.out (bal (below_sets hC1 (by omega) _) _) hy
  | ok y =>
   rw [mea_ok (r := ⟨k, nm, ar, nu, ro, pc⟩) HAR.out hX hY]
   have HQL : Hid ((q : Int) < (en.q : Int)) := by have := el_lt HOK.out hX; show (q : Int) < (en.q : Int); omega
   rw [hY] at F2
   simp only [valE, errN] at F2
   clear hX hY
   go_enter Tryz.func88, Tryz.ntmps88
   go_wp2_with (first
    | (go_at_call 139; (with_reducible refine (F _ (bal (bal (bal (Below.refl _ _) _) _) _)).mono ?_); rintro e w1 ⟨rfl, hB⟩; obtain ⟨hB1, k1, k2, k3⟩ := tri_box hB; obtain ⟨u0, u1, u2⟩ := KC.out w1 hB1; have q1 := k1.cell; have l1 := k1.lt; clear F)
    | (go_at_call 139; (with_reducible refine (F2 _ hB1).mono ?_); rintro e w2 ⟨rfl, hC⟩; have hC1 := btr hB1 hC; have m1 : BK w2 _ _ 79 := (hC.block _ k1.lt).trans k1; have m2 : BK w2 _ _ 69 := (hC.block _ k2.lt).trans k2; have m3 : BK w2 _ _ 113 := (hC.block _ k3.lt).trans k3; have s1 := m1.cell; have s2 := m2.cell; have s3 := m3.cell; have f3 := m3.free; have t1 := m1.lt; have t2 := m2.lt; have t3 := m3.lt; clear m1 m2 m3 k1 k2 k3 q1 u0 u1))
   refine bodyPost_ret (v := .tuple #[ppV ⟨⟨p, n, g, m, v⟩, 2, ⟨#[]⟩, [(q : Int)], some ⟨w2.heap.size, 0, none⟩, 1, (y : Int), 0, none, 0, 0⟩, .int .i64 0]) (by simp [results, Tryz.results88, go_sem, *]) rfl ?_
   change RowO w0 W ((w2.setCells (W.heap.size + 1 + 1) 0 (ppc ⟨⟨p, n, g, m, v⟩, 2, ⟨#[]⟩, [(q : Int)], some ⟨w2.heap.size, 0, none⟩, 1, (y : Int), 0, none, 0, 0⟩)).alloc (.cells #[.int .i64 (q : Int)] 3)) lb mb hi N (en, g) _ _
   exact rowO_one HL.out HOK.out hC1 (by omega) _ (q : Int) 2 ⟨#[]⟩ (y : Int) ⟨p, n, g, m, v⟩ (by decide) (by decide) HMV.out HGF.out (by omega) HQL.out
end Go.Proofs.YtdjfpghgklkejaaGreatDoor
namespace Go.Proofs.YtdjfpghgklkejaaGreatDoor
open Go.RowKit Go.Sort
theorem rowR_repeat (rec : RecT) (en : En) (sd : Sd) (r : Rw) (body : List Rw) (h : r.kind = wRepeat) : rowR rec en sd r body = repR rec en sd r body := by
 unfold rowR repR
 rw [if_neg (by rw [h]; decide), if_neg (by rw [h]; decide), if_neg (by rw [h]; decide), if_pos h]
 rfl
theorem rowR_if (rec : RecT) (en : En) (sd : Sd) (r : Rw) (body : List Rw) (h : r.kind = wIf) : rowR rec en sd r body = whenR rec en sd r body := by
 unfold rowR whenR
 rw [if_neg (by rw [h]; decide), if_neg (by rw [h]; decide), if_neg (by rw [h]; decide), if_neg (by rw [h]; decide), if_pos h]
 rfl
theorem rowR_reset (rec : RecT) (en : En) (sd : Sd) (r : Rw) (body : List Rw) (h : r.kind = wReset) : rowR rec en sd r body = rstR en sd r := by
 unfold rowR rstR
 rw [if_neg (by rw [h]; decide), if_neg (by rw [h]; decide), if_neg (by rw [h]; decide), if_neg (by rw [h]; decide), if_neg (by rw [h]; decide), if_neg (by rw [h]; decide), if_pos h]
 rfl
theorem rowR_measure (rec : RecT) (en : En) (sd : Sd) (r : Rw) (body : List Rw) (h : r.kind = wMeasure) : rowR rec en sd r body = meaR en sd r := by
 unfold rowR meaR
 rw [if_neg (by rw [h]; decide), if_neg (by rw [h]; decide), if_neg (by rw [h]; decide), if_neg (by rw [h]; decide), if_neg (by rw [h]; decide), if_pos h]
 rfl
end Go.Proofs.YtdjfpghgklkejaaGreatDoor
namespace Go.Proofs.YtdjfpghgklkejaaGreatDoor
open Go.RowKit Go.Sort
def allN (en : En) (s : Nat) : Nat := if s = 1 then en.q else en.b
def addN (en : En) (s k : Nat) : En := if s = 1 then ⟨en.nm, en.q + k, en.b, en.pr, en.d⟩ else ⟨en.nm, en.q, en.b + k, en.pr, en.d⟩
def DecO (w0 W W' : World) (lb mb : Nat) (hi : HG) (N : Nat) (en : En) (pl : Int) (r : Rw) (s : Nat) (e : Ending) : Prop :=
 Fr W W' w0.heap.size hi.h ∧ e = .returned (.int .i64 (decE en r (allN en s) : Nat)) ∧ (decE en r (allN en s) ≠ 0 → LK w0 W' lb mb hi N en pl) ∧
  (decE en r (allN en s) = 0 → LK w0 W' lb mb hi (N + 1) (addN ⟨putN en.nm r.name ⟨s, allN en s, r.num.toNat, 0, []⟩, en.q, en.b, en.pr, en.d⟩ s r.num.toNat) pl ∧ EnOk (addN ⟨putN en.nm r.name ⟨s, allN en s, r.num.toNat, 0, []⟩, en.q, en.b, en.pr, en.d⟩ s r.num.toNat))
theorem dec_ok {en : En} {r : Rw} {s : Nat} (hok : EnOk en) (hs : s = 1 ∨ s = 2) (h : decE en r (allN en s) = 0) : EnOk (addN ⟨putN en.nm r.name ⟨s, allN en s, r.num.toNat, 0, []⟩, en.q, en.b, en.pr, en.d⟩ s r.num.toNat) ∧ srt en r.name = 0 ∧ 1 ≤ r.num ∧ r.num ≤ 64 - allN en s := by
 unfold decE at h
 split at h
 ·cases h
 ·rename_i h1
  split at h
  ·cases h
  ·rename_i h2
   split at h
   ·cases h
   ·rename_i h3
    have ha : allN en s ≤ 64 := by unfold allN; split; exact hok.q; exact hok.b
    have hf : ∀ t m, putN en.nm r.name ⟨s, allN en s, r.num.toNat, 0, []⟩ t = some m → m.f ≤ 64 ∧ m.z ≤ 6000000000000 ∧ (m.s = 1 ∨ m.s = 2 → m.f + m.z ≤ 64) ∧ m.d ≤ 32 ∧ m.s ≠ 0 ∧ m.s ≤ 5 := fun t m hm => by
     unfold putN at hm
     split at hm
     ·cases hm
      exact ⟨ha, by show r.num.toNat ≤ _; omega, fun _ => by show allN en s + r.num.toNat ≤ 64; omega, by show 0 ≤ 32; omega, by show s ≠ 0; omega, by show s ≤ 5; omega⟩
     ·exact hok.f t m hm
    have hl : ∀ t m, putN en.nm r.name ⟨s, allN en s, r.num.toNat, 0, []⟩ t = some m → ∀ u ∈ m.l, u.st = none := fun t m hm => by
     unfold putN at hm
     split at hm
     ·cases hm
      exact fun u hu => by cases hu
     ·exact hok.l t m hm
    have hr : ∀ t m, putN en.nm r.name ⟨s, allN en s, r.num.toNat, 0, []⟩ t = some m → m.s = 1 → m.f + m.z ≤ if s = 1 then en.q + r.num.toNat else en.q := fun t m hm h1 => by
     unfold putN at hm
     split at hm
     ·cases hm
      have h1 : s = 1 := h1
      rw [if_pos h1, h1]
      exact Nat.le_refl _
     ·have := hok.r t m hm h1
      split <;> omega
    have hz : ∀ t m, putN en.nm r.name ⟨s, allN en s, r.num.toNat, 0, []⟩ t = some m → m.s = 3 → 0 < m.z ∧ t.size ≤ 281474976710656 := fun t m hm h1 => by
     unfold putN at hm
     split at hm
     ·cases hm
      have h1 : s = 3 := h1
      omega
     ·exact hok.z t m hm h1
    refine ⟨?_, by simpa using h1, by omega, by omega⟩
    unfold addN
    rcases hs with rfl | rfl
    ·rw [if_pos rfl]
     exact ⟨by show en.q + r.num.toNat ≤ 64; have : allN en 1 = en.q := rfl; omega, hok.b, hf, hok.d, hr, hl, hz⟩
    ·rw [if_neg (by decide)]
     exact ⟨hok.q, by show en.b + r.num.toNat ≤ 64; have : allN en 2 = en.b := rfl; omega, hf, hok.d, hr, hl, hz⟩
theorem LK.count {w0 W : World} {lb mb N : Nat} {hi : HG} {en : En} {pl : Int} (h : LK w0 W lb mb hi N en pl) {s k : Nat} (hs : s = 1 ∨ s = 2) : LK w0 (W.setCell ⟨lb, s, none⟩ (.int .i64 ((allN en s + k : Nat) : Int))).drew lb mb hi N (addN en s k) pl := by
 have g : Fr W (W.setCell ⟨lb, s, none⟩ (.int .i64 ((allN en s + k : Nat) : Int))).drew lb (lb + 1) := by
  have := (Fr.refl W lb (lb + 1)).set lb s (.int .i64 ((allN en s + k : Nat) : Int)) (.inl ⟨Nat.le_refl _, Nat.lt_succ_self _⟩)
  exact ⟨this.os, this.tape, this.output, this.size, this.block⟩
 have hx : ∀ b, hi.G b → b < lb ∨ lb + 1 ≤ b := fun b hb => .inr (by have := hi.le b hb; have := h.o3; omega)
 obtain ⟨pv, k1, k2⟩ := h.box
 have hmb : (W.setCell ⟨lb, s, none⟩ (.int .i64 ((allN en s + k : Nat) : Int))).drew.heap[mb]? = W.heap[mb]? := g.block _ (Nat.lt_of_lt_of_le h.o4 h.o5) (by have := h.o6; omega)
 have hnm : (addN en s k).nm = en.nm := by unfold addN; split <;> rfl
 have hpr : (addN en s k).pr = en.pr := by unfold addN; split <;> rfl
 refine ⟨below_fr h.below g h.o1, ⟨pv, ?_, by rw [hpr]; exact k2.far g hx⟩, by rw [hnm]; exact h.nm.far g hx hmb, h.o1, h.o2, h.o3, h.o4, Nat.le_trans h.o5 g.size, h.o6, fun b hb => h.up b (Nat.le_trans g.size hb)⟩
 have k3 := (k1.set s (.int .i64 ((allN en s + k : Nat) : Int))).drew
 rcases hs with rfl | rfl
 ·exact k3
 ·exact k3
set_option maxHeartbeats 8000000 in
set_option maxRecDepth 100000 in
theorem declare_any {w0 W : World} {lb mb N : Nat} {hi : HG} {en : En} {pl : Int} (H : LK w0 W lb mb hi N en pl) (hok : EnOk en) (hN : N < maxLen) (r : Rw) (aa : Option Addr) (ac : Nat) (hs : r.name.size ≤ maxLen) (s : Nat) (hs0 : s = 1 ∨ s = 2) :
  Calls Tryz.prog 84 #[.pointer (some ⟨lb, 0, none⟩), rwV r aa ac, .int .i64 (s : Nat), .pointer (some ⟨lb, s, none⟩), .int .i64 64] W fun e W' => DecO w0 W W' lb mb hi N en pl r s e := by
 obtain ⟨x0, x1, x2, x3, ba, bk, bc, L', hL, hx0, hsome, hnone, hP⟩ := H.name r.name hs
 obtain ⟨pv, k1, kp⟩ := H.box
 have hmb : mb < W.heap.size := Nat.lt_of_lt_of_le H.o4 H.o5
 have c0 : W.cell? ⟨lb, 0, none⟩ = some (.map (some mb)) := k1.cell 0
 have cs : W.cell? ⟨lb, s, none⟩ = some (.int .i64 (allN en s : Nat)) := by
  rcases hs0 with rfl | rfl
  ·exact k1.cell 1
  ·exact k1.cell 2
 have l0 := k1.lt
 have hall : allN en s ≤ 64 := by unfold allN; split; exact hok.q; exact hok.b
 have hD : decE en r (allN en s) = if x0 ≠ 0 then 110 else if r.num < 1 then 112 else if ((64 : Int) - (allN en s : Nat)) < r.num then 1 else 0 := by rw [hx0]; rfl
 have HDO := hid (dec_ok (r := r) hok hs0)
 have HL := hid H
 have HOK := hid hok
 clear hx0 hsome hnone hP H hok k1 kp
 generalize hDe : decE en r (allN en s) = D at *
 obtain ⟨A, hA⟩ : ∃ A, A = allN en s := ⟨_, rfl⟩
 have HK0 : Hid (∀ W', Below W.heap.size W W' → D ≠ 0 → DecO w0 W W' lb mb hi N en pl r s (.returned (.int .i64 (D : Nat)))) := fun W' hB hd => ⟨fr_of_below hB, by rw [hDe], fun _ => HL.out.fr hB, fun h => absurd (hDe ▸ h) hd⟩
 rw [← hA] at cs hall hD
 have HAE := hid hA
 have HS0 := hid hs0
 have KP : Hid (∀ w', Below W.heap.size W w' → (w'.cell? ⟨lb, 0, none⟩ = some (.map (some mb)) ∧ w'.cell? ⟨lb, s, none⟩ = some (.int .i64 (A : Nat)) ∧ lb < w'.heap.size) ∧ (Instr.lookup 60 (.map (some mb)) (.string r.name) false).run Tryz.prog w' = .ok (.agg #[.int .i64 (x0 : Nat), .int .i64 (x1 : Nat), .int .i64 (x2 : Nat), .int .i64 (x3 : Nat), .slice ba bk bc]) w') := fun w' h => ⟨⟨(h.cell (p := ⟨lb, 0, none⟩) l0).trans c0, (h.cell (p := ⟨lb, s, none⟩) l0).trans cs, Nat.lt_of_lt_of_le l0 h.size⟩, hL w' (h.block _ hmb)⟩
 clear hL c0 cs
 clear hA hs0
 generalize hQ : (fun e W' => DecO w0 W W' lb mb hi N en pl r s e) = Q
 have HQ := hid hQ
 clear hQ
 obtain ⟨k, nm, ar, nu, ro, pc⟩ := r
 simp only at *
 obtain ⟨V, hV⟩ : ∃ V, V = W.alloc (.cells #[.string k, .string nm, .slice aa ar.length ac, .int .i64 nu, .int .i64 ro, .int .i64 pc] 79) := ⟨_, rfl⟩
 have bV : BK V W.heap.size #[.string k, .string nm, .slice aa ar.length ac, .int .i64 nu, .int .i64 ro, .int .i64 pc] 79 := by rw [hV]; exact bk_new _ _ _
 have hWV : Below W.heap.size W V := by rw [hV]; exact bal (Below.refl _ _) _
 have SK : Hid (∀ w', Below V.heap.size V w' → Below V.heap.size V w' ∧ ((w'.cell? ⟨lb, 0, none⟩ = some (.map (some mb)) ∧ w'.cell? ⟨lb, s, none⟩ = some (.int .i64 (A : Nat)) ∧ lb < w'.heap.size) ∧ (Instr.lookup 60 (.map (some mb)) (.string nm) false).run Tryz.prog w' = .ok (.agg #[.int .i64 (x0 : Nat), .int .i64 (x1 : Nat), .int .i64 (x2 : Nat), .int .i64 (x3 : Nat), .slice ba bk bc]) w') ∧ (∀ j, w'.cell? ⟨W.heap.size, j, none⟩ = (#[.string k, .string nm, .slice aa ar.length ac, .int .i64 nu, .int .i64 ro, .int .i64 pc] : Array Value)[j]?) ∧ W.heap.size < w'.heap.size) := fun w' h => ⟨h, KP.out w' (btr hWV h), (by have b2 : BK w' W.heap.size _ 79 := (h.block _ bV.lt).trans bV; exact b2.cell), Nat.lt_of_lt_of_le bV.lt h.size⟩
 have HWV := hid hWV
 have HBV := hid bV
 have fld : ∀ w : World, (Instr.field 109 (.agg #[.int .i64 (x0 : Nat), .int .i64 (x1 : Nat), .int .i64 (x2 : Nat), .int .i64 (x3 : Nat), .slice ba bk bc]) 0).run Tryz.prog w = .ok (.int .i64 (x0 : Nat)) w := fun w => by kernel_rfl
 clear hWV bV l0
 go_enter Tryz.func84, Tryz.ntmps84
 go_upto_region 1 with (fail)
 rw [← hV]
 clear hV
 go_region_held3 (fun w' => Below V.heap.size V w' ∧ ((w'.cell? ⟨lb, 0, none⟩ = some (.map (some mb)) ∧ w'.cell? ⟨lb, s, none⟩ = some (.int .i64 (A : Nat)) ∧ lb < w'.heap.size) ∧ (Instr.lookup 60 (.map (some mb)) (.string nm) false).run Tryz.prog w' = .ok (.agg #[.int .i64 (x0 : Nat), .int .i64 (x1 : Nat), .int .i64 (x2 : Nat), .int .i64 (x3 : Nat), .slice ba bk bc]) w') ∧ (∀ j, w'.cell? ⟨W.heap.size, j, none⟩ = (#[.string k, .string nm, .slice aa ar.length ac, .int .i64 nu, .int .i64 ro, .int .i64 pc] : Array Value)[j]?) ∧ W.heap.size < w'.heap.size)
  ((refine SK.out _ ?_; first | exact below_drew (Below.refl _ _) | exact And.left (by assumption)))
  (fail)
 all_goals
  obtain ⟨V1, hV1⟩ : ∃ V1, V1 = V.drew := ⟨_, rfl⟩
  have hB1 : Below V.heap.size V V1 := by rw [hV1]; exact below_drew (Below.refl _ _)
  rw [← hV1]
  clear hV1
  have sk := SK.out V1 hB1
  have HB1 := hid hB1
  have q1 := sk.2.1.1.1
  have q2 := sk.2.1.1.2.1
  have q3 := sk.2.1.1.2.2
  have q4 := sk.2.2.1
  have q5 := sk.2.2.2
  clear sk hB1
  by_cases hx : x0 = 0
  case neg =>
   have hx' : ((x0 : Int) != 0) = true := bne_iff_ne.2 (by omega)
   rw [if_pos hx] at hD
   subst hD
   clear hx
   go_wp2
   rw [← HQ.out]
   exact HK0.out _ (btr HWV.out HB1.out) (by decide)
  have hx' : ((x0 : Int) != 0) = false := by rw [hx]; rfl
  rw [if_neg (by omega)] at hD
  by_cases hn1 : nu < 1
  ·rw [if_pos hn1] at hD
   subst hD
   go_wp2
   rw [← HQ.out]
   exact HK0.out _ (btr HWV.out HB1.out) (by decide)
  rw [if_neg hn1] at hD
  have hw : IntKind.i64.wrap ((64 : Int) - (A : Int)) = (64 : Int) - (A : Int) := by rw [IntKind.wrap_i64]; omega
  go_upto_region 5 with (fail)
  go_region_held3 (fun w' => Below V.heap.size V w' ∧ ((w'.cell? ⟨lb, 0, none⟩ = some (.map (some mb)) ∧ w'.cell? ⟨lb, s, none⟩ = some (.int .i64 (A : Nat)) ∧ lb < w'.heap.size) ∧ (Instr.lookup 60 (.map (some mb)) (.string nm) false).run Tryz.prog w' = .ok (.agg #[.int .i64 (x0 : Nat), .int .i64 (x1 : Nat), .int .i64 (x2 : Nat), .int .i64 (x3 : Nat), .slice ba bk bc]) w') ∧ (∀ j, w'.cell? ⟨W.heap.size, j, none⟩ = (#[.string k, .string nm, .slice aa ar.length ac, .int .i64 nu, .int .i64 ro, .int .i64 pc] : Array Value)[j]?) ∧ W.heap.size < w'.heap.size)
   ((refine SK.out _ ?_; first | exact below_drew HB1.out | exact And.left (by assumption)))
   (fail)
  all_goals
   obtain ⟨V2, hV2⟩ : ∃ V2, V2 = V1.drew := ⟨_, rfl⟩
   have hB2 : Below V.heap.size V V2 := by rw [hV2]; exact below_drew HB1.out
   rw [← hV2]
   clear hV2 q1 q2 q3 q4 q5
   have HB2 := hid hB2
   clear hB2 HB1
   by_cases hn2 : (64 : Int) - (A : Nat) < nu
   ·rw [if_pos hn2] at hD
    subst hD
    go_wp2
    rw [← HQ.out]
    exact HK0.out _ (btr HWV.out HB2.out) (by decide)
   rw [if_neg hn2] at hD
   subst hD
   obtain ⟨nn, rfl⟩ : ∃ nn : Nat, nu = (nn : Nat) := ⟨nu.toNat, by omega⟩
   have hBW : Below W.heap.size W V2.drew := below_drew (btr HWV.out HB2.out)
   have HU := (HL.out.fr hBW).take hN nm hs ⟨s, A, nn, 0, []⟩ (.agg #[.int .i64 (s : Nat), .int .i64 (A : Nat), .int .i64 (nn : Nat), .int .i64 0, .slice none 0 0]) ⟨none, 0, 0, [], rfl, pl_nil _ _ _ _ _, T4.refl _⟩
   obtain ⟨W7, hr7, hK7, hg7⟩ := HU
   have HK7 := hid hK7
   have HG7 := hid hg7
   have bR : BK V2.drew W.heap.size #[.string k, .string nm, .slice aa ar.length ac, .int .i64 (nn : Nat), .int .i64 ro, .int .i64 pc] 79 := (below_drew HB2.out).block _ HBV.out.lt |>.trans HBV.out
   have hmW : mb < W.heap.size := hmb
   have bR7 : BK W7 W.heap.size #[.string k, .string nm, .slice aa ar.length ac, .int .i64 (nn : Nat), .int .i64 ro, .int .i64 pc] 79 := (hg7.block _ bR.lt (fun e => by cases e; omega)).trans bR
   have HBR := hid bR7
   clear hK7 hg7 bR bR7
   go_upto_region 7 with (fail)
   refine wp_region_noPanic ?_
   refine region_z (S := fun w' => Below V.heap.size V w' ∧ ((w'.cell? ⟨lb, 0, none⟩ = some (.map (some mb)) ∧ w'.cell? ⟨lb, s, none⟩ = some (.int .i64 (A : Nat)) ∧ lb < w'.heap.size) ∧ (Instr.lookup 60 (.map (some mb)) (.string nm) false).run Tryz.prog w' = .ok (.agg #[.int .i64 (x0 : Nat), .int .i64 (x1 : Nat), .int .i64 (x2 : Nat), .int .i64 (x3 : Nat), .slice ba bk bc]) w') ∧ (∀ j, w'.cell? ⟨W.heap.size, j, none⟩ = (#[.string k, .string nm, .slice aa ar.length ac, .int .i64 (nn : Nat), .int .i64 ro, .int .i64 pc] : Array Value)[j]?) ∧ W.heap.size < w'.heap.size) 13 (by kernel_rfl) (SK.out _ (below_drew HB2.out)) (fun hHeld => ?_)
   refine zAny_take (i := 0) (oi := { dst := some 34, op := Op.move (Operand.tmp 0), type := 110, pos := "kinds.go:19", after := #[], guard := none }) (v := ?_) rfl (by kernel_rfl) (by kernel_rfl) (by kernel_rfl) (by kernel_rfl) (fun _ _ _ h => h) (Or.inl ⟨by rfl, ?_⟩) (by assumption) ?_
   rotate_left
   (intro w0 hSw; (try dsimp only at hSw); go_simp; try (with_reducible rfl))
   (try simp only [Act.put, List.setIfInBounds_toArray, List.set_cons_zero, List.set_cons_succ])
   refine zAny_take (i := 1) (oi := { dst := some 35, op := Op.nilCheck (Operand.tmp 34), type := 0, pos := "kinds.go:19", after := #[{ on := 0, ground := Ground.data }], guard := none }) (v := ?_) rfl (by kernel_rfl) (by kernel_rfl) (by kernel_rfl) (by kernel_rfl) (fun _ _ _ h => h) (Or.inl ⟨by rfl, ?_⟩) (by assumption) ?_
   rotate_left
   (intro w0 hSw; (try dsimp only at hSw); go_simp; try (with_reducible rfl))
   (try simp only [Act.put, List.setIfInBounds_toArray, List.set_cons_zero, List.set_cons_succ])
   refine zAny_take (i := 2) (oi := { dst := some 36, op := Op.fieldAddr 64 (Operand.tmp 35) 0, type := 0, pos := "kinds.go:19", after := #[{ on := 1, ground := Ground.data }], guard := none }) (v := ?_) rfl (by kernel_rfl) (by kernel_rfl) (by kernel_rfl) (by kernel_rfl) (fun _ _ _ h => h) (Or.inl ⟨by rfl, ?_⟩) (by assumption) ?_
   rotate_left
   (intro w0 hSw; (try dsimp only at hSw); go_simp; try (with_reducible rfl))
   (try simp only [Act.put, List.setIfInBounds_toArray, List.set_cons_zero, List.set_cons_succ])
   refine zAny_take (i := 3) (oi := { dst := some 37, op := Op.load 60 (Operand.tmp 36), type := 60, pos := "kinds.go:19", after := #[{ on := 2, ground := Ground.data }], guard := none }) (v := ?_) rfl (by kernel_rfl) (by kernel_rfl) (by kernel_rfl) (by kernel_rfl) (fun _ _ _ h => h) (Or.inl ⟨by rfl, ?_⟩) (by assumption) ?_
   rotate_left
   (intro w0 hSw; (try dsimp only at hSw); go_simp; try (with_reducible rfl))
   (try simp only [Act.put, List.setIfInBounds_toArray, List.set_cons_zero, List.set_cons_succ])
   refine zAny_take (i := 4) (oi := { dst := some 38, op := Op.fieldAddr 79 (Operand.tmp 6) 1, type := 0, pos := "kinds.go:19", after := #[], guard := none }) (v := ?_) rfl (by kernel_rfl) (by kernel_rfl) (by kernel_rfl) (by kernel_rfl) (fun _ _ _ h => h) (Or.inl ⟨by rfl, ?_⟩) (by assumption) ?_
   rotate_left
   (intro w0 hSw; (try dsimp only at hSw); go_simp; try (with_reducible rfl))
   (try simp only [Act.put, List.setIfInBounds_toArray, List.set_cons_zero, List.set_cons_succ])
   refine zAny_take (i := 5) (oi := { dst := some 39, op := Op.load 9 (Operand.tmp 38), type := 9, pos := "kinds.go:19", after := #[{ on := 4, ground := Ground.data }], guard := none }) (v := ?_) rfl (by kernel_rfl) (by kernel_rfl) (by kernel_rfl) (by kernel_rfl) (fun _ _ _ h => h) (Or.inl ⟨by rfl, ?_⟩) (by assumption) ?_
   rotate_left
   (intro w0 hSw; (try dsimp only at hSw); go_simp; try (with_reducible rfl))
   (try simp only [Act.put, List.setIfInBounds_toArray, List.set_cons_zero, List.set_cons_succ])
   refine zAny_take (i := 6) (oi := { dst := some 40, op := Op.move (Operand.tmp 2), type := 3, pos := "kinds.go:19", after := #[], guard := none }) (v := ?_) rfl (by kernel_rfl) (by kernel_rfl) (by kernel_rfl) (by kernel_rfl) (fun _ _ _ h => h) (Or.inl ⟨by rfl, ?_⟩) (by assumption) ?_
   rotate_left
   (intro w0 hSw; (try dsimp only at hSw); go_simp; try (with_reducible rfl))
   (try simp only [Act.put, List.setIfInBounds_toArray, List.set_cons_zero, List.set_cons_succ])
   refine zAny_take (i := 7) (oi := { dst := some 41, op := Op.move (Operand.tmp 3), type := 166, pos := "kinds.go:19", after := #[], guard := none }) (v := ?_) rfl (by kernel_rfl) (by kernel_rfl) (by kernel_rfl) (by kernel_rfl) (fun _ _ _ h => h) (Or.inl ⟨by rfl, ?_⟩) (by assumption) ?_
   rotate_left
   (intro w0 hSw; (try dsimp only at hSw); go_simp; try (with_reducible rfl))
   (try simp only [Act.put, List.setIfInBounds_toArray, List.set_cons_zero, List.set_cons_succ])
   refine zAny_take (i := 8) (oi := { dst := some 42, op := Op.nilCheck (Operand.tmp 41), type := 0, pos := "kinds.go:19", after := #[{ on := 7, ground := Ground.data }], guard := none }) (v := ?_) rfl (by kernel_rfl) (by kernel_rfl) (by kernel_rfl) (by kernel_rfl) (fun _ _ _ h => h) (Or.inl ⟨by rfl, ?_⟩) (by assumption) ?_
   rotate_left
   (intro w0 hSw; (try dsimp only at hSw); go_simp; try (with_reducible rfl))
   (try simp only [Act.put, List.setIfInBounds_toArray, List.set_cons_zero, List.set_cons_succ])
   refine zAny_take (i := 9) (oi := { dst := some 43, op := Op.load 3 (Operand.tmp 42), type := 3, pos := "kinds.go:19", after := #[{ on := 8, ground := Ground.data }], guard := none }) (v := ?_) rfl (by kernel_rfl) (by kernel_rfl) (by kernel_rfl) (by kernel_rfl) (fun _ _ _ h => h) (Or.inl ⟨by rfl, ?_⟩) (by assumption) ?_
   rotate_left
   (intro w0 hSw; (try dsimp only at hSw); go_simp; try (with_reducible rfl))
   (try simp only [Act.put, List.setIfInBounds_toArray, List.set_cons_zero, List.set_cons_succ])
   refine zAny_take (i := 10) (oi := { dst := some 44, op := Op.fieldAddr 79 (Operand.tmp 6) 3, type := 0, pos := "kinds.go:19", after := #[], guard := none }) (v := ?_) rfl (by kernel_rfl) (by kernel_rfl) (by kernel_rfl) (by kernel_rfl) (fun _ _ _ h => h) (Or.inl ⟨by rfl, ?_⟩) (by assumption) ?_
   rotate_left
   (intro w0 hSw; (try dsimp only at hSw); go_simp; try (with_reducible rfl))
   (try simp only [Act.put, List.setIfInBounds_toArray, List.set_cons_zero, List.set_cons_succ])
   refine zAny_take (i := 11) (oi := { dst := some 45, op := Op.load 3 (Operand.tmp 44), type := 3, pos := "kinds.go:19", after := #[{ on := 10, ground := Ground.data }], guard := none }) (v := ?_) rfl (by kernel_rfl) (by kernel_rfl) (by kernel_rfl) (by kernel_rfl) (fun _ _ _ h => h) (Or.inl ⟨by rfl, ?_⟩) (by assumption) ?_
   rotate_left
   (intro w0 hSw; (try dsimp only at hSw); go_simp; try (with_reducible rfl))
   (try simp only [Act.put, List.setIfInBounds_toArray, List.set_cons_zero, List.set_cons_succ])
   refine zAny_take (i := 12) (oi := { dst := some 46, op := Op.build 109 #[(0, Operand.tmp 40), (1, Operand.tmp 43), (2, Operand.tmp 45)], type := 109, pos := "kinds.go:19", after := #[{ on := 6, ground := Ground.data }, { on := 9, ground := Ground.data }, { on := 11, ground := Ground.data }], guard := none }) (v := ?_) rfl (by kernel_rfl) (by kernel_rfl) (by kernel_rfl) (by kernel_rfl) (fun _ _ _ h => h) (Or.inl ⟨by rfl, ?_⟩) (by assumption) ?_
   rotate_left
   (intro w0 hSw; (try dsimp only at hSw); go_simp; try (with_reducible rfl))
   (try simp only [Act.put, List.setIfInBounds_toArray, List.set_cons_zero, List.set_cons_succ])
   refine zAny_ready (rs := [13]) (by kernel_rfl) (by simp) (zReady.cons (o := { dst := none, op := Op.mapUpdate 60 (Operand.tmp 37) (Operand.tmp 39) (Operand.tmp 46), type := 0, pos := "kinds.go:19", after := #[{ on := 3, ground := Ground.data }, { on := 5, ground := Ground.data }, { on := 12, ground := Ground.data }, { on := 0, ground := Ground.phase }, { on := 1, ground := Ground.phase }, { on := 2, ground := Ground.phase }, { on := 3, ground := Ground.phase }, { on := 4, ground := Ground.phase }, { on := 5, ground := Ground.phase }, { on := 6, ground := Ground.phase }, { on := 7, ground := Ground.phase }, { on := 8, ground := Ground.phase }, { on := 9, ground := Ground.phase }, { on := 10, ground := Ground.phase }, { on := 11, ground := Ground.phase }, { on := 12, ground := Ground.phase }], guard := none }) rfl (fun K hK => ?_) zReady.nil)
   go_simp
   refine hK.out _ _ (fun h => absurd rfl h) (fun _ => ?_)
   clear hK K hHeld
   (try simp only [Act.put, List.setIfInBounds_toArray, List.set_cons_zero, List.set_cons_succ])
   refine zAny_done (by kernel_rfl) ?_ _
   refine NoPanic.normal ?_
   obtain ⟨pv, kb, kp⟩ := HK7.out.box
   have cS : W7.cell? ⟨lb, s, none⟩ = some (.int .i64 (A : Nat)) := by
    rw [HAE.out]
    rcases HS0.out with h | h <;> subst h
    ·exact kb.cell 1
    ·exact kb.cell 2
   have S8K : Hid (∀ w', Below W7.heap.size W7 w' → (w'.cell? ⟨lb, s, none⟩ = some (.int .i64 (A : Nat)) ∧ w'.frozen? ⟨lb, s, none⟩ = false ∧ lb < w'.heap.size) ∧ w'.cell? ⟨W.heap.size, 3, none⟩ = some (.int .i64 (nn : Nat)) ∧ W.heap.size < w'.heap.size) := fun w' h => ⟨⟨(h.cell (p := ⟨lb, s, none⟩) kb.lt).trans cS, (h.frozen (p := ⟨lb, s, none⟩) kb.lt).trans (kb.free s), Nat.lt_of_lt_of_le kb.lt h.size⟩, (h.cell (p := ⟨W.heap.size, 3, none⟩) HBR.out.lt).trans (HBR.out.cell 3), Nat.lt_of_lt_of_le HBR.out.lt h.size⟩
   clear hr7 cS kb kp SK
   go_upto_region 8 with (fail)
   refine wp_region_noPanic ?_
   refine region_z (S := fun w' => (w'.cell? ⟨lb, s, none⟩ = some (.int .i64 (A : Nat)) ∧ w'.frozen? ⟨lb, s, none⟩ = false ∧ lb < w'.heap.size) ∧ w'.cell? ⟨W.heap.size, 3, none⟩ = some (.int .i64 (nn : Nat)) ∧ W.heap.size < w'.heap.size) 7 (by kernel_rfl) (S8K.out _ (below_drew (Below.refl _ _))) (fun hHeld => ?_)
   refine zAny_take (i := 0) (oi := { dst := some 47, op := Op.move (Operand.tmp 3), type := 166, pos := "kinds.go:20", after := #[], guard := none }) (v := ?_) rfl (by kernel_rfl) (by kernel_rfl) (by kernel_rfl) (by kernel_rfl) (fun _ _ _ h => h) (Or.inl ⟨by rfl, ?_⟩) (by assumption) ?_
   rotate_left
   (intro w0 hSw; (try dsimp only at hSw); go_simp; try (with_reducible rfl))
   (try simp only [Act.put, List.setIfInBounds_toArray, List.set_cons_zero, List.set_cons_succ])
   refine zAny_take (i := 1) (oi := { dst := some 48, op := Op.nilCheck (Operand.tmp 47), type := 0, pos := "kinds.go:20", after := #[{ on := 0, ground := Ground.data }], guard := none }) (v := ?_) rfl (by kernel_rfl) (by kernel_rfl) (by kernel_rfl) (by kernel_rfl) (fun _ _ _ h => h) (Or.inl ⟨by rfl, ?_⟩) (by assumption) ?_
   rotate_left
   (intro w0 hSw; (try dsimp only at hSw); go_simp; try (with_reducible rfl))
   (try simp only [Act.put, List.setIfInBounds_toArray, List.set_cons_zero, List.set_cons_succ])
   refine zAny_take (i := 2) (oi := { dst := some 49, op := Op.load 3 (Operand.tmp 48), type := 3, pos := "kinds.go:20", after := #[{ on := 1, ground := Ground.data }], guard := none }) (v := ?_) rfl (by kernel_rfl) (by kernel_rfl) (by kernel_rfl) (by kernel_rfl) (fun _ _ _ h => h) (Or.inl ⟨by rfl, ?_⟩) (by assumption) ?_
   rotate_left
   (intro w0 hSw; (try dsimp only at hSw); go_simp; try (with_reducible rfl))
   (try simp only [Act.put, List.setIfInBounds_toArray, List.set_cons_zero, List.set_cons_succ])
   refine zAny_take (i := 3) (oi := { dst := some 50, op := Op.fieldAddr 79 (Operand.tmp 6) 3, type := 0, pos := "kinds.go:20", after := #[], guard := none }) (v := ?_) rfl (by kernel_rfl) (by kernel_rfl) (by kernel_rfl) (by kernel_rfl) (fun _ _ _ h => h) (Or.inl ⟨by rfl, ?_⟩) (by assumption) ?_
   rotate_left
   (intro w0 hSw; (try dsimp only at hSw); go_simp; try (with_reducible rfl))
   (try simp only [Act.put, List.setIfInBounds_toArray, List.set_cons_zero, List.set_cons_succ])
   refine zAny_take (i := 4) (oi := { dst := some 51, op := Op.load 3 (Operand.tmp 50), type := 3, pos := "kinds.go:20", after := #[{ on := 3, ground := Ground.data }], guard := none }) (v := ?_) rfl (by kernel_rfl) (by kernel_rfl) (by kernel_rfl) (by kernel_rfl) (fun _ _ _ h => h) (Or.inl ⟨by rfl, ?_⟩) (by assumption) ?_
   rotate_left
   (intro w0 hSw; (try dsimp only at hSw); go_simp; try (with_reducible rfl))
   (try simp only [Act.put, List.setIfInBounds_toArray, List.set_cons_zero, List.set_cons_succ])
   refine zAny_take (i := 5) (oi := { dst := some 52, op := Op.binOp BinOp.add 3 (Operand.tmp 49) (Operand.tmp 51) 3, type := 3, pos := "kinds.go:20", after := #[{ on := 2, ground := Ground.data }, { on := 4, ground := Ground.data }], guard := none }) (v := ?_) rfl (by kernel_rfl) (by kernel_rfl) (by kernel_rfl) (by kernel_rfl) (fun _ _ _ h => h) (Or.inl ⟨by rfl, ?_⟩) (by assumption) ?_
   rotate_left
   (intro w0 hSw; (try dsimp only at hSw); go_simp; try (with_reducible rfl))
   (try simp only [Act.put, List.setIfInBounds_toArray, List.set_cons_zero, List.set_cons_succ])
   refine zAny_take (i := 6) (oi := { dst := some 53, op := Op.nilCheck (Operand.tmp 47), type := 0, pos := "kinds.go:20", after := #[{ on := 0, ground := Ground.data }, { on := 0, ground := Ground.phase }, { on := 1, ground := Ground.phase }, { on := 2, ground := Ground.phase }, { on := 3, ground := Ground.phase }, { on := 4, ground := Ground.phase }, { on := 5, ground := Ground.phase }], guard := none }) (v := ?_) rfl (by kernel_rfl) (by kernel_rfl) (by kernel_rfl) (by kernel_rfl) (fun _ _ _ h => h) (Or.inl ⟨by rfl, ?_⟩) (by assumption) ?_
   rotate_left
   (intro w0 hSw; (try dsimp only at hSw); go_simp; try (with_reducible rfl))
   (try simp only [Act.put, List.setIfInBounds_toArray, List.set_cons_zero, List.set_cons_succ])
   refine zAny_ready (rs := [7]) (by kernel_rfl) (by simp) (zReady.cons (o := { dst := none, op := Op.store 3 (Operand.tmp 53) (Operand.tmp 52), type := 0, pos := "kinds.go:20", after := #[{ on := 6, ground := Ground.data }, { on := 5, ground := Ground.data }, { on := 0, ground := Ground.phase }, { on := 1, ground := Ground.phase }, { on := 2, ground := Ground.phase }, { on := 3, ground := Ground.phase }, { on := 4, ground := Ground.phase }, { on := 5, ground := Ground.phase }], guard := none }) rfl (fun K hK => ?_) zReady.nil)
   have y1 := hHeld.1.1
   have y2 := hHeld.1.2.1
   have y3 := hHeld.1.2.2
   go_simp
   refine hK.out _ _ (fun h => absurd rfl h) (fun _ => ?_)
   clear hK K hHeld
   (try simp only [Act.put, List.setIfInBounds_toArray, List.set_cons_zero, List.set_cons_succ])
   refine zAny_done (by kernel_rfl) ?_ _
   refine NoPanic.normal ?_
   go_wp2
   rw [← HQ.out]
   have hwr : IntKind.i64.wrap ((A : Int) + (nn : Int)) = ((A + nn : Nat) : Int) := by rw [IntKind.wrap_i64]; omega
   rw [hwr, HAE.out]
   have hFr : Fr W W7 w0.heap.size hi.h := (fr_of_below hBW).grown HG7.out (fun b e => by cases e; exact .inl ⟨HL.out.o2, HL.out.o4⟩)
   have hFr2 : Fr W (W7.setCell ⟨lb, s, none⟩ (.int .i64 ((allN en s + nn : Nat) : Int))).drew w0.heap.size hi.h := by
    have := hFr.set lb s (.int .i64 ((allN en s + nn : Nat) : Int)) (.inl ⟨HL.out.o1, HL.out.o3⟩)
    exact ⟨this.os, this.tape, this.output, this.size, this.block⟩
   have hall2 : allN ⟨putN en.nm nm ⟨s, A, nn, 0, []⟩, en.q, en.b, en.pr, en.d⟩ s = allN en s := rfl
   have hK8 := HK7.out.count (k := nn) HS0.out
   rw [hall2, HAE.out] at hK8
   exact ⟨hFr2, by rw [hDe]; rfl, fun h => absurd hDe h, fun _ => ⟨hK8, (HDO.out trivial).1⟩⟩
end Go.Proofs.YtdjfpghgklkejaaGreatDoor
namespace Go.Proofs.YtdjfpghgklkejaaGreatDoor
open Go.RowKit Go.Sort
def defR (rec : RecT) (en : En) (sd : Sd) (r : Rw) (body : List Rw) : Except Fa (En × List TO) :=
 if defE en r ≠ 0 then .error (sd.p, defE en r) else
  match rec ⟨putN en.nm r.name ⟨4, 0, 0, 0, []⟩, en.q, en.b, r.args.map Ar.n, 1⟩ ⟨sd.p, sd.n + 1, true, sd.m, sd.v⟩ body with
  | .error e => .error e
  | .ok (en1, L) => .ok (⟨putN en1.nm r.name ⟨5, 0, r.args.length, en1.d, L⟩, en1.q, en1.b, en1.pr, en1.d⟩, [])
theorem rowR_gate (rec : RecT) (en : En) (sd : Sd) (r : Rw) (body : List Rw) (h : r.kind = wGate) : rowR rec en sd r body = defR rec en sd r body := by
 unfold rowR defR
 rw [if_neg (by rw [h]; decide), if_neg (by rw [h]; decide), if_pos h]
 rfl
def prF (l : List ByteArray) : Nat → ByteArray → Option Value
 | 0, _ => none
 | k + 1, t => if t = l.getD k ⟨#[]⟩ then some (.int .i64 (k : Nat)) else prF l k t
def prZ (l : List ByteArray) : Nat → Nat
 | 0 => 0
 | k + 1 => if (prF l k (l.getD k ⟨#[]⟩)).isSome = true then prZ l k else prZ l k + 1
theorem getD_at {l : List ByteArray} {k : Nat} (h : k < l.length) : l.getD k ⟨#[]⟩ = l[k] := by
 rw [List.getD_eq_getElem?_getD, List.getElem?_eq_getElem h]
 rfl
theorem prF_some {l : List ByteArray} : ∀ {k : Nat}, k ≤ l.length → ∀ s, (prF l k s).isSome = true ↔ s ∈ l.take k
 | 0, _, s => by simp [prF]
 | k + 1, h, s => by
  have hk : k < l.length := h
  rw [List.take_succ_eq_append_getElem hk, List.mem_append, List.mem_singleton, ← prF_some (Nat.le_of_lt hk) s]
  show (if s = l.getD k ⟨#[]⟩ then some (Value.int .i64 (k : Nat)) else prF l k s).isSome = true ↔ _
  rw [getD_at hk]
  by_cases e : s = l[k]
  ·rw [if_pos e]
   simp [e]
  ·rw [if_neg e]
   simp [e]
theorem prZ_le (l : List ByteArray) : ∀ k, prZ l k ≤ k
 | 0 => Nat.le_refl _
 | k + 1 => by
  have := prZ_le l k
  unfold prZ
  split <;> omega
theorem prZ_eq {l : List ByteArray} : ∀ {k : Nat}, k ≤ l.length → (prZ l k = k ↔ (l.take k).Nodup)
 | 0, _ => by simp [prZ]
 | k + 1, h => by
  have hk : k < l.length := h
  have ih := prZ_eq (Nat.le_of_lt hk)
  have hle := prZ_le l k
  have hs := prF_some (Nat.le_of_lt hk) l[k]
  rw [List.take_succ_eq_append_getElem hk, List.nodup_append]
  unfold prZ
  rw [getD_at hk]
  by_cases e : (prF l k l[k]).isSome = true
  ·rw [if_pos e]
   constructor
   ·intro h; omega
   ·intro h
    exact absurd rfl (h.2.2 _ (hs.1 e) _ (List.mem_singleton.2 rfl))
  ·rw [if_neg e]
   constructor
   ·intro h
    refine ⟨ih.1 (by omega), by simp, fun a ha b hb => ?_⟩
    rw [List.mem_singleton] at hb
    subst hb
    intro e2
    subst e2
    exact e (hs.2 ha)
   ·intro h
    rw [ih.2 h.1]
theorem idx_none {s : ByteArray} : ∀ {l : List ByteArray}, idxN s l = none ↔ s ∉ l
 | [] => by simp [idxN]
 | t :: l => by
  unfold idxN
  rw [List.mem_cons, not_or]
  by_cases e : t = s
  ·rw [if_pos e]
   simp [e]
  ·rw [if_neg e, Option.map_eq_none_iff, idx_none]
   exact ⟨fun h => ⟨fun h' => e h'.symm, h⟩, fun h => h.2⟩
theorem idx_snoc {s t : ByteArray} : ∀ (l : List ByteArray), idxN s (l ++ [t]) = match idxN s l with | some j => some j | none => if t = s then some l.length else none
 | [] => by
  show (if t = s then some 0 else (idxN s []).map (· + 1)) = _
  simp [idxN]
 | u :: l => by
  show (if u = s then some 0 else (idxN s (l ++ [t])).map (· + 1)) = _
  rw [idx_snoc l]
  show _ = match (if u = s then some 0 else (idxN s l).map (· + 1)) with | some j => some j | none => if t = s then some (u :: l).length else none
  by_cases e : u = s
  ·simp [e]
  ·simp only [if_neg e]
   cases idxN s l with
   | some j => rfl
   | none =>
    by_cases e2 : t = s
    ·simp [e2]
    ·simp [e2]
theorem prF_idx {l : List ByteArray} : ∀ {k : Nat}, k ≤ l.length → (l.take k).Nodup → ∀ s, prF l k s = (idxN s (l.take k)).map fun (j : Nat) => Value.int .i64 (j : Nat)
 | 0, _, _, s => by simp [prF, idxN]
 | k + 1, h, hn, s => by
  have hk : k < l.length := h
  rw [List.take_succ_eq_append_getElem hk] at hn ⊢
  have hn2 := List.nodup_append.1 hn
  have ih := prF_idx (Nat.le_of_lt hk) hn2.1 s
  rw [idx_snoc]
  unfold prF
  rw [getD_at hk, ih]
  by_cases e : s = l[k]
  ·rw [if_pos e]
   have hno : idxN s (l.take k) = none := idx_none.2 fun hm => hn2.2.2 _ hm _ (List.mem_singleton.2 rfl) e
   rw [hno]
   simp only [if_pos e.symm, Option.map_some, List.length_take, Nat.min_eq_left (Nat.le_of_lt hk)]
  ·rw [if_neg e]
   have e2 : ¬ l[k] = s := fun h => e h.symm
   cases idxN s (l.take k) with
   | some j => rfl
   | none => simp [e2]
structure DL (W wr : World) (lb mb : Nat) (en : En) (pl : Int) (l : List ByteArray) (RB SB : Array Value) (pb k : Nat) : Prop where
 fr : Fr W wr lb (lb + 1)
 box : BK wr lb #[.map (some mb), .int .i64 (en.q : Nat), .int .i64 (en.b : Nat), .map (some pb), .int .i64 1, .int .i64 pl] 64
 mf : MF wr pb k (prF l k) (prZ l k)
 b1 : BK wr W.heap.size RB 79
 b2 : BK wr (W.heap.size + 1) SB 69
 pb_ : W.heap.size + 1 + 1 ≤ pb
section
variable {W wr wr' : World} {lb mb : Nat} {en : En} {pl : Int} {l : List ByteArray} {RB SB : Array Value} {pb k : Nat}
theorem DL.on (h : DL W wr lb mb en pl l RB SB pb k) (g : Below wr.heap.size wr wr') : DL W wr' lb mb en pl l RB SB pb k :=
 ⟨h.fr.blw g, (g.block _ h.box.lt).trans h.box, h.mf.block (g.block _ h.mf.lt), (g.block _ h.b1.lt).trans h.b1, (g.block _ h.b2.lt).trans h.b2, h.pb_⟩
theorem DL.put (h : DL W wr lb mb en pl l RB SB pb k) (hlb : lb < W.heap.size) (hk : k < l.length) (hkm : k < maxLen) (hs : l[k].size ≤ maxLen) :
  ∃ W', (Instr.mapUpdate 62 (.map (some pb)) (.string l[k]) (.int .i64 (k : Nat))).run Tryz.prog wr = .ok () W' ∧ DL W W' lb mb en pl l RB SB pb (k + 1) ∧ wr.grownBy W' (some pb) := by
 have hp := h.pb_
 obtain ⟨W', hr, hm, hg⟩ := h.mf.put (t := 62) (e := 3) (by kernel_rfl) hkm hs (.int .i64 (k : Nat))
 have hf : Fr wr W' pb (pb + 1) := (Fr.refl wr _ _).grown hg (fun b e => by cases e; exact .inl ⟨Nat.le_refl _, Nat.lt_succ_self _⟩)
 refine ⟨W', hr, ⟨?_, hf.bk h.box (.inl (by omega)), ?_, hf.bk h.b1 (.inl (by omega)), hf.bk h.b2 (.inl (by omega)), hp⟩, hg⟩
 ·exact h.fr.grown hg (fun b e => by cases e; exact .inr (by omega))
 ·have e1 : prF l (k + 1) = fun t => if t = l[k] then some (.int .i64 (k : Nat)) else prF l k t := by
   funext t
   show (if t = l.getD k ⟨#[]⟩ then _ else _) = _
   rw [getD_at hk]
  have e2 : prZ l (k + 1) = if (prF l k l[k]).isSome = true then prZ l k else prZ l k + 1 := by
   show (if (prF l k (l.getD k ⟨#[]⟩)).isSome = true then _ else _) = _
   rw [getD_at hk]
  rw [e1, e2]
  exact hm
theorem DL.lk {w0 : World} {hi : HG} {N : Nat} (h : DL W wr lb mb en pl l RB SB pb k) (hk : k = l.length) (H : LK w0 W lb mb hi N en pl) (hn : l.Nodup) : LK w0 wr lb mb hi N ⟨en.nm, en.q, en.b, l, 1⟩ pl := by
 subst hk
 have hx : ∀ b, hi.G b → b < lb ∨ lb + 1 ≤ b := fun b hb => .inr (by have := hi.le b hb; have := H.o3; omega)
 have ht : l.take l.length = l := List.take_length
 have hp := h.pb_
 refine ⟨below_fr H.below h.fr H.o1, ⟨.map (some pb), h.box, .inr ⟨pb, l.length, _, _, rfl, H.up pb (by omega), h.mf, fun s => ?_⟩⟩, H.nm.far h.fr hx (h.fr.block _ (Nat.lt_of_lt_of_le H.o4 H.o5) (by have := H.o6; omega)), H.o1, H.o2, H.o3, H.o4, Nat.le_trans H.o5 h.fr.size, H.o6, fun b hb => H.up b (Nat.le_trans h.fr.size hb)⟩
 have := prF_idx (Nat.le_refl l.length) (by rw [ht]; exact hn) s
 rw [ht] at this
 exact this
theorem DL.le {w0 : World} {hi : HG} {N M : Nat} (h : DL W wr lb mb en pl l RB SB pb k) (H : LK w0 W lb mb hi N en pl) (hN : N ≤ M) : LE wr lb mb M pl := by
 obtain ⟨f, z, h1, _⟩ := H.nm
 exact ⟨_, _, _, _, N, f, z, h.box, h1.block (h.fr.block _ h1.lt (by have := H.o6; omega)), hN⟩
end
theorem zmap62 (w : World) (n : Int) : (Instr.makeMap 62 (some (.int .i64 n))).run Tryz.prog w = .ok (.map (some w.heap.size)) (w.alloc (.map #[] 0)) := by kernel_rfl
theorem dl_new {W V : World} {lb mb N : Nat} {w0 : World} {hi : HG} {en : En} {pl : Int} (H : LK w0 W lb mb hi N en pl) {l : List ByteArray} {RB SB : Array Value} (hB : Below W.heap.size W V) (b1 : BK V W.heap.size RB 79) (b2 : BK V (W.heap.size + 1) SB 69) (hs : W.heap.size + 1 + 1 ≤ V.heap.size) :
  DL W (((V.setCell ⟨lb, 3, none⟩ (.map (some V.heap.size))).setCell ⟨lb, 4, none⟩ (.int .i64 1)).alloc (.map #[] 0)) lb mb en pl l RB SB V.heap.size 0 := by
 obtain ⟨pv, k1, _⟩ := H.box
 have hl := k1.lt
 have k2 : BK V lb _ 64 := (hB.block _ hl).trans k1
 have k3 := ((k2.set 3 (.map (some V.heap.size))).set 4 (.int .i64 1)).alloc (.map #[] 0)
 refine ⟨?_, k3, ?_, (((b1.far (by omega) _ _).far (by omega) _ _).alloc _), (((b2.far (by omega) _ _).far (by omega) _ _).alloc _), hs⟩
 ·exact (((fr_of_below hB).set lb 3 _ (.inl ⟨Nat.le_refl _, Nat.lt_succ_self _⟩)).set lb 4 _ (.inl ⟨Nat.le_refl _, Nat.lt_succ_self _⟩)).alloc _
 ·have h0 := mf_new ((V.setCell ⟨lb, 3, none⟩ (.map (some V.heap.size))).setCell ⟨lb, 4, none⟩ (.int .i64 1))
  have e : ((V.setCell ⟨lb, 3, none⟩ (.map (some V.heap.size))).setCell ⟨lb, 4, none⟩ (.int .i64 1)).heap.size = V.heap.size := by simp [World.setCell]
  rw [e] at h0
  exact h0
end Go.Proofs.YtdjfpghgklkejaaGreatDoor
