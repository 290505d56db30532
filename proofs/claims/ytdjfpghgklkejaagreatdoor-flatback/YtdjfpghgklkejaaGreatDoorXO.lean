/-
  Put together of: F8 FA FI FJa FK FB.
-/
import Derived.Test.YtdjfpghgklkejaaGreatDoorXN
namespace Go.Proofs.YtdjfpghgklkejaaGreatDoor
open Go.RowKit Go.Sort
abbrev pp0 : PP := ⟨⟨0, 0, false, 0, 0⟩, 0, ⟨#[]⟩, [], none, 0, 0, 0, none, 0, 0⟩
def RowP (W : World) (hi : HG) (nn : Nat) (p : PP) (L : List TO) : Prop :=
 ∃ Lb L', QSh W hi p.qa p.qc p.qs ∧ PL W hi (nbq nn p.qs) (.slice p.ba p.bn p.bc) Lb ∧ L' = mean p Lb ∧ T4 L' L ∧ (p.k = 0 ∧ (p.t ≤ 0 ∨ p.bn = 0) ↔ L' = []) ∧ PQ nn p ∧ UnS L'
def LE (W : World) (lb mb M : Nat) (pl : Int) : Prop := ∃ (q b pv : Value) (d : Int) (N : Nat) (f : ByteArray → Option Value) (z : Nat), BK W lb #[.map (some mb), q, b, pv, .int .i64 d, .int .i64 pl] 64 ∧ MF W mb N f z ∧ N ≤ M
theorem LK.le {w0 W : World} {lb mb N M : Nat} {hi : HG} {en : En} {pl : Int} (h : LK w0 W lb mb hi N en pl) (hN : N ≤ M) : LE W lb mb M pl := by
 obtain ⟨pv, k1, _⟩ := h.box
 obtain ⟨f, z, h1, _⟩ := h.nm
 exact ⟨_, _, pv, _, N, f, z, k1, h1, hN⟩
theorem LE.fr {W W' : World} {lb mb M lo up : Nat} {pl : Int} (h : LE W lb mb M pl) (g : Fr W W' lo up) (h1 : lb < lo ∨ up ≤ lb) (h2 : mb < lo ∨ up ≤ mb) : LE W' lb mb M pl := by
 obtain ⟨q, b, pv, d, N, f, z, k1, k2, k3⟩ := h
 exact ⟨q, b, pv, d, N, f, z, g.bk k1 h1, k2.block (g.block _ k2.lt h2), k3⟩
theorem LE.mono {W : World} {lb mb M M' : Nat} {pl : Int} (h : LE W lb mb M pl) (hM : M ≤ M') : LE W lb mb M' pl := by
 obtain ⟨q, b, pv, d, N, f, z, k1, k2, k3⟩ := h
 exact ⟨q, b, pv, d, N, f, z, k1, k2, Nat.le_trans k3 hM⟩
def RowO (w0 W W' : World) (lb mb : Nat) (hi : HG) (M : Nat) (pr : En × Bool) (S : Except Fa (En × List TO)) (e : Ending) : Prop :=
 Fr W W' w0.heap.size hi.h ∧ ((∃ x, S = .error x ∧ (∃ p, e = .returned (.tuple #[ppV p, .int .i64 (x.2 : Nat)])) ∧ x.2 ≠ 0 ∧ LE W' lb mb M x.1) ∨
  (∃ en1 L p pl N, S = .ok (en1, L) ∧ e = .returned (.tuple #[ppV p, .int .i64 0]) ∧ LK w0 W' lb mb hi N en1 pl ∧ N ≤ M ∧ EnOk en1 ∧ Nx pr en1 ∧ RowP W' hi (nq pr.2 en1) p L))
theorem sa_at {W : World} {v : Value} {l : List Ar} (h : SA W v l) {k : Nat} (hk : k < l.length) : ∃ b o c, v = .slice (some ⟨b, o, none⟩) l.length c ∧ l.length ≤ c ∧ W.cell? ⟨b, o + k * 2, none⟩ = some (.string l[k].n) ∧ W.cell? ⟨b, o + k * 2 + 1, none⟩ = some (.int .i64 l[k].x) ∧ b < W.heap.size := by
 obtain ⟨a, c, rfl, hc, hr⟩ := h
 obtain ⟨b, o, rfl, r⟩ := hr k hk
 exact ⟨b, o, c, rfl, hc, r.c0 k hk, r.c1 k hk, r.lt⟩
theorem rowP_none (W : World) (hi : HG) (nn : Nat) : RowP W hi nn pp0 [] := ⟨[], [], ⟨⟨Nat.le_refl _, fun k hk => absurd hk (Nat.not_lt_zero _)⟩, fun b o e => by cases e⟩, pl_nil _ _ _ _ _, rfl, rfl, by simp, ⟨by simp, by decide, by decide, fun h => absurd rfl h, ⟨by decide, by decide⟩, fun j hj => by cases hj⟩, uns_nil⟩
theorem uns_one (t : TO) : UnS [t] := by
 cases e : t.st with
 | none => exact .inl fun u hu => by rw [List.mem_singleton] at hu; rw [hu, e]
 | some s => exact .inr fun u hu => by rw [List.mem_singleton] at hu; rw [hu, e]; exact fun h => by cases h
theorem rowP_one {W : World} {hi : HG} {nn : Nat} {p : PP} (hq : QSh W hi p.qa p.qc p.qs) (hk : p.k ≠ 0) (ht : p.t = 0) (hb : p.bn = 0) (hpq : PQ nn p) : RowP W hi nn p [⟨p.k, p.n, p.qs, p.b, stO p.sd⟩] := by
 refine ⟨[], _, hq, by rw [hb]; exact pl_nil _ _ _ _ _, rfl, ?_, ?_, hpq, ?_⟩
 ·simp [mean, hk, ht, T4]
 ·simp [mean, hk]
 ·have e : mean p [] = [⟨p.k, p.n, p.qs, p.b, stO p.sd⟩] := by simp [mean, hk, ht]
  rw [e]
  exact uns_one _
def rstR (en : En) (sd : Sd) (r : Rw) : Except Fa (En × List TO) :=
 match r.args with
 | [a] => match elE en a 1 with
  | .error e => .error (sd.p, e)
  | .ok q => .ok (en, [⟨3, ⟨#[]⟩, [(q : Int)], 0, stO sd⟩])
 | _ => .error (sd.p, 111)
theorem rst_no {en : En} {sd : Sd} {r : Rw} (h : r.args.length ≠ 1) : rstR en sd r = .error (sd.p, 111) := by
 unfold rstR
 match hr : r.args, h with
 | [], _ => rfl
 | [_], h => exact absurd rfl h
 | _ :: _ :: _, _ => rfl
theorem rst_err {en : En} {sd : Sd} {r : Rw} {a : Ar} {e : Nat} (h : r.args = [a]) (he : elE en a 1 = .error e) : rstR en sd r = .error (sd.p, e) := by
 unfold rstR
 rw [h]
 simp only [he]
theorem rst_ok {en : En} {sd : Sd} {r : Rw} {a : Ar} {q : Nat} (h : r.args = [a]) (he : elE en a 1 = .ok q) : rstR en sd r = .ok (en, [⟨3, ⟨#[]⟩, [(q : Int)], 0, stO sd⟩]) := by
 unfold rstR
 rw [h]
 simp only [he]
theorem el_err {en : En} {a : Ar} {s e : Nat} (h : elE en a s = .error e) : e ≠ 0 := by
 unfold elE at h
 split at h
 ·split at h
  ·split at h
   ·cases h; decide
   ·cases h
  ·cases h; decide
 ·cases h; decide
theorem qsh_one {W : World} {hi : HG} (hi' : hi.G W.heap.size) (x : Int) (W' : World) (hb : Below (W.alloc (.cells #[.int .i64 x] 3)).heap.size (W.alloc (.cells #[.int .i64 x] 3)) W') : QSh W' hi (some ⟨W.heap.size, 0, none⟩) 1 [x] := by
 have b : BK W' W.heap.size #[.int .i64 x] 3 := (hb.block _ (bk_new W _ _).lt).trans (bk_new W _ _)
 refine ⟨⟨by simp, fun k hk => ⟨_, 0, rfl, fun j hj => ?_, b.lt⟩⟩, fun c o e _ => by cases e; exact hi'⟩
 obtain rfl : j = 0 := by simp at hj; omega
 exact b.cell 0
theorem rowO_bad {w0 W W' : World} {lb mb N M : Nat} {hi : HG} {en : En} {pl : Int} {e : Nat} {p : PP} {pr : En × Bool} (H : LK w0 W lb mb hi N en pl) (hB : Below W.heap.size W W') (he : e ≠ 0) (hNM : N ≤ M := by omega) : RowO w0 W W' lb mb hi M pr (.error (pl, e)) (.returned (.tuple #[ppV p, .int .i64 (e : Nat)])) :=
 ⟨fr_of_below hB, .inl ⟨(pl, e), rfl, ⟨p, rfl⟩, he, (H.fr hB).le hNM⟩⟩
theorem tri_box {w w1 : World} {c1 c2 c3 : Array Value} {T U V : TypeId} (h : Below (((w.alloc (.cells c1 T)).alloc (.cells c2 U)).alloc (.cells c3 V)).heap.size (((w.alloc (.cells c1 T)).alloc (.cells c2 U)).alloc (.cells c3 V)) w1) : Below w.heap.size w w1 ∧ BK w1 w.heap.size c1 T ∧ BK w1 (w.heap.size + 1) c2 U ∧ BK w1 (w.heap.size + 1 + 1) c3 V := by
 have e1 := ((bk_new w c1 T).alloc (.cells c2 U)).alloc (.cells c3 V)
 have e2 : BK (((w.alloc (.cells c1 T)).alloc (.cells c2 U)).alloc (.cells c3 V)) (w.heap.size + 1) c2 U := (bk_at c2 U (by simp)).alloc _
 have e3 : BK (((w.alloc (.cells c1 T)).alloc (.cells c2 U)).alloc (.cells c3 V)) (w.heap.size + 1 + 1) c3 V := bk_at c3 V (by simp)
 exact ⟨btr (bal (bal (bal (Below.refl _ _) _) _) _) h, (h.block _ e1.lt).trans e1, (h.block _ e2.lt).trans e2, (h.block _ e3.lt).trans e3⟩
theorem fr_sets (b : Nat) : ∀ (us : List Value) (k : Nat) (W : World), Fr W (W.setCells b k us) b (b + 1) ∧ (W.setCells b k us).heap.size = W.heap.size
 | [], _, W => ⟨Fr.refl W _ _, rfl⟩
 | u :: us, k, W => by
  obtain ⟨h1, h2⟩ := fr_sets b us (k + 1) (W.setCell ⟨b, k, none⟩ u)
  exact ⟨((Fr.refl W b (b + 1)).set b k u (.inl ⟨Nat.le_refl _, Nat.lt_succ_self _⟩)).trans h1, h2.trans (by simp [World.setCell])⟩
theorem below_sets {W w1 : World} (hB1 : Below W.heap.size W w1) {b : Nat} (hb : W.heap.size ≤ b) (us : List Value) : Below W.heap.size W (w1.setCells b 0 us) := below_fr hB1 (fr_sets b us 0 w1).1 hb
theorem rowO_one {w0 W w1 : World} {lb mb N : Nat} {hi : HG} {en : En} {pl : Int} (H : LK w0 W lb mb hi N en pl) (hok : EnOk en) (hB1 : Below W.heap.size W w1) {b : Nat} (hb : W.heap.size ≤ b) (us : List Value) (x : Int) (k : Int) (nm : ByteArray) (bt : Int) (sd : Sd) (hk : k ≠ 0) (hnm : nm.size ≤ 281474976710656) (hmv : sd.m < 18446744073709551616 ∧ sd.v < 18446744073709551616) (hgf : sd.g = false) (hx0 : 0 ≤ x) (hx1 : x < (en.q : Int)) :
  RowO w0 W ((w1.setCells b 0 us).alloc (.cells #[.int .i64 x] 3)) lb mb hi N (en, sd.g) (.ok (en, [⟨k, nm, [x], bt, stO sd⟩])) (.returned (.tuple #[ppV ⟨sd, k, nm, [x], some ⟨w1.heap.size, 0, none⟩, 1, bt, 0, none, 0, 0⟩, .int .i64 0])) := by
 have hB := bal (below_sets hB1 hb us) (.cells #[.int .i64 x] 3)
 have hs := (fr_sets b us 0 w1).2
 have hq : QSh ((w1.setCells b 0 us).alloc (.cells #[.int .i64 x] 3)) hi (some ⟨w1.heap.size, 0, none⟩) 1 [x] := by
  have := qsh_one (W := w1.setCells b 0 us) (hi := hi) (by rw [hs]; exact H.up _ hB1.size) x _ (Below.refl _ _)
  rwa [hs] at this
 exact ⟨fr_of_below hB, .inr ⟨en, _, _, pl, N, rfl, rfl, H.fr hB, Nat.le_refl _, hok, nx_refl _ _, rowP_one (p := ⟨sd, k, nm, [x], some ⟨w1.heap.size, 0, none⟩, 1, bt, 0, none, 0, 0⟩) hq hk rfl rfl ⟨by show 1 ≤ 6000000000000; decide, hnm, by show (0 : Int) ≤ _; decide, fun _ h => (by cases h), hmv, fun j hj => by rw [List.mem_singleton] at hj; rw [hj, hgf]; exact ⟨hx0, hx1⟩⟩⟩⟩
set_option maxHeartbeats 4000000 in
theorem reset_any {w0 W : World} {lb mb N : Nat} {hi : HG} {en : En} {pl : Int} (H : LK w0 W lb mb hi N en pl) (hok : EnOk en) (r : Rw) (aa : Option Addr) (ac : Nat) (sd : Sd) (hmv : sd.m < 18446744073709551616 ∧ sd.v < 18446744073709551616) (hgf : sd.g = false) (hsp : sd.p = pl) (hA : SA w0 (.slice aa r.args.length ac) r.args) (hsz : ∀ a ∈ r.args, a.n.size ≤ maxLen) :
  Calls Tryz.prog 89 #[.pointer (some ⟨lb, 0, none⟩), rwV r aa ac, sdV sd] W fun e W' => RowO w0 W W' lb mb hi N (en, sd.g) (rstR en sd r) e := by
 have HL := hid H
 have HA := hid hA
 have HGF := hid hgf
 have HMV := hid hmv
 clear hgf hmv
 obtain ⟨k, nm, ar, nu, ro, pc⟩ := r
 obtain ⟨p, n, g, m, v⟩ := sd
 simp only at *
 subst hsp
 by_cases hl : ar.length = 1
 case neg =>
  rw [rst_no (r := ⟨k, nm, ar, nu, ro, pc⟩) hl]
  have hl' : ((ar.length : Int) != 1) = true := bne_iff_ne.2 (by omega)
  clear hl H hA hok
  go_enter Tryz.func89, Tryz.ntmps89
  go_wp2
  refine bodyPost_ret (v := .tuple #[ppV pp0, .int .i64 111]) (by simp [results, Tryz.results89, go_sem]) rfl ?_
  exact rowO_bad HL.out (bal (bal (bal (Below.refl _ _) _) _) _) (by decide)
 obtain ⟨ag, har⟩ : ∃ ag, ar = [ag] := by
  match ar, hl with
  | [ag], _ => exact ⟨ag, rfl⟩
 have hag := hsz ag (by simp [har])
 have F := fun w1 (h : Below W.heap.size W w1) => element_any (H.fr h) hok ag hag 1 (.inl rfl)
 rw [show ((1 : Nat) : Int) = 1 from rfl] at F
 obtain ⟨b, o, c, e1, hc, a0, a1, al⟩ := sa_at (hA.below H.below) (k := 0) (by omega)
 cases e1
 have ez : ar[0]'(by omega) = ag := by simp [har]
 rw [ez, Nat.zero_mul, Nat.add_zero] at a0 a1
 have h1 : ((ar.length : Int) != 1) = false := by rw [hl]; rfl
 have h0 : 0 < ar.length := by omega
 have al1 : b < W.heap.size + 1 := by omega
 have al2 : b < W.heap.size + 1 + 1 := by omega
 have al3 : b < W.heap.size + 1 + 1 + 1 := by omega
 have HOK := hid hok
 have HAR := hid har
 clear H hA hsz hok ez har hl
 cases hX : elE en ag 1 with
 | error x =>
  rw [rst_err (r := ⟨k, nm, ar, nu, ro, pc⟩) HAR.out hX]
  have hx := el_err hX
  rw [hX] at F
  simp only [valE, errN] at F
  obtain ⟨an, ax⟩ := ag
  simp only at *
  clear hX
  go_enter Tryz.func89, Tryz.ntmps89
  go_wp2_with (go_at_call 139; (with_reducible refine (F _ (bal (bal (bal (Below.refl _ _) _) _) _)).mono ?_); rintro e w1 ⟨rfl, hB⟩; obtain ⟨hB1, k1, k2, k3⟩ := tri_box hB; have q1 := k1.cell; have q2 := k2.cell; have q3 := k3.cell; have f3 := k3.free; have l1 := k1.lt; have l2 := k2.lt; have l3 := k3.lt; clear k1 k2 k3)
  refine bodyPost_ret (v := .tuple #[ppV ⟨⟨p, n, g, m, v⟩, 3, ⟨#[]⟩, [0], some ⟨w1.heap.size, 0, none⟩, 1, 0, 0, none, 0, 0⟩, .int .i64 (x : Nat)]) (by simp [results, Tryz.results89, go_sem, *]) rfl ?_
  change RowO w0 W ((w1.setCells (W.heap.size + 1 + 1) 0 (ppc ⟨⟨p, n, g, m, v⟩, 3, ⟨#[]⟩, [0], some ⟨w1.heap.size, 0, none⟩, 1, 0, 0, none, 0, 0⟩)).alloc (.cells #[.int .i64 0] 3)) lb mb hi N (en, g) _ _
  exact rowO_bad HL.out (bal (below_sets hB1 (by omega) _) _) hx
 | ok q =>
  rw [rst_ok (r := ⟨k, nm, ar, nu, ro, pc⟩) HAR.out hX]
  have HQL : Hid ((q : Int) < (en.q : Int)) := by have := el_lt HOK.out hX; show (q : Int) < (en.q : Int); omega
  rw [hX] at F
  simp only [valE, errN] at F
  obtain ⟨an, ax⟩ := ag
  simp only at *
  clear hX
  go_enter Tryz.func89, Tryz.ntmps89
  go_wp2_with (go_at_call 139; (with_reducible refine (F _ (bal (bal (bal (Below.refl _ _) _) _) _)).mono ?_); rintro e w1 ⟨rfl, hB⟩; obtain ⟨hB1, k1, k2, k3⟩ := tri_box hB; have q1 := k1.cell; have q2 := k2.cell; have q3 := k3.cell; have f3 := k3.free; have l1 := k1.lt; have l2 := k2.lt; have l3 := k3.lt; clear k1 k2 k3)
  refine bodyPost_ret (v := .tuple #[ppV ⟨⟨p, n, g, m, v⟩, 3, ⟨#[]⟩, [(q : Int)], some ⟨w1.heap.size, 0, none⟩, 1, 0, 0, none, 0, 0⟩, .int .i64 0]) (by simp [results, Tryz.results89, go_sem, *]) rfl ?_
  change RowO w0 W ((w1.setCells (W.heap.size + 1 + 1) 0 (ppc ⟨⟨p, n, g, m, v⟩, 3, ⟨#[]⟩, [(q : Int)], some ⟨w1.heap.size, 0, none⟩, 1, 0, 0, none, 0, 0⟩)).alloc (.cells #[.int .i64 (q : Int)] 3)) lb mb hi N (en, g) _ _
  exact rowO_one HL.out HOK.out hB1 (by omega) _ (q : Int) 3 ⟨#[]⟩ 0 ⟨p, n, g, m, v⟩ (by decide) (by decide) HMV.out HGF.out (by omega) HQL.out
end Go.Proofs.YtdjfpghgklkejaaGreatDoor
namespace Go.Proofs.YtdjfpghgklkejaaGreatDoor
open Go.RowKit Go.Sort
def BodyO (w0 W W' : World) (lb mb : Nat) (hi : HG) (M : Nat) (pr : En × Bool) (S : Except Fa (En × List TO)) (e : Ending) : Prop :=
 Fr W W' w0.heap.size hi.h ∧ ((∃ x v, S = .error x ∧ e = .returned (.tuple #[v, .int .i64 (x.2 : Nat)]) ∧ (∃ a n c, v = .slice a n c) ∧ x.2 ≠ 0 ∧ LE W' lb mb M x.1) ∨
  (∃ en1 L v L' pl N, S = .ok (en1, L) ∧ e = .returned (.tuple #[v, .int .i64 0]) ∧ LK w0 W' lb mb hi N en1 pl ∧ N ≤ M ∧ EnOk en1 ∧ Nx pr en1 ∧ PL W' hi (nq pr.2 en1) v L' ∧ T4 L' L))
def SzR (rs : List Rw) : Prop := ∀ r ∈ rs, r.name.size ≤ maxLen ∧ r.args.length ≤ 6000000000000 ∧ (∀ a ∈ r.args, a.n.size ≤ maxLen) ∧ -9223372036854775808 ≤ r.num ∧ r.num ≤ 9223372036854775807 ∧ -9223372036854775808 ≤ r.rows ∧ r.rows ≤ 9223372036854775807
def FBody (w0 : World) (lb mb K : Nat) (rec : RecT) : Prop :=
 ∀ (W : World) (hi : HG) (N : Nat) (en : En) (pl : Int) (v : Value) (rs : List Rw) (sd : Sd), LK w0 W lb mb hi N en pl → EnOk en → SR w0 v rs → rs.length < K → SzR rs → (sd.g = true → en.pr ≠ [] ∧ sd.n ≠ 0) → sd.n ≤ 6000000000000 → sd.m < 18446744073709551616 → sd.v < 18446744073709551616 → N + 2 * rs.length < 4611686018427387904 →
  Calls Tryz.prog 25 #[.pointer (some ⟨lb, 0, none⟩), v, sdV sd] W fun e W' => BodyO w0 W W' lb mb hi (N + 2 * rs.length) (en, sd.g) (rec en sd rs) e
def repR (rec : RecT) (en : En) (sd : Sd) (r : Rw) (body : List Rw) : Except Fa (En × List TO) :=
 if r.num < 0 then .error (sd.p, 112) else
  match rec en (deeper sd) body with
  | .error e => .error e
  | .ok (en1, L) => .ok (en1, (List.replicate r.num.toNat L).flatten)
theorem Fr.sets {V W : World} {lo hi b : Nat} (h : Fr V W lo hi) (hb : V.heap.size ≤ b) (us : List Value) : Fr V (W.setCells b 0 us) lo hi := by
 have g := (fr_sets b us 0 W).1
 exact ⟨g.os.trans h.os, g.tape.trans h.tape, g.output.trans h.output, Nat.le_trans h.size g.size, fun k hk hw => (g.block k (Nat.lt_of_lt_of_le hk h.size) (.inl (by omega))).trans (h.block k hk hw)⟩
theorem sub_nil {st : Option Sd} {L : List TO} (h : ∀ t ∈ L, t.st ≠ none ∨ st = none) : L.map (subT [] st) = L := by
 conv => rhs; rw [← List.map_id L]
 refine List.map_congr_left fun t ht => ?_
 obtain ⟨k, n, qs, b, so⟩ := t
 rcases h _ ht with h | h
 ·cases so with
  | none => exact absurd rfl h
  | some s => rfl
 ·subst h
  cases so <;> rfl
def RecSt (rec : RecT) : Prop := ∀ en sd rs en1 L, rec en sd rs = .ok (en1, L) → sd.g = false → ∀ t ∈ L, t.st ≠ none
theorem RecSt.sub {rec : RecT} (h : RecSt rec) {en en1 : En} {sd sd' : Sd} {rs : List Rw} {L : List TO} (hr : rec en sd rs = .ok (en1, L)) (hg : sd'.g = sd.g) : L.map (subT [] (stO sd')) = L := by
 refine sub_nil fun t ht => ?_
 cases e : sd.g with
 | false => exact .inl (h _ _ _ _ _ hr e t ht)
 | true => exact .inr (by unfold stO; rw [hg, e]; rfl)
theorem uns_sub {L : List TO} (h : UnS L) (qs : List Int) (so : Option Sd) : UnS (L.map (subT qs so)) := by
 cases so with
 | some s =>
  refine .inr fun t ht => ?_
  obtain ⟨u, _, rfl⟩ := List.mem_map.1 ht
  unfold subT
  cases u.st with
  | none => exact fun h => by cases h
  | some s => exact fun h => by cases h
 | none =>
  have e : ∀ u : TO, (subT qs none u).st = u.st := fun u => by unfold subT; cases u.st <;> rfl
  rcases h with h | h
  ·refine .inl fun t ht => ?_
   obtain ⟨u, hu, rfl⟩ := List.mem_map.1 ht
   rw [e]
   exact h u hu
  ·refine .inr fun t ht => ?_
   obtain ⟨u, hu, rfl⟩ := List.mem_map.1 ht
   rw [e]
   exact h u hu
theorem uns_rep {L : List TO} (h : UnS L) (n : Nat) : UnS (List.replicate n L).flatten := by
 have e : ∀ t ∈ (List.replicate n L).flatten, t ∈ L := fun t ht => by
  obtain ⟨l, hl, ht⟩ := List.mem_flatten.1 ht
  rw [(List.mem_replicate.1 hl).2] at ht
  exact ht
 rcases h with h | h
 ·exact .inl fun t ht => h t (e t ht)
 ·exact .inr fun t ht => h t (e t ht)
theorem rowP_rep {W : World} {n nn : Nat} {hi : HG} {sd : Sd} {a : Option Addr} {k c : Nat} {L L' : List TO} (hn : (n : Int) ≤ 9223372036854775807) (hmv : sd.m < 18446744073709551616 ∧ sd.v < 18446744073709551616) (hp : PL W hi nn (.slice a k c) L') (ht : T4 L' L) (hs : L.map (subT [] (stO sd)) = L) :
  RowP W hi nn ⟨sd, 0, ⟨#[]⟩, [], none, 0, 0, (n : Int), a, k, c⟩ (List.replicate n L).flatten := by
 obtain ⟨a', k', c', e, _, hz⟩ := hp.shape
 cases e
 have h1 := ht.map (subT [] (stO sd))
 rw [hs] at h1
 refine ⟨L', _, ⟨⟨Nat.le_refl _, fun k hk => absurd hk (Nat.not_lt_zero _)⟩, fun b o e => by cases e⟩, hp, rfl, ?_, ?_, ⟨by simp, Nat.zero_le _, hn, fun h => absurd rfl h, hmv, fun j hj => by cases hj⟩, ?_⟩
 ·show T4 (mean _ L') _
  unfold mean
  simp only [ne_eq, not_true_eq_false, if_false, List.nil_append, Int.toNat_natCast]
  exact h1.rep n
 ·show _ ↔ mean _ L' = []
  unfold mean
  simp only [ne_eq, not_true_eq_false, if_false, List.nil_append, Int.toNat_natCast, true_and]
  rw [hz]
  constructor
  ·rintro (h | h)
   ·have : n = 0 := by omega
    subst this
    rfl
   ·rw [h]
    simp
  ·intro h
   rcases Nat.eq_zero_or_pos n with h0 | h0
   ·exact .inl (by omega)
   ·right
    obtain ⟨m, rfl⟩ : ∃ m, n = m + 1 := ⟨n - 1, by omega⟩
    rw [List.replicate_succ, List.flatten_cons] at h
    have := (List.append_eq_nil_iff.1 h).1
    simpa using this
 ·show UnS (mean _ L')
  unfold mean
  simp only [ne_eq, not_true_eq_false, if_false, List.nil_append, Int.toNat_natCast]
  exact uns_rep (uns_sub hp.uns _ _) n
abbrev pzC : Array Value := #[.int .i64 0, .int .i64 0, .bool false, .int .u64 0, .int .u64 0, .int .i64 0, .string ⟨#[]⟩, .slice none 0 0, .int .i64 0, .bool false, .int .u64 0, .int .u64 0, .int .i64 0, .slice none 0 0]
set_option maxHeartbeats 8000000 in
theorem repeat_any {w0 W : World} {lb mb N K : Nat} {hi : HG} {en : En} {pl : Int} {rec : RecT} (HB : FBody w0 lb mb K rec) (HS : RecSt rec) (H : LK w0 W lb mb hi N en pl) (hok : EnOk en) (r : Rw) (aa : Option Addr) (ac : Nat) (bv : Value) (body : List Rw) (hbv : SR w0 bv body) (hK : body.length < K) (hz : SzR body) (sd ins : Sd) (hins : ins = deeper sd) (hsp : sd.p = pl)
  (hr0 : -9223372036854775808 ≤ r.num) (hr1 : r.num ≤ 9223372036854775807) (hg : sd.g = true → en.pr ≠ []) (hn : sd.n < 6000000000000) (hm : sd.m < 18446744073709551616) (hv : sd.v < 18446744073709551616) (hN : N + 2 * body.length < 4611686018427387904) :
  Calls Tryz.prog 86 #[.pointer (some ⟨lb, 0, none⟩), rwV r aa ac, bv, sdV sd, sdV ins] W fun e W' => RowO w0 W W' lb mb hi (N + 2 * body.length) (en, sd.g) (repR rec en sd r body) e := by
 have HL := hid H
 have F := fun w1 (h : Below W.heap.size W w1) => HB w1 _ N en pl bv body ins (H.cut h) hok hbv hK hz (by rw [hins]; exact fun h => ⟨hg h, Nat.succ_ne_zero _⟩) (by rw [hins]; show sd.n + 1 ≤ _; omega) (by rw [hins]; exact hm) (by rw [hins]; exact hv) hN
 have HREC : Hid (∀ en1 L, rec en ins body = .ok (en1, L) → L.map (subT [] (stO sd)) = L) := fun en1 L h => HS.sub h (by rw [hins]; rfl)
 have HR1 : Hid (∀ x, rec en ins body = .error x → ¬ r.num < 0 → repR rec en sd r body = .error x) := fun x h h2 => by unfold repR; rw [if_neg h2, ← hins, h]
 have HR2 : Hid (∀ en1 L, rec en ins body = .ok (en1, L) → ¬ r.num < 0 → repR rec en sd r body = .ok (en1, (List.replicate r.num.toNat L).flatten)) := fun en1 L h h2 => by unfold repR; rw [if_neg h2, ← hins, h]
 have HR0 : Hid (r.num < 0 → repR rec en sd r body = .error (sd.p, 112)) := fun h => by unfold repR; rw [if_pos h]
 rw [show ins.g = sd.g by rw [hins]; rfl] at F
 have HMV := hid (And.intro hm hv)
 unfold BodyO at F
 obtain ⟨S, hS⟩ : ∃ S, S = repR rec en sd r body := ⟨_, rfl⟩
 rw [← hS] at HR0 HR1 HR2 ⊢
 clear hins
 generalize rec en ins body = T at *
 obtain ⟨ba, bn, bc, rfl⟩ : ∃ a n c, bv = .slice a n c := by obtain ⟨a, c, vs, e, _⟩ := hbv; exact ⟨_, _, _, e⟩
 obtain ⟨k, nm, ar, nu, ro, pc⟩ := r
 obtain ⟨p, n, g, m, v⟩ := sd
 obtain ⟨p2, n2, g2, m2, v2⟩ := ins
 simp only at *
 clear hS HB HS H hbv hz hok hg hm hv hK
 subst hsp
 by_cases h0 : nu < 0
 ·have hSe := HR0.out h0
  clear HR0 HR1 HR2 F HREC
  go_enter Tryz.func86, Tryz.ntmps86
  go_wp2
  refine bodyPost_ret (v := .tuple #[ppV pp0, .int .i64 112]) (by simp [results, Tryz.results86, go_sem]) rfl ?_
  rw [hSe]
  exact rowO_bad HL.out (bal (bal (bal (bal (Below.refl _ _) _) _) _) _) (by decide)
 ·obtain ⟨nn, rfl⟩ : ∃ nn : Nat, nu = (nn : Nat) := ⟨nu.toNat, by omega⟩
  clear HR0
  obtain ⟨V, hV⟩ : ∃ V, V = (((W.alloc (.cells #[.string k, .string nm, .slice aa ar.length ac, .int .i64 (nn : Nat), .int .i64 ro, .int .i64 pc] 79)).alloc (.cells #[.int .i64 p, .int .i64 (n : Nat), .bool g, .int .u64 (m : Nat), .int .u64 (v : Nat)] 69)).alloc (.cells #[.int .i64 p2, .int .i64 (n2 : Nat), .bool g2, .int .u64 (m2 : Nat), .int .u64 (v2 : Nat)] 69)).alloc (.cells pzC 113) := ⟨_, rfl⟩
  have hBV : Below W.heap.size W V := by rw [hV]; exact bal (bal (bal (bal (Below.refl _ _) _) _) _) _
  have b1 : BK V W.heap.size #[.string k, .string nm, .slice aa ar.length ac, .int .i64 (nn : Nat), .int .i64 ro, .int .i64 pc] 79 := by rw [hV]; exact (((bk_new W _ _).alloc _).alloc _).alloc _
  have b2 : BK V (W.heap.size + 1) #[.int .i64 p, .int .i64 (n : Nat), .bool g, .int .u64 (m : Nat), .int .u64 (v : Nat)] 69 := by rw [hV]; exact ((bk_at _ _ (by simp)).alloc _).alloc _
  have b4 : BK V (W.heap.size + 1 + 1 + 1) pzC 113 := by rw [hV]; exact bk_at _ _ (by simp)
  have hVs : V.heap.size = W.heap.size + 1 + 1 + 1 + 1 := by rw [hV]; simp
  have FV := F V hBV
  have HV := hid hV
  have hh : hi.h ≤ W.heap.size := HL.out.o5
  clear hV F
  go_enter Tryz.func86, Tryz.ntmps86
  go_wp2_with (go_at_call 25; refine Hid.out ?_)
  refine hid ?_
  rw [show (((W.alloc (.cells #[.string k, .string nm, .slice aa ar.length ac, .int .i64 (nn : Nat), .int .i64 ro, .int .i64 pc] 79)).alloc (.cells #[.int .i64 p, .int .i64 (n : Nat), .bool g, .int .u64 (m : Nat), .int .u64 (v : Nat)] 69)).alloc (.cells #[.int .i64 p2, .int .i64 (n2 : Nat), .bool g2, .int .u64 (m2 : Nat), .int .u64 (v2 : Nat)] 69)).alloc (.cells pzC 113) = V from HV.out.symm]
  refine FV.mono ?_
  rintro e w1 ⟨hF, hcase⟩
  have c1 : BK w1 _ _ 79 := hF.bk b1 (.inr hh)
  have c2 : BK w1 _ _ 69 := hF.bk b2 (.inr (by show hi.h ≤ _; omega))
  have c4 : BK w1 _ _ 113 := hF.bk b4 (.inr (by show hi.h ≤ _; omega))
  have d1 := c1.cell
  have d2 := c2.cell
  have d4 := c4.cell
  have f4 := c4.free
  have l1 := c1.lt
  have l2 := c2.lt
  have l4 := c4.lt
  have HFW : Hid (Fr W w1 w0.heap.size hi.h) := (fr_of_below hBV).trans hF
  clear b1 b2 b4 c1 c2 c4 HV FV
  rcases hcase with ⟨x, v', hT, rfl, ⟨a', n', c', rfl⟩, hx, hle⟩ | ⟨en1, L, v', L', pl', N', hT, rfl, hLK, hN', hok1, hpr, hP, hT4⟩
  ·have hSe := HR1.out x hT h0
   clear HR1 HR2 HREC
   go_wp2
   refine bodyPost_ret (v := .tuple #[ppV ⟨⟨p, n, g, m, v⟩, 0, ⟨#[]⟩, [], none, 0, 0, (nn : Int), a', n', c'⟩, .int .i64 (x.2 : Nat)]) (by simp [results, Tryz.results86, go_sem, *]) rfl ?_
   change RowO w0 W (w1.setCells (W.heap.size + 1 + 1 + 1) 0 (ppc ⟨⟨p, n, g, m, v⟩, 0, ⟨#[]⟩, [], none, 0, 0, (nn : Int), a', n', c'⟩)) lb mb hi (N + 2 * body.length) (en, g) S _
   have hl0 : lb < hi.h := HL.out.o3
   have gs := (fr_sets (W.heap.size + 1 + 1 + 1) (ppc ⟨⟨p, n, g, m, v⟩, 0, ⟨#[]⟩, [], none, 0, 0, (nn : Int), a', n', c'⟩) 0 w1).1
   exact ⟨HFW.out.sets (by omega) _, .inl ⟨x, hSe, ⟨_, rfl⟩, hx, hle.fr gs (.inl (by omega)) (.inl (by have := HL.out.o4; omega))⟩⟩
  ·have hSe := HR2.out en1 L hT h0
   have hsub := HREC.out en1 L hT
   obtain ⟨a', n', c', rfl, _⟩ := hP.shape
   have HK := hid hLK
   have HPL := hid hP
   have HO1 := hid hok1
   clear HR1 HR2 HREC hLK hP hok1
   go_wp2
   refine bodyPost_ret (v := .tuple #[ppV ⟨⟨p, n, g, m, v⟩, 0, ⟨#[]⟩, [], none, 0, 0, (nn : Int), a', n', c'⟩, .int .i64 0]) (by simp [results, Tryz.results86, go_sem, d4]) rfl ?_
   change RowO w0 W (w1.setCells (W.heap.size + 1 + 1 + 1) 0 (ppc ⟨⟨p, n, g, m, v⟩, 0, ⟨#[]⟩, [], none, 0, 0, (nn : Int), a', n', c'⟩)) lb mb hi (N + 2 * body.length) (en, g) S _
   have gs := (fr_sets (W.heap.size + 1 + 1 + 1) (ppc ⟨⟨p, n, g, m, v⟩, 0, ⟨#[]⟩, [], none, 0, 0, (nn : Int), a', n', c'⟩) 0 w1).1
   have hx : ∀ b, (hi.cut W.heap.size V.heap.size).G b → b < W.heap.size + 1 + 1 + 1 ∨ W.heap.size + 1 + 1 + 1 + 1 ≤ b := fun b hb => by rcases hb.2 with h | h <;> omega
   have hw : ∀ b, b < (w1.setCells (W.heap.size + 1 + 1 + 1) 0 (ppc ⟨⟨p, n, g, m, v⟩, 0, ⟨#[]⟩, [], none, 0, 0, (nn : Int), a', n', c'⟩)).heap.size → (hi.cut W.heap.size V.heap.size).G b → hi.G b := fun b _ hb => hb.1
   have hK2 := (HK.out.far gs hx (by show hi.h ≤ _; omega)).wide (hi2 := hi) rfl hw (fun b hb => HL.out.up b (Nat.le_trans (Nat.le_trans HFW.out.size gs.size) hb))
   rw [hSe, Int.toNat_natCast]
   exact ⟨HFW.out.sets (by omega) _, .inr ⟨en1, _, _, pl', N', rfl, rfl, hK2, hN', HO1.out, hpr, rowP_rep hr1 HMV.out ((HPL.out.far gs hx).wide hw) hT4 hsub⟩⟩
end Go.Proofs.YtdjfpghgklkejaaGreatDoor
namespace Go.Proofs.YtdjfpghgklkejaaGreatDoor
open Go.RowKit Go.Sort
theorem quL_len {en : En} {g : Bool} : ∀ {l : List Ar} {ns : List Nat}, quL en g l = .ok ns → ns.length = l.length
 | [], ns, h => by unfold quL at h; cases h; rfl
 | a :: l, ns, h => by
  unfold quL at h
  split at h
  ·cases h
  ·split at h
   ·cases h
   ·rename_i h2
    cases h
    rw [List.length_cons, List.length_cons, quL_len h2]
theorem quL_snoc {en : En} {g : Bool} (a : Ar) : ∀ {l : List Ar} {ns : List Nat}, quL en g l = .ok ns → quL en g (l ++ [a]) = match quE en g a with | .error e => .error e | .ok n => .ok (ns ++ [n])
 | [], ns, h => by
  unfold quL at h
  cases h
  show quL en g [a] = _
  unfold quL
  cases quE en g a with
  | error e => rfl
  | ok n => rfl
 | b :: l, ns, h => by
  unfold quL at h
  split at h
  ·cases h
  ·rename_i n hb
   split at h
   ·cases h
   ·rename_i ns2 h2
    cases h
    have ih := quL_snoc a h2
    show quL en g (b :: (l ++ [a])) = _
    unfold quL
    rw [hb, ih]
    cases quE en g a with
    | error e => rfl
    | ok m => rfl
theorem quL_err {en : En} {g : Bool} {e : Nat} : ∀ {l : List Ar} (r : List Ar), quL en g l = .error e → quL en g (l ++ r) = .error e
 | [], r, h => by unfold quL at h; cases h
 | a :: l, r, h => by
  unfold quL at h
  show quL en g (a :: (l ++ r)) = _
  unfold quL
  split at h
  ·cases h
   rfl
  ·split at h
   ·rename_i e2 h2
    cases h
    rw [quL_err r h2]
   ·cases h
theorem quL_at {en : En} {g : Bool} {l : List Ar} {k : Nat} {ns : List Nat} (hk : k < l.length) (h : quL en g (l.take k) = .ok ns) :
  (∀ e, quE en g l[k] = .error e → quL en g l = .error e) ∧ ∀ n, quE en g l[k] = .ok n → quL en g (l.take (k + 1)) = .ok (ns ++ [n]) := by
 have hs := quL_snoc l[k] h
 rw [← List.take_succ_eq_append_getElem hk] at hs
 refine ⟨fun e he => ?_, fun n hn => by rw [hs, hn]⟩
 rw [he] at hs
 have := quL_err (l.drop (k + 1)) hs
 rwa [List.take_append_drop] at this
theorem qu_err {en : En} {g : Bool} {a : Ar} {e : Nat} (h : quE en g a = .error e) : e ≠ 0 := by
 unfold quE at h
 split at h
 ·split at h
  ·cases h; decide
  ·split at h
   ·cases h
   ·cases h; decide
 ·exact el_err h
theorem il_nodup {l : List Nat} : (ilN l).Nodup ↔ l.Nodup := by
 unfold ilN
 constructor
 ·intro h
  exact (List.pairwise_map.1 h).imp fun h e => h (by rw [e])
 ·intro h
  exact List.pairwise_map.2 (h.imp fun h e => h (by omega))
end Go.Proofs.YtdjfpghgklkejaaGreatDoor
namespace Go.Proofs.YtdjfpghgklkejaaGreatDoor
open Go.RowKit Go.Sort
theorem stO_some {sd : Sd} (h : sd.g = false) : stO sd = some sd := by unfold stO; rw [h]; rfl
theorem sub_st {qs : List Int} {sd : Sd} (t : TO) : (subT qs (some sd) t).st ≠ none := by
 unfold subT
 cases t.st with
 | none => exact fun h => by cases h
 | some s => exact fun h => by cases h
theorem use_st {en : En} {sd : Sd} {r : Rw} (hg : sd.g = false) : ∀ t ∈ useL en sd r, t.st ≠ none := by
 intro t ht
 unfold useL at ht
 rw [stO_some hg] at ht
 split at ht
 ·split at ht
  ·rw [List.mem_singleton] at ht
   subst ht
   exact fun h => by cases h
  ·obtain ⟨u, _, rfl⟩ := List.mem_map.1 ht
   exact sub_st u
 ·cases ht
theorem rowR_st {rec : RecT} (hr : RecSt rec) {en en1 : En} {sd : Sd} {r : Rw} {body : List Rw} {L : List TO} (h : rowR rec en sd r body = .ok (en1, L)) (hg : sd.g = false) : ∀ t ∈ L, t.st ≠ none := by
 unfold rowR at h
 split at h
 ·split at h
  ·cases h
  ·cases h; exact fun t ht => by cases ht
 split at h
 ·split at h
  ·cases h
  ·cases h; exact fun t ht => by cases ht
 split at h
 ·split at h
  ·cases h
  ·split at h
   ·cases h
   ·cases h; exact fun t ht => by cases ht
 split at h
 ·split at h
  ·cases h
  ·split at h
   ·cases h
   ·rename_i h2
    cases h
    intro t ht
    obtain ⟨l, hl, ht2⟩ := List.mem_flatten.1 ht
    obtain ⟨_, e⟩ := List.mem_replicate.1 hl
    rw [e] at ht2
    exact hr _ _ _ _ _ h2 hg t ht2
 split at h
 ·split at h
  ·cases h
  ·split at h
   ·cases h
   ·split at h
    ·cases h
    ·split at h
     ·cases h
     ·rename_i h2
      cases h
      intro t ht
      split at ht
      ·cases ht
      ·exact hr _ _ _ _ _ h2 hg t ht
 split at h
 ·split at h
  ·split at h
   ·cases h
   ·split at h
    ·cases h
    ·cases h
     intro t ht
     rw [List.mem_singleton] at ht
     subst ht
     show stO sd ≠ none
     rw [stO_some hg]
     exact fun h => by cases h
  ·cases h
 split at h
 ·split at h
  ·split at h
   ·cases h
   ·cases h
    intro t ht
    rw [List.mem_singleton] at ht
    subst ht
    show stO sd ≠ none
    rw [stO_some hg]
    exact fun h => by cases h
  ·cases h
 split at h
 ·cases h
 ·cases h
  exact use_st hg
theorem lookB_st : ∀ k, RecSt (lookB k)
 | 0 => fun en sd rs en1 L h _ t ht => by unfold lookB at h; cases h; cases ht
 | k + 1 => fun en sd rs en1 L h hg t ht => by
  cases rs with
  | nil => unfold lookB at h; cases h; cases ht
  | cons r rs =>
   unfold lookB at h
   split at h
   ·cases h
   ·split at h
    ·cases h
    ·rename_i h1
     split at h
     ·cases h
     ·rename_i h2
      cases h
      rcases List.mem_append.1 ht with ht | ht
      ·exact rowR_st (lookB_st k) h1 hg t ht
      ·exact lookB_st k _ _ _ _ _ h2 hg t ht
end Go.Proofs.YtdjfpghgklkejaaGreatDoor
namespace Go.Proofs.YtdjfpghgklkejaaGreatDoor
open Go.RowKit Go.Sort
def EnL (en : En) : Prop := ∀ s m, en.nm s = some m → ∀ t ∈ m.l, t.st = none
def RecL (rec : RecT) : Prop := ∀ en sd rs en1 L, rec en sd rs = .ok (en1, L) → EnL en → EnL en1 ∧ (sd.g = true → ∀ t ∈ L, t.st = none)
theorem enL_put {f : ByteArray → Option Mn} (h : ∀ s m, f s = some m → ∀ t ∈ m.l, t.st = none) (s : ByteArray) (m : Mn) (hm : ∀ t ∈ m.l, t.st = none) : ∀ u m', putN f s m u = some m' → ∀ t ∈ m'.l, t.st = none := by
 intro u m' hu
 unfold putN at hu
 split at hu
 ·cases hu
  exact hm
 ·exact h u m' hu
theorem use_L {en : En} {sd : Sd} {r : Rw} (he : EnL en) (hg : sd.g = true) : ∀ t ∈ useL en sd r, t.st = none := by
 intro t ht
 have hs : stO sd = none := by unfold stO; rw [hg]; rfl
 unfold useL at ht
 rw [hs] at ht
 split at ht
 ·rename_i m qs hm _
  split at ht
  ·rw [List.mem_singleton] at ht
   subst ht
   rfl
  ·obtain ⟨u, hu, rfl⟩ := List.mem_map.1 ht
   unfold subT
   rw [he _ m hm u hu]
 ·cases ht
theorem rowR_L {rec : RecT} (hr : RecL rec) {en en1 : En} {sd : Sd} {r : Rw} {body : List Rw} {L : List TO} (h : rowR rec en sd r body = .ok (en1, L)) (he : EnL en) : EnL en1 ∧ (sd.g = true → ∀ t ∈ L, t.st = none) := by
 have hnil : sd.g = true → ∀ t ∈ ([] : List TO), t.st = none := fun _ t ht => by cases ht
 unfold rowR at h
 split at h
 ·split at h
  ·cases h
  ·cases h; exact ⟨enL_put he _ _ (fun t ht => by cases ht), hnil⟩
 split at h
 ·split at h
  ·cases h
  ·cases h; exact ⟨enL_put he _ _ (fun t ht => by cases ht), hnil⟩
 split at h
 ·split at h
  ·cases h
  ·split at h
   ·cases h
   ·rename_i h2
    cases h
    obtain ⟨g1, g2⟩ := hr _ _ _ _ _ h2 (enL_put he _ _ (fun t ht => by cases ht))
    exact ⟨enL_put g1 _ _ (g2 rfl), hnil⟩
 split at h
 ·split at h
  ·cases h
  ·split at h
   ·cases h
   ·rename_i h2
    cases h
    obtain ⟨g1, g2⟩ := hr _ _ _ _ _ h2 he
    refine ⟨g1, fun hg t ht => ?_⟩
    obtain ⟨l, hl, ht2⟩ := List.mem_flatten.1 ht
    rw [(List.mem_replicate.1 hl).2] at ht2
    exact g2 hg t ht2
 split at h
 ·split at h
  ·cases h
  ·split at h
   ·cases h
   ·split at h
    ·cases h
    ·split at h
     ·cases h
     ·rename_i h2
      cases h
      obtain ⟨g1, g2⟩ := hr _ _ _ _ _ h2 he
      refine ⟨g1, fun hg t ht => ?_⟩
      split at ht
      ·cases ht
      ·exact g2 hg t ht
 have hs : sd.g = true → stO sd = none := fun hg => by unfold stO; rw [hg]; rfl
 split at h
 ·split at h
  ·split at h
   ·cases h
   ·split at h
    ·cases h
    ·cases h
     refine ⟨he, fun hg t ht => ?_⟩
     rw [List.mem_singleton] at ht
     subst ht
     exact hs hg
  ·cases h
 split at h
 ·split at h
  ·split at h
   ·cases h
   ·cases h
    refine ⟨he, fun hg t ht => ?_⟩
    rw [List.mem_singleton] at ht
    subst ht
    exact hs hg
  ·cases h
 split at h
 ·cases h
 ·cases h
  exact ⟨he, fun hg => use_L he hg⟩
theorem lookB_L : ∀ k, RecL (lookB k)
 | 0 => fun en sd rs en1 L h he => by unfold lookB at h; cases h; exact ⟨he, fun _ t ht => by cases ht⟩
 | k + 1 => fun en sd rs en1 L h he => by
  cases rs with
  | nil => unfold lookB at h; cases h; exact ⟨he, fun _ t ht => by cases ht⟩
  | cons r rs =>
   unfold lookB at h
   split at h
   ·cases h
   ·split at h
    ·cases h
    ·rename_i h1
     split at h
     ·cases h
     ·rename_i h2
      cases h
      obtain ⟨a1, a2⟩ := rowR_L (lookB_L k) h1 he
      obtain ⟨b1, b2⟩ := lookB_L k _ _ _ _ _ h2 a1
      refine ⟨b1, fun hg t ht => ?_⟩
      rcases List.mem_append.1 ht with ht | ht
      ·exact a2 hg t ht
      ·exact b2 hg t ht
theorem rowR_congr {rec rec' : RecT} {body : List Rw} (h : ∀ en sd, rec en sd body = rec' en sd body) (en : En) (sd : Sd) (r : Rw) : rowR rec en sd r body = rowR rec' en sd r body := by
 unfold rowR
 simp only [h]
theorem lookB_fuel : ∀ (k k' : Nat) (rs : List Rw), rs.length < k → rs.length < k' → ∀ en sd, lookB k en sd rs = lookB k' en sd rs
 | 0, _, rs, h, _, _, _ => absurd h (Nat.not_lt_zero _)
 | _ + 1, 0, rs, _, h, _, _ => absurd h (Nat.not_lt_zero _)
 | k + 1, k' + 1, [], _, _, en, sd => by unfold lookB; rfl
 | k + 1, k' + 1, r :: rs, h, h', en, sd => by
  rw [List.length_cons] at h h'
  have h1 : ∀ en sd, lookB k en sd (rs.take r.rows.toNat) = lookB k' en sd (rs.take r.rows.toNat) := lookB_fuel k k' _ (by rw [List.length_take]; omega) (by rw [List.length_take]; omega)
  have h2 : ∀ en sd, lookB k en sd (rs.drop r.rows.toNat) = lookB k' en sd (rs.drop r.rows.toNat) := lookB_fuel k k' _ (by rw [List.length_drop]; omega) (by rw [List.length_drop]; omega)
  unfold lookB
  rw [rowR_congr h1]
  simp only [h2]
def useR (en : En) (sd : Sd) (r : Rw) : Except Fa (En × List TO) := if useE en sd r ≠ 0 then .error (sd.p, useE en sd r) else .ok (⟨en.nm, en.q, en.b, en.pr, useD en sd r⟩, useL en sd r)
theorem rowR_use (rec : RecT) (en : En) (sd : Sd) (r : Rw) (body : List Rw) (h : r.kind = wUse) : rowR rec en sd r body = useR en sd r := by
 unfold rowR useR
 rw [if_neg (by rw [h]; decide), if_neg (by rw [h]; decide), if_neg (by rw [h]; decide), if_neg (by rw [h]; decide), if_neg (by rw [h]; decide), if_neg (by rw [h]; decide), if_neg (by rw [h]; decide)]
theorem use_loop {en : En} {sd : Sd} {r : Rw} (h : srt en r.name = 4) : useR en sd r = .error (sd.p, 114) := by
 have e : useE en sd r = 114 := by unfold useE; rw [if_pos h]
 unfold useR
 rw [e]
 rfl
theorem use_gate {en : En} {sd : Sd} {r : Rw} (h4 : srt en r.name ≠ 4) (h3 : srt en r.name ≠ 3) (h5 : srt en r.name ≠ 5) : useR en sd r = .error (sd.p, 80) := by
 have e : useE en sd r = 80 := by unfold useE; rw [if_neg h4, if_pos ⟨h3, h5⟩]
 unfold useR
 rw [e]
 rfl
theorem use_some {en : En} {s : ByteArray} (h : srt en s = 3 ∨ srt en s = 5) : ∃ m, en.nm s = some m ∧ m.s = srt en s := by
 unfold srt at *
 cases e : en.nm s with
 | none => rw [e] at h; rcases h with h | h <;> cases h
 | some m => exact ⟨m, rfl, rfl⟩
theorem use_eq {en : En} {sd : Sd} {r : Rw} {m : Mn} (h : srt en r.name = 3 ∨ srt en r.name = 5) (hm : en.nm r.name = some m) : useE en sd r = if r.args.length ≠ m.z then 111 else
  match quL en sd.g r.args with
  | .error e => e
  | .ok qs => if ¬ qs.Nodup then 113 else if sd.g = true ∧ 32 < max en.d (m.d + 1) then 102 else 0 := by
 unfold useE
 rw [if_neg (by omega), if_neg (by omega), hm]
 rfl
theorem use_arity {en : En} {sd : Sd} {r : Rw} {m : Mn} (h : srt en r.name = 3 ∨ srt en r.name = 5) (hm : en.nm r.name = some m) (hz : r.args.length ≠ m.z) : useR en sd r = .error (sd.p, 111) := by
 have e : useE en sd r = 111 := by rw [use_eq h hm, if_pos hz]
 unfold useR
 rw [e]
 rfl
theorem quL_no {en : En} {g : Bool} {l : List Ar} {e : Nat} (h : quL en g l = .error e) : e ≠ 0 := by
 induction l with
 | nil => unfold quL at h; cases h
 | cons a l ih =>
  unfold quL at h
  split at h
  ·rename_i h1
   cases h
   exact qu_err h1
  ·split at h
   ·rename_i h1
    cases h
    exact ih h1
   ·cases h
theorem use_arg {en : En} {sd : Sd} {r : Rw} {m : Mn} {e : Nat} (h : srt en r.name = 3 ∨ srt en r.name = 5) (hm : en.nm r.name = some m) (hz : r.args.length = m.z) (hq : quL en sd.g r.args = .error e) : useR en sd r = .error (sd.p, e) := by
 have e' : useE en sd r = e := by rw [use_eq h hm, if_neg (by omega), hq]
 unfold useR
 rw [e', if_pos (quL_no hq)]
theorem use_same {en : En} {sd : Sd} {r : Rw} {m : Mn} {qs : List Nat} (h : srt en r.name = 3 ∨ srt en r.name = 5) (hm : en.nm r.name = some m) (hz : r.args.length = m.z) (hq : quL en sd.g r.args = .ok qs) (hd : ¬ qs.Nodup) : useR en sd r = .error (sd.p, 113) := by
 have e : useE en sd r = 113 := by rw [use_eq h hm, if_neg (by omega), hq]; exact if_pos hd
 unfold useR
 rw [e]
 rfl
theorem use_deep {en : En} {sd : Sd} {r : Rw} {m : Mn} {qs : List Nat} (h : srt en r.name = 3 ∨ srt en r.name = 5) (hm : en.nm r.name = some m) (hz : r.args.length = m.z) (hq : quL en sd.g r.args = .ok qs) (hd : qs.Nodup) (hg : sd.g = true) (hx : 32 < max en.d (m.d + 1)) : useR en sd r = .error (sd.p, 102) := by
 have e : useE en sd r = 102 := by
  rw [use_eq h hm, if_neg (by omega), hq]
  show (if ¬ qs.Nodup then 113 else _) = _
  rw [if_neg (by simpa using hd), if_pos ⟨hg, hx⟩]
 unfold useR
 rw [e]
 rfl
theorem use_ok {en : En} {sd : Sd} {r : Rw} {m : Mn} {qs : List Nat} (h : srt en r.name = 3 ∨ srt en r.name = 5) (hm : en.nm r.name = some m) (hz : r.args.length = m.z) (hq : quL en sd.g r.args = .ok qs) (hd : qs.Nodup) (hx : sd.g = true → ¬ 32 < max en.d (m.d + 1)) :
  useR en sd r = .ok (⟨en.nm, en.q, en.b, en.pr, if sd.g = true then max en.d (m.d + 1) else en.d⟩, if m.s = 3 then [⟨1, r.name, ilN qs, 0, stO sd⟩] else m.l.map (subT (ilN qs) (stO sd))) := by
 have e : useE en sd r = 0 := by
  rw [use_eq h hm, if_neg (by omega), hq]
  show (if ¬ qs.Nodup then 113 else _) = _
  rw [if_neg (by simpa using hd), if_neg (fun h => hx h.1 h.2)]
 unfold useR
 rw [e, if_neg (by simp)]
 unfold useD useL
 rw [hm, hq]
 rfl
theorem idx_lt {s : ByteArray} : ∀ {l : List ByteArray} {j : Nat}, idxN s l = some j → j < l.length
 | [], j, h => by unfold idxN at h; cases h
 | t :: l, j, h => by
  unfold idxN at h
  split at h
  ·cases h
   exact Nat.succ_pos _
  ·cases e : idxN s l with
   | none => rw [e] at h; cases h
   | some i =>
    rw [e] at h
    cases h
    exact Nat.succ_lt_succ (idx_lt e)
theorem qu_lt {en : En} {g : Bool} {a : Ar} {n : Nat} (hok : EnOk en) (h : quE en g a = .ok n) : n < nq g en := by
 unfold quE at h
 unfold nq
 split at h
 ·rename_i hg
  rw [if_pos hg]
  split at h
  ·cases h
  ·split at h
   ·rename_i e
    cases h
    exact idx_lt e
   ·cases h
 ·rename_i hg
  rw [if_neg hg]
  exact el_lt hok h
theorem quL_lt {en : En} {g : Bool} (hok : EnOk en) : ∀ {l : List Ar} {ns : List Nat}, quL en g l = .ok ns → ∀ j ∈ ilN ns, 0 ≤ j ∧ j < (nq g en : Int)
 | [], ns, h, j, hj => by unfold quL at h; cases h; cases hj
 | a :: l, ns, h, j, hj => by
  unfold quL at h
  split at h
  ·cases h
  ·rename_i n h1
   split at h
   ·cases h
   ·rename_i ns2 h2
    cases h
    have hj : j ∈ (n : Int) :: ilN ns2 := hj
    rcases List.mem_cons.1 hj with rfl | hj
    ·have := qu_lt hok h1
     omega
    ·exact quL_lt hok h2 j hj
end Go.Proofs.YtdjfpghgklkejaaGreatDoor
namespace Go.Proofs.YtdjfpghgklkejaaGreatDoor
open Go.RowKit Go.Sort
def leadB (p : PP) : Bool := (p.k != 0) || (decide (0 < p.t) && decide (0 < p.bn))
theorem leadB_iff {p : PP} : leadB p = false ↔ (p.k = 0 ∧ (p.t ≤ 0 ∨ p.bn = 0)) := by
 unfold leadB
 simp
 omega
set_option maxHeartbeats 4000000 in
theorem leads_any (p : PP) (w : World) : Calls Tryz.prog 55 #[ppV p] w fun e w' => e = .returned (.bool (leadB p)) ∧ Below w.heap.size w w' := by
 obtain ⟨⟨sp, sn, sg, sm, sv⟩, k, n, qs, qa, qc, b, t, ba, bn, bc⟩ := p
 have hL : leadB ⟨⟨sp, sn, sg, sm, sv⟩, k, n, qs, qa, qc, b, t, ba, bn, bc⟩ = ((k != 0) || (decide (0 < t) && decide (0 < bn))) := rfl
 rw [hL]
 clear hL
 by_cases h1 : k = 0
 ·have e1 : (k != 0) = false := by simp [h1]
  rw [e1]
  clear h1
  by_cases h2 : 0 < t
  ·have e2 : decide (0 < t) = true := decide_eq_true h2
   rw [e2]
   clear e2
   go_enter Tryz.func55, Tryz.ntmps55
   go_wp2
   go_ret
   exact ⟨by simp, bal (Below.refl _ _) _⟩
  ·have e2 : decide (0 < t) = false := decide_eq_false h2
   rw [e2]
   clear e2
   go_enter Tryz.func55, Tryz.ntmps55
   go_wp2
   go_ret
   exact ⟨rfl, bal (Below.refl _ _) _⟩
 ·have e1 : (k != 0) = true := bne_iff_ne.2 h1
  rw [e1]
  clear h1
  go_enter Tryz.func55, Tryz.ntmps55
  go_wp2
  go_ret
  exact ⟨rfl, bal (Below.refl _ _) _⟩
end Go.Proofs.YtdjfpghgklkejaaGreatDoor
