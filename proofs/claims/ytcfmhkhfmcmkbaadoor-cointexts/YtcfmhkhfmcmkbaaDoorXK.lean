/-
  Put together of: Q3 R4 Q5 R6.
-/
import Derived.Test.YtcfmhkhfmcmkbaaDoorXJ
import Derived.Test.YtcfmhkhfmcmkbaaDoorXA
import Derived.Test.YtcfmhkhfmcmkbaaDoorXI
namespace Go.Proofs.YtcfmhkhfmcmkbaaDoor
open Go.RowKit Go.Sort

theorem Bx.drewN {W : World} {B : Nat} {s : Int} {a : Option Addr} {n c : Nat} (h : Bx W B s a n c) (m : Nat) : Bx (W.drewN m) B s a n c := ⟨h.c0, h.c1, h.f0, h.f1, h.ty⟩
theorem II.drewN {W : World} {a : Option Addr} {n c : Nat} {z : Int} (h : II W a n c z) (m : Nat) : II (W.drewN m) a n c z := by
  obtain ⟨l, h1, h2, h3⟩ := h.ex
  exact ⟨l, h1, h2.drewN m, h3⟩
theorem PlS.drewN {w W : World} {x y : Int} {a : Option Addr} {n c : Nat} {a' : Option Addr} {n' c' : Nat} (h : PlS w W x y a n c a' n' c') (m : Nat) : PlS w (W.drewN m) x y a n c a' n' c' :=
  ⟨below_drewN h.below m, h.bp.drewN m, h.bq.drewN m, h.br.drewN m, h.ip.drewN m, h.iq.drewN m⟩
theorem PlS.swap {w W : World} {x y : Int} {a : Option Addr} {n c : Nat} {a' : Option Addr} {n' c' : Nat} (h : PlS w W x y a n c a' n' c') :
    PlS w (st2 (st2 W w.heap.size (sgn y) a' n' c') (w.heap.size + 1) (sgn x) a n c) y x a' n' c' a n c := by
  have bp2 := h.bp.put (sgn y) a' n' c'
  have bq2 := h.bq.far (R := w.heap.size) (by omega) (sgn y) a' n' c'
  exact ⟨below_st2 (below_st2 h.below (Nat.le_refl _) _ _ _ _) (by omega) _ _ _ _, bp2.far (by omega) _ _ _ _, bq2.put _ _ _ _, (h.br.far (by omega) _ _ _ _).far (by omega) _ _ _ _,
    (h.iq.st h.bp.ty _ _ _ _).st bq2.ty _ _ _ _, (h.ip.st h.bp.ty _ _ _ _).st bq2.ty _ _ _ _⟩
theorem unlike {x y : Int} (hs : sgn x ≠ sgn y) (hx : x ≠ 0) (hy : y ≠ 0) : (x < 0 ∧ 0 < y) ∨ (0 < x ∧ y < 0) := by
  rcases (show x < 0 ∨ 0 < x by omega) with h | h <;> rcases (show y < 0 ∨ 0 < y by omega) with g | g
  · exact absurd (sgn_congr (by omega) (by omega)) hs
  · exact Or.inl ⟨h, g⟩
  · exact Or.inr ⟨h, g⟩
  · exact absurd (sgn_congr (by omega) (by omega)) hs
set_option maxHeartbeats 4000000 in
theorem plus_diff (x y : Int) (a : Option Addr) (n c : Nat) (a' : Option Addr) (n' c' : Nat) (w : World) (hx : II w a n c x) (hy : II w a' n' c' y) (hn : n ≤ 100) (hn' : n' ≤ 100) (h0 : x ≠ 0) (h0' : y ≠ 0) (hs : sgn x ≠ sgn y) :
    Calls Tryd.prog 76 #[.agg #[.int .i64 (sgn x), .slice a n c], .agg #[.int .i64 (sgn y), .slice a' n' c']] w fun e w' => IRet (x + y) e w' ∧ Below w.heap.size w w' := by
  have P0 : Hid _ := PlS.start hx hy
  have hU : Hid _ := unlike hs h0 h0'
  have z1 := sgn_nz h0
  have z2 := sgn_nz h0'
  have SZ : ∀ W, PlS w W x y a n c a' n' c' → Calls Tryd.prog 72 #[.slice a n c, .slice a' n' c'] W fun e w' => e = .returned (.int .i64 (cmpN x.natAbs y.natAbs)) ∧ ∃ m, w' = W.drewN m := fun W h => size_any2 x y a n c a' n' c' W h.ip h.iq (by omega)
  have hcm : Hid ((cmpN x.natAbs y.natAbs < 0 ∧ x.natAbs < y.natAbs) ∨ (¬ cmpN x.natAbs y.natAbs < 0 ∧ y.natAbs ≤ x.natAbs)) := by
    show _ ∨ _
    unfold cmpN; split <;> (try split) <;> omega
  clear hx hy h0 h0'
  obtain ⟨s, HS⟩ : ∃ s, Hid (s = sgn x) := ⟨_, rfl⟩
  obtain ⟨t, HT⟩ : ∃ t, Hid (t = sgn y) := ⟨_, rfl⟩
  obtain ⟨C, HC⟩ : ∃ C, Hid (C = cmpN x.natAbs y.natAbs) := ⟨_, rfl⟩
  rw [← HC.out] at SZ hcm
  rw [← HS.out, ← HT.out] at hs P0 ⊢
  rw [← HS.out] at z1
  rw [← HT.out] at z2
  have e1 : (s == 0) = false := by simpa using z1
  have e2 : (t == 0) = false := by simpa using z2
  have e3 : (s == t) = false := by simpa using hs
  clear z1 z2 hs
  go_enter Tryd.func76, Tryd.ntmps76
  go_upto_if 83 with (first
    | (go_at_call 72; (refine (SZ _ P0.out).mono ?_); rintro e w2 ⟨rfl, m, rfl⟩))
  replace P0 : Hid _ := P0.out.drewN m
  clear e1 e2 e3 SZ
  obtain ⟨W1, hW1⟩ : ∃ W1, W1 = World.drewN (((w.alloc (.cells #[.int .i64 s, .slice a n c] 101)).alloc (.cells #[.int .i64 t, .slice a' n' c'] 101)).alloc (.cells #[.int .i64 0, .slice none 0 0] 101)) m := ⟨_, rfl⟩
  rw [← hW1] at P0 ⊢
  clear hW1
  go_cut [84] from 78 to 85 (fun _ W => ∃ (X Y : Int) (b : Option Addr) (k d : Nat) (b' : Option Addr) (k' d' : Nat), Hid (PlS w W X Y b k d b' k' d') ∧ Hid (Y.natAbs ≤ X.natAbs) ∧ Hid (X + Y = x + y) ∧ k ≤ 100 ∧ k' ≤ 100 ∧ Hid ((X < 0 ∧ 0 < Y) ∨ (0 < X ∧ Y < 0)))
  case first =>
    obtain ⟨x0, x1, xf0, xf1, _⟩ := P0.out.bp
    obtain ⟨y0, y1, yf0, yf1, _⟩ := P0.out.bq
    have n1 : ¬ w.heap.size = w.heap.size + 1 := by omega
    rcases hcm.out with ⟨hlt, hle⟩ | ⟨hge, hle⟩
    · have PS : Hid _ := P0.out.swap
      have HLE : Hid (x.natAbs ≤ y.natAbs) := by show _ ≤ _; omega
      have HXY : Hid (y + x = x + y) := Int.add_comm _ _
      have HU : Hid ((y < 0 ∧ 0 < x) ∨ (0 < y ∧ x < 0)) := by have := hU.out; show _ ∨ _; omega
      clear hle hcm hU
      go_wp2
      go_meet
      case rel => exact ⟨y, x, a', n', c', a, n, c, PS, HLE, HXY, hn', hn, HU⟩
    · have HLE : Hid (y.natAbs ≤ x.natAbs) := hle
      clear hle hcm
      go_wp2
      go_meet
      case rel => exact ⟨x, y, a, n, c, a', n', c', P0, HLE, rfl, hn, hn', hU⟩
  clear P0 hU hcm HC HS HT hn hn'
  obtain ⟨X, Y, b, k, d, b', k', d', P0, HLE, HXY, hk, hk', hU⟩ := hcut
  obtain ⟨la, hla, RA0, DA0, ma0, va0, _, _⟩ := P0.out.ip.ex
  obtain ⟨lb, hlb, RB0, DB0, mb0, vb0, _, _⟩ := P0.out.iq.ex
  subst hla hlb
  have hlab : lb.length ≤ la.length := by
    rcases Nat.lt_or_ge la.length lb.length with h1 | h1
    · have := len_lt DA0 mb0 h1
      have := HLE.out
      omega
    · exact h1
  have HE : Hid (nv la - nv lb = (x + y).natAbs ∧ nv lb ≤ nv la) := by
    have h1 := HLE.out
    have h2 := HXY.out
    have h3 := hU.out
    show _ ∧ _
    omega
  have HSG : Hid (x + y ≠ 0 → sgn X = sgn (x + y)) := fun h => by
    have h1 := HLE.out
    have h2 := HXY.out
    have h3 := hU.out
    exact sgn_congr (by omega) (by omega)
  have DA : Hid (Dg la) := DA0
  have DB : Hid (Dg lb) := DB0
  have RA : Hid (Row b la wc) := RA0
  have RB' : Hid (Row b' lb wc) := RB0
  clear DA0 DB0 RA0 RB0 ma0 mb0 va0 vb0 HLE HXY hU
  go_wp2
  go_loopw [8, 9, 10] (fun v cv iv wr => ∃ (l : List Nat) (br : Nat) (ao : Option Addr) (co : Nat), l.length ≤ la.length ∧ br ≤ 1 ∧ iv = .int .i64 l.length ∧ cv = .int .i64 br ∧ v = .slice ao l.length co ∧ l.length ≤ co ∧ co ≤ 9223372036854775807 ∧
      Hid (nv l + nv (lb.take l.length) + 65536 ^ l.length * br = nv (la.take l.length) + 65536 ^ l.length * br + 65536 ^ l.length * br) ∧ Hid (Dg l) ∧ Hid (Told l v wc wr)) (fun _ _ i _ => la.length - (intOf i).toNat)
  case atStart => exact ⟨[], 0, none, 0, by simp, by omega, rfl, rfl, rfl, by simp, by omega, by simp [Hid, nv], Dg.nil, Below.refl _ _, World.ownsRow_nil _ _ _ _⟩
  case round =>
    obtain ⟨l, br, ao, co, hlm, hbr, rfl, rfl, rfl, hco, hco', hinv, hdg, ht⟩ := hrel
    have P := P0.out.onward ht.out.below
    obtain ⟨x0, x1, _, _, _⟩ := P.bp
    obtain ⟨y0, y1, _, _, _⟩ := P.bq
    by_cases h1 : l.length < la.length
    · have ra := RA.out.below ht.out.below
      have rb := RB'.out.below ht.out.below
      have b1 := DA.out.at_ l.length
      have b2 := DB.out.at_ l.length
      have HB : Hid (lb.length ≤ l.length → gd lb l.length = 0) := fun h => getD_ge h
      have HST : Hid (∀ d bb : Nat, d + gd lb l.length + br = gd la l.length + 65536 * bb → nv (l ++ [d]) + nv (lb.take (l.length + 1)) + 65536 ^ (l.length + 1) * bb = nv (la.take (l.length + 1)) + 65536 ^ (l.length + 1) * bb + 65536 ^ (l.length + 1) * bb) := fun d bb h => minus_step la lb l br d bb hinv.out h
      obtain ⟨A, rfl, xa, _⟩ := ra.at_ l.length h1
      clear hinv P ra
      by_cases h2 : l.length < lb.length
      · obtain ⟨B, rfl, xb, _⟩ := rb.at_ l.length h2
        clear HB
        generalize gd la l.length = da at *
        generalize gd lb l.length = db at *
        by_cases h3 : da < br + db
        · have hst : Hid _ := HST.out (da + 65536 - br - db) 1 (by omega)
          have hln : (l ++ [da + 65536 - br - db]).length = l.length + 1 := by simp
          have hdg' : Hid (Dg (l ++ [da + 65536 - br - db])) := hdg.out.snoc (by omega)
          clear hdg HST rb
          go_wp2_with (at_builtin; refine app_told rfl _ _ rfl l _ _ wr ht.out rfl (da + 65536 - br - db) _ (by omega) rfl (by omega) ?_; intro a3 c3 w3 ht3 hc3 hc3')
          generalize hl' : l ++ [da + 65536 - br - db] = l' at *
          go_roundw
          case rel => exact ⟨l', 1, a3, c3, by omega, by omega, by rw [hln]; go_num, by go_num, by rw [hln], by omega, hc3', by rw [← hln] at hst; exact hst, hdg', ht3⟩
          case measure => simp [intOf]; omega
        · have hst : Hid _ := HST.out (da - br - db) 0 (by omega)
          have hln : (l ++ [da - br - db]).length = l.length + 1 := by simp
          have hdg' : Hid (Dg (l ++ [da - br - db])) := hdg.out.snoc (by omega)
          clear hdg HST rb
          go_wp2_with (at_builtin; refine app_told rfl _ _ rfl l _ _ wr ht.out rfl (da - br - db) _ (by omega) rfl (by omega) ?_; intro a3 c3 w3 ht3 hc3 hc3')
          generalize hl' : l ++ [da - br - db] = l' at *
          go_roundw
          case rel => exact ⟨l', 0, a3, c3, by omega, by omega, by rw [hln]; go_num, by go_num, by rw [hln], by omega, hc3', by rw [← hln] at hst; exact hst, hdg', ht3⟩
          case measure => simp [intOf]; omega
      · have e2 := HB.out (by omega)
        rw [e2] at HST b2
        clear HB e2 b2
        generalize gd la l.length = da at *
        by_cases h3 : da < br
        · have hst : Hid _ := HST.out (da + 65536 - br) 1 (by omega)
          have hln : (l ++ [da + 65536 - br]).length = l.length + 1 := by simp
          have hdg' : Hid (Dg (l ++ [da + 65536 - br])) := hdg.out.snoc (by omega)
          clear hdg HST rb
          go_wp2_with (at_builtin; refine app_told rfl _ _ rfl l _ _ wr ht.out rfl (da + 65536 - br) _ (by omega) rfl (by omega) ?_; intro a3 c3 w3 ht3 hc3 hc3')
          generalize hl' : l ++ [da + 65536 - br] = l' at *
          go_roundw
          case rel => exact ⟨l', 1, a3, c3, by omega, by omega, by rw [hln]; go_num, by go_num, by rw [hln], by omega, hc3', by rw [← hln] at hst; exact hst, hdg', ht3⟩
          case measure => simp [intOf]; omega
        · have hst : Hid _ := HST.out (da - br) 0 (by omega)
          have hln : (l ++ [da - br]).length = l.length + 1 := by simp
          have hdg' : Hid (Dg (l ++ [da - br])) := hdg.out.snoc (by omega)
          clear hdg HST rb
          go_wp2_with (at_builtin; refine app_told rfl _ _ rfl l _ _ wr ht.out rfl (da - br) _ (by omega) rfl (by omega) ?_; intro a3 c3 w3 ht3 hc3 hc3')
          generalize hl' : l ++ [da - br] = l' at *
          go_roundw
          case rel => exact ⟨l', 0, a3, c3, by omega, by omega, by rw [hln]; go_num, by go_num, by rw [hln], by omega, hc3', by rw [← hln] at hst; exact hst, hdg', ht3⟩
          case measure => simp [intOf]; omega
    · have hll : l.length = la.length := by omega
      have TR := trim_any (sgn X) (x + y) ao l co wr hco hco' ht.out.row hdg.out (by rw [minus_end la lb l br hll hlab hdg.out HE.out.2 hinv.out]; exact HE.out.1) HSG.out
      obtain ⟨r0, r1, rf0, rf1, rt⟩ := P.br
      have lr := P.br.lt
      have hW := P.below
      clear hinv hdg P hll
      go_wp2_with (go_at_call 74; (with_reducible refine TR.mono ?_); rintro e w2 ⟨⟨a4, n4, c4, rfl, hI⟩, hN⟩; obtain ⟨hc, hf⟩ := bcell hN)
      exact bodyPost_ret (v := .agg #[.int .i64 (sgn (x + y)), .slice a4 n4 c4]) (by simp [results, Tryd.results76, go_sem, hc, r0, r1, lr]) rfl ⟨⟨_, _, _, rfl, hI.put2 ((bty_below hN lr).trans rt) _ _⟩, ((btr hW hN).setCell (by simp; omega) _).setCell (by simp; omega) _⟩
/-- The sum. -/
theorem rplus_any (x y : Int) (a : Option Addr) (n c : Nat) (a' : Option Addr) (n' c' : Nat) (w : World) (hx : II w a n c x) (hy : II w a' n' c' y) (hn : n ≤ 100) (hn' : n' ≤ 100) :
    Calls Tryd.prog 76 #[.agg #[.int .i64 (sgn x), .slice a n c], .agg #[.int .i64 (sgn y), .slice a' n' c']] w fun e w' => IRet (x + y) e w' ∧ Below w.heap.size w w' := by
  by_cases h0 : x = 0
  · subst h0
    rw [Int.zero_add]
    exact plus_nought1 y a n c a' n' c' w hy
  · by_cases h1 : y = 0
    · subst h1
      rw [Int.add_zero]
      exact plus_nought2 x a n c a' n' c' w hx h0
    · by_cases hs : sgn x = sgn y
      · exact plus_same x y a n c a' n' c' w hx hy hn hn' h0 hs
      · exact plus_diff x y a n c a' n' c' w hx hy hn hn' h0 h1 hs
end Go.Proofs.YtcfmhkhfmcmkbaaDoor
namespace Go.Proofs.YtcfmhkhfmcmkbaaDoor
open Go.RowKit Go.Sort

theorem inside_any (n : Int) (w : World) : Calls Tryd.prog 53 #[.int .i64 n] w fun e w' => e = .returned (.bool (inP n)) ∧ w' = w := by
  by_cases h1 : -9007199254740991 ≤ n
  · by_cases h2 : n ≤ 9007199254740991
    · rw [(inP_iff n).2 ⟨h1, h2⟩]
      go_enter Tryd.func53, Tryd.ntmps53
      go_wp2
      go_ret
      exact ⟨rfl, rfl⟩
    · rw [(inP_no n).2 (by omega)]
      go_enter Tryd.func53, Tryd.ntmps53
      go_wp2
      go_ret
      exact ⟨rfl, rfl⟩
  · rw [(inP_no n).2 (by omega)]
    go_enter Tryd.func53, Tryd.ntmps53
    go_wp2
    go_ret
    exact ⟨rfl, rfl⟩
theorem tm2 (n : Int) : (n.tmod 2 == 0) = decide (n % 2 = 0) := by
  have : n.tmod 2 = 0 ↔ n % 2 = 0 := by
    rw [Int.tmod_eq_emod]
    split <;> omega
  rw [Bool.eq_iff_iff]; simp [this]
def RWay (_ _ k : Int) (b1 b2 t1 t2 : Bool) (r : Int) : Prop :=
  ((r = 2) ∧ (b1 = false)) ∨
  ((r = 2) ∧ (b1 = true) ∧ (b2 = false)) ∨
  ((r = 2) ∧ (b1 = true) ∧ (b2 = true) ∧ (k < 0)) ∨
  ((r = 2) ∧ (b1 = true) ∧ (b2 = true) ∧ (¬ k < 0) ∧ (60 < k)) ∨
  ((r = 0) ∧ (b1 = true) ∧ (b2 = true) ∧ (¬ k < 0) ∧ (¬ 60 < k) ∧ (¬ 0 < k)) ∨
  ((r = 0) ∧ (b1 = true) ∧ (b2 = true) ∧ (¬ k < 0) ∧ (¬ 60 < k) ∧ (0 < k) ∧ (t1 = false)) ∨
  ((r = 0) ∧ (b1 = true) ∧ (b2 = true) ∧ (¬ k < 0) ∧ (¬ 60 < k) ∧ (0 < k) ∧ (t1 = true) ∧ (t2 = false)) ∨
  ((r = 2) ∧ (b1 = true) ∧ (b2 = true) ∧ (¬ k < 0) ∧ (¬ 60 < k) ∧ (0 < k) ∧ (t1 = true) ∧ (t2 = true))
theorem RWay.a {p q k : Int} {b1 b2 t1 t2 : Bool} (h : b1 = false) : RWay p q k b1 b2 t1 t2 2 := .inl ⟨rfl, h⟩
theorem RWay.b {p q k : Int} {b1 b2 t1 t2 : Bool} (h : b1 = true) (g : b2 = false) : RWay p q k b1 b2 t1 t2 2 := .inr (.inl ⟨rfl, h, g⟩)
theorem RWay.c {p q k : Int} {b1 b2 t1 t2 : Bool} (h : b1 = true) (g : b2 = true) (hk : k < 0) : RWay p q k b1 b2 t1 t2 2 := .inr (.inr (.inl ⟨rfl, h, g, hk⟩))
theorem RWay.d {p q k : Int} {b1 b2 t1 t2 : Bool} (h : b1 = true) (g : b2 = true) (hk : ¬ k < 0) (hl : 60 < k) : RWay p q k b1 b2 t1 t2 2 := .inr (.inr (.inr (.inl ⟨rfl, h, g, hk, hl⟩)))
theorem RWay.e {p q k : Int} {b1 b2 t1 t2 : Bool} (h : b1 = true) (g : b2 = true) (hk : ¬ k < 0) (hl : ¬ 60 < k) (hz : ¬ 0 < k) : RWay p q k b1 b2 t1 t2 0 := .inr (.inr (.inr (.inr (.inl ⟨rfl, h, g, hk, hl, hz⟩))))
theorem RWay.f {p q k : Int} {b1 b2 t1 t2 : Bool} (h : b1 = true) (g : b2 = true) (hk : ¬ k < 0) (hl : ¬ 60 < k) (hz : 0 < k) (o1 : t1 = false) : RWay p q k b1 b2 t1 t2 0 := .inr (.inr (.inr (.inr (.inr (.inl ⟨rfl, h, g, hk, hl, hz, o1⟩)))))
theorem RWay.g {p q k : Int} {b1 b2 t1 t2 : Bool} (h : b1 = true) (g : b2 = true) (hk : ¬ k < 0) (hl : ¬ 60 < k) (hz : 0 < k) (o1 : t1 = true) (o2 : t2 = false) : RWay p q k b1 b2 t1 t2 0 := .inr (.inr (.inr (.inr (.inr (.inr (.inl ⟨rfl, h, g, hk, hl, hz, o1, o2⟩))))))
theorem RWay.i {p q k : Int} {b1 b2 t1 t2 : Bool} (h : b1 = true) (g : b2 = true) (hk : ¬ k < 0) (hl : ¬ 60 < k) (hz : 0 < k) (o1 : t1 = true) (o2 : t2 = true) : RWay p q k b1 b2 t1 t2 2 := .inr (.inr (.inr (.inr (.inr (.inr (.inr (⟨rfl, h, g, hk, hl, hz, o1, o2⟩)))))))
set_option maxHeartbeats 2000000 in
theorem rcheck_core (p q k : Int) (b1 b2 t1 t2 : Bool) (r : Int) (w : World) (HP : ∀ w, Calls Tryd.prog 53 #[.int .i64 p] w fun e w' => e = .returned (.bool b1) ∧ w' = w) (HQ : ∀ w, Calls Tryd.prog 53 #[.int .i64 q] w fun e w' => e = .returned (.bool b2) ∧ w' = w)
    (e1 : (p.tmod 2 == 0) = t1) (e2 : (q.tmod 2 == 0) = t2) (h : RWay p q k b1 b2 t1 t2 r) :
    Calls Tryd.prog 32 #[.agg #[.int .i64 p, .int .i64 q, .int .i64 k]] w fun e w' => e = .returned (.int .i64 r) ∧ Below w.heap.size w w' := by
  rcases h with ⟨rfl, h⟩ | ⟨rfl, h, g⟩ | ⟨rfl, h, g, hk⟩ | ⟨rfl, h, g, hk, hl⟩ | ⟨rfl, h, g, hk, hl, hz⟩ | ⟨rfl, h, g, hk, hl, hz, o1⟩ | ⟨rfl, h, g, hk, hl, hz, o1, o2⟩ | ⟨rfl, h, g, hk, hl, hz, o1, o2⟩
  all_goals
    subst_vars
    go_enter Tryd.func32, Tryd.ntmps32
    go_wp2_with (first
      | (go_at_call 53; (with_reducible refine (HP _).mono ?_); rintro e w1 ⟨rfl, rfl⟩)
      | (go_at_call 53; (with_reducible refine (HQ _).mono ?_); rintro e w1 ⟨rfl, rfl⟩))
    go_ret
    exact ⟨rfl, bal (Below.refl _ _) _⟩
theorem rcheck_yes (p q k : Int) (w : World) (h : isRoot p q k) : Calls Tryd.prog 32 #[.agg #[.int .i64 p, .int .i64 q, .int .i64 k]] w fun e w' => e = .returned (.int .i64 0) ∧ Below w.heap.size w w' := by
  obtain ⟨hp, hq, ⟨hk0, hk1⟩, ho⟩ := h
  refine rcheck_core p q k _ _ _ _ 0 w (fun w => inside_any p w) (fun w => inside_any q w) (tm2 p) (tm2 q) ?_
  have P1 := (inP_iff p).2 hp
  have Q1 := (inP_iff q).2 hq
  by_cases h0 : 0 < k
  · by_cases h1 : p % 2 = 0
    · exact .g P1 Q1 (by omega) (by omega) h0 (by simpa using h1) (by simp; omega)
    · exact .f P1 Q1 (by omega) (by omega) h0 (by simpa using h1)
  · exact .e P1 Q1 (by omega) (by omega) h0
theorem rcheck_no (p q k : Int) (w : World) (h : ¬ isRoot p q k) : Calls Tryd.prog 32 #[.agg #[.int .i64 p, .int .i64 q, .int .i64 k]] w fun e w' => e = .returned (.int .i64 2) ∧ Below w.heap.size w w' := by
  refine rcheck_core p q k _ _ _ _ 2 w (fun w => inside_any p w) (fun w => inside_any q w) (tm2 p) (tm2 q) ?_
  cases hp : inP p
  · exact .a rfl
  · cases hq : inP q
    · exact .b rfl rfl
    · rw [inP_iff] at hp hq
      by_cases h1 : k < 0
      · exact .c rfl rfl h1
      · by_cases h2 : 60 < k
        · exact .d rfl rfl h1 h2
        · have h3 : 0 < k ∧ p % 2 = 0 ∧ q % 2 = 0 := by
            unfold isRoot at h
            omega
          exact .i rfl rfl h1 h2 h3.1 (by simpa using h3.2.1) (by simpa using h3.2.2)
end Go.Proofs.YtcfmhkhfmcmkbaaDoor
namespace Go.Proofs.YtcfmhkhfmcmkbaaDoor
open Go.RowKit Go.Sort

theorem greater_any (a b : Int) (w : World) : Calls Tryd.prog 57 #[.int .i64 a, .int .i64 b] w fun e w' => e = .returned (.int .i64 (max a b)) ∧ w' = w := by
  by_cases h : b < a
  · rw [Int.max_eq_left (by omega)]
    go_enter Tryd.func57, Tryd.ntmps57
    go_wp2
    go_ret
    exact ⟨rfl, rfl⟩
  · rw [Int.max_eq_right (by omega)]
    go_enter Tryd.func57, Tryd.ntmps57
    go_wp2
    go_ret
    exact ⟨rfl, rfl⟩
theorem bad_no (a1 a2 a3 b1 b2 b3 : Int) (w : World) (ha : isRoot a1 a2 a3) (hb : isRoot b1 b2 b3) :
    Calls Tryd.prog 56 #[.agg #[.int .i64 a1, .int .i64 a2, .int .i64 a3], .agg #[.int .i64 b1, .int .i64 b2, .int .i64 b3]] w fun e w' => e = .returned (.bool false) ∧ Below w.heap.size w w' := by
  have C1 := fun w => rcheck_yes a1 a2 a3 w ha
  have C2 := fun w => rcheck_yes b1 b2 b3 w hb
  clear ha hb
  go_enter Tryd.func56, Tryd.ntmps56
  go_wp2_with (first
    | (go_at_call 32; (with_reducible refine (C1 _).mono ?_); rintro e w1 ⟨rfl, hN⟩; (first | (replace hB := btr hB hN) | (have hB := hN)); obtain ⟨hc, hf⟩ := bcell hB)
    | (go_at_call 32; (with_reducible refine (C2 _).mono ?_); rintro e w1 ⟨rfl, hN⟩; replace hB := btr hB hN; obtain ⟨hc, hf⟩ := bcell hB))
  go_ret
  exact ⟨rfl, btr (bal (bal (Below.refl _ _) _) _) hB⟩
theorem bad_yes1 (a1 a2 a3 b1 b2 b3 : Int) (w : World) (ha : ¬ isRoot a1 a2 a3) :
    Calls Tryd.prog 56 #[.agg #[.int .i64 a1, .int .i64 a2, .int .i64 a3], .agg #[.int .i64 b1, .int .i64 b2, .int .i64 b3]] w fun e w' => e = .returned (.bool true) ∧ Below w.heap.size w w' := by
  have C1 := fun w => rcheck_no a1 a2 a3 w ha
  clear ha
  go_enter Tryd.func56, Tryd.ntmps56
  go_wp2_with (first
    | (go_at_call 32; (with_reducible refine (C1 _).mono ?_); rintro e w1 ⟨rfl, hN⟩; (first | (replace hB := btr hB hN) | (have hB := hN)); obtain ⟨hc, hf⟩ := bcell hB))
  go_ret
  exact ⟨rfl, btr (bal (bal (Below.refl _ _) _) _) hB⟩
theorem bad_yes2 (a1 a2 a3 b1 b2 b3 : Int) (w : World) (ha : isRoot a1 a2 a3) (hb : ¬ isRoot b1 b2 b3) :
    Calls Tryd.prog 56 #[.agg #[.int .i64 a1, .int .i64 a2, .int .i64 a3], .agg #[.int .i64 b1, .int .i64 b2, .int .i64 b3]] w fun e w' => e = .returned (.bool true) ∧ Below w.heap.size w w' := by
  have C1 := fun w => rcheck_yes a1 a2 a3 w ha
  have C2 := fun w => rcheck_no b1 b2 b3 w hb
  clear ha hb
  go_enter Tryd.func56, Tryd.ntmps56
  go_wp2_with (first
    | (go_at_call 32; (with_reducible refine (C1 _).mono ?_); rintro e w1 ⟨rfl, hN⟩; (first | (replace hB := btr hB hN) | (have hB := hN)); obtain ⟨hc, hf⟩ := bcell hB)
    | (go_at_call 32; (with_reducible refine (C2 _).mono ?_); rintro e w1 ⟨rfl, hN⟩; replace hB := btr hB hN; obtain ⟨hc, hf⟩ := bcell hB))
  go_ret
  exact ⟨rfl, btr (bal (bal (Below.refl _ _) _) _) hB⟩
theorem bad_yes (a1 a2 a3 b1 b2 b3 : Int) (w : World) (h : ¬ (isRoot a1 a2 a3 ∧ isRoot b1 b2 b3)) :
    Calls Tryd.prog 56 #[.agg #[.int .i64 a1, .int .i64 a2, .int .i64 a3], .agg #[.int .i64 b1, .int .i64 b2, .int .i64 b3]] w fun e w' => e = .returned (.bool true) ∧ Below w.heap.size w w' := by
  by_cases ha : isRoot a1 a2 a3
  · exact bad_yes2 a1 a2 a3 b1 b2 b3 w ha (fun hb => h ⟨ha, hb⟩)
  · exact bad_yes1 a1 a2 a3 b1 b2 b3 w ha
set_option maxHeartbeats 1000000 in
theorem minus_any (x y : Int) (a : Option Addr) (n c : Nat) (a' : Option Addr) (n' c' : Nat) (w : World) (hx : II w a n c x) (hy : II w a' n' c' y) (hn : n ≤ 100) (hb : y.natAbs < 65536 ^ 100) :
    Calls Tryd.prog 59 #[.agg #[.int .i64 (sgn x), .slice a n c], .agg #[.int .i64 (sgn y), .slice a' n' c']] w fun e w' => IRet (x - y) e w' ∧ Below w.heap.size w w' := by
  have P0 : Hid _ := PlS.start hx hy
  obtain ⟨s, HS⟩ : ∃ s, Hid (s = sgn x) := ⟨_, rfl⟩
  obtain ⟨t, HT⟩ : ∃ t, Hid (t = sgn y) := ⟨_, rfl⟩
  rw [← HS.out, ← HT.out] at P0 ⊢
  clear hx hy
  go_enter Tryd.func59, Tryd.ntmps59
  go_upto_region 1 with (fail)
  obtain ⟨W0, hW0⟩ : ∃ W0, W0 = (((w.alloc (.cells #[.int .i64 s, .slice a n c] 101)).alloc (.cells #[.int .i64 t, .slice a' n' c'] 101)).alloc (.cells #[.int .i64 0, .slice none 0 0] 101)) := ⟨_, rfl⟩
  rw [← hW0] at P0 ⊢
  clear hW0
  obtain ⟨x0, x1, _, _, _⟩ := P0.out.bp
  obtain ⟨y0, y1, _, _, _⟩ := P0.out.bq
  obtain ⟨r0, r1, rf0, rf1, rt⟩ := P0.out.br
  have l0 := P0.out.bp.lt
  have l1 := P0.out.bq.lt
  have lr := P0.out.br.lt
  have hW := P0.out.below
  have HN := fun V (h : Below W0.heap.size W0 V) => neg_any y a' n' c' V (P0.out.iq.below h)
  have HP : ∀ V, Below W0.heap.size W0 V → ∀ a4 n4 c4, II V a4 n4 c4 (-y) → Calls Tryd.prog 76 #[.agg #[.int .i64 (sgn x), .slice a n c], .agg #[.int .i64 (sgn (-y)), .slice a4 n4 c4]] V fun e w' => IRet (x + -y) e w' ∧ Below V.heap.size V w' :=
    fun V h a4 n4 c4 h4 => rplus_any x (-y) a n c a4 n4 c4 V (P0.out.ip.below h) h4 hn (h4.len (by rw [Int.natAbs_neg]; exact hb))
  have hZ := Below.refl W0.heap.size W0
  rw [← Int.sub_eq_add_neg] at HP
  rw [← HS.out] at HP x0
  rw [← HT.out] at HN y0
  clear P0
  go_region_with (first
    | (go_at_call 77; (with_reducible refine (HN _ (below_drew hZ)).mono ?_); rintro e w2 ⟨⟨a4, n4, c4, rfl, hI4⟩, hN⟩; have hK := btr (below_drew hZ) hN; obtain ⟨hc, hf⟩ := bcell hK)
    | (go_at_call 76; (with_reducible refine (HP _ hK _ _ _ hI4).mono ?_); rintro e w3 ⟨⟨a5, n5, c5, rfl, hI5⟩, hN⟩; have hK := btr hK hN; obtain ⟨hc, hf⟩ := bcell hK))
  all_goals go_wp2
  all_goals exact bodyPost_ret (v := .agg #[.int .i64 (sgn (x - y)), .slice a5 n5 c5]) (by simp [results, Tryd.results59, go_sem, hc, r0, r1, lr]) rfl ⟨⟨_, _, _, rfl, hI5.put2 ((bty_below hK lr).trans rt) _ _⟩, ((btr hW hK).setCell (by simp; omega) _).setCell (by simp; omega) _⟩
end Go.Proofs.YtcfmhkhfmcmkbaaDoor
namespace Go.Proofs.YtcfmhkhfmcmkbaaDoor
open Go.RowKit Go.Sort

theorem OneS.onward {w W V : World} {p q : Int} {a : Option Addr} {n c : Nat} {a' : Option Addr} {n' c' : Nat} (h : OneS w W p q a n c a' n' c') (hb : Below W.heap.size W V) : OneS w V p q a n c a' n' c' :=
  ⟨btr h.below hb, h.bp.below hb, h.bq.below hb, h.rc.below hb, h.ip.below hb, h.iq.below hb⟩
theorem OneS.start {w : World} {p q : Int} {a : Option Addr} {n c : Nat} {a' : Option Addr} {n' c' : Nat} (hp : II w a n c p) (hq : II w a' n' c' q) :
    OneS w (((w.alloc (.cells #[.int .i64 (sgn p), .slice a n c] 101)).alloc (.cells #[.int .i64 (sgn q), .slice a' n' c'] 101)).alloc (.cells #[.int .i64 0, .int .i64 0, .int .i64 0] 24)) p q a n c a' n' c' := by
  have b3 : Below w.heap.size w (((w.alloc (.cells #[.int .i64 (sgn p), .slice a n c] 101)).alloc (.cells #[.int .i64 (sgn q), .slice a' n' c'] 101)).alloc (.cells #[.int .i64 0, .int .i64 0, .int .i64 0] 24)) := bal (bal (bal (Below.refl _ _) _) _) _
  refine ⟨b3, ((Bx.new w _ _ _ _).alloc _).alloc _, ?_, ?_, hp.below b3, hq.below b3⟩
  · have := (Bx.new (w.alloc (.cells #[.int .i64 (sgn p), .slice a n c] 101)) (sgn q) a' n' c').alloc (.cells #[.int .i64 0, .int .i64 0, .int .i64 0] 24)
    simpa using this
  · have := Rc.new ((w.alloc (.cells #[.int .i64 (sgn p), .slice a n c] 101)).alloc (.cells #[.int .i64 (sgn q), .slice a' n' c'] 101))
    simpa using this
/-- What part tells. -/
theorem part_any (z : Int) (a : Option Addr) (n c : Nat) (w : World) (h : II w a n c z) :
    Calls Tryd.prog 80 #[.agg #[.int .i64 (sgn z), .slice a n c]] w fun e w' => e = .returned (.tuple #[.int .i64 (if inP z = true then z else 0), .bool (inP z)]) ∧ Below w.heap.size w w' := by
  cases hz : inP z
  · exact part_no z a n c w h (by have := (inP_no z).1 hz; omega)
  · exact part_yes z a n c w h ((inP_iff z).1 hz)
theorem sgn_z (z : Int) : (sgn z == 0) = decide (z = 0) := by
  unfold sgn
  by_cases h : z < 0
  · rw [if_pos h]; have : ¬ z = 0 := by omega
    simp [this]
  · rw [if_neg h]
    by_cases h2 : z = 0 <;> simp [h2]
theorem keepC {W V : World} {B B' : Nat} {s s' : Int} {a a' : Option Addr} {n c n' c' : Nat} (c0 : W.cell? ⟨B, 0, none⟩ = some (.int .i64 s)) (c1 : W.cell? ⟨B, 1, none⟩ = some (.slice a n c)) (c2 : W.cell? ⟨B', 0, none⟩ = some (.int .i64 s')) (c3 : W.cell? ⟨B', 1, none⟩ = some (.slice a' n' c')) (h : Below W.heap.size W V) :
    Below W.heap.size W V ∧ V.cell? ⟨B, 0, none⟩ = some (.int .i64 s) ∧ V.cell? ⟨B, 1, none⟩ = some (.slice a n c) ∧ V.cell? ⟨B', 0, none⟩ = some (.int .i64 s') ∧ V.cell? ⟨B', 1, none⟩ = some (.slice a' n' c') := by
  obtain ⟨hc, _⟩ := bcell h
  have l1 := block_lt_of_cell c0
  have l2 := block_lt_of_cell c2
  exact ⟨h, (hc _ _ l1).trans c0, (hc _ _ l1).trans c1, (hc _ _ l2).trans c2, (hc _ _ l2).trans c3⟩
set_option maxHeartbeats 4000000 in
theorem rone_any (p q : Int) (k : Nat) (a : Option Addr) (n c : Nat) (a' : Option Addr) (n' c' : Nat) (w : World) (hp : II w a n c p) (hq : II w a' n' c' q) (hk : k ≤ 1000) (bp : p.natAbs < 65536 ^ 50) (bq : q.natAbs < 65536 ^ 50) :
    Calls Tryd.prog 60 #[.agg #[.int .i64 (sgn p), .slice a n c], .agg #[.int .i64 (sgn q), .slice a' n' c'], .int .i64 k] w fun e w' => e = .returned (rtV (one p q k)) ∧ Below w.heap.size w w' := by
  have H0 : Hid _ := OneS.start hp hq
  have HB : Hid (p.natAbs < 65536 ^ 50 ∧ q.natAbs < 65536 ^ 50) := ⟨bp, bq⟩
  have e1 := sgn_z p
  have e2 := sgn_z q
  clear hp hq bp bq
  by_cases hz : p = 0 ∧ q = 0
  · obtain ⟨rfl, rfl⟩ := hz
    rw [show one 0 0 k = ⟨0, 0, 0, 0⟩ by unfold one; simp, show sgn 0 = 0 from rfl]
    clear e1 e2 H0 HB
    go_enter Tryd.func60, Tryd.ntmps60
    go_wp2
    exact bodyPost_ret (v := rtV ⟨0, 0, 0, 0⟩) (by simp [results, Tryd.results60, go_sem]) rfl ⟨rfl, bal (bal (bal (Below.refl _ _) _) _) _⟩
  · have HZ : Hid (¬ (p = 0 ∧ q = 0)) := hz
    have key : (sgn p == 0) = false ∨ ((sgn p == 0) = true ∧ (sgn q == 0) = false) := by rw [e1, e2]; simp; omega
    clear e1 e2 hz
    obtain ⟨s, HS⟩ : ∃ s, Hid (s = sgn p) := ⟨_, rfl⟩
    obtain ⟨t, HT⟩ : ∃ t, Hid (t = sgn q) := ⟨_, rfl⟩
    rw [← HS.out, ← HT.out] at key H0 ⊢
    obtain ⟨r, HRr⟩ : ∃ r, Hid (r = one p q k) := ⟨_, rfl⟩
    rw [← HRr.out]
    go_enter Tryd.func60, Tryd.ntmps60
    go_upto_region 1 with (fail)
    go_cut [19] from 12 to 19 (fun v W => v = Value.bool false ∧ Hid (OneS w W p q a n c a' n' c'))
    case first =>
      rcases key with k1 | ⟨k1, k2⟩
      all_goals
        go_wp2
        go_meet
        case rel => exact ⟨rfl, H0⟩
    case rest =>
      clear H0 key
      obtain ⟨rfl, H0⟩ := hcut
      go_wp2
      go_loopw [2] (fun v wr => ∃ (j : Nat) (P Q : Int) (b : Option Addr) (m d : Nat) (b' : Option Addr) (m' d' : Nat), j ≤ 1000 ∧ v = .int .i64 j ∧ Hid (OneS w wr P Q b m d b' m' d') ∧ Hid (P.natAbs < 65536 ^ 50 ∧ Q.natAbs < 65536 ^ 50) ∧ Hid (¬ (P = 0 ∧ Q = 0)) ∧ Hid (one P Q j = r)) (fun v _ => (intOf v).toNat)
      case atStart => exact ⟨k, p, q, a, n, c, a', n', c', hk, rfl, H0, HB, HZ, HRr.out.symm⟩
      case round =>
        clear H0 HB HZ HS HT HRr
        obtain ⟨j, P, Q, b, m, d, b', m', d', hj, rfl, hO, hbd, hnz, hone⟩ := hrel
        have EP : ∀ V, Below wr.heap.size wr V → Calls Tryd.prog 78 #[.agg #[.int .i64 (sgn P), .slice b m d]] V fun e w' => e = .returned (.bool (decide (P % 2 = 0))) ∧ Below V.heap.size V w' := fun V h => even_any _ P b m d V (hO.out.ip.below h)
        have EQ : ∀ V, Below wr.heap.size wr V → Calls Tryd.prog 78 #[.agg #[.int .i64 (sgn Q), .slice b' m' d']] V fun e w' => e = .returned (.bool (decide (Q % 2 = 0))) ∧ Below V.heap.size V w' := fun V h => even_any _ Q b' m' d' V (hO.out.iq.below h)
        have h0 := Below.refl wr.heap.size wr
        go_upto_region 3 with (fail)
        go_cut [30] from 21 to 36 (fun v W => v = Value.bool (decide (0 < j) && decide (P % 2 = 0) && decide (Q % 2 = 0)) ∧ Hid (OneS w W P Q b m d b' m' d'))
        case first =>
          obtain ⟨x0, x1, _, _, _⟩ := hO.out.bp
          obtain ⟨y0, y1, _, _, _⟩ := hO.out.bq
          by_cases hj0 : 0 < j
          · cases hP : decide (P % 2 = 0)
            · rw [hP] at EP
              go_wp2_with (go_at_call 78; (with_reducible refine (EP _ h0).mono ?_); rintro e w1 ⟨rfl, hN⟩; obtain ⟨hc, hf⟩ := bcell hN)
              go_meet
              case rel => exact ⟨by rw [hP]; simp, hO.out.onward hN⟩
            · rw [hP] at EP
              cases hQ : decide (Q % 2 = 0)
              all_goals
                rw [hQ] at EQ
                have lq := hO.out.bq.lt
                go_wp2_with (first
                  | (go_at_call 78; (with_reducible refine (EP _ h0).mono ?_); rintro e w1 ⟨rfl, hN⟩; obtain ⟨hc, hf⟩ := bcell hN)
                  | (go_at_call 78; (with_reducible refine (EQ _ hN).mono ?_); rintro e w2 ⟨rfl, hN2⟩; have hN3 := btr hN hN2))
                go_meet
                case rel => exact ⟨by rw [hP, hQ]; simp [hj0], hO.out.onward hN3⟩
          · go_wp2
            go_meet
            case rel => exact ⟨by simp [hj0], hO⟩
        obtain ⟨rfl, hO'⟩ := hcut
        clear hO EP EQ h0
        cases hb : (decide (0 < j) && decide (P % 2 = 0) && decide (Q % 2 = 0))
        case true =>
          obtain ⟨⟨hj0, hP⟩, hQ⟩ : (0 < j ∧ P % 2 = 0) ∧ Q % 2 = 0 := by simpa using hb
          have HP : ∀ V, Below wc.heap.size wc V → Calls Tryd.prog 79 #[.agg #[.int .i64 (sgn P), .slice b m d]] V fun e w' => IRet (P / 2) e w' ∧ Below V.heap.size V w' := fun V h => half_any P b m d V (hO'.out.ip.below h) (by have := hO'.out.ip.len hbd.out.1; omega) hP
          have HQ : ∀ V, Below wc.heap.size wc V → Calls Tryd.prog 79 #[.agg #[.int .i64 (sgn Q), .slice b' m' d']] V fun e w' => IRet (Q / 2) e w' ∧ Below V.heap.size V w' := fun V h => half_any Q b' m' d' V (hO'.out.iq.below h) (by have := hO'.out.iq.len hbd.out.2; omega) hQ
          clear hb
          obtain ⟨x0, x1, xf0, xf1, _⟩ := hO'.out.bp
          obtain ⟨y0, y1, yf0, yf1, _⟩ := hO'.out.bq
          generalize sgn P = sp at HP x0
          generalize sgn Q = sq at HQ y0
          go_upto_region 4 with (fail)
          have hZ := Below.refl wc.heap.size wc
          have l1 := hO'.out.bp.lt
          have l2 := hO'.out.bq.lt
          have n1 : ¬ w.heap.size = w.heap.size + 1 := by omega
          have hw : IntKind.i64.wrap ((j : Int) - 1) = ((j - 1 : Nat) : Int) := by rw [IntKind.wrap_i64]; omega
          go_region_with (first
            | (go_at_call 79; (with_reducible refine (HP _ (below_drew hZ)).mono ?_); rintro e w2 ⟨⟨ap, np, cp, rfl, hIp⟩, hN⟩; have hK := btr (below_drew hZ) hN; obtain ⟨hc, hf⟩ := bcell hK)
            | (go_at_call 79; (with_reducible refine (HQ _ hK).mono ?_); rintro e w3 ⟨⟨aq, nq, cq, rfl, hIq⟩, hN⟩; have hK := btr hK hN; replace hIp := hIp.below hN; obtain ⟨hc, hf⟩ := bcell hK))
          all_goals
            obtain ⟨i, rfl⟩ : ∃ i, j = i + 1 := ⟨j - 1, by omega⟩
            have HN : Hid _ := hO'.out.step hK hIp hIq
            have HO : Hid (one (P / 2) (Q / 2) i = r) := by show _ = _; rw [one_half hP hQ]; exact hone.out
            have HD : Hid ((P / 2).natAbs < 65536 ^ 50 ∧ (Q / 2).natAbs < 65536 ^ 50) := by have := hbd.out; show _ ∧ _; omega
            have HZ : Hid (¬ (P / 2 = 0 ∧ Q / 2 = 0)) := by have := hnz.out; show ¬ _; omega
            go_wp2
            go_roundw
            case rel =>
              repeat apply Exists.intro
              exact ⟨⟨i, P / 2, Q / 2, ap, np, cp, aq, nq, cq, by omega, by go_num, HN, HD, HZ, HO⟩, rfl⟩
            case measure => show (i : Int).toNat < ((i + 1 : Nat) : Int).toNat; omega
        case false =>
          have hns : ¬ (0 < j ∧ P % 2 = 0 ∧ Q % 2 = 0) := by simp at hb; omega
          have hst := one_stop hnz.out hns
          rw [hone.out] at hst
          have PP := fun V (h : Below wc.heap.size wc V) => part_any P b m d V (hO'.out.ip.below h)
          have PQ := fun V (h : Below wc.heap.size wc V) => part_any Q b' m' d' V (hO'.out.iq.below h)
          obtain ⟨x0, x1, _, _, _⟩ := hO'.out.bp
          obtain ⟨y0, y1, _, _, _⟩ := hO'.out.bq
          obtain ⟨r0, r1, r2, rf0, rf1, rf2⟩ := hO'.out.rc
          have lq := hO'.out.bq.lt
          have lr := hO'.out.rc.lt
          have hW := hO'.out.below
          have hZ := Below.refl wc.heap.size wc
          clear hb hns hone hnz hbd hO'
          generalize sgn P = sp at PP x0
          generalize sgn Q = sq at PQ y0
          cases hP : inP P
          all_goals cases hQ : inP Q
          all_goals by_cases hj6 : 60 < j
          all_goals
            rw [hP] at PP hst
            rw [hQ] at PQ hst
            simp only [if_true, Bool.false_eq_true, if_false, and_false, false_and, true_and] at PP PQ hst
            try rw [if_neg (by omega)] at hst
            try rw [if_pos (by omega)] at hst
            subst hst
            go_wp2_with (first
              | (go_at_call 80; (with_reducible refine (PP _ hZ).mono ?_); rintro e w2 ⟨rfl, hN⟩; have hK := btr hZ hN; obtain ⟨hc, hf⟩ := bcell hK)
              | (go_at_call 80; (with_reducible refine (PQ _ hK).mono ?_); rintro e w3 ⟨rfl, hN⟩; have hK := btr hK hN; obtain ⟨hc, hf⟩ := bcell hK))
            first
              | exact bodyPost_ret (v := rtV ⟨0, 0, 0, 3⟩) (by simp [results, Tryd.results60, go_sem, hc, r0, r1, r2, lr]) rfl ⟨rfl, (((btr hW hK).setCell (by simp; omega) _).setCell (by simp; omega) _).setCell (by simp; omega) _⟩
              | exact bodyPost_ret (v := rtV ⟨P, Q, (j : Int), 0⟩) (by simp [results, Tryd.results60, go_sem, hc, r0, r1, r2, lr]) rfl ⟨rfl, (((btr hW hK).setCell (by simp; omega) _).setCell (by simp; omega) _).setCell (by simp; omega) _⟩
end Go.Proofs.YtcfmhkhfmcmkbaaDoor
