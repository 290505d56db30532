/-
  The reference's Plus, of unlike signs; Plus; Minus.
-/
import Derived.Test.YtalaacfoaelipaaDoorQ2
namespace Go.Proofs.YtalaacfoaelipaaDoor
open Go.RowKit Go.Sort

theorem Bx.drewN {W : World} {B : Nat} {s : Int} {a : Option Addr} {n c : Nat} (h : Bx W B s a n c) (m : Nat) : Bx (W.drewN m) B s a n c := ⟨h.c0, h.c1, h.f0, h.f1, h.ty⟩
theorem II.drewN {W : World} {a : Option Addr} {n c : Nat} {z : Int} (h : II W a n c z) (m : Nat) : II (W.drewN m) a n c z := by
  obtain ⟨l, h1, h2, h3⟩ := h.ex
  exact ⟨l, h1, h2.drewN m, h3⟩
theorem PlS.drewN {w W : World} {x y : Int} {a : Option Addr} {n c : Nat} {a' : Option Addr} {n' c' : Nat} (h : PlS w W x y a n c a' n' c') (m : Nat) : PlS w (W.drewN m) x y a n c a' n' c' :=
  ⟨below_drewN h.below m, h.bp.drewN m, h.bq.drewN m, h.br.drewN m, h.ip.drewN m, h.iq.drewN m⟩
theorem PlS.swap {w W : World} {x y : Int} {a : Option Addr} {n c : Nat} {a' : Option Addr} {n' c' : Nat} (h : PlS w W x y a n c a' n' c') :
    PlS w (st2 (st2 W w.heap.size (sgn y) a' n' c') (w.heap.size + 1) (sgn x) a n c) y x a' n' c' a n c := by
  have bp2 := h.bp.put (sgn y) a' n' c'
  have bq2 := h.bq.far (R := w.heap.size) (by omega) (sgn y) a' n' c'
  exact ⟨below_st2 (below_st2 h.below (Nat.le_refl _) _ _ _ _) (by omega) _ _ _ _, bp2.far (by omega) _ _ _ _, bq2.put _ _ _ _, (h.br.far (by omega) _ _ _ _).far (by omega) _ _ _ _,
    (h.iq.st h.bp.ty _ _ _ _).st bq2.ty _ _ _ _, (h.ip.st h.bp.ty _ _ _ _).st bq2.ty _ _ _ _⟩
theorem unlike {x y : Int} (hs : sgn x ≠ sgn y) (hx : x ≠ 0) (hy : y ≠ 0) : (x < 0 ∧ 0 < y) ∨ (0 < x ∧ y < 0) := by
  rcases (show x < 0 ∨ 0 < x by omega) with h | h <;> rcases (show y < 0 ∨ 0 < y by omega) with g | g
  · exact absurd (sgn_congr (by omega) (by omega)) hs
  · exact Or.inl ⟨h, g⟩
  · exact Or.inr ⟨h, g⟩
  · exact absurd (sgn_congr (by omega) (by omega)) hs
set_option maxHeartbeats 4000000 in
theorem plus_diff (x y : Int) (a : Option Addr) (n c : Nat) (a' : Option Addr) (n' c' : Nat) (w : World) (hx : II w a n c x) (hy : II w a' n' c' y) (hn : n ≤ 100) (hn' : n' ≤ 100) (h0 : x ≠ 0) (h0' : y ≠ 0) (hs : sgn x ≠ sgn y) :
    Calls Tryd.prog 40 #[.agg #[.int .i64 (sgn x), .slice a n c], .agg #[.int .i64 (sgn y), .slice a' n' c']] w fun e w' => IRet (x + y) e w' ∧ Below w.heap.size w w' := by
  have P0 : Hid _ := PlS.start hx hy
  have hU : Hid _ := unlike hs h0 h0'
  have z1 := sgn_nz h0
  have z2 := sgn_nz h0'
  have SZ : ∀ W, PlS w W x y a n c a' n' c' → Calls Tryd.prog 65 #[.slice a n c, .slice a' n' c'] W fun e w' => e = .returned (.int .i64 (cmpN x.natAbs y.natAbs)) ∧ ∃ m, w' = W.drewN m := fun W h => size_any2 x y a n c a' n' c' W h.ip h.iq (by omega)
  have hcm : Hid ((cmpN x.natAbs y.natAbs < 0 ∧ x.natAbs < y.natAbs) ∨ (¬ cmpN x.natAbs y.natAbs < 0 ∧ y.natAbs ≤ x.natAbs)) := by
    show _ ∨ _
    unfold cmpN; split <;> (try split) <;> omega
  clear hx hy h0 h0'
  obtain ⟨s, HS⟩ : ∃ s, Hid (s = sgn x) := ⟨_, rfl⟩
  obtain ⟨t, HT⟩ : ∃ t, Hid (t = sgn y) := ⟨_, rfl⟩
  obtain ⟨C, HC⟩ : ∃ C, Hid (C = cmpN x.natAbs y.natAbs) := ⟨_, rfl⟩
  rw [← HC.out] at SZ hcm
  rw [← HS.out, ← HT.out] at hs P0 ⊢
  rw [← HS.out] at z1
  rw [← HT.out] at z2
  have e1 : (s == 0) = false := by simpa using z1
  have e2 : (t == 0) = false := by simpa using z2
  have e3 : (s == t) = false := by simpa using hs
  clear z1 z2 hs
  go_enter Tryd.func40, Tryd.ntmps40
  go_upto_if 83 with (first
    | (go_at_call 65; (refine (SZ _ P0.out).mono ?_); rintro e w2 ⟨rfl, m, rfl⟩))
  replace P0 : Hid _ := P0.out.drewN m
  clear e1 e2 e3 SZ
  obtain ⟨W1, hW1⟩ : ∃ W1, W1 = World.drewN (((w.alloc (.cells #[.int .i64 s, .slice a n c] 60)).alloc (.cells #[.int .i64 t, .slice a' n' c'] 60)).alloc (.cells #[.int .i64 0, .slice none 0 0] 60)) m := ⟨_, rfl⟩
  rw [← hW1] at P0 ⊢
  clear hW1
  go_cut [84] from 78 to 85 (fun _ W => ∃ (X Y : Int) (b : Option Addr) (k d : Nat) (b' : Option Addr) (k' d' : Nat), Hid (PlS w W X Y b k d b' k' d') ∧ Hid (Y.natAbs ≤ X.natAbs) ∧ Hid (X + Y = x + y) ∧ k ≤ 100 ∧ k' ≤ 100 ∧ Hid ((X < 0 ∧ 0 < Y) ∨ (0 < X ∧ Y < 0)))
  case first =>
    obtain ⟨x0, x1, xf0, xf1, _⟩ := P0.out.bp
    obtain ⟨y0, y1, yf0, yf1, _⟩ := P0.out.bq
    have n1 : ¬ w.heap.size = w.heap.size + 1 := by omega
    rcases hcm.out with ⟨hlt, hle⟩ | ⟨hge, hle⟩
    · have PS : Hid _ := P0.out.swap
      have HLE : Hid (x.natAbs ≤ y.natAbs) := by show _ ≤ _; omega
      have HXY : Hid (y + x = x + y) := Int.add_comm _ _
      have HU : Hid ((y < 0 ∧ 0 < x) ∨ (0 < y ∧ x < 0)) := by have := hU.out; show _ ∨ _; omega
      clear hle hcm hU
      go_wp2
      go_meet
      case rel => exact ⟨y, x, a', n', c', a, n, c, PS, HLE, HXY, hn', hn, HU⟩
    · have HLE : Hid (y.natAbs ≤ x.natAbs) := hle
      clear hle hcm
      go_wp2
      go_meet
      case rel => exact ⟨x, y, a, n, c, a', n', c', P0, HLE, rfl, hn, hn', hU⟩
  clear P0 hU hcm HC HS HT hn hn'
  obtain ⟨X, Y, b, k, d, b', k', d', P0, HLE, HXY, hk, hk', hU⟩ := hcut
  obtain ⟨la, hla, RA0, DA0, ma0, va0, _, _⟩ := P0.out.ip.ex
  obtain ⟨lb, hlb, RB0, DB0, mb0, vb0, _, _⟩ := P0.out.iq.ex
  subst hla hlb
  have hlab : lb.length ≤ la.length := by
    rcases Nat.lt_or_ge la.length lb.length with h1 | h1
    · have := len_lt DA0 mb0 h1
      have := HLE.out
      omega
    · exact h1
  have HE : Hid (nv la - nv lb = (x + y).natAbs ∧ nv lb ≤ nv la) := by
    have h1 := HLE.out
    have h2 := HXY.out
    have h3 := hU.out
    show _ ∧ _
    omega
  have HSG : Hid (x + y ≠ 0 → sgn X = sgn (x + y)) := fun h => by
    have h1 := HLE.out
    have h2 := HXY.out
    have h3 := hU.out
    exact sgn_congr (by omega) (by omega)
  have DA : Hid (Dg la) := DA0
  have DB : Hid (Dg lb) := DB0
  have RA : Hid (Row b la wc) := RA0
  have RB' : Hid (Row b' lb wc) := RB0
  clear DA0 DB0 RA0 RB0 ma0 mb0 va0 vb0 HLE HXY hU
  go_wp2
  go_loopw [8, 9, 10] (fun v cv iv wr => ∃ (l : List Nat) (br : Nat) (ao : Option Addr) (co : Nat), l.length ≤ la.length ∧ br ≤ 1 ∧ iv = .int .i64 l.length ∧ cv = .int .i64 br ∧ v = .slice ao l.length co ∧ l.length ≤ co ∧ co ≤ 9223372036854775807 ∧
      Hid (nv l + nv (lb.take l.length) + 65536 ^ l.length * br = nv (la.take l.length) + 65536 ^ l.length * br + 65536 ^ l.length * br) ∧ Hid (Dg l) ∧ Hid (Told l v wc wr)) (fun _ _ i _ => la.length - (intOf i).toNat)
  case atStart => exact ⟨[], 0, none, 0, by simp, by omega, rfl, rfl, rfl, by simp, by omega, by simp [Hid, nv], Dg.nil, Below.refl _ _, World.ownsRow_nil _ _ _ _⟩
  case round =>
    obtain ⟨l, br, ao, co, hlm, hbr, rfl, rfl, rfl, hco, hco', hinv, hdg, ht⟩ := hrel
    have P := P0.out.onward ht.out.below
    obtain ⟨x0, x1, _, _, _⟩ := P.bp
    obtain ⟨y0, y1, _, _, _⟩ := P.bq
    by_cases h1 : l.length < la.length
    · have ra := RA.out.below ht.out.below
      have rb := RB'.out.below ht.out.below
      have b1 := DA.out.at_ l.length
      have b2 := DB.out.at_ l.length
      have HB : Hid (lb.length ≤ l.length → gd lb l.length = 0) := fun h => getD_ge h
      have HST : Hid (∀ d bb : Nat, d + gd lb l.length + br = gd la l.length + 65536 * bb → nv (l ++ [d]) + nv (lb.take (l.length + 1)) + 65536 ^ (l.length + 1) * bb = nv (la.take (l.length + 1)) + 65536 ^ (l.length + 1) * bb + 65536 ^ (l.length + 1) * bb) := fun d bb h => minus_step la lb l br d bb hinv.out h
      obtain ⟨A, rfl, xa, _⟩ := ra.at_ l.length h1
      clear hinv P ra
      by_cases h2 : l.length < lb.length
      · obtain ⟨B, rfl, xb, _⟩ := rb.at_ l.length h2
        clear HB
        generalize gd la l.length = da at *
        generalize gd lb l.length = db at *
        by_cases h3 : da < br + db
        · have hst : Hid _ := HST.out (da + 65536 - br - db) 1 (by omega)
          have hln : (l ++ [da + 65536 - br - db]).length = l.length + 1 := by simp
          have hdg' : Hid (Dg (l ++ [da + 65536 - br - db])) := hdg.out.snoc (by omega)
          clear hdg HST rb
          go_wp2_with (at_builtin; refine app_told rfl _ _ rfl l _ _ wr ht.out rfl (da + 65536 - br - db) _ (by omega) rfl (by omega) ?_; intro a3 c3 w3 ht3 hc3 hc3')
          generalize hl' : l ++ [da + 65536 - br - db] = l' at *
          go_roundw
          case rel => exact ⟨l', 1, a3, c3, by omega, by omega, by rw [hln]; go_num, by go_num, by rw [hln], by omega, hc3', by rw [← hln] at hst; exact hst, hdg', ht3⟩
          case measure => simp [intOf]; omega
        · have hst : Hid _ := HST.out (da - br - db) 0 (by omega)
          have hln : (l ++ [da - br - db]).length = l.length + 1 := by simp
          have hdg' : Hid (Dg (l ++ [da - br - db])) := hdg.out.snoc (by omega)
          clear hdg HST rb
          go_wp2_with (at_builtin; refine app_told rfl _ _ rfl l _ _ wr ht.out rfl (da - br - db) _ (by omega) rfl (by omega) ?_; intro a3 c3 w3 ht3 hc3 hc3')
          generalize hl' : l ++ [da - br - db] = l' at *
          go_roundw
          case rel => exact ⟨l', 0, a3, c3, by omega, by omega, by rw [hln]; go_num, by go_num, by rw [hln], by omega, hc3', by rw [← hln] at hst; exact hst, hdg', ht3⟩
          case measure => simp [intOf]; omega
      · have e2 := HB.out (by omega)
        rw [e2] at HST b2
        clear HB e2 b2
        generalize gd la l.length = da at *
        by_cases h3 : da < br
        · have hst : Hid _ := HST.out (da + 65536 - br) 1 (by omega)
          have hln : (l ++ [da + 65536 - br]).length = l.length + 1 := by simp
          have hdg' : Hid (Dg (l ++ [da + 65536 - br])) := hdg.out.snoc (by omega)
          clear hdg HST rb
          go_wp2_with (at_builtin; refine app_told rfl _ _ rfl l _ _ wr ht.out rfl (da + 65536 - br) _ (by omega) rfl (by omega) ?_; intro a3 c3 w3 ht3 hc3 hc3')
          generalize hl' : l ++ [da + 65536 - br] = l' at *
          go_roundw
          case rel => exact ⟨l', 1, a3, c3, by omega, by omega, by rw [hln]; go_num, by go_num, by rw [hln], by omega, hc3', by rw [← hln] at hst; exact hst, hdg', ht3⟩
          case measure => simp [intOf]; omega
        · have hst : Hid _ := HST.out (da - br) 0 (by omega)
          have hln : (l ++ [da - br]).length = l.length + 1 := by simp
          have hdg' : Hid (Dg (l ++ [da - br])) := hdg.out.snoc (by omega)
          clear hdg HST rb
          go_wp2_with (at_builtin; refine app_told rfl _ _ rfl l _ _ wr ht.out rfl (da - br) _ (by omega) rfl (by omega) ?_; intro a3 c3 w3 ht3 hc3 hc3')
          generalize hl' : l ++ [da - br] = l' at *
          go_roundw
          case rel => exact ⟨l', 0, a3, c3, by omega, by omega, by rw [hln]; go_num, by go_num, by rw [hln], by omega, hc3', by rw [← hln] at hst; exact hst, hdg', ht3⟩
          case measure => simp [intOf]; omega
    · have hll : l.length = la.length := by omega
      have TR := trim_any (sgn X) (x + y) ao l co wr hco hco' ht.out.row hdg.out (by rw [minus_end la lb l br hll hlab hdg.out HE.out.2 hinv.out]; exact HE.out.1) HSG.out
      obtain ⟨r0, r1, rf0, rf1, rt⟩ := P.br
      have lr := P.br.lt
      have hW := P.below
      clear hinv hdg P hll
      go_wp2_with (go_at_call 59; (with_reducible refine TR.mono ?_); rintro e w2 ⟨⟨a4, n4, c4, rfl, hI⟩, hN⟩; obtain ⟨hc, hf⟩ := bcell hN)
      exact bodyPost_ret (v := .agg #[.int .i64 (sgn (x + y)), .slice a4 n4 c4]) (by simp [results, Tryd.results40, go_sem, hc, r0, r1, lr]) rfl ⟨⟨_, _, _, rfl, hI.put2 ((bty_below hN lr).trans rt) _ _⟩, ((btr hW hN).setCell (by simp; omega) _).setCell (by simp; omega) _⟩
/-- The sum. -/
theorem rplus_any (x y : Int) (a : Option Addr) (n c : Nat) (a' : Option Addr) (n' c' : Nat) (w : World) (hx : II w a n c x) (hy : II w a' n' c' y) (hn : n ≤ 100) (hn' : n' ≤ 100) :
    Calls Tryd.prog 40 #[.agg #[.int .i64 (sgn x), .slice a n c], .agg #[.int .i64 (sgn y), .slice a' n' c']] w fun e w' => IRet (x + y) e w' ∧ Below w.heap.size w w' := by
  by_cases h0 : x = 0
  · subst h0
    rw [Int.zero_add]
    exact plus_nought1 y a n c a' n' c' w hy
  · by_cases h1 : y = 0
    · subst h1
      rw [Int.add_zero]
      exact plus_nought2 x a n c a' n' c' w hx h0
    · by_cases hs : sgn x = sgn y
      · exact plus_same x y a n c a' n' c' w hx hy hn hn' h0 hs
      · exact plus_diff x y a n c a' n' c' w hx hy hn hn' h0 h1 hs
end Go.Proofs.YtalaacfoaelipaaDoor
