/-
  Put together of: Q2 Q4 Q6 F1 Q7.
-/
import Derived.Test.YtcfmhkhfmcmkbaaDoorXI
import Derived.Test.YtcfmhkhfmcmkbaaDoorXG
import Derived.Deep.DrawnRows
namespace Go.Proofs.YtcfmhkhfmcmkbaaDoor
open Go.RowKit Go.Sort

theorem plus_far (la lb l : List Nat) (cr : Nat) (ha : Dg la) (hb : Dg lb) (h : nv l + 65536 ^ l.length * cr = nv (la.take l.length) + nv (lb.take l.length)) (h1 : la.length ≤ l.length) (h2 : lb.length ≤ l.length) (hc : 0 < cr) : l.length ≤ max la.length lb.length := by
  rw [nv_take_all h1, nv_take_all h2] at h
  have a1 := nv_lt ha
  have b1 := nv_lt hb
  have a2 : 65536 ^ la.length ≤ 65536 ^ max la.length lb.length := Nat.pow_le_pow_right (by decide) (by omega)
  have b2 : 65536 ^ lb.length ≤ 65536 ^ max la.length lb.length := Nat.pow_le_pow_right (by decide) (by omega)
  have c1 : 65536 ^ l.length * 1 ≤ 65536 ^ l.length * cr := Nat.mul_le_mul_left _ hc
  have c2 : 65536 ^ l.length < 65536 ^ (max la.length lb.length + 1) := by rw [Nat.pow_succ 65536 (max la.length lb.length)]; omega
  have := (Nat.pow_lt_pow_iff_right (show 1 < 65536 by decide)).1 c2
  omega
theorem sgn_nz {z : Int} (h : z ≠ 0) : ¬ sgn z = 0 := by unfold sgn; split <;> (try split) <;> omega
/-- What Plus and Times have in their variables. -/
structure PlS (w W : World) (x y : Int) (a : Option Addr) (n c : Nat) (a' : Option Addr) (n' c' : Nat) : Prop where
  below : Below w.heap.size w W
  bp : Bx W w.heap.size (sgn x) a n c
  bq : Bx W (w.heap.size + 1) (sgn y) a' n' c'
  br : Bx W (w.heap.size + 1 + 1) 0 none 0 0
  ip : II W a n c x
  iq : II W a' n' c' y
theorem PlS.onward {w W V : World} {x y : Int} {a : Option Addr} {n c : Nat} {a' : Option Addr} {n' c' : Nat} (h : PlS w W x y a n c a' n' c') (hb : Below W.heap.size W V) : PlS w V x y a n c a' n' c' :=
  ⟨btr h.below hb, h.bp.below hb, h.bq.below hb, h.br.below hb, h.ip.below hb, h.iq.below hb⟩
theorem PlS.start {w : World} {x y : Int} {a : Option Addr} {n c : Nat} {a' : Option Addr} {n' c' : Nat} (hx : II w a n c x) (hy : II w a' n' c' y) :
    PlS w (((w.alloc (.cells #[.int .i64 (sgn x), .slice a n c] 101)).alloc (.cells #[.int .i64 (sgn y), .slice a' n' c'] 101)).alloc (.cells #[.int .i64 0, .slice none 0 0] 101)) x y a n c a' n' c' := by
  have b3 : Below w.heap.size w (((w.alloc (.cells #[.int .i64 (sgn x), .slice a n c] 101)).alloc (.cells #[.int .i64 (sgn y), .slice a' n' c'] 101)).alloc (.cells #[.int .i64 0, .slice none 0 0] 101)) := bal (bal (bal (Below.refl _ _) _) _) _
  refine ⟨b3, ((Bx.new w _ _ _ _).alloc _).alloc _, ?_, ?_, hx.below b3, hy.below b3⟩
  · have := (Bx.new (w.alloc (.cells #[.int .i64 (sgn x), .slice a n c] 101)) (sgn y) a' n' c').alloc (.cells #[.int .i64 0, .slice none 0 0] 101)
    simpa using this
  · have := Bx.new ((w.alloc (.cells #[.int .i64 (sgn x), .slice a n c] 101)).alloc (.cells #[.int .i64 (sgn y), .slice a' n' c'] 101)) 0 none 0 0
    simpa using this
theorem plus_nought1 (y : Int) (a : Option Addr) (n c : Nat) (a' : Option Addr) (n' c' : Nat) (w : World) (hy : II w a' n' c' y) :
    Calls Tryd.prog 76 #[.agg #[.int .i64 0, .slice a n c], .agg #[.int .i64 (sgn y), .slice a' n' c']] w fun e w' => IRet y e w' ∧ Below w.heap.size w w' := by
  have HI : Hid (∀ W, Below w.heap.size w W → II W a' n' c' y) := fun W hb => hy.below hb
  clear hy
  go_enter Tryd.func76, Tryd.ntmps76
  go_wp2
  exact bodyPost_ret (v := .agg #[.int .i64 (sgn y), .slice a' n' c']) (by simp [results, Tryd.results76, go_sem]) rfl ⟨⟨_, _, _, rfl, HI.out _ (bal (bal (bal (Below.refl _ _) _) _) _)⟩, bal (bal (bal (Below.refl _ _) _) _) _⟩
theorem plus_nought2 (x : Int) (a : Option Addr) (n c : Nat) (a' : Option Addr) (n' c' : Nat) (w : World) (hx : II w a n c x) (h0 : x ≠ 0) :
    Calls Tryd.prog 76 #[.agg #[.int .i64 (sgn x), .slice a n c], .agg #[.int .i64 0, .slice a' n' c']] w fun e w' => IRet x e w' ∧ Below w.heap.size w w' := by
  have HI : Hid (∀ W, Below w.heap.size w W → II W a n c x) := fun W hb => hx.below hb
  have hs : ¬ sgn x = 0 := sgn_nz h0
  clear hx
  obtain ⟨s, HS⟩ : ∃ s, Hid (s = sgn x) := ⟨_, rfl⟩
  rw [← HS.out] at hs ⊢
  go_enter Tryd.func76, Tryd.ntmps76
  go_wp2
  exact bodyPost_ret (v := .agg #[.int .i64 s, .slice a n c]) (by simp [results, Tryd.results76, go_sem]) rfl ⟨⟨_, _, _, by rw [HS.out], HI.out _ (bal (bal (bal (Below.refl _ _) _) _) _)⟩, bal (bal (bal (Below.refl _ _) _) _) _⟩
set_option maxHeartbeats 2000000 in
theorem plus_same (x y : Int) (a : Option Addr) (n c : Nat) (a' : Option Addr) (n' c' : Nat) (w : World) (hx : II w a n c x) (hy : II w a' n' c' y) (hn : n ≤ 100) (hn' : n' ≤ 100) (h0 : x ≠ 0) (hs : sgn x = sgn y) :
    Calls Tryd.prog 76 #[.agg #[.int .i64 (sgn x), .slice a n c], .agg #[.int .i64 (sgn y), .slice a' n' c']] w fun e w' => IRet (x + y) e w' ∧ Below w.heap.size w w' := by
  have P0 : Hid _ := PlS.start hx hy
  have hz : ¬ sgn x = 0 := sgn_nz h0
  have HSXY : Hid (x + y ≠ 0 → sgn x = sgn (x + y)) := fun _ => by
    have : (x < 0 ∧ y < 0) ∨ (0 < x ∧ 0 < y) := by
      unfold sgn at hs
      split at hs <;> split at hs <;> (try split at hs) <;> (try split at hs) <;> omega
    exact sgn_congr (by omega) (by omega)
  have HAB : Hid ((x + y).natAbs = x.natAbs + y.natAbs) := by
    have : (x < 0 ∧ y < 0) ∨ (0 < x ∧ 0 < y) := by
      unfold sgn at hs
      split at hs <;> split at hs <;> (try split at hs) <;> (try split at hs) <;> omega
    show _ = _; omega
  obtain ⟨la, rfl, RA0, DA0, _, va0, _, _⟩ := hx.ex
  obtain ⟨lb, rfl, RB0, DB0, _, vb0, _, _⟩ := hy.ex
  have DA : Hid (Dg la) := DA0
  have DB : Hid (Dg lb) := DB0
  have VA : Hid (nv la = x.natAbs) := va0
  have VB : Hid (nv lb = y.natAbs) := vb0
  have RA : Hid (Row a la w) := RA0
  have RB' : Hid (Row a' lb w) := RB0
  clear DA0 DB0 va0 vb0 RA0 RB0 hx hy h0
  rw [← hs] at P0 ⊢
  obtain ⟨s, HS⟩ : ∃ s, Hid (s = sgn x) := ⟨_, rfl⟩
  rw [← HS.out] at hz P0 ⊢
  have hzb : (s == 0) = false := by simpa using hz
  clear hs hz
  go_enter Tryd.func76, Tryd.ntmps76
  go_wp2
  obtain ⟨W0, hW0⟩ : ∃ W0, W0 = (((w.alloc (.cells #[.int .i64 s, .slice a la.length c] 101)).alloc (.cells #[.int .i64 s, .slice a' lb.length c'] 101)).alloc (.cells #[.int .i64 0, .slice none 0 0] 101)) := ⟨_, rfl⟩
  rw [← hW0] at P0 ⊢
  clear hW0 hzb
  go_loopw [5, 6, 7] (fun v cv iv wr => ∃ (l : List Nat) (cr : Nat) (ao : Option Addr) (co : Nat), l.length ≤ max la.length lb.length + 1 ∧ cr ≤ 1 ∧ iv = .int .i64 l.length ∧ cv = .int .i64 cr ∧ v = .slice ao l.length co ∧ l.length ≤ co ∧ co ≤ 9223372036854775807 ∧
      Hid (nv l + 65536 ^ l.length * cr = nv (la.take l.length) + nv (lb.take l.length)) ∧ Hid (Dg l) ∧ Hid (Told l v W0 wr)) (fun _ _ i _ => max la.length lb.length + 1 - (intOf i).toNat)
  case atStart => exact ⟨[], 0, none, 0, by simp, by omega, rfl, rfl, rfl, by simp, by omega, by simp [Hid, nv], Dg.nil, Below.refl _ _, World.ownsRow_nil _ _ _ _⟩
  case round =>
    obtain ⟨l, cr, ao, co, hlm, hcr, rfl, rfl, rfl, hco, hco', hinv, hdg, ht⟩ := hrel
    have P := P0.out.onward ht.out.below
    obtain ⟨x0, x1, _, _, _⟩ := P.bp
    obtain ⟨y0, y1, _, _, _⟩ := P.bq
    have ra := RA.out.below P.below
    have rb := RB'.out.below P.below
    have hst : Hid _ := plus_step la lb l cr hinv.out
    have b1 := DA.out.at_ l.length
    have b2 := DB.out.at_ l.length
    have HA : Hid (la.length ≤ l.length → gd la l.length = 0) := fun h => getD_ge h
    have HB : Hid (lb.length ≤ l.length → gd lb l.length = 0) := fun h => getD_ge h
    have hfar : Hid (la.length ≤ l.length → lb.length ≤ l.length → 0 < cr → l.length ≤ max la.length lb.length) := fun h1 h2 h3 => plus_far la lb l cr DA.out DB.out hinv.out h1 h2 h3
    have hln : (l ++ [(cr + gd la l.length + gd lb l.length) % 65536]).length = l.length + 1 := by simp
    have hdg' : Hid (Dg (l ++ [(cr + gd la l.length + gd lb l.length) % 65536])) := hdg.out.snoc (Nat.mod_lt _ (by decide))
    by_cases h1 : l.length < la.length
    · obtain ⟨A, rfl, xa, _⟩ := ra.at_ l.length h1
      by_cases h2 : l.length < lb.length
      · obtain ⟨B, rfl, xb, _⟩ := rb.at_ l.length h2
        generalize gd la l.length = da at *
        generalize gd lb l.length = db at *
        clear P ra rb hinv hdg HA HB
        go_wp2_with (at_builtin; refine app_told rfl _ _ rfl l _ _ wr ht.out rfl ((cr + da + db) % 65536) _ (by omega) rfl (by omega) ?_; intro a3 c3 w3 ht3 hc3 hc3')
        generalize hl' : l ++ [(cr + da + db) % 65536] = l' at *
        go_roundw
        case rel => exact ⟨l', (cr + da + db) / 65536, a3, c3, by omega, by omega, by rw [hln]; go_num, by go_num, by rw [hln], by omega, hc3', by rw [← hln] at hst; exact hst, hdg', ht3⟩
        case measure => simp [intOf]; omega
      · have e2 := HB.out (by omega)
        rw [e2] at hst hln hdg'
        generalize gd la l.length = da at *
        clear e2
        clear P ra rb hinv hdg HA HB
        go_wp2_with (at_builtin; refine app_told rfl _ _ rfl l _ _ wr ht.out rfl ((cr + da + 0) % 65536) _ (by omega) rfl (by omega) ?_; intro a3 c3 w3 ht3 hc3 hc3')
        generalize hl' : l ++ [(cr + da + 0) % 65536] = l' at *
        go_roundw
        case rel => exact ⟨l', (cr + da + 0) / 65536, a3, c3, by omega, by omega, by rw [hln]; go_num, by go_num, by rw [hln], by omega, hc3', by rw [← hln] at hst; exact hst, hdg', ht3⟩
        case measure => simp [intOf]; omega
    · have e1 := HA.out (by omega)
      by_cases h2 : l.length < lb.length
      · obtain ⟨B, rfl, xb, _⟩ := rb.at_ l.length h2
        rw [e1] at hst hln hdg'
        generalize gd lb l.length = db at *
        clear e1
        clear P ra rb hinv hdg HA HB
        go_wp2_with (at_builtin; refine app_told rfl _ _ rfl l _ _ wr ht.out rfl ((cr + 0 + db) % 65536) _ (by omega) rfl (by omega) ?_; intro a3 c3 w3 ht3 hc3 hc3')
        generalize hl' : l ++ [(cr + 0 + db) % 65536] = l' at *
        go_roundw
        case rel => exact ⟨l', (cr + 0 + db) / 65536, a3, c3, by omega, by omega, by rw [hln]; go_num, by go_num, by rw [hln], by omega, hc3', by rw [← hln] at hst; exact hst, hdg', ht3⟩
        case measure => simp [intOf]; omega
      · have e2 := HB.out (by omega)
        by_cases h3 : 0 < cr
        · have hf := hfar.out (by omega) (by omega) h3
          rw [e1, e2] at hst hln hdg'
          clear e1 e2
          clear P ra rb hinv hdg HA HB
          go_wp2_with (at_builtin; refine app_told rfl _ _ rfl l _ _ wr ht.out rfl ((cr + 0 + 0) % 65536) _ (by omega) rfl (by omega) ?_; intro a3 c3 w3 ht3 hc3 hc3')
          generalize hl' : l ++ [(cr + 0 + 0) % 65536] = l' at *
          go_roundw
          case rel => exact ⟨l', (cr + 0 + 0) / 65536, a3, c3, by omega, by omega, by rw [hln]; go_num, by go_num, by rw [hln], by omega, hc3', by rw [← hln] at hst; exact hst, hdg', ht3⟩
          case measure => simp [intOf]; omega
        · obtain rfl : cr = 0 := by omega
          have TR := trim_any (sgn x) (x + y) ao l co wr hco hco' ht.out.row hdg.out (by have h := hinv.out; rw [nv_take_all (by omega), nv_take_all (by omega)] at h; rw [HAB.out, ← VA.out, ← VB.out]; omega) HSXY.out
          obtain ⟨r0, r1, rf0, rf1, rt⟩ := P.br
          have lr := P.br.lt
          have hW := P.below
          clear hst hdg' HA HB hln e1 e2 hinv hdg hfar ra rb P
          go_wp2_with (go_at_call 74; (with_reducible refine TR.mono ?_); rintro e w2 ⟨⟨a4, n4, c4, rfl, hI⟩, hN⟩; obtain ⟨hc, hf⟩ := bcell hN)
          exact bodyPost_ret (v := .agg #[.int .i64 (sgn (x + y)), .slice a4 n4 c4]) (by simp [results, Tryd.results76, go_sem, hc, r0, r1, lr]) rfl ⟨⟨_, _, _, rfl, hI.put2 ((bty_below hN lr).trans rt) _ _⟩, ((btr hW hN).setCell (by simp; omega) _).setCell (by simp; omega) _⟩
end Go.Proofs.YtcfmhkhfmcmkbaaDoor
namespace Go.Proofs.YtcfmhkhfmcmkbaaDoor
open Go.RowKit Go.Sort

theorem sgn_times (x y : Int) : sgn x * sgn y = sgn (x * y) := by
  rcases (show x < 0 ∨ x = 0 ∨ 0 < x by omega) with h | h | h <;> rcases (show y < 0 ∨ y = 0 ∨ 0 < y by omega) with g | g | g
  · have := Int.mul_pos_of_neg_of_neg h g; unfold sgn; rw [if_pos h, if_pos g, if_neg (by omega), if_neg (by omega)]; rfl
  · rw [g, Int.mul_zero]; show _ * 0 = 0; omega
  · have := Int.mul_neg_of_neg_of_pos h g; unfold sgn; rw [if_pos h, if_neg (by omega), if_neg (by omega), if_pos this]; rfl
  · rw [h, Int.zero_mul]; show 0 * _ = 0; omega
  · rw [h, Int.zero_mul]; show 0 * _ = 0; omega
  · rw [h, Int.zero_mul]; show 0 * _ = 0; omega
  · have := Int.mul_neg_of_pos_of_neg h g; unfold sgn; rw [if_neg (by omega), if_neg (by omega), if_pos g, if_pos this]; rfl
  · rw [g, Int.mul_zero]; show _ * 0 = 0; omega
  · have := Int.mul_pos h g; unfold sgn; rw [if_neg (by omega), if_neg (by omega), if_neg (by omega), if_neg (by omega), if_neg (by omega), if_neg (by omega)]; rfl
theorem wrap_sgn (x y : Int) : wrap64 (sgn x * sgn y) = sgn (x * y) := by
  rw [sgn_times]
  have := sgn_b (x * y)
  unfold wrap64; omega
set_option maxHeartbeats 4000000 in
theorem times_any (x y : Int) (a : Option Addr) (n c : Nat) (a' : Option Addr) (n' c' : Nat) (w : World) (hx : II w a n c x) (hy : II w a' n' c' y) (hn : n ≤ 100) (hn' : n' ≤ 100) :
    Calls Tryd.prog 73 #[.agg #[.int .i64 (sgn x), .slice a n c], .agg #[.int .i64 (sgn y), .slice a' n' c']] w fun e w' => IRet (x * y) e w' ∧ Below w.heap.size w w' := by
  have P0 : Hid _ := PlS.start hx hy
  have hst := wrap_sgn x y
  obtain ⟨la, rfl, RA0, DA0, _, va0, _, _⟩ := hx.ex
  obtain ⟨lb, rfl, RB0, DB0, _, vb0, _, _⟩ := hy.ex
  have DA : Hid (Dg la) := DA0
  have DB : Hid (Dg lb) := DB0
  have HV : Hid (nv la * nv lb = (x * y).natAbs) := by show _ = _; rw [va0, vb0, Int.natAbs_mul]
  have RA : Hid (Row a la w) := RA0
  have RB' : Hid (Row a' lb w) := RB0
  clear DA0 DB0 va0 vb0 RA0 RB0 hx hy
  obtain ⟨s, HS⟩ : ∃ s, Hid (s = sgn x) := ⟨_, rfl⟩
  obtain ⟨t, HT⟩ : ∃ t, Hid (t = sgn y) := ⟨_, rfl⟩
  rw [← HS.out, ← HT.out] at P0 ⊢
  have HST : Hid (wrap64 (sgn x * sgn y) = sgn (x * y)) := hst
  clear hst
  go_enter Tryd.func73, Tryd.ntmps73
  go_upto_region 1 with (fail)
  obtain ⟨W0, hW0⟩ : ∃ W0, W0 = (((w.alloc (.cells #[.int .i64 s, .slice a la.length c] 101)).alloc (.cells #[.int .i64 t, .slice a' lb.length c'] 101)).alloc (.cells #[.int .i64 0, .slice none 0 0] 101)) := ⟨_, rfl⟩
  rw [← hW0] at P0 ⊢
  clear hW0
  obtain ⟨x0, x1, _, _, _⟩ := P0.out.bp
  obtain ⟨y0, y1, _, _, _⟩ := P0.out.bq
  go_wp2_with (at_make; refine make_arr W0 _ (Below.refl _ _) rfl _ _ rfl _ _ (la.length + lb.length + 1) rfl rfl (by omega) (by omega) (by omega) ?_; intro w1 harr)
  have HA : Hid (Arr W0 w1 _ _) := harr
  clear harr x0 x1 y0 y1
  obtain ⟨g, hg⟩ : ∃ g, g = W0.heap.size := ⟨_, rfl⟩
  rw [← hg] at HA ⊢
  clear hg
  go_loopw [6] (fun iv wr => ∃ (i : Nat) (d : List Nat), i ≤ la.length ∧ iv = .int .i64 i ∧ Hid (d.length = la.length + lb.length + 1) ∧ Hid (Dg d) ∧ Hid (nv d = nv (la.take i) * nv lb) ∧ Hid (Arr W0 wr g d)) (fun i _ => la.length - (intOf i).toNat)
  case atStart => exact ⟨0, List.replicate (la.length + lb.length + 1) 0, by omega, rfl, by show _ = _; simp, Dg.rep _, by show _ = _; rw [nv_rep]; simp [nv], HA⟩
  case round =>
    obtain ⟨i, D, hi, rfl, hDl, hDg, hDv, hArr⟩ := hrel
    have P := P0.out.onward hArr.out.below
    obtain ⟨x0, x1, _, _, _⟩ := P.bp
    obtain ⟨y0, y1, _, _, _⟩ := P.bq
    by_cases h1 : i < la.length
    · have b1 := DA.out.at_ i
      have HR : Hid (∀ d : List Nat, nv d = nv D + 65536 ^ i * (gd la i * nv lb) → nv d = nv (la.take (i + 1)) * nv lb) := fun d h => times_round D d la lb i hDv.out h
      have HDB : Hid (nv D < 65536 ^ (i + lb.length)) := by show _ < _; rw [hDv.out]; exact times_bound la lb i DA.out DB.out hi
      have HRA : Hid (∀ W, Below W0.heap.size W0 W → ∃ B, a = some ⟨B, 0, none⟩ ∧ W.cell? ⟨B, i, none⟩ = some (.int .i64 (gd la i : Nat))) := fun W hb => by
        obtain ⟨B, e1, e2, _⟩ := (RA.out.below (btr P0.out.below hb)).at_ i h1
        exact ⟨B, e1, e2⟩
      generalize gd la i = ai at *
      clear P
      go_wp2
      go_loopw [7, 8] (fun cv kv ws => ∃ (k cr : Nat) (d : List Nat), k ≤ lb.length + 1 ∧ cr < 65536 ∧ kv = .int .i64 k ∧ cv = .int .i64 cr ∧ Hid (d.length = la.length + lb.length + 1) ∧ Hid (Dg d) ∧ Hid (nv d + 65536 ^ (i + k) * cr = nv D + 65536 ^ i * (ai * nv (lb.take k))) ∧ Hid (Arr W0 ws g d)) (fun _ k _ => lb.length + 1 - (intOf k).toNat)
      case atStart => exact ⟨0, 0, D, by omega, by omega, rfl, rfl, hDl, hDg, by show _ = _; simp [nv], hArr⟩
      case round =>
        obtain ⟨k, cr, d, hk, hcr, rfl, rfl, hdl, hdg, hinv, harr⟩ := hrel
        have P := P0.out.onward harr.out.below
        obtain ⟨x0, x1, _, _, _⟩ := P.bp
        obtain ⟨y0, y1, _, _, _⟩ := P.bq
        have hik : i + k < d.length ∨ lb.length < k := by have := hdl.out; omega
        have hfar : Hid (0 < cr → k ≤ lb.length) := fun h => times_far D d lb ai i k cr DB.out b1 HDB.out h hinv.out
        by_cases h2 : k < lb.length
        · have hlt : i + k < d.length := by omega
          have cg := harr.out.cell (i + k) hlt
          have fg := harr.out.fz (i + k)
          have bd := hdg.out.at_ (i + k)
          have bb := DB.out.at_ k
          have hstp : Hid _ := times_step D d lb ai i k cr hlt hinv.out
          have hcar := times_carry cr (gd d (i + k)) ai (gd lb k) hcr bd b1 bb
          have hset : Hid (∀ m, Arr W0 ((wr.drewN m).setCell ⟨g, i + k, none⟩ (.int .i64 (((cr + gd d (i + k) + ai * gd lb k) % 65536 : Nat) : Int))) g (d.set (i + k) ((cr + gd d (i + k) + ai * gd lb k) % 65536))) := fun m => (harr.out.drewN m).set _ _ hlt
          have hdg' : Hid (Dg (d.set (i + k) ((cr + gd d (i + k) + ai * gd lb k) % 65536))) := hdg.out.set _ _ (Nat.mod_lt _ (by decide))
          have hdl' : Hid ((d.set (i + k) ((cr + gd d (i + k) + ai * gd lb k) % 65536)).length = la.length + lb.length + 1) := by show _ = _; rw [List.length_set]; exact hdl.out
          obtain ⟨B, rfl, xb, _⟩ := (RB'.out.below (btr P0.out.below harr.out.below)).at_ k h2
          obtain ⟨A, rfl, xa⟩ := HRA.out _ harr.out.below
          have hN : i + k < la.length + lb.length + 1 := by omega
          clear hik hfar hinv hdg P hlt hdl
          generalize gd d (i + k) = X at *
          generalize gd lb k = bk at *
          have q0 : (0 : Int) ≤ (ai : Int) * (bk : Int) := Int.mul_nonneg (by omega) (by omega)
          have q1 : (ai : Int) * (bk : Int) ≤ 4294836225 := by
            have := Nat.mul_le_mul (show ai ≤ 65535 by omega) (show bk ≤ 65535 by omega)
            have e : ((ai * bk : Nat) : Int) = (ai : Int) * (bk : Int) := by simp
            omega
          have i0 : (0 : Int) ≤ (i : Int) := by omega
          have i1 : (i : Int) < (la.length : Int) := by omega
          have i2 : (0 : Int) ≤ (k : Int) := by omega
          have i3 : (k : Int) < (lb.length : Int) := by omega
          go_wp2
          go_quiet (fail)
          go_wp2
          go_roundw
          case rel => exact ⟨k + 1, (cr + X + ai * bk) / 65536, _, by omega, hcar.1, by go_num, by go_num, hdl', hdg', hstp, hset.out _⟩
          case measure => simp [intOf]; omega
        · by_cases h3 : 0 < cr
          · have hk2 := hfar.out h3
            have hlt : i + k < d.length := by omega
            have cg := harr.out.cell (i + k) hlt
            have fg := harr.out.fz (i + k)
            have bd := hdg.out.at_ (i + k)
            have hstp : Hid _ := times_step D d lb ai i k cr hlt hinv.out
            rw [getD_ge (by omega : lb.length ≤ k), Nat.mul_zero, Nat.add_zero] at hstp
            have hset : Hid (Arr W0 (wr.setCell ⟨g, i + k, none⟩ (.int .i64 (((cr + gd d (i + k)) % 65536 : Nat) : Int))) g (d.set (i + k) ((cr + gd d (i + k)) % 65536))) := harr.out.set _ _ hlt
            have hdg' : Hid (Dg (d.set (i + k) ((cr + gd d (i + k)) % 65536))) := hdg.out.set _ _ (Nat.mod_lt _ (by decide))
            have hdl' : Hid ((d.set (i + k) ((cr + gd d (i + k)) % 65536)).length = la.length + lb.length + 1) := by show _ = _; rw [List.length_set]; exact hdl.out
            have hN : i + k < la.length + lb.length + 1 := by omega
            clear hik hfar hinv hdg P hlt hdl
            generalize gd d (i + k) = X at *
            go_wp2
            go_roundw
            case rel => exact ⟨k + 1, (cr + X) / 65536, _, by omega, by omega, by go_num, by go_num, hdl', hdg', hstp, hset⟩
            case measure => simp [intOf]; omega
          · obtain rfl : cr = 0 := by omega
            have hv : Hid _ := HR.out d (by have h := hinv.out; rw [nv_take_all (by omega)] at h; omega)
            clear hik hfar hinv P
            go_wp2
            go_roundw
            case rel => exact ⟨i + 1, d, by omega, by go_num, hdl, hdg, hv, harr⟩
            case measure => simp [intOf]; omega
    · have e1 : nv D = (x * y).natAbs := by rw [hDv.out, nv_take_all (by omega)]; exact HV.out
      have hst := HST.out
      have TR := trim_any (sgn (x * y)) (x * y) (some ⟨g, 0, none⟩) D (la.length + lb.length + 1) wr (by have := hDl.out; omega) (by omega) hArr.out.row hDg.out e1 (fun _ => rfl)
      rw [hDl.out] at TR
      obtain ⟨r0, r1, rf0, rf1, rt⟩ := P.br
      have lr := P.br.lt
      have hW := P.below
      clear P hDl hDg hDv e1 HST
      go_wp2_with (go_at_call 74; (with_reducible refine TR.mono ?_); rintro e w2 ⟨⟨a4, n4, c4, rfl, hI⟩, hN⟩; obtain ⟨hc, hf⟩ := bcell hN)
      exact bodyPost_ret (v := .agg #[.int .i64 (sgn (x * y)), .slice a4 n4 c4]) (by simp [results, Tryd.results73, go_sem, hc, r0, r1, lr]) rfl ⟨⟨_, _, _, rfl, hI.put2 ((bty_below hN lr).trans rt) _ _⟩, ((btr hW hN).setCell (by simp; omega) _).setCell (by simp; omega) _⟩
end Go.Proofs.YtcfmhkhfmcmkbaaDoor
namespace Go.Proofs.YtcfmhkhfmcmkbaaDoor
open Go.RowKit Go.Sort

/-- What shifted has between two rounds. -/
structure ShS (w W : World) (z : Int) (a : Option Addr) (n c : Nat) : Prop where
  below : Below w.heap.size w W
  bp : Bx W w.heap.size (sgn z) a n c
  br : Bx W (w.heap.size + 1) 0 none 0 0
  ip : II W a n c z
theorem ShS.start {w : World} {z : Int} {a : Option Addr} {n c : Nat} (h : II w a n c z) : ShS w ((w.alloc (.cells #[.int .i64 (sgn z), .slice a n c] 101)).alloc (.cells #[.int .i64 0, .slice none 0 0] 101)) z a n c := by
  have b3 : Below w.heap.size w ((w.alloc (.cells #[.int .i64 (sgn z), .slice a n c] 101)).alloc (.cells #[.int .i64 0, .slice none 0 0] 101)) := bal (bal (Below.refl _ _) _) _
  refine ⟨b3, (Bx.new w _ _ _ _).alloc _, ?_, h.below b3⟩
  have := Bx.new (w.alloc (.cells #[.int .i64 (sgn z), .slice a n c] 101)) 0 none 0 0
  simpa using this
theorem ShS.step {w W : World} {z : Int} {a : Option Addr} {n c : Nat} (h : ShS w W z a n c) {V : World} (hK : Below W.heap.size W V) {y : Int} {b : Option Addr} {m d : Nat} (hI : II V b m d y) :
    ShS w (st2 V w.heap.size (sgn y) b m d) y b m d := by
  have bp := h.bp.below hK
  have br := h.br.below hK
  exact ⟨below_st2 (btr h.below hK) (Nat.le_refl _) _ _ _ _, bp.put _ _ _ _, br.far (by omega) _ _ _ _, hI.st bp.ty _ _ _ _⟩
theorem abs_le_shift (z : Int) (j : Nat) : z.natAbs ≤ (z * 2 ^ j).natAbs := by
  rw [Int.natAbs_mul, Int.natAbs_pow]
  exact Nat.le_mul_of_pos_right _ (Nat.pow_pos (by decide))
set_option maxHeartbeats 4000000 in
theorem shifted_any (z : Int) (k : Nat) (a : Option Addr) (n c : Nat) (w : World) (h : II w a n c z) (hk : k ≤ 1000) (hb : (z * 2 ^ k).natAbs < 65536 ^ 90) :
    Calls Tryd.prog 75 #[.agg #[.int .i64 (sgn z), .slice a n c], .int .i64 k] w fun e w' => IRet (z * 2 ^ k) e w' ∧ Below w.heap.size w w' := by
  have P0 : Hid _ := ShS.start h
  obtain ⟨T, HT⟩ : ∃ T, Hid (T = z * 2 ^ k) := ⟨_, rfl⟩
  rw [← HT.out] at hb ⊢
  have HB : Hid (T.natAbs < 65536 ^ 90) := hb
  obtain ⟨s, HS⟩ : ∃ s, Hid (s = sgn z) := ⟨_, rfl⟩
  rw [← HS.out] at P0 ⊢
  clear h hb
  go_enter Tryd.func75, Tryd.ntmps75
  go_wp2
  go_loopw [1] (fun v wr => ∃ (j : Nat) (y : Int) (b : Option Addr) (m d : Nat), j ≤ 1000 ∧ v = .int .i64 j ∧ Hid (ShS w wr y b m d) ∧ Hid (y * 2 ^ j = T)) (fun v _ => (intOf v).toNat)
  case atStart => exact ⟨k, z, a, n, c, hk, rfl, P0, HT.out.symm⟩
  case round =>
    clear P0 HT HS
    obtain ⟨j, y, b, m, d, hj, rfl, hS, hy⟩ := hrel
    obtain ⟨x0, x1, xf0, xf1, _⟩ := hS.out.bp
    obtain ⟨r0, r1, rf0, rf1, rt⟩ := hS.out.br
    have lp := hS.out.bp.lt
    have lr := hS.out.br.lt
    have hW := hS.out.below
    by_cases hj0 : j = 0
    · subst hj0
      obtain rfl : y = T := by have := hy.out; simpa using this
      have hI : Hid (II wr b m d y) := hS.out.ip
      go_wp2
      exact bodyPost_ret (v := .agg #[.int .i64 (sgn y), .slice b m d]) (by simp [results, Tryd.results75, go_sem, r0, r1]) rfl ⟨⟨_, _, _, rfl, hI.out.put2 rt _ _⟩, (hW.setCell (by simp) _).setCell (by simp) _⟩
    · have hZ := Below.refl wr.heap.size wr
      have hm : m ≤ 90 := hS.out.ip.len (by have := abs_le_shift y j; rw [hy.out] at this; have := HB.out; omega)
      have TM : ∀ (q : Nat) (V : World), q ≤ 15 → Below wr.heap.size wr V → ∀ a4 n4 c4, II V a4 n4 c4 (2 ^ q) → Calls Tryd.prog 73 #[.agg #[.int .i64 (sgn y), .slice b m d], .agg #[.int .i64 (sgn (2 ^ q)), .slice a4 n4 c4]] V fun e w' => IRet (y * 2 ^ q) e w' ∧ Below V.heap.size V w' :=
        fun q V hq h a4 n4 c4 h4 => times_any y (2 ^ q) b m d a4 n4 c4 V (hS.out.ip.below h) h4 (by omega) (h4.len (by
          have h1 : ((2 : Int) ^ q).natAbs = 2 ^ q := by rw [Int.natAbs_pow]; rfl
          rw [h1]
          have : 2 ^ q ≤ 2 ^ 15 := Nat.pow_le_pow_right (by decide) hq
          omega))
      by_cases h15 : 15 < j
      · have OF := fun w => of_any 32768 w (by omega) (by omega)
        have TM15 := fun V h => TM 15 V (by omega) h
        rw [show (2 : Int) ^ 15 = 32768 from rfl] at TM15
        clear TM
        have ee : IntKind.i64.wrap (2 ^ min (IntKind.u64.wrap 15).toNat 64) = 32768 := by decide
        go_upto_region 5 with (fail)
        go_region_with (first
          | (go_at_call 55; (with_reducible refine (OF _).mono ?_); rintro e w2 ⟨⟨a4, n4, c4, rfl, hI4⟩, hN⟩; have hK := btr (below_drew hZ) hN; obtain ⟨hc, hf⟩ := bcell hK)
          | (go_at_call 73; (with_reducible refine (TM15 _ hK _ _ _ hI4).mono ?_); rintro e w3 ⟨⟨a5, n5, c5, rfl, hI5⟩, hN⟩; have hK := btr hK hN; obtain ⟨hc, hf⟩ := bcell hK))
        all_goals
          have hnew : Hid _ := hS.out.step hK hI5
          have hval : Hid (y * 32768 * 2 ^ (j - 15) = T) := by
            show _ = _
            rw [← hy.out, Int.mul_assoc, show (32768 : Int) = 2 ^ 15 from rfl, ← Int.pow_add, show 15 + (j - 15) = j by omega]
          go_wp2
          go_roundw
          case rel => exact ⟨j - 15, y * 32768, a5, n5, c5, by omega, by go_num, hnew, hval⟩
          case measure => simp [intOf]; omega
      · have OF := fun w => of_any (2 ^ j) w (by have := pow_pos' j; omega) (by
          have h1 : ((2 : Int) ^ j).natAbs = 2 ^ j := by rw [Int.natAbs_pow]; rfl
          have : 2 ^ j ≤ 2 ^ 15 := Nat.pow_le_pow_right (by decide) (by omega)
          omega)
        have TMJ := fun V h => TM j V (by omega) h
        have ee : IntKind.i64.wrap (2 ^ min (IntKind.u64.wrap (j : Int)).toNat 64) = 2 ^ j := by
          have e1 : (IntKind.u64.wrap (j : Int)).toNat = j := by rw [IntKind.wrap_u64]; omega
          rw [e1, Nat.min_eq_left (by omega), IntKind.wrap_i64]
          have h1 : ((2 : Int) ^ j).natAbs = 2 ^ j := by rw [Int.natAbs_pow]; rfl
          have : 2 ^ j ≤ 2 ^ 15 := Nat.pow_le_pow_right (by decide) (by omega)
          have := pow_pos' j
          omega
        obtain ⟨Q, HQ⟩ : ∃ Q : Int, Hid (Q = 2 ^ j) := ⟨_, rfl⟩
        rw [← HQ.out] at OF TMJ ee
        clear TM
        have hsub : ((j : Int) - (j : Int)) = 0 := Int.sub_self _
        go_upto_region 5 with (fail)
        go_region_with (first
          | (go_at_call 55; (with_reducible refine (OF _).mono ?_); rintro e w2 ⟨⟨a4, n4, c4, rfl, hI4⟩, hN⟩; have hK := btr (below_drew hZ) hN; obtain ⟨hc, hf⟩ := bcell hK)
          | (go_at_call 73; (with_reducible refine (TMJ _ hK _ _ _ hI4).mono ?_); rintro e w3 ⟨⟨a5, n5, c5, rfl, hI5⟩, hN⟩; have hK := btr hK hN; obtain ⟨hc, hf⟩ := bcell hK))
        all_goals
          have hnew : Hid _ := hS.out.step hK hI5
          have hval : Hid (y * Q * 2 ^ 0 = T) := by
            show _ = _
            rw [Int.pow_zero, Int.mul_one, HQ.out]; exact hy.out
          clear ee
          go_wp2
          go_roundw
          case rel => exact ⟨0, y * Q, a5, n5, c5, by omega, by simp, hnew, hval⟩
          case measure => simp [intOf]; omega
end Go.Proofs.YtcfmhkhfmcmkbaaDoor
namespace Go.Proofs.YtcfmhkhfmcmkbaaDoor
open Go.RowKit Go.Sort

/-- Block B holds that root. -/
structure RB (W : World) (B : Nat) (p q k : Int) : Prop where
  c0 : W.cell? ⟨B, 0, none⟩ = some (.int .i64 p)
  c1 : W.cell? ⟨B, 1, none⟩ = some (.int .i64 q)
  c2 : W.cell? ⟨B, 2, none⟩ = some (.int .i64 k)
theorem RB.lt {W : World} {B : Nat} {p q k : Int} (h : RB W B p q k) : B < W.heap.size := block_lt_of_cell h.c0
theorem RB.below {W W' : World} {B : Nat} {p q k : Int} (h : RB W B p q k) (hb : Below W.heap.size W W') : RB W' B p q k := by
  obtain ⟨hc, hf⟩ := bcell hb
  have hl := h.lt
  exact ⟨(hc _ _ hl).trans h.c0, (hc _ _ hl).trans h.c1, (hc _ _ hl).trans h.c2⟩
theorem RB.alloc {W : World} {B : Nat} {p q k : Int} (h : RB W B p q k) (o : Obj) : RB (W.alloc o) B p q k := h.below (bal (Below.refl _ _) _)
theorem RB.new (W : World) (p q k : Int) : RB (W.alloc (.cells #[.int .i64 p, .int .i64 q, .int .i64 k] 24)) W.heap.size p q k where
  c0 := by rw [World.cell?_alloc_at _ _ _ _ rfl]; rfl
  c1 := by rw [World.cell?_alloc_at _ _ _ _ rfl]; rfl
  c2 := by rw [World.cell?_alloc_at _ _ _ _ rfl]; rfl
theorem boxes (w : World) (a1 a2 a3 b1 b2 b3 c1 c2 c3 : Int) : 
    let W0 := ((w.alloc (.cells #[.int .i64 a1, .int .i64 a2, .int .i64 a3] 24)).alloc (.cells #[.int .i64 b1, .int .i64 b2, .int .i64 b3] 24)).alloc (.cells #[.int .i64 c1, .int .i64 c2, .int .i64 c3] 24)
    Below w.heap.size w W0 ∧ RB W0 w.heap.size a1 a2 a3 ∧ RB W0 (w.heap.size + 1) b1 b2 b3 ∧ RB W0 (w.heap.size + 1 + 1) c1 c2 c3 := by
  intro W0
  refine ⟨bal (bal (bal (Below.refl _ _) _) _) _, ((RB.new w a1 a2 a3).alloc _).alloc _, ?_, ?_⟩
  · have := (RB.new (w.alloc (.cells #[.int .i64 a1, .int .i64 a2, .int .i64 a3] 24)) b1 b2 b3).alloc (.cells #[.int .i64 c1, .int .i64 c2, .int .i64 c3] 24)
    rwa [alz] at this
  · have := RB.new ((w.alloc (.cells #[.int .i64 a1, .int .i64 a2, .int .i64 a3] 24)).alloc (.cells #[.int .i64 b1, .int .i64 b2, .int .i64 b3] 24)) c1 c2 c3
    rwa [alz, alz] at this
abbrev Cal (f : Nat) (args : Array Value) (r : Rt) : Prop := ∀ w, Tab w → Calls Tryd.prog f args w fun z w' => z = .returned (rtV r) ∧ Below w.heap.size w w'

end Go.Proofs.YtcfmhkhfmcmkbaaDoor
namespace Go.Proofs.YtcfmhkhfmcmkbaaDoor
open Go.RowKit Go.Sort
attribute [local go_sem ↓] Go.wp_at_zero Go.wp_at_succ

theorem keepO {w W V : World} {p q k : Int} (h : Below w.heap.size w W ∧ W.cell? ⟨w.heap.size, 0, none⟩ = some (.int .i64 p) ∧ W.cell? ⟨w.heap.size, 1, none⟩ = some (.int .i64 q) ∧ W.cell? ⟨w.heap.size, 2, none⟩ = some (.int .i64 k)) (hN : Below W.heap.size W V) :
    Below w.heap.size w V ∧ V.cell? ⟨w.heap.size, 0, none⟩ = some (.int .i64 p) ∧ V.cell? ⟨w.heap.size, 1, none⟩ = some (.int .i64 q) ∧ V.cell? ⟨w.heap.size, 2, none⟩ = some (.int .i64 k) := by
  obtain ⟨h0, h1, h2, h3⟩ := h
  obtain ⟨hc, _⟩ := bcell hN
  have hl := block_lt_of_cell h1
  exact ⟨btr h0 hN, (hc _ _ hl).trans h1, (hc _ _ hl).trans h2, (hc _ _ hl).trans h3⟩
theorem keepO_put {w W : World} {p q k : Int} (h : Below w.heap.size w W ∧ W.cell? ⟨w.heap.size, 0, none⟩ = some (.int .i64 p) ∧ W.cell? ⟨w.heap.size, 1, none⟩ = some (.int .i64 q) ∧ W.cell? ⟨w.heap.size, 2, none⟩ = some (.int .i64 k)) (R : Nat) (hR : w.heap.size < R) (v v' : Value) :
    Below w.heap.size w ((W.setCell ⟨R, 0, none⟩ v).setCell ⟨R, 1, none⟩ v') ∧ ((W.setCell ⟨R, 0, none⟩ v).setCell ⟨R, 1, none⟩ v').cell? ⟨w.heap.size, 0, none⟩ = some (.int .i64 p) ∧ ((W.setCell ⟨R, 0, none⟩ v).setCell ⟨R, 1, none⟩ v').cell? ⟨w.heap.size, 1, none⟩ = some (.int .i64 q) ∧ ((W.setCell ⟨R, 0, none⟩ v).setCell ⟨R, 1, none⟩ v').cell? ⟨w.heap.size, 2, none⟩ = some (.int .i64 k) := by
  obtain ⟨h0, h1, h2, h3⟩ := h
  have e : ∀ i, ((W.setCell ⟨R, 0, none⟩ v).setCell ⟨R, 1, none⟩ v').cell? ⟨w.heap.size, i, none⟩ = W.cell? ⟨w.heap.size, i, none⟩ := fun i => by
    have hne : R ≠ w.heap.size := by omega
    rw [World.cell?_setCell_far _ _ _ _ hne, World.cell?_setCell_far _ _ _ _ hne]
  exact ⟨(h0.setCell (by show w.heap.size ≤ R; omega) _).setCell (by show w.heap.size ≤ R; omega) _, (e 0).trans h1, (e 1).trans h2, (e 2).trans h3⟩
theorem over_start (w : World) (p q k : Int) : ∃ W0, W0 = ((w.alloc (.cells #[.int .i64 p, .int .i64 q, .int .i64 k] 24)).alloc (.cells #[.int .i64 0, .slice none 0 0] 101)).alloc (.cells #[.int .i64 0, .slice none 0 0] 101) ∧
    Below w.heap.size w W0 ∧ RB W0 w.heap.size p q k ∧ Bx W0 (w.heap.size + 1) 0 none 0 0 ∧ Bx W0 (w.heap.size + 1 + 1) 0 none 0 0 := by
  refine ⟨_, rfl, bal (bal (bal (Below.refl _ _) _) _) _, ((RB.new w p q k).alloc _).alloc _, ?_, ?_⟩
  · have := (Bx.new (w.alloc (.cells #[.int .i64 p, .int .i64 q, .int .i64 k] 24)) 0 none 0 0).alloc (.cells #[.int .i64 0, .slice none 0 0] 101)
    simpa using this
  · have := Bx.new ((w.alloc (.cells #[.int .i64 p, .int .i64 q, .int .i64 k] 24)).alloc (.cells #[.int .i64 0, .slice none 0 0] 101)) 0 none 0 0
    simpa using this
/-- What over tells. -/
def ORet (x y : Int) (e : Ending) (W : World) : Prop := ∃ a n c a' n' c', e = .returned (.tuple #[.agg #[.int .i64 (sgn x), .slice a n c], .agg #[.int .i64 (sgn y), .slice a' n' c']]) ∧ II W a n c x ∧ II W a' n' c' y
set_option maxHeartbeats 4000000 in
theorem over_any (p q : Int) (k m : Nat) (w : World) (hp : -9007199254740991 ≤ p ∧ p ≤ 9007199254740991) (hq : -9007199254740991 ≤ q ∧ q ≤ 9007199254740991) (hk : k ≤ m) (hm : m ≤ 60) :
    Calls Tryd.prog 58 #[.agg #[.int .i64 p, .int .i64 q, .int .i64 k], .int .i64 m] w fun e w' => ORet (p * 2 ^ (m - k)) (q * 2 ^ (m - k)) e w' ∧ Below w.heap.size w w' := by
  have bnd : ∀ x : Int, -9007199254740991 ≤ x ∧ x ≤ 9007199254740991 → (x * 2 ^ (m - k)).natAbs < 65536 ^ 90 := fun x hx => by
    rw [Int.natAbs_mul, Int.natAbs_pow]
    have h1 : (2 : Int).natAbs ^ (m - k) ≤ 2 ^ 60 := Nat.pow_le_pow_right (by decide) (by omega)
    have h2 : x.natAbs * (2 : Int).natAbs ^ (m - k) ≤ 9007199254740991 * 2 ^ 60 := Nat.mul_le_mul (by omega) h1
    omega
  have OP := fun w => of_any p w (by omega) (by omega)
  have OQ := fun w => of_any q w (by omega) (by omega)
  have SP := fun (V : World) (a : Option Addr) (n c : Nat) (h : II V a n c p) => shifted_any p (m - k) a n c V h (by omega) (bnd p hp)
  have SQ := fun (V : World) (a : Option Addr) (n c : Nat) (h : II V a n c q) => shifted_any q (m - k) a n c V h (by omega) (bnd q hq)
  clear bnd hp hq
  obtain ⟨P, HP⟩ : ∃ P, Hid (P = p * 2 ^ (m - k)) := ⟨_, rfl⟩
  obtain ⟨Q, HQ⟩ : ∃ Q, Hid (Q = q * 2 ^ (m - k)) := ⟨_, rfl⟩
  rw [← HP.out] at SP ⊢
  rw [← HQ.out] at SQ ⊢
  clear HP HQ
  have ek : IntKind.i64.wrap ((m : Int) - (k : Int)) = ((m - k : Nat) : Int) := by rw [IntKind.wrap_i64]; omega
  have hsub : ((m : Int) - (k : Int)) = ((m - k : Nat) : Int) := by omega
  have ej : IntKind.i64.wrap ((m - k : Nat) : Int) = ((m - k : Nat) : Int) := by rw [IntKind.wrap_i64]; omega
  generalize m - k = j at *
  go_enter Tryd.func58, Tryd.ntmps58
  go_upto_region 1 with (fail)
  obtain ⟨W0, hW0, hW, rb, bx1, bx2⟩ := over_start w p q k
  rw [← hW0]
  clear hW0
  obtain ⟨x0, x1, x2⟩ := rb
  have t1 := bx1.ty
  have t2 := bx2.ty
  have l1 := bx1.lt
  have l2 := bx2.lt
  obtain ⟨r0, r1, rf0, rf1, _⟩ := bx1
  obtain ⟨s0, s1, sf0, sf1, _⟩ := bx2
  have hZ := Below.refl W0.heap.size W0
  have n1 : ¬ w.heap.size + 1 = w.heap.size + 1 + 1 := by omega
  go_region_held3 (fun w' => Below w.heap.size w w' ∧ w'.cell? ⟨w.heap.size, 0, none⟩ = some (.int .i64 p) ∧ w'.cell? ⟨w.heap.size, 1, none⟩ = some (.int .i64 q) ∧ w'.cell? ⟨w.heap.size, 2, none⟩ = some (.int .i64 k))
    ((first | exact ⟨below_drew hW, x0, x1, x2⟩ | exact keepO_put (by assumption) _ (by omega) _ _ | exact keepO (by assumption) hN))
    (first
      | (go_at_call 55; (with_reducible refine (OP _).mono ?_); rintro e w2 ⟨⟨a2, n2, c2, rfl, i2⟩, hN⟩; have hK := btr (below_drew hZ) hN; obtain ⟨hc, hf⟩ := bcell hK)
      | (go_at_call 75; (with_reducible refine (SP _ _ _ _ i2).mono ?_); rintro e w3 ⟨⟨a3, n3, c3, rfl, i3⟩, hN⟩; have hK := btr hK hN; obtain ⟨hc, hf⟩ := bcell hK)
      | (go_at_call 55; (with_reducible refine (OQ _).mono ?_); rintro e w4 ⟨⟨a4, n4, c4, rfl, i4⟩, hN⟩; have i3 := i3.below hN; have hK := btr hK hN; obtain ⟨hc, hf⟩ := bcell hK)
      | (go_at_call 75; (with_reducible refine (SQ _ _ _ _ i4).mono ?_); rintro e w5 ⟨⟨a5, n5, c5, rfl, i5⟩, hN⟩; have i3 := i3.below hN; have hK := btr hK hN; obtain ⟨hc, hf⟩ := bcell hK))
  go_wp2
  have hB := btr hW hK
  refine bodyPost_ret (v := .tuple #[.agg #[.int .i64 (sgn P), .slice a3 n3 c3], .agg #[.int .i64 (sgn Q), .slice a5 n5 c5]]) (by simp [results, Tryd.results58, go_sem, hc, r0, r1, s0, s1, l1, l2]) rfl ⟨⟨_, _, _, _, _, _, rfl, ?_, ?_⟩, ?_⟩
  · exact (i3.put2 ((bty_below hK l1).trans t1) _ _).put2 (by rw [bty_set, bty_set]; exact (bty_below hK l2).trans t2) _ _
  · exact (i5.put2 ((bty_below hK l1).trans t1) _ _).put2 (by rw [bty_set, bty_set]; exact (bty_below hK l2).trans t2) _ _
  · exact (((hB.setCell (by simp) _).setCell (by simp) _).setCell (by simp; omega) _).setCell (by simp; omega) _
end Go.Proofs.YtcfmhkhfmcmkbaaDoor
