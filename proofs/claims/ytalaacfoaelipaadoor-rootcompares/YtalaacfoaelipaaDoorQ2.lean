/-
  The reference's Plus, of like signs.
-/
import Derived.Test.YtalaacfoaelipaaDoorQ1
namespace Go.Proofs.YtalaacfoaelipaaDoor
open Go.RowKit Go.Sort

theorem plus_far (la lb l : List Nat) (cr : Nat) (ha : Dg la) (hb : Dg lb) (h : nv l + 65536 ^ l.length * cr = nv (la.take l.length) + nv (lb.take l.length)) (h1 : la.length ≤ l.length) (h2 : lb.length ≤ l.length) (hc : 0 < cr) : l.length ≤ max la.length lb.length := by
  rw [nv_take_all h1, nv_take_all h2] at h
  have a1 := nv_lt ha
  have b1 := nv_lt hb
  have a2 : 65536 ^ la.length ≤ 65536 ^ max la.length lb.length := Nat.pow_le_pow_right (by decide) (by omega)
  have b2 : 65536 ^ lb.length ≤ 65536 ^ max la.length lb.length := Nat.pow_le_pow_right (by decide) (by omega)
  have c1 : 65536 ^ l.length * 1 ≤ 65536 ^ l.length * cr := Nat.mul_le_mul_left _ hc
  have c2 : 65536 ^ l.length < 65536 ^ (max la.length lb.length + 1) := by rw [Nat.pow_succ 65536 (max la.length lb.length)]; omega
  have := (Nat.pow_lt_pow_iff_right (show 1 < 65536 by decide)).1 c2
  omega
theorem sgn_nz {z : Int} (h : z ≠ 0) : ¬ sgn z = 0 := by unfold sgn; split <;> (try split) <;> omega
/-- What Plus and Times have in their variables. -/
structure PlS (w W : World) (x y : Int) (a : Option Addr) (n c : Nat) (a' : Option Addr) (n' c' : Nat) : Prop where
  below : Below w.heap.size w W
  bp : Bx W w.heap.size (sgn x) a n c
  bq : Bx W (w.heap.size + 1) (sgn y) a' n' c'
  br : Bx W (w.heap.size + 1 + 1) 0 none 0 0
  ip : II W a n c x
  iq : II W a' n' c' y
theorem PlS.onward {w W V : World} {x y : Int} {a : Option Addr} {n c : Nat} {a' : Option Addr} {n' c' : Nat} (h : PlS w W x y a n c a' n' c') (hb : Below W.heap.size W V) : PlS w V x y a n c a' n' c' :=
  ⟨btr h.below hb, h.bp.below hb, h.bq.below hb, h.br.below hb, h.ip.below hb, h.iq.below hb⟩
theorem PlS.start {w : World} {x y : Int} {a : Option Addr} {n c : Nat} {a' : Option Addr} {n' c' : Nat} (hx : II w a n c x) (hy : II w a' n' c' y) :
    PlS w (((w.alloc (.cells #[.int .i64 (sgn x), .slice a n c] 60)).alloc (.cells #[.int .i64 (sgn y), .slice a' n' c'] 60)).alloc (.cells #[.int .i64 0, .slice none 0 0] 60)) x y a n c a' n' c' := by
  have b3 : Below w.heap.size w (((w.alloc (.cells #[.int .i64 (sgn x), .slice a n c] 60)).alloc (.cells #[.int .i64 (sgn y), .slice a' n' c'] 60)).alloc (.cells #[.int .i64 0, .slice none 0 0] 60)) := bal (bal (bal (Below.refl _ _) _) _) _
  refine ⟨b3, ((Bx.new w _ _ _ _).alloc _).alloc _, ?_, ?_, hx.below b3, hy.below b3⟩
  · have := (Bx.new (w.alloc (.cells #[.int .i64 (sgn x), .slice a n c] 60)) (sgn y) a' n' c').alloc (.cells #[.int .i64 0, .slice none 0 0] 60)
    simpa using this
  · have := Bx.new ((w.alloc (.cells #[.int .i64 (sgn x), .slice a n c] 60)).alloc (.cells #[.int .i64 (sgn y), .slice a' n' c'] 60)) 0 none 0 0
    simpa using this
theorem plus_nought1 (y : Int) (a : Option Addr) (n c : Nat) (a' : Option Addr) (n' c' : Nat) (w : World) (hy : II w a' n' c' y) :
    Calls Tryd.prog 40 #[.agg #[.int .i64 0, .slice a n c], .agg #[.int .i64 (sgn y), .slice a' n' c']] w fun e w' => IRet y e w' ∧ Below w.heap.size w w' := by
  have HI : Hid (∀ W, Below w.heap.size w W → II W a' n' c' y) := fun W hb => hy.below hb
  clear hy
  go_enter Tryd.func40, Tryd.ntmps40
  go_wp2
  exact bodyPost_ret (v := .agg #[.int .i64 (sgn y), .slice a' n' c']) (by simp [results, Tryd.results40, go_sem]) rfl ⟨⟨_, _, _, rfl, HI.out _ (bal (bal (bal (Below.refl _ _) _) _) _)⟩, bal (bal (bal (Below.refl _ _) _) _) _⟩
theorem plus_nought2 (x : Int) (a : Option Addr) (n c : Nat) (a' : Option Addr) (n' c' : Nat) (w : World) (hx : II w a n c x) (h0 : x ≠ 0) :
    Calls Tryd.prog 40 #[.agg #[.int .i64 (sgn x), .slice a n c], .agg #[.int .i64 0, .slice a' n' c']] w fun e w' => IRet x e w' ∧ Below w.heap.size w w' := by
  have HI : Hid (∀ W, Below w.heap.size w W → II W a n c x) := fun W hb => hx.below hb
  have hs : ¬ sgn x = 0 := sgn_nz h0
  clear hx
  obtain ⟨s, HS⟩ : ∃ s, Hid (s = sgn x) := ⟨_, rfl⟩
  rw [← HS.out] at hs ⊢
  go_enter Tryd.func40, Tryd.ntmps40
  go_wp2
  exact bodyPost_ret (v := .agg #[.int .i64 s, .slice a n c]) (by simp [results, Tryd.results40, go_sem]) rfl ⟨⟨_, _, _, by rw [HS.out], HI.out _ (bal (bal (bal (Below.refl _ _) _) _) _)⟩, bal (bal (bal (Below.refl _ _) _) _) _⟩
set_option maxHeartbeats 2000000 in
theorem plus_same (x y : Int) (a : Option Addr) (n c : Nat) (a' : Option Addr) (n' c' : Nat) (w : World) (hx : II w a n c x) (hy : II w a' n' c' y) (hn : n ≤ 100) (hn' : n' ≤ 100) (h0 : x ≠ 0) (hs : sgn x = sgn y) :
    Calls Tryd.prog 40 #[.agg #[.int .i64 (sgn x), .slice a n c], .agg #[.int .i64 (sgn y), .slice a' n' c']] w fun e w' => IRet (x + y) e w' ∧ Below w.heap.size w w' := by
  have P0 : Hid _ := PlS.start hx hy
  have hz : ¬ sgn x = 0 := sgn_nz h0
  have HSXY : Hid (x + y ≠ 0 → sgn x = sgn (x + y)) := fun _ => by
    have : (x < 0 ∧ y < 0) ∨ (0 < x ∧ 0 < y) := by
      unfold sgn at hs
      split at hs <;> split at hs <;> (try split at hs) <;> (try split at hs) <;> omega
    exact sgn_congr (by omega) (by omega)
  have HAB : Hid ((x + y).natAbs = x.natAbs + y.natAbs) := by
    have : (x < 0 ∧ y < 0) ∨ (0 < x ∧ 0 < y) := by
      unfold sgn at hs
      split at hs <;> split at hs <;> (try split at hs) <;> (try split at hs) <;> omega
    show _ = _; omega
  obtain ⟨la, rfl, RA0, DA0, _, va0, _, _⟩ := hx.ex
  obtain ⟨lb, rfl, RB0, DB0, _, vb0, _, _⟩ := hy.ex
  have DA : Hid (Dg la) := DA0
  have DB : Hid (Dg lb) := DB0
  have VA : Hid (nv la = x.natAbs) := va0
  have VB : Hid (nv lb = y.natAbs) := vb0
  have RA : Hid (Row a la w) := RA0
  have RB' : Hid (Row a' lb w) := RB0
  clear DA0 DB0 va0 vb0 RA0 RB0 hx hy h0
  rw [← hs] at P0 ⊢
  obtain ⟨s, HS⟩ : ∃ s, Hid (s = sgn x) := ⟨_, rfl⟩
  rw [← HS.out] at hz P0 ⊢
  have hzb : (s == 0) = false := by simpa using hz
  clear hs hz
  go_enter Tryd.func40, Tryd.ntmps40
  go_wp2
  obtain ⟨W0, hW0⟩ : ∃ W0, W0 = (((w.alloc (.cells #[.int .i64 s, .slice a la.length c] 60)).alloc (.cells #[.int .i64 s, .slice a' lb.length c'] 60)).alloc (.cells #[.int .i64 0, .slice none 0 0] 60)) := ⟨_, rfl⟩
  rw [← hW0] at P0 ⊢
  clear hW0 hzb
  go_loopw [5, 6, 7] (fun v cv iv wr => ∃ (l : List Nat) (cr : Nat) (ao : Option Addr) (co : Nat), l.length ≤ max la.length lb.length + 1 ∧ cr ≤ 1 ∧ iv = .int .i64 l.length ∧ cv = .int .i64 cr ∧ v = .slice ao l.length co ∧ l.length ≤ co ∧ co ≤ 9223372036854775807 ∧
      Hid (nv l + 65536 ^ l.length * cr = nv (la.take l.length) + nv (lb.take l.length)) ∧ Hid (Dg l) ∧ Hid (Told l v W0 wr)) (fun _ _ i _ => max la.length lb.length + 1 - (intOf i).toNat)
  case atStart => exact ⟨[], 0, none, 0, by simp, by omega, rfl, rfl, rfl, by simp, by omega, by simp [Hid, nv], Dg.nil, Below.refl _ _, World.ownsRow_nil _ _ _ _⟩
  case round =>
    obtain ⟨l, cr, ao, co, hlm, hcr, rfl, rfl, rfl, hco, hco', hinv, hdg, ht⟩ := hrel
    have P := P0.out.onward ht.out.below
    obtain ⟨x0, x1, _, _, _⟩ := P.bp
    obtain ⟨y0, y1, _, _, _⟩ := P.bq
    have ra := RA.out.below P.below
    have rb := RB'.out.below P.below
    have hst : Hid _ := plus_step la lb l cr hinv.out
    have b1 := DA.out.at_ l.length
    have b2 := DB.out.at_ l.length
    have HA : Hid (la.length ≤ l.length → gd la l.length = 0) := fun h => getD_ge h
    have HB : Hid (lb.length ≤ l.length → gd lb l.length = 0) := fun h => getD_ge h
    have hfar : Hid (la.length ≤ l.length → lb.length ≤ l.length → 0 < cr → l.length ≤ max la.length lb.length) := fun h1 h2 h3 => plus_far la lb l cr DA.out DB.out hinv.out h1 h2 h3
    have hln : (l ++ [(cr + gd la l.length + gd lb l.length) % 65536]).length = l.length + 1 := by simp
    have hdg' : Hid (Dg (l ++ [(cr + gd la l.length + gd lb l.length) % 65536])) := hdg.out.snoc (Nat.mod_lt _ (by decide))
    by_cases h1 : l.length < la.length
    · obtain ⟨A, rfl, xa, _⟩ := ra.at_ l.length h1
      by_cases h2 : l.length < lb.length
      · obtain ⟨B, rfl, xb, _⟩ := rb.at_ l.length h2
        generalize gd la l.length = da at *
        generalize gd lb l.length = db at *
        clear P ra rb hinv hdg HA HB
        go_wp2_with (at_builtin; refine app_told rfl _ _ rfl l _ _ wr ht.out rfl ((cr + da + db) % 65536) _ (by omega) rfl (by omega) ?_; intro a3 c3 w3 ht3 hc3 hc3')
        generalize hl' : l ++ [(cr + da + db) % 65536] = l' at *
        go_roundw
        case rel => exact ⟨l', (cr + da + db) / 65536, a3, c3, by omega, by omega, by rw [hln]; go_num, by go_num, by rw [hln], by omega, hc3', by rw [← hln] at hst; exact hst, hdg', ht3⟩
        case measure => simp [intOf]; omega
      · have e2 := HB.out (by omega)
        rw [e2] at hst hln hdg'
        generalize gd la l.length = da at *
        clear e2
        clear P ra rb hinv hdg HA HB
        go_wp2_with (at_builtin; refine app_told rfl _ _ rfl l _ _ wr ht.out rfl ((cr + da + 0) % 65536) _ (by omega) rfl (by omega) ?_; intro a3 c3 w3 ht3 hc3 hc3')
        generalize hl' : l ++ [(cr + da + 0) % 65536] = l' at *
        go_roundw
        case rel => exact ⟨l', (cr + da + 0) / 65536, a3, c3, by omega, by omega, by rw [hln]; go_num, by go_num, by rw [hln], by omega, hc3', by rw [← hln] at hst; exact hst, hdg', ht3⟩
        case measure => simp [intOf]; omega
    · have e1 := HA.out (by omega)
      by_cases h2 : l.length < lb.length
      · obtain ⟨B, rfl, xb, _⟩ := rb.at_ l.length h2
        rw [e1] at hst hln hdg'
        generalize gd lb l.length = db at *
        clear e1
        clear P ra rb hinv hdg HA HB
        go_wp2_with (at_builtin; refine app_told rfl _ _ rfl l _ _ wr ht.out rfl ((cr + 0 + db) % 65536) _ (by omega) rfl (by omega) ?_; intro a3 c3 w3 ht3 hc3 hc3')
        generalize hl' : l ++ [(cr + 0 + db) % 65536] = l' at *
        go_roundw
        case rel => exact ⟨l', (cr + 0 + db) / 65536, a3, c3, by omega, by omega, by rw [hln]; go_num, by go_num, by rw [hln], by omega, hc3', by rw [← hln] at hst; exact hst, hdg', ht3⟩
        case measure => simp [intOf]; omega
      · have e2 := HB.out (by omega)
        by_cases h3 : 0 < cr
        · have hf := hfar.out (by omega) (by omega) h3
          rw [e1, e2] at hst hln hdg'
          clear e1 e2
          clear P ra rb hinv hdg HA HB
          go_wp2_with (at_builtin; refine app_told rfl _ _ rfl l _ _ wr ht.out rfl ((cr + 0 + 0) % 65536) _ (by omega) rfl (by omega) ?_; intro a3 c3 w3 ht3 hc3 hc3')
          generalize hl' : l ++ [(cr + 0 + 0) % 65536] = l' at *
          go_roundw
          case rel => exact ⟨l', (cr + 0 + 0) / 65536, a3, c3, by omega, by omega, by rw [hln]; go_num, by go_num, by rw [hln], by omega, hc3', by rw [← hln] at hst; exact hst, hdg', ht3⟩
          case measure => simp [intOf]; omega
        · obtain rfl : cr = 0 := by omega
          have TR := trim_any (sgn x) (x + y) ao l co wr hco hco' ht.out.row hdg.out (by have h := hinv.out; rw [nv_take_all (by omega), nv_take_all (by omega)] at h; rw [HAB.out, ← VA.out, ← VB.out]; omega) HSXY.out
          obtain ⟨r0, r1, rf0, rf1, rt⟩ := P.br
          have lr := P.br.lt
          have hW := P.below
          clear hst hdg' HA HB hln e1 e2 hinv hdg hfar ra rb P
          go_wp2_with (go_at_call 59; (with_reducible refine TR.mono ?_); rintro e w2 ⟨⟨a4, n4, c4, rfl, hI⟩, hN⟩; obtain ⟨hc, hf⟩ := bcell hN)
          exact bodyPost_ret (v := .agg #[.int .i64 (sgn (x + y)), .slice a4 n4 c4]) (by simp [results, Tryd.results40, go_sem, hc, r0, r1, lr]) rfl ⟨⟨_, _, _, rfl, hI.put2 ((bty_below hN lr).trans rt) _ _⟩, ((btr hW hN).setCell (by simp; omega) _).setCell (by simp; omega) _⟩
end Go.Proofs.YtalaacfoaelipaaDoor
