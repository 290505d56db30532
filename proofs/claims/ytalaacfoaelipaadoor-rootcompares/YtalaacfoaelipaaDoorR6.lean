/-
  The reference's One.
-/
import Derived.Test.YtalaacfoaelipaaDoorR5
namespace Go.Proofs.YtalaacfoaelipaaDoor
open Go.RowKit Go.Sort

theorem OneS.onward {w W V : World} {p q : Int} {a : Option Addr} {n c : Nat} {a' : Option Addr} {n' c' : Nat} (h : OneS w W p q a n c a' n' c') (hb : Below W.heap.size W V) : OneS w V p q a n c a' n' c' :=
  ⟨btr h.below hb, h.bp.below hb, h.bq.below hb, h.rc.below hb, h.ip.below hb, h.iq.below hb⟩
theorem OneS.start {w : World} {p q : Int} {a : Option Addr} {n c : Nat} {a' : Option Addr} {n' c' : Nat} (hp : II w a n c p) (hq : II w a' n' c' q) :
    OneS w (((w.alloc (.cells #[.int .i64 (sgn p), .slice a n c] 60)).alloc (.cells #[.int .i64 (sgn q), .slice a' n' c'] 60)).alloc (.cells #[.int .i64 0, .int .i64 0, .int .i64 0] 23)) p q a n c a' n' c' := by
  have b3 : Below w.heap.size w (((w.alloc (.cells #[.int .i64 (sgn p), .slice a n c] 60)).alloc (.cells #[.int .i64 (sgn q), .slice a' n' c'] 60)).alloc (.cells #[.int .i64 0, .int .i64 0, .int .i64 0] 23)) := bal (bal (bal (Below.refl _ _) _) _) _
  refine ⟨b3, ((Bx.new w _ _ _ _).alloc _).alloc _, ?_, ?_, hp.below b3, hq.below b3⟩
  · have := (Bx.new (w.alloc (.cells #[.int .i64 (sgn p), .slice a n c] 60)) (sgn q) a' n' c').alloc (.cells #[.int .i64 0, .int .i64 0, .int .i64 0] 23)
    simpa using this
  · have := Rc.new ((w.alloc (.cells #[.int .i64 (sgn p), .slice a n c] 60)).alloc (.cells #[.int .i64 (sgn q), .slice a' n' c'] 60))
    simpa using this
/-- What part tells. -/
theorem part_any (z : Int) (a : Option Addr) (n c : Nat) (w : World) (h : II w a n c z) :
    Calls Tryd.prog 58 #[.agg #[.int .i64 (sgn z), .slice a n c]] w fun e w' => e = .returned (.tuple #[.int .i64 (if inP z = true then z else 0), .bool (inP z)]) ∧ Below w.heap.size w w' := by
  cases hz : inP z
  · exact part_no z a n c w h (by have := (inP_no z).1 hz; omega)
  · exact part_yes z a n c w h ((inP_iff z).1 hz)
theorem sgn_z (z : Int) : (sgn z == 0) = decide (z = 0) := by
  unfold sgn
  by_cases h : z < 0
  · rw [if_pos h]; have : ¬ z = 0 := by omega
    simp [this]
  · rw [if_neg h]
    by_cases h2 : z = 0 <;> simp [h2]
theorem keepC {W V : World} {B B' : Nat} {s s' : Int} {a a' : Option Addr} {n c n' c' : Nat} (c0 : W.cell? ⟨B, 0, none⟩ = some (.int .i64 s)) (c1 : W.cell? ⟨B, 1, none⟩ = some (.slice a n c)) (c2 : W.cell? ⟨B', 0, none⟩ = some (.int .i64 s')) (c3 : W.cell? ⟨B', 1, none⟩ = some (.slice a' n' c')) (h : Below W.heap.size W V) :
    Below W.heap.size W V ∧ V.cell? ⟨B, 0, none⟩ = some (.int .i64 s) ∧ V.cell? ⟨B, 1, none⟩ = some (.slice a n c) ∧ V.cell? ⟨B', 0, none⟩ = some (.int .i64 s') ∧ V.cell? ⟨B', 1, none⟩ = some (.slice a' n' c') := by
  obtain ⟨hc, _⟩ := bcell h
  have l1 := block_lt_of_cell c0
  have l2 := block_lt_of_cell c2
  exact ⟨h, (hc _ _ l1).trans c0, (hc _ _ l1).trans c1, (hc _ _ l2).trans c2, (hc _ _ l2).trans c3⟩
set_option maxHeartbeats 4000000 in
theorem rone_any (p q : Int) (k : Nat) (a : Option Addr) (n c : Nat) (a' : Option Addr) (n' c' : Nat) (w : World) (hp : II w a n c p) (hq : II w a' n' c' q) (hk : k ≤ 1000) (bp : p.natAbs < 65536 ^ 50) (bq : q.natAbs < 65536 ^ 50) :
    Calls Tryd.prog 31 #[.agg #[.int .i64 (sgn p), .slice a n c], .agg #[.int .i64 (sgn q), .slice a' n' c'], .int .i64 k] w fun e w' => e = .returned (rtV (one p q k)) ∧ Below w.heap.size w w' := by
  have H0 : Hid _ := OneS.start hp hq
  have HB : Hid (p.natAbs < 65536 ^ 50 ∧ q.natAbs < 65536 ^ 50) := ⟨bp, bq⟩
  have e1 := sgn_z p
  have e2 := sgn_z q
  clear hp hq bp bq
  by_cases hz : p = 0 ∧ q = 0
  · obtain ⟨rfl, rfl⟩ := hz
    rw [show one 0 0 k = ⟨0, 0, 0, 0⟩ by unfold one; simp, show sgn 0 = 0 from rfl]
    clear e1 e2 H0 HB
    go_enter Tryd.func31, Tryd.ntmps31
    go_wp2
    exact bodyPost_ret (v := rtV ⟨0, 0, 0, 0⟩) (by simp [results, Tryd.results31, go_sem]) rfl ⟨rfl, bal (bal (bal (Below.refl _ _) _) _) _⟩
  · have HZ : Hid (¬ (p = 0 ∧ q = 0)) := hz
    have key : (sgn p == 0) = false ∨ ((sgn p == 0) = true ∧ (sgn q == 0) = false) := by rw [e1, e2]; simp; omega
    clear e1 e2 hz
    obtain ⟨s, HS⟩ : ∃ s, Hid (s = sgn p) := ⟨_, rfl⟩
    obtain ⟨t, HT⟩ : ∃ t, Hid (t = sgn q) := ⟨_, rfl⟩
    rw [← HS.out, ← HT.out] at key H0 ⊢
    obtain ⟨r, HRr⟩ : ∃ r, Hid (r = one p q k) := ⟨_, rfl⟩
    rw [← HRr.out]
    go_enter Tryd.func31, Tryd.ntmps31
    go_upto_region 1 with (fail)
    go_cut [19] from 12 to 19 (fun v W => v = Value.bool false ∧ Hid (OneS w W p q a n c a' n' c'))
    case first =>
      rcases key with k1 | ⟨k1, k2⟩
      all_goals
        go_wp2
        go_meet
        case rel => exact ⟨rfl, H0⟩
    case rest =>
      clear H0 key
      obtain ⟨rfl, H0⟩ := hcut
      go_wp2
      go_loopw [2] (fun v wr => ∃ (j : Nat) (P Q : Int) (b : Option Addr) (m d : Nat) (b' : Option Addr) (m' d' : Nat), j ≤ 1000 ∧ v = .int .i64 j ∧ Hid (OneS w wr P Q b m d b' m' d') ∧ Hid (P.natAbs < 65536 ^ 50 ∧ Q.natAbs < 65536 ^ 50) ∧ Hid (¬ (P = 0 ∧ Q = 0)) ∧ Hid (one P Q j = r)) (fun v _ => (intOf v).toNat)
      case atStart => exact ⟨k, p, q, a, n, c, a', n', c', hk, rfl, H0, HB, HZ, HRr.out.symm⟩
      case round =>
        clear H0 HB HZ HS HT HRr
        obtain ⟨j, P, Q, b, m, d, b', m', d', hj, rfl, hO, hbd, hnz, hone⟩ := hrel
        have EP : ∀ V, Below wr.heap.size wr V → Calls Tryd.prog 56 #[.agg #[.int .i64 (sgn P), .slice b m d]] V fun e w' => e = .returned (.bool (decide (P % 2 = 0))) ∧ Below V.heap.size V w' := fun V h => even_any _ P b m d V (hO.out.ip.below h)
        have EQ : ∀ V, Below wr.heap.size wr V → Calls Tryd.prog 56 #[.agg #[.int .i64 (sgn Q), .slice b' m' d']] V fun e w' => e = .returned (.bool (decide (Q % 2 = 0))) ∧ Below V.heap.size V w' := fun V h => even_any _ Q b' m' d' V (hO.out.iq.below h)
        have h0 := Below.refl wr.heap.size wr
        go_upto_region 3 with (fail)
        go_cut [30] from 21 to 36 (fun v W => v = Value.bool (decide (0 < j) && decide (P % 2 = 0) && decide (Q % 2 = 0)) ∧ Hid (OneS w W P Q b m d b' m' d'))
        case first =>
          obtain ⟨x0, x1, _, _, _⟩ := hO.out.bp
          obtain ⟨y0, y1, _, _, _⟩ := hO.out.bq
          by_cases hj0 : 0 < j
          · cases hP : decide (P % 2 = 0)
            · rw [hP] at EP
              go_wp2_with (go_at_call 56; (with_reducible refine (EP _ h0).mono ?_); rintro e w1 ⟨rfl, hN⟩; obtain ⟨hc, hf⟩ := bcell hN)
              go_meet
              case rel => exact ⟨by rw [hP]; simp, hO.out.onward hN⟩
            · rw [hP] at EP
              cases hQ : decide (Q % 2 = 0)
              all_goals
                rw [hQ] at EQ
                have lq := hO.out.bq.lt
                go_wp2_with (first
                  | (go_at_call 56; (with_reducible refine (EP _ h0).mono ?_); rintro e w1 ⟨rfl, hN⟩; obtain ⟨hc, hf⟩ := bcell hN)
                  | (go_at_call 56; (with_reducible refine (EQ _ hN).mono ?_); rintro e w2 ⟨rfl, hN2⟩; have hN3 := btr hN hN2))
                go_meet
                case rel => exact ⟨by rw [hP, hQ]; simp [hj0], hO.out.onward hN3⟩
          · go_wp2
            go_meet
            case rel => exact ⟨by simp [hj0], hO⟩
        obtain ⟨rfl, hO'⟩ := hcut
        clear hO EP EQ h0
        cases hb : (decide (0 < j) && decide (P % 2 = 0) && decide (Q % 2 = 0))
        case true =>
          obtain ⟨⟨hj0, hP⟩, hQ⟩ : (0 < j ∧ P % 2 = 0) ∧ Q % 2 = 0 := by simpa using hb
          have HP : ∀ V, Below wc.heap.size wc V → Calls Tryd.prog 57 #[.agg #[.int .i64 (sgn P), .slice b m d]] V fun e w' => IRet (P / 2) e w' ∧ Below V.heap.size V w' := fun V h => half_any P b m d V (hO'.out.ip.below h) (by have := hO'.out.ip.len hbd.out.1; omega) hP
          have HQ : ∀ V, Below wc.heap.size wc V → Calls Tryd.prog 57 #[.agg #[.int .i64 (sgn Q), .slice b' m' d']] V fun e w' => IRet (Q / 2) e w' ∧ Below V.heap.size V w' := fun V h => half_any Q b' m' d' V (hO'.out.iq.below h) (by have := hO'.out.iq.len hbd.out.2; omega) hQ
          clear hb
          obtain ⟨x0, x1, xf0, xf1, _⟩ := hO'.out.bp
          obtain ⟨y0, y1, yf0, yf1, _⟩ := hO'.out.bq
          generalize sgn P = sp at HP x0
          generalize sgn Q = sq at HQ y0
          go_upto_region 4 with (fail)
          have hZ := Below.refl wc.heap.size wc
          have l1 := hO'.out.bp.lt
          have l2 := hO'.out.bq.lt
          have n1 : ¬ w.heap.size = w.heap.size + 1 := by omega
          have hw : IntKind.i64.wrap ((j : Int) - 1) = ((j - 1 : Nat) : Int) := by rw [IntKind.wrap_i64]; omega
          go_region_with (first
            | (go_at_call 57; (with_reducible refine (HP _ (below_drew hZ)).mono ?_); rintro e w2 ⟨⟨ap, np, cp, rfl, hIp⟩, hN⟩; have hK := btr (below_drew hZ) hN; obtain ⟨hc, hf⟩ := bcell hK)
            | (go_at_call 57; (with_reducible refine (HQ _ hK).mono ?_); rintro e w3 ⟨⟨aq, nq, cq, rfl, hIq⟩, hN⟩; have hK := btr hK hN; replace hIp := hIp.below hN; obtain ⟨hc, hf⟩ := bcell hK))
          all_goals
            obtain ⟨i, rfl⟩ : ∃ i, j = i + 1 := ⟨j - 1, by omega⟩
            have HN : Hid _ := hO'.out.step hK hIp hIq
            have HO : Hid (one (P / 2) (Q / 2) i = r) := by show _ = _; rw [one_half hP hQ]; exact hone.out
            have HD : Hid ((P / 2).natAbs < 65536 ^ 50 ∧ (Q / 2).natAbs < 65536 ^ 50) := by have := hbd.out; show _ ∧ _; omega
            have HZ : Hid (¬ (P / 2 = 0 ∧ Q / 2 = 0)) := by have := hnz.out; show ¬ _; omega
            go_wp2
            go_roundw
            case rel =>
              repeat apply Exists.intro
              exact ⟨⟨i, P / 2, Q / 2, ap, np, cp, aq, nq, cq, by omega, by go_num, HN, HD, HZ, HO⟩, rfl⟩
            case measure => show (i : Int).toNat < ((i + 1 : Nat) : Int).toNat; omega
        case false =>
          have hns : ¬ (0 < j ∧ P % 2 = 0 ∧ Q % 2 = 0) := by simp at hb; omega
          have hst := one_stop hnz.out hns
          rw [hone.out] at hst
          have PP := fun V (h : Below wc.heap.size wc V) => part_any P b m d V (hO'.out.ip.below h)
          have PQ := fun V (h : Below wc.heap.size wc V) => part_any Q b' m' d' V (hO'.out.iq.below h)
          obtain ⟨x0, x1, _, _, _⟩ := hO'.out.bp
          obtain ⟨y0, y1, _, _, _⟩ := hO'.out.bq
          obtain ⟨r0, r1, r2, rf0, rf1, rf2⟩ := hO'.out.rc
          have lq := hO'.out.bq.lt
          have lr := hO'.out.rc.lt
          have hW := hO'.out.below
          have hZ := Below.refl wc.heap.size wc
          clear hb hns hone hnz hbd hO'
          generalize sgn P = sp at PP x0
          generalize sgn Q = sq at PQ y0
          cases hP : inP P
          all_goals cases hQ : inP Q
          all_goals by_cases hj6 : 60 < j
          all_goals
            rw [hP] at PP hst
            rw [hQ] at PQ hst
            simp only [if_true, Bool.false_eq_true, if_false, and_false, false_and, true_and] at PP PQ hst
            try rw [if_neg (by omega)] at hst
            try rw [if_pos (by omega)] at hst
            subst hst
            go_wp2_with (first
              | (go_at_call 58; (with_reducible refine (PP _ hZ).mono ?_); rintro e w2 ⟨rfl, hN⟩; have hK := btr hZ hN; obtain ⟨hc, hf⟩ := bcell hK)
              | (go_at_call 58; (with_reducible refine (PQ _ hK).mono ?_); rintro e w3 ⟨rfl, hN⟩; have hK := btr hK hN; obtain ⟨hc, hf⟩ := bcell hK))
            first
              | exact bodyPost_ret (v := rtV ⟨0, 0, 0, 3⟩) (by simp [results, Tryd.results31, go_sem, hc, r0, r1, r2, lr]) rfl ⟨rfl, (((btr hW hK).setCell (by simp; omega) _).setCell (by simp; omega) _).setCell (by simp; omega) _⟩
              | exact bodyPost_ret (v := rtV ⟨P, Q, (j : Int), 0⟩) (by simp [results, Tryd.results31, go_sem, hc, r0, r1, r2, lr]) rfl ⟨rfl, (((btr hW hK).setCell (by simp; omega) _).setCell (by simp; omega) _).setCell (by simp; omega) _⟩
end Go.Proofs.YtalaacfoaelipaaDoor
