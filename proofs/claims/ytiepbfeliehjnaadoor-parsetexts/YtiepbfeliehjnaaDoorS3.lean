/-
  The reference's body.
-/
import Derived.Test.YtiepbfeliehjnaaDoorS0
import Derived.Test.YtiepbfeliehjnaaDoorS1
namespace Go.Proofs.YtiepbfeliehjnaaDoor
open Go.RowKit Go.Sort

/-- What statement tells, whatever its kind. -/
def RSt : Prop := ∀ (n : Int) (rec : Nat → List Tk → Except Fa (List Rw × List Tk)) (w W : World) (rb : Nat) (ts : Value) (l : List Tk) (i : Nat) (v : Value) (rs : List Rw) (d : Nat), RV w W rb ts l n i 0 0 v → OR W w.heap.size v rs → rs.length ≤ i → ∀ (N : Nat), BodyR n rec N → (l.drop i).length ≤ N → d ≤ 32 →
    Calls Tryd.prog 19 #[.pointer (some ⟨rb, 0, none⟩), .int .i64 d] W (SD w W rb ts l n v rs (stmtP n rec d (l.drop i)))
theorem bd_want' {n : Int} {F d : Nat} (s : Except Fa (List Tk)) (h : ¬ (32 ≤ d ∧ sB wOpen s = true)) : stp s (bdP n (stmtsP n F) d) = stp (rst (stp s (signP n wOpen))) (zP n F d) := by
  by_cases hd : 32 ≤ d
  · cases s with
    | error q => rfl
    | ok r =>
      have h : seesB wOpen r = false := by
        cases e : seesB wOpen r with
        | false => rfl
        | true => exact absurd ⟨hd, e⟩ h
      show bdP n (stmtsP n F) d r = stp (rst (signP n wOpen r)) (zP n F d)
      unfold bdP
      rw [signP_no h]
      rfl
  · exact bd_want hd s
/-- Behind the opening sign. -/
theorem open_facts {w W : World} {rb : Nat} {ts : Value} {l : List Tk} {n : Int} {v : Value} {s : Except Fa (List Tk)} (H : RX w W rb ts l n v s) {F : Nat} {k : Nat} (hcnt : ∀ j, s = .ok (l.drop j) → j ≤ l.length → k ≤ j) (hlen : ∀ r, s = .ok r → r.length < F) :
    mS (rst (stp s (signP n wOpen))) ≤ F ∧ ∀ j, rst (stp s (signP n wOpen)) = .ok (l.drop j) → j ≤ l.length → k ≤ j := by
  rcases H with ⟨i, rfl, h⟩ | ⟨q, i, rfl, _, h⟩
  · have hl := hlen _ rfl
    have hc := hcnt i rfl h.le
    show mS (rst (signP n wOpen (l.drop i))) ≤ F ∧ ∀ j, rst (signP n wOpen (l.drop i)) = .ok (l.drop j) → j ≤ l.length → k ≤ j
    cases e : signP n wOpen (l.drop i) with
    | error q => exact ⟨Nat.zero_le _, fun j e => by cases e⟩
    | ok z =>
      obtain ⟨u, r1⟩ := z
      obtain ⟨e1, _⟩ := signP_len e
      rw [e1] at hl
      simp only [List.length_cons] at hl
      refine ⟨by show r1.length + 1 ≤ F; omega, fun j e2 hj => ?_⟩
      have e2 : r1 = l.drop j := Except.ok.inj e2
      have e3 := congrArg List.length e1
      simp only [List.length_cons, List.length_drop, e2] at e3
      omega
  · exact ⟨Nat.zero_le _, fun j e => by cases e⟩
set_option maxHeartbeats 8000000 in
set_option maxRecDepth 100000 in
theorem rbody_any (hST : RSt) (n : Int) : ∀ (F : Nat), BodyR n (stmtsP n F) F := by
  intro F
  induction F using Nat.strongRecOn with
  | _ F ih =>
    intro w W rb ts l v s rs d H hO hrs hcnt hlen hd y hy
    subst hy
    have SG := rsign_any w W rb ts l n v s wOpen sg_open H
    have HI : Hid (∀ f, f < F → BodyR n (stmtsP n f) f) := ih
    clear ih
    by_cases hC : 32 ≤ d ∧ sB wOpen s = true
    · obtain ⟨h32, hb⟩ := hC
      obtain rfl : d = 32 := by omega
      rw [hb] at SG
      have FL := fun m => rfail_any w (W.drewN m) rb ts l n v s 102 102 (by decide) rfl (H.drawn m)
      have e : stp s (bdP n (stmtsP n F) 32) = .error (match failX n 102 s with | .error q => q | .ok _ => (0, 0)) ∧ rst (stp s (bdP n (stmtsP n F) 32)) = failX n 102 s := by
        obtain ⟨i, rfl, _, hi, ht⟩ := H.alive hb
        have e : stp (.ok (l.drop i)) (bdP n (stmtsP n F) 32) = .error (l[i].p, 102) := by
          show bdP n (stmtsP n F) 32 (l.drop i) = _
          rw [drop_at hi]
          simp only [bdP, signP, if_pos ht, bodyP]
          rfl
        rw [e, drop_at hi]
        exact ⟨rfl, rfl⟩
      have HF : Hid (∀ m W', GB (W.drewN m) W' rb → FR W W' rb v v ∧ OR W' w.heap.size v rs) := fun m W' g => by
        obtain ⟨cs, hbk⟩ := (H.drawn m).blk
        exact ⟨((FR.refl W rb v).below (below_drewN (Below.refl _ _) m)).gb g, (hO.below (below_drewN (Below.refl _ _) m)).gbT g hbk (by decide) (by decide)⟩
      have HE := Hid.of e
      clear e
      unfold SD
      go_enter Tryd.func45, Tryd.ntmps45
      go_wp2_with (first | (go_at_call 58; (with_reducible refine SG.mono ?_); rintro e w1 ⟨rfl, m, rfl⟩) | (go_at_call 39; (with_reducible refine (FL _).mono ?_); rintro e w2 ⟨rfl, hG, hR⟩))
      obtain ⟨f1, f2⟩ := HF.out _ _ hG
      refine bodyPost_ret (results_none rfl _ _ _) rfl ⟨rfl, _, rs, f1, by rw [HE.out.2]; exact hR, f2, Nat.le_refl _, hrs, fun rs2 r2 h => by rw [HE.out.1] at h; cases h⟩
    · obtain ⟨Y, hY⟩ : ∃ Y, Y = stp s (bdP n (stmtsP n F) d) := ⟨_, rfl⟩
      have HY : Hid (Y = stp (rst (stp s (signP n wOpen))) (zP n F d)) := by show _ = _; rw [hY]; exact bd_want' s hC
      rw [← hY]
      have WT := fun m => rwant_any w (W.drewN m) rb ts l n v s wOpen sg_open (H.drawn m)
      obtain ⟨hm1, hc1⟩ := open_facts H hcnt hlen
      have HF : Hid (∀ m W', GB (W.drewN m) W' rb → FR W W' rb v v ∧ OR W' w.heap.size v rs) := fun m W' g => by
        obtain ⟨cs, hbk⟩ := (H.drawn m).blk
        exact ⟨((FR.refl W rb v).below (below_drewN (Below.refl _ _) m)).gb g, (hO.below (below_drewN (Below.refl _ _) m)).gbT g hbk (by decide) (by decide)⟩
      have hc1 := Hid.of hc1
      have hdd : Hid (∀ r1, rst (stp s (signP n wOpen)) = .ok r1 → d + 1 ≤ 32) := fun r1 e => by
        cases hb : sB wOpen s with
        | false =>
          rw [want_no hb] at e
          cases s with
          | error q => cases e
          | ok r => cases e
        | true =>
          have : ¬ 32 ≤ d := fun h => hC ⟨h, hb⟩
          omega
      have h33 : sB wOpen s = true → ¬ (32 : Int) < (d : Int) + 1 := fun hb h => hC ⟨by omega, hb⟩
      clear hY H hO hcnt hlen hC
      generalize hs1 : rst (stp s (signP n wOpen)) = s1 at *
      clear hs1
      unfold SD
      cases hb : sB wOpen s
      all_goals
        rw [hb] at SG
        have h33 := h33
        simp only [hb, forall_const, Bool.false_eq_true, false_implies] at h33
        go_enter Tryd.func45, Tryd.ntmps45
        go_wp2_with (first | (go_at_call 58; (with_reducible refine SG.mono ?_); rintro e w1 ⟨rfl, m, rfl⟩) | (go_at_call 43; (with_reducible refine (WT _).mono ?_); rintro e w2 ⟨rfl, hG, hR⟩))
        obtain ⟨f1, f2⟩ := HF.out _ _ hG
        have hR := Hid.of hR
        have f1 := Hid.of f1
        have f2 := Hid.of f2
        go_loopg [] F (fun g wr => ∃ (s' : Except Fa (List Tk)) (v' : Value) (rs' rs1 : List Rw) (f0 : Nat), f0 = g ∧ f0 ≤ F ∧ mS s' ≤ f0 ∧ rs.length ≤ rs'.length ∧ rs'.length ≤ 65536 ∧ Hid (FR W wr rb v v') ∧ Hid (RX w wr rb ts l n v' s') ∧ Hid (OR wr w.heap.size v' rs') ∧ Hid (∀ j, s' = .ok (l.drop j) → j ≤ l.length → rs'.length ≤ j) ∧ Hid (∀ q, s' = .error q → Y = .error q) ∧ Hid (∀ r, s' = .ok r → rs' = rs ++ rs1 ∧ ∃ r1, s1 = .ok r1 ∧ stmtsP n F (d + 1) r1 = preR rs1 (stmtsP n f0 (d + 1) r)))
        case atStart => exact ⟨s1, v, rs, [], F, rfl, Nat.le_refl _, hm1, Nat.le_refl _, hrs, f1, hR, f2, hc1, (fun q e => by rw [HY.out, e]; rfl), fun r e => ⟨by simp, r, e, by cases stmtsP n F (d + 1) r <;> simp [preR]⟩⟩
        case round =>
          clear f1 f2 hR SG WT HF hc1
          obtain ⟨s', v', rs', rs1, f0, rfl, hfF, hmf, hr1, hr2, hFR, hRX, hOR, hcn, hdead, hal⟩ := hrel
          rcases hRX.out with ⟨j, es, HV⟩ | ⟨q, j, es, hq, HV⟩
          · obtain ⟨c0, c1, c2, c3, c4, c5⟩ := HV.cells
            have zl := HV.blk.lt
            have hjl := HV.le
            have SE := rsign_any w wr rb ts l n v' s' wShut sg_shut hRX.out
            subst es
            obtain ⟨hrr, r1, er1, eq1⟩ := hal.out _ rfl
            have hd1 := hdd.out r1 er1
            have hmf : (l.drop j).length + 1 ≤ f0 := hmf
            obtain ⟨f, rfl⟩ : ∃ f, f0 = f + 1 := ⟨f0 - 1, by omega⟩
            cases hs : sB wShut (.ok (l.drop j)) with
            | true =>
              rw [hs] at SE
              have hs' : seesB wShut (l.drop j) = true := hs
              obtain ⟨hi, ht⟩ := sees_in hs'
              have EY : Hid (Y = .ok (rs1, l.drop (j + 1))) := by
                show _ = _
                rw [HY.out, er1]
                show zP n F d r1 = _
                unfold zP
                rw [eq1]
                unfold stmtsP
                rw [if_pos hs']
                show Except.ok (rs1 ++ [], (l.drop j).tail) = _
                rw [List.append_nil, List.tail_drop]
              have WS : ∀ m, Calls Tryd.prog 43 #[.pointer (some ⟨rb, 0, none⟩), .string wShut] (wr.drewN m) fun e W' => e = .returned (.tuple #[]) ∧ GB (wr.drewN m) W' rb ∧ RX w W' rb ts l n v' (.ok (l.drop (j + 1))) := fun m => by
                have h := rwant_any w (wr.drewN m) rb ts l n v' (.ok (l.drop j)) wShut sg_shut (hRX.out.drawn m)
                have e : rst (stp (.ok (l.drop j)) (signP n wShut)) = .ok (l.drop (j + 1)) := by
                  rw [drop_at hi]
                  simp only [stp, signP, if_pos ht, rst]
                rw [e] at h
                exact h
              have HE : Hid (∀ m W', GB (wr.drewN m) W' rb → FR W W' rb v v' ∧ OR W' w.heap.size v' rs') := fun m W' g => by
                exact ⟨(hFR.out.below (below_drewN (Below.refl _ _) m)).gb g, (hOR.out.below (below_drewN (Below.refl _ _) m)).gbT g (HV.drawn m).blk (by decide) (by decide)⟩
              clear eq1 er1 hal
              go_wp2_with (first | (go_at_call 58; (with_reducible refine SE.mono ?_); rintro e w4 ⟨rfl, m4, rfl⟩) | (go_at_call 43; (with_reducible refine (WS _).mono ?_); rintro e w5 ⟨rfl, hG5, hR5⟩))
              obtain ⟨g1, g2⟩ := HE.out _ _ hG5
              refine bodyPost_end (results_none rfl _ _ _) rfl ⟨rfl, v', rs', g1, by rw [EY.out]; exact hR5, g2, hr1, hr2, fun rs2 r2 h => ?_⟩
              rw [EY.out] at h
              cases h
              exact hrr
            | false =>
              rw [hs] at SE
              have hs' : seesB wShut (l.drop j) = false := hs
              have hB := HI.out f (by omega)
              have ST : ∀ m, Calls Tryd.prog 19 #[.pointer (some ⟨rb, 0, none⟩), .int .i64 ((d : Int) + 1)] (wr.drewN m) (SD w (wr.drewN m) rb ts l n v' rs' (stmtP n (stmtsP n f) (d + 1) (l.drop j))) := fun m => hST n (stmtsP n f) w (wr.drewN m) rb ts l j v' rs' (d + 1) (HV.drawn m) (hOR.out.below (below_drewN (Below.refl _ _) m)) (hcn.out j rfl hjl) f hB (by omega) hd1
              have ES : stmtsP n (f + 1) (d + 1) (l.drop j) = match stmtP n (stmtsP n f) (d + 1) (l.drop j) with | .error e => .error e | .ok (rs, r) => match stmtsP n f (d + 1) r with | .error e => .error e | .ok (rs2, r2) => .ok (rs ++ rs2, r2) := by
                show (if seesB wShut (l.drop j) = true then _ else _) = _
                rw [hs']
                rfl
              have hFd : Hid (∀ m, FR W (wr.drewN m) rb v v') := fun m => hFR.out.below (below_drewN (Below.refl _ _) m)
              cases h1 : stmtP n (stmtsP n f) (d + 1) (l.drop j) with
              | error q =>
                rw [h1] at ST ES
                have EY : Hid (Y = .error q) := by
                  show _ = _
                  rw [HY.out, er1]
                  show zP n F d r1 = _
                  unfold zP
                  rw [eq1, ES]
                  rfl
                clear eq1 er1 hal ES h1 hB
                unfold SD at ST
                go_wp2_with (first | (go_at_call 58; (with_reducible refine SE.mono ?_); rintro e w4 ⟨rfl, m4, rfl⟩) | (go_at_call 19; (with_reducible refine (ST _).mono ?_); rintro e w5 ⟨rfl, v5, rs5, hF5, hR5, hO5, hl5, hb5, hv5⟩))
                go_roundg f
                case measure => omega
                case rel => exact ⟨.error q, v5, rs5, rs1, f, rfl, by omega, Nat.zero_le _, by omega, hb5, (hFd.out _).trans hF5, hR5, hO5, (fun j e => by cases e), (fun q' e => by cases e; exact EY), fun r e => by cases e⟩
              | ok z =>
                obtain ⟨rsA, r2⟩ := z
                rw [h1] at ST ES
                have hsh := stmt_short (fun d l r rs h => (stmts_short f d l r rs h).1) h1
                have hco := stmt_count (fun d l r rs h => stmts_count f d l r rs h) h1
                have EQ : Hid (stmtsP n F (d + 1) r1 = preR (rs1 ++ rsA) (stmtsP n f (d + 1) r2)) := by
                  show _ = _
                  rw [eq1, ES]
                  dsimp only
                  cases stmtsP n f (d + 1) r2 with
                  | error e => rfl
                  | ok y => show Except.ok (rs1 ++ (rsA ++ y.1), y.2) = Except.ok (rs1 ++ rsA ++ y.1, y.2); rw [List.append_assoc]
                have hcj := hcn.out j rfl hjl
                have HR1 := Hid.of er1
                have HRR := Hid.of hrr
                clear eq1 er1 hal ES h1 hB hrr
                unfold SD at ST
                go_wp2_with (first | (go_at_call 58; (with_reducible refine SE.mono ?_); rintro e w4 ⟨rfl, m4, rfl⟩) | (go_at_call 19; (with_reducible refine (ST _).mono ?_); rintro e w5 ⟨rfl, v5, rs5, hF5, hR5, hO5, hl5, hb5, hv5⟩))
                have hv6 := hv5 rsA r2 rfl
                have hdl : (l.drop j).length = l.length - j := List.length_drop
                go_roundg f
                case measure => omega
                case rel => exact ⟨.ok r2, v5, rs5, rs1 ++ rsA, f, rfl, by omega, (show r2.length + 1 ≤ f by omega), by omega, hb5, (hFd.out _).trans hF5, hR5, hO5, (fun j' e hj' => by
                    have e : r2 = l.drop j' := Except.ok.inj e
                    have e9 : r2.length = l.length - j' := by rw [e, List.length_drop]
                    have e8 := congrArg List.length hv6
                    rw [List.length_append] at e8
                    omega), (fun q' e => by cases e), fun r e => by cases e; exact ⟨by rw [hv6, HRR.out, List.append_assoc], r1, HR1.out, EQ.out⟩⟩
          · obtain ⟨c0, c1, c2, c3, c4, c5⟩ := HV.cells
            have zl := HV.blk.lt
            subst es
            have EY : Hid (Y = .error q) := hdead.out q rfl
            have WS := fun m => rwant_any w (wr.drewN m) rb ts l n v' (.error q) wShut sg_shut (hRX.out.drawn m)
            have WS0 := rwant_any w wr rb ts l n v' (.error q) wShut sg_shut hRX.out
            have HE : Hid (∀ W', GB wr W' rb → FR W W' rb v v' ∧ OR W' w.heap.size v' rs') := fun W' g => ⟨hFR.out.gb g, hOR.out.gbT g HV.blk (by decide) (by decide)⟩
            have h1 : ((q.2 : Int) == 0) = false := by simp; omega
            generalize hq2 : (q.2 : Int) = er at *
            go_wp2_with (first | (go_at_call 43; (with_reducible refine WS0.mono ?_); rintro e w5 ⟨rfl, hG5, hR5⟩) | (go_at_call 43; (with_reducible refine (WS _).mono ?_); rintro e w5 ⟨rfl, hG5, hR5⟩))
            obtain ⟨g1, g2⟩ := HE.out _ hG5
            exact bodyPost_end (results_none rfl _ _ _) rfl ⟨rfl, v', rs', g1, by rw [EY.out]; exact hR5, g2, hr1, hr2, fun rs2 r2 h => by rw [EY.out] at h; cases h⟩
end Go.Proofs.YtiepbfeliehjnaaDoor
