/-
  The reader's calls statement, body and program.
-/
import Derived.Test.YtiepbfeliehjnaaDoorP8tt
import Derived.Test.YtiepbfeliehjnaaDoorP8tf
import Derived.Test.YtiepbfeliehjnaaDoorP8ft
import Derived.Test.YtiepbfeliehjnaaDoorP8ff
import Derived.Test.YtiepbfeliehjnaaDoorP8use
namespace Go.Proofs.YtiepbfeliehjnaaDoor
open Go.RowKit Go.Sort

theorem stmt_none (n : Int) (rec : Nat → List Tk → Except Fa (List Rw × List Tk)) (w W : World) (rb : Nat) (ts : Value) (l : List Tk) (i : Nat) (rs : List Rw) (d : Nat) (H : RS w W rb ts l n i rs) (hi : ¬ i < l.length) :
    Calls Tryd.prog 47 #[.pointer (some ⟨rb, 0, none⟩), .int .i64 d] W (Did w rb ts l n rs (stmtP n rec d (l.drop i))) := by
  obtain ⟨v, hR, hO, hcnt⟩ := H
  have TK := take_no w W rb ts l n i _ hR hi
  have HE : ∀ W', GB W W' rb → Below w.heap.size w W' := fun W' g => hR.below.grown g hR.below.size (fun k e => by cases e; exact hR.ge)
  rw [drop_out hi]
  clear hR hO
  unfold Did
  go_enter Tryd.func47, Tryd.ntmps47
  go_wp2_with (go_at_call 59; (with_reducible refine TK.mono ?_); rintro e w1 ⟨rfl, hG⟩)
  exact ⟨rfl, HE _ hG, .inl ⟨_, rfl, rfl⟩⟩
theorem stmt_any (n : Int) (rec : Nat → List Tk → Except Fa (List Rw × List Tk)) (w W : World) (rb : Nat) (ts : Value) (l : List Tk) (i : Nat) (rs : List Rw) (d : Nat) (H : RS w W rb ts l n i rs) (hB : BodyOk n rec (l.drop i).length) (hd : d ≤ 32) :
    Calls Tryd.prog 47 #[.pointer (some ⟨rb, 0, none⟩), .int .i64 d] W (Did w rb ts l n rs (stmtP n rec d (l.drop i))) := by
  by_cases hi : i < l.length
  · cases ho : ownB l[i].t with
    | false => exact stmt_use n rec w W rb ts l i rs d H hi ho
    | true =>
      have hk : kindK l[i] = l[i].t := by unfold kindK; rw [if_pos ho]
      have hs : ∀ s, shp l[i].t = some s → shK l[i] = s := fun s h => by unfold shK; rw [hk, h]; rfl
      rcases shp_cases l[i].t with ⟨_, h, _⟩ | ⟨_, h, _⟩ | ⟨_, h, _⟩ | ⟨_, h, _⟩ | ⟨_, h, _⟩ | ⟨_, h, _⟩ | ⟨_, h, _⟩ | ⟨_, _, h⟩ | ⟨_, _, _, _, _, _, _, _, _, h⟩
      · exact stmt_own_tt n rec w W rb ts l i rs d 0 false false H hB hd hi ho (hs _ h) (.inr ⟨by omega, by omega⟩)
      · exact stmt_own_tt n rec w W rb ts l i rs d 0 false false H hB hd hi ho (hs _ h) (.inr ⟨by omega, by omega⟩)
      · exact stmt_own_tf n rec w W rb ts l i rs d (-1) false true H hB hd hi ho (hs _ h) (.inl rfl)
      · exact stmt_own_ft n rec w W rb ts l i rs d 0 false true H hB hd hi ho (hs _ h) (.inr ⟨by omega, by omega⟩)
      · exact stmt_own_tt n rec w W rb ts l i rs d 0 false true H hB hd hi ho (hs _ h) (.inr ⟨by omega, by omega⟩)
      · exact stmt_own_ff n rec w W rb ts l i rs d 2 true false H hB hd hi ho (hs _ h) (.inr ⟨by omega, by omega⟩)
      · exact stmt_own_ff n rec w W rb ts l i rs d 1 true false H hB hd hi ho (hs _ h) (.inr ⟨by omega, by omega⟩)
      · rw [ho] at h; cases h
      · rw [ho] at h; cases h
  · exact stmt_none n rec w W rb ts l i rs d H hi
theorem BodyOk.less {n : Int} {rec : Nat → List Tk → Except Fa (List Rw × List Tk)} {N N' : Nat} (h : N' ≤ N) (hB : BodyOk n rec N) : BodyOk n rec N' := fun w W rb ts l i rs d t H hl hd => hB w W rb ts l i rs d t H (Nat.lt_of_lt_of_le hl h) hd
/-- Statements read so far, then the rest. -/
def preR (rs : List Rw) (r : Except Fa (List Rw × List Tk)) : Except Fa (List Rw × List Tk) := match r with | .error e => .error e | .ok (x, y) => .ok (rs ++ x, y)
theorem stmt_short {n : Int} {rec : Nat → List Tk → Except Fa (List Rw × List Tk)} {d : Nat} {l r : List Tk} {rs : List Rw} (hrec : ∀ d l r rs, rec d l = .ok (rs, r) → r.length ≤ l.length) (h : stmtP n rec d l = .ok (rs, r)) : r.length < l.length := by
  cases l with
  | nil => cases h
  | cons t u =>
    have h0 := restK_len t u
    cases hm : midP n (shK t) (restK t u) with
    | error q => rw [stmt_mid hm] at h; cases h
    | ok y =>
      obtain ⟨⟨nm, aa, x, p⟩, l4⟩ := y
      have h1 := midP_len hm
      cases hb : (shK t).body with
      | false =>
        rw [stmt_flat hm hb] at h
        cases h
        simp only [List.length_cons]
        omega
      | true =>
        cases h5 : bodyP rec d p l4 with
        | error q => rw [stmt_be hm hb h5] at h; cases h
        | ok y =>
          obtain ⟨rs2, l5⟩ := y
          rw [stmt_bo hm hb h5] at h
          cases h
          unfold bodyP at h5
          by_cases hd : 32 ≤ d
          · rw [if_pos hd] at h5; cases h5
          · rw [if_neg hd] at h5
            cases hr : rec (d + 1) l4 with
            | error q => rw [hr] at h5; cases h5
            | ok y =>
              obtain ⟨rs3, l6⟩ := y
              rw [hr] at h5
              cases h5
              have := hrec _ _ _ _ hr
              simp only [List.length_cons, List.length_tail]
              omega
theorem stmts_short {n : Int} : ∀ (f d : Nat) (l r : List Tk) (rs : List Rw), stmtsP n f d l = .ok (rs, r) → r.length ≤ l.length ∧ seesB wShut r = true := by
  intro f
  induction f with
  | zero => intro d l r rs h; cases h
  | succ f ih =>
    intro d l r rs h
    unfold stmtsP at h
    by_cases hs : seesB wShut l = true
    · rw [if_pos hs] at h; cases h; exact ⟨Nat.le_refl _, hs⟩
    · rw [if_neg hs] at h
      cases h1 : stmtP n (stmtsP n f) d l with
      | error q => rw [h1] at h; cases h
      | ok y =>
        obtain ⟨rs1, r1⟩ := y
        rw [h1] at h
        simp only at h
        cases h2 : stmtsP n f d r1 with
        | error q => rw [h2] at h; cases h
        | ok y =>
          obtain ⟨rs2, r2⟩ := y
          rw [h2] at h
          cases h
          have g1 := stmt_short (fun d l r rs h => (ih d l r rs h).1) h1
          have g2 := ih _ _ _ _ h2
          exact ⟨by omega, g2.2⟩
set_option maxHeartbeats 2000000 in
theorem body_any (n : Int) : ∀ (F : Nat), BodyOk n (stmtsP n F) F := by
  intro F
  induction F using Nat.strongRecOn with
  | _ F ih =>
    intro w W rb ts l i rs d t H hlen hd
    by_cases hd2 : 32 ≤ d
    · obtain rfl : d = 32 := by omega
      have e : bodyP (stmtsP n F) 32 t.p (l.drop i) = .error (t.p, 102) := by unfold bodyP; rw [if_pos hd2]
      rw [e]
      obtain ⟨v, hR, _, _⟩ := H
      have hb := hR.below
      clear e hR ih
      unfold Did
      go_enter Tryd.func66, Tryd.ntmps66
      go_wp2
      exact ⟨rfl, bal hb _, .inl ⟨_, rfl, rfl⟩⟩
    obtain ⟨R0, hR0⟩ : ∃ R0, R0 = bodyP (stmtsP n F) d t.p (l.drop i) := ⟨_, rfl⟩
    have HO : Hid (∀ rs l5, stmtsP n F (d + 1) (l.drop i) = .ok (rs, l5) → R0 = .ok (rs, l5.tail)) := fun rs l5 h => by rw [hR0]; unfold bodyP; rw [if_neg hd2, h]
    have HE : Hid (∀ q, stmtsP n F (d + 1) (l.drop i) = .error q → R0 = .error q) := fun q h => by rw [hR0]; unfold bodyP; rw [if_neg hd2, h]
    rw [← hR0]
    clear hR0
    have HI : Hid (∀ f, f < F → BodyOk n (stmtsP n f) f) := ih
    have hg1 : ¬ (32 : Int) ≤ (d : Int) := by omega
    have H0 : Hid (∀ o, RS w (W.alloc o) rb ts l n i rs) := fun o => by
      obtain ⟨v, hR, hO, hc⟩ := H
      exact ⟨v, hR.on (bal (Below.refl _ _) _), hO.below (bal (Below.refl _ _) _), hc⟩
    clear H ih
    unfold Did
    go_enter Tryd.func66, Tryd.ntmps66
    go_upto_region 3 with (fail)
    go_loopg [] F (fun g wr => ∃ (rs1 : List Rw) (j f0 : Nat), f0 = g ∧ f0 ≤ F ∧ (l.drop j).length < f0 ∧ Hid (stmtsP n F (d + 1) (l.drop i) = preR rs1 (stmtsP n f0 (d + 1) (l.drop j))) ∧ Hid (RS w wr rb ts l n j (rs ++ rs1)))
    case atStart => exact ⟨[], i, F, rfl, Nat.le_refl _, hlen, by show _ = _; cases stmtsP n F (d + 1) (l.drop i) <;> simp [preR], by rw [List.append_nil]; exact H0.out _⟩
    case round =>
      clear H0
      obtain ⟨rs1, j, f0, rfl, hfF, hfl, hP, hH⟩ := hrel
      obtain ⟨f, rfl⟩ : ∃ f, f0 = f + 1 := ⟨f0 - 1, by omega⟩
      have hB := BodyOk.less (show (l.drop j).length ≤ f by omega) (HI.out f (by omega))
      obtain ⟨v, hR, hO, hc⟩ := hH.out
      have SE := sees_any w wr rb ts l n j v wShut hR
      have hD := fun m => hR.on (below_drewN (Below.refl wr.heap.size wr) m)
      have hOD := fun m => hO.below (below_drewN (Below.refl wr.heap.size wr) m)
      cases hs : seesB wShut (l.drop j) with
      | true =>
        rw [hs] at SE
        obtain ⟨t1, r1, ht1, ht2⟩ := seesB_cons hs
        have EQ : Hid (stmtsP n F (d + 1) (l.drop i) = .ok (rs1, t1 :: r1)) := by
          show _ = _
          rw [hP.out]
          unfold stmtsP
          rw [if_pos hs, ht1]
          show Except.ok (rs1 ++ [], t1 :: r1) = _
          rw [List.append_nil]
        have SG : ∀ m, Calls Tryd.prog 64 #[.pointer (some ⟨rb, 0, none⟩), .string ⟨#[125]⟩] (wr.drewN m) fun e W'' => e = .returned (tv t1) ∧ GB (wr.drewN m) W'' rb ∧ ∃ j2, r1 = l.drop j2 ∧ RS0 w W'' rb ts l n j2 v := fun m => told_ok (by
          have := sign_any' w (wr.drewN m) rb ts l n j v wShut (hD m)
          have e2 : signP n wShut (l.drop j) = .ok (t1, r1) := by rw [ht1]; simp only [signP, if_pos ht2]
          rwa [e2] at this)
        have hjl := hR.le
        have hlj : (l.drop j).length = l.length - j := List.length_drop
        have hlr : r1.length + 1 = (l.drop j).length := by rw [ht1]; rfl
        have hbk := fun m => (hD m).blk
        clear hP hs ht1 ht2 hB
        go_wp2_with (first
          | (go_at_call 75; (with_reducible refine SE.mono ?_); rintro e w1 ⟨rfl, m, rfl⟩)
          | (go_at_call 64; (with_reducible refine (SG m).mono ?_); rintro e w2 ⟨rfl, hG, j2, hj2, hR2⟩))
        go_end0
        refine ⟨hR2.below, .inr ⟨rs1, j2, by rw [HO.out _ _ EQ.out, ← hj2]; rfl, rfl, v, hR2, (hOD m).gb hG (hbk m), ?_⟩⟩
        have e9 : r1.length = l.length - j2 := by rw [hj2, List.length_drop]
        have := hR2.le
        omega
      | false =>
        rw [hs] at SE
        have ST := fun m => stmt_any n (stmtsP n f) w (wr.drewN m) rb ts l j (rs ++ rs1) (d + 1) ⟨v, hD m, hOD m, hc⟩ hB (by omega)
        have ES : stmtsP n (f + 1) (d + 1) (l.drop j) = match stmtP n (stmtsP n f) (d + 1) (l.drop j) with | .error e => .error e | .ok (rs, r) => match stmtsP n f (d + 1) r with | .error e => .error e | .ok (rs2, r2) => .ok (rs ++ rs2, r2) := by
          show (if seesB wShut (l.drop j) = true then _ else _) = _
          rw [hs]
          rfl
        cases h1 : stmtP n (stmtsP n f) (d + 1) (l.drop j) with
        | error q =>
          rw [h1] at ST ES
          have EQ : Hid (stmtsP n F (d + 1) (l.drop i) = .error q) := by show _ = _; rw [hP.out, ES]; rfl
          have ST2 : ∀ m, Calls Tryd.prog 47 #[.pointer (some ⟨rb, 0, none⟩), .int .i64 ((d : Int) + 1)] (wr.drewN m) fun e W' => e = .panicked [flt q] ∧ Below w.heap.size w W' := fun m => did_err (ST m)
          clear hP hs hB ES h1 ST
          go_wp2_with (first
            | (go_at_call 75; (with_reducible refine SE.mono ?_); rintro e w1 ⟨rfl, m, rfl⟩)
            | (go_at_call 47; (with_reducible refine (ST2 m).mono ?_); rintro e w2 ⟨rfl, hE⟩))
          exact ⟨rfl, hE, .inl ⟨q, HE.out _ EQ.out, rfl⟩⟩
        | ok y =>
          obtain ⟨rs2, r2⟩ := y
          rw [h1] at ST ES
          have hsh := stmt_short (fun d l r rs h => (stmts_short f d l r rs h).1) h1
          have EQ : Hid (stmtsP n F (d + 1) (l.drop i) = preR (rs1 ++ rs2) (stmtsP n f (d + 1) r2)) := by
            show _ = _
            rw [hP.out, ES]
            dsimp only
            cases stmtsP n f (d + 1) r2 with
            | error e => rfl
            | ok y => show Except.ok (rs1 ++ (rs2 ++ y.1), y.2) = Except.ok (rs1 ++ rs2 ++ y.1, y.2); rw [List.append_assoc]
          have ST2 : ∀ m, Calls Tryd.prog 47 #[.pointer (some ⟨rb, 0, none⟩), .int .i64 ((d : Int) + 1)] (wr.drewN m) fun e W' => e = .returned (.tuple #[]) ∧ Below w.heap.size w W' ∧ ∃ j, r2 = l.drop j ∧ RS w W' rb ts l n j (rs ++ rs1 ++ rs2) := fun m => did_ok (ST m)
          clear hP hs hB ES h1 ST
          go_wp2_with (first
            | (go_at_call 75; (with_reducible refine SE.mono ?_); rintro e w1 ⟨rfl, m, rfl⟩)
            | (go_at_call 47; (with_reducible refine (ST2 m).mono ?_); rintro e w2 ⟨rfl, hE, j2, hj2, hR2⟩))
          go_roundg f
          case measure => omega
          case rel => exact ⟨rs1 ++ rs2, j2, f, rfl, by omega, by rw [← hj2]; omega, by rw [← hj2]; exact EQ, by rw [← List.append_assoc]; exact hR2⟩
/-- Statements of the program read so far, then the rest. -/
def preQ (rs : List Rw) (r : Except Fa (List Rw)) : Except Fa (List Rw) := match r with | .error e => .error e | .ok x => .ok (rs ++ x)
set_option maxHeartbeats 2000000 in
theorem program_any (w W : World) (rb : Nat) (ts : Value) (l : List Tk) (n : Int) (H : RS w W rb ts l n 0 []) :
    Calls Tryd.prog 21 #[.pointer (some ⟨rb, 0, none⟩)] W fun e W' => Below w.heap.size w W' ∧ ((∃ q, progP n (l.length + 1) l = .error q ∧ e = .panicked [flt q]) ∨ ∃ rs, progP n (l.length + 1) l = .ok rs ∧ e = .returned (.tuple #[]) ∧ RS w W' rb ts l n l.length rs) := by
  have H0 : Hid (RS w W rb ts l n 0 []) := H
  obtain ⟨F, hF⟩ : ∃ F, F = l.length + 1 := ⟨_, rfl⟩
  have HFF : Hid (F = l.length + 1) := hF
  rw [← hF]
  clear H hF
  go_enter Tryd.func21, Tryd.ntmps21
  go_wp2
  go_loopg [] F (fun g wr => ∃ (rs1 : List Rw) (j f0 : Nat), f0 = g ∧ f0 ≤ F ∧ (l.drop j).length < f0 ∧ Hid (progP n F l = preQ rs1 (progP n f0 (l.drop j))) ∧ Hid (RS w wr rb ts l n j rs1))
  case atStart => exact ⟨[], 0, F, rfl, Nat.le_refl _, by rw [HFF.out]; simp, by show _ = _; cases h : progP n F l <;> simp [preQ, h], H0⟩
  case round =>
    clear H0
    obtain ⟨rs1, j, f0, rfl, hfF, hfl, hP, hH⟩ := hrel
    obtain ⟨f, rfl⟩ : ∃ f, f0 = f + 1 := ⟨f0 - 1, by omega⟩
    obtain ⟨v, hR, hO, hc⟩ := hH.out
    have hB := BodyOk.less (show (l.drop j).length ≤ f by omega) (body_any n f)
    have hD := fun m => hR.on (below_drewN (Below.refl wr.heap.size wr) m)
    have hOD := fun m => hO.below (below_drewN (Below.refl wr.heap.size wr) m)
    have hlen := hR.len
    have hrl := hR.blk.lt
    have c0 : wr.cell? ⟨rb, 0, none⟩ = some ts := hR.blk.cell 0
    have c1 : wr.cell? ⟨rb, 1, none⟩ = some (.int .i64 (j : Int)) := hR.blk.cell 1
    obtain ⟨ta, tc, rfl, htc, _⟩ := hR.tok
    by_cases hj : j < l.length
    · have ST := fun m => stmt_any n (stmtsP n f) w (wr.drewN m) rb _ l j rs1 0 ⟨v, hD m, hOD m, hc⟩ hB (by omega)
      have ES : progP n (f + 1) (l.drop j) = match stmtP n (stmtsP n f) 0 (l.drop j) with | .error e => .error e | .ok (rs, r) => match progP n f r with | .error e => .error e | .ok rs2 => .ok (rs ++ rs2) := by
        rw [drop_at hj]
        rfl
      cases h1 : stmtP n (stmtsP n f) 0 (l.drop j) with
      | error q =>
        rw [h1] at ST ES
        have EQ : Hid (progP n F l = .error q) := by show _ = _; rw [hP.out, ES]; rfl
        have ST2 : ∀ m, Calls Tryd.prog 47 #[.pointer (some ⟨rb, 0, none⟩), .int .i64 0] (wr.drewN m) fun e W' => e = .panicked [flt q] ∧ Below w.heap.size w W' := fun m => did_err (ST m)
        clear hP hB ES h1 ST
        go_upto_region 0 with (fail)
        go_quiet (fail)
        go_wp2_with (go_at_call 47; (with_reducible refine (ST2 _).mono ?_); rintro e w2 ⟨rfl, hE⟩)
        exact ⟨rfl, hE, .inl ⟨q, EQ.out, rfl⟩⟩
      | ok y =>
        obtain ⟨rs2, r2⟩ := y
        rw [h1] at ST ES
        have hsh := stmt_short (fun d l r rs h => (stmts_short f d l r rs h).1) h1
        have EQ : Hid (progP n F l = preQ (rs1 ++ rs2) (progP n f r2)) := by
          show _ = _
          rw [hP.out, ES]
          dsimp only
          cases progP n f r2 with
          | error e => rfl
          | ok y => show Except.ok (rs1 ++ (rs2 ++ y)) = Except.ok (rs1 ++ rs2 ++ y); rw [List.append_assoc]
        have ST2 : ∀ m, Calls Tryd.prog 47 #[.pointer (some ⟨rb, 0, none⟩), .int .i64 0] (wr.drewN m) fun e W' => e = .returned (.tuple #[]) ∧ Below w.heap.size w W' ∧ ∃ j, r2 = l.drop j ∧ RS w W' rb _ l n j (rs1 ++ rs2) := fun m => did_ok (ST m)
        clear hP hB ES h1 ST
        go_upto_region 0 with (fail)
        go_quiet (fail)
        go_wp2_with (go_at_call 47; (with_reducible refine (ST2 _).mono ?_); rintro e w2 ⟨rfl, hE, j2, hj2, hR2⟩)
        go_roundg f
        case measure => omega
        case rel => exact ⟨rs1 ++ rs2, j2, f, rfl, by omega, by rw [← hj2]; omega, by rw [← hj2]; exact EQ, hR2⟩
    · have hjl := hR.le
      obtain rfl : j = l.length := by omega
      have EQ : Hid (progP n F l = .ok rs1) := by show _ = _; rw [hP.out, drop_out hj]; show Except.ok (rs1 ++ []) = _; rw [List.append_nil]
      clear hP hB
      go_upto_region 0 with (fail)
      go_quiet (fail)
      go_wp2
      go_end0
      exact ⟨(hD _).below, .inr ⟨rs1, EQ.out, rfl, v, hD _, hOD _, hc⟩⟩
end Go.Proofs.YtiepbfeliehjnaaDoor
