/-
  Put together of: LP9 LPA LQ1 LB0 LB6.
-/
import Derived.Test.YtdjfpghgklkejaaGreatDoorXH
import Derived.Test.YtdjfpghgklkejaaGreatDoorXI
import Derived.Test.YtdjfpghgklkejaaGreatDoorXJ
import Derived.Test.YtdjfpghgklkejaaGreatDoorXK
import Derived.Test.YtdjfpghgklkejaaGreatDoorXL
import Derived.Recover
import Derived.Test.YtdjfpghgklkejaaGreatDoorXA
import Derived.Lib.ItoaMem
namespace Go.Proofs.YtdjfpghgklkejaaGreatDoor
open Go.RowKit Go.Sort
theorem stmt_none (n : Int) (rec : Nat → List Tk → Except Fa (List Rw × List Tk)) (w W : World) (rb : Nat) (ts : Value) (l : List Tk) (i : Nat) (rs : List Rw) (d : Nat) (H : RS w W rb ts l n i rs) (hi : ¬ i < l.length) :
  Calls Tryz.prog 112 #[.pointer (some ⟨rb, 0, none⟩), .int .i64 d] W (Did w rb ts l n rs (stmtP n rec d (l.drop i))) := by
 obtain ⟨v, hR, hO, hcnt⟩ := H
 have TK := take_no w W rb ts l n i _ hR hi
 have HE : ∀ W', GB W W' rb → Below w.heap.size w W' := fun W' g => hR.below.grown g hR.below.size (fun k e => by cases e; exact hR.ge)
 rw [drop_out hi]
 clear hR hO
 unfold Did
 go_enter Tryz.func112, Tryz.ntmps112
 go_wp2_with (go_at_call 145; (with_reducible refine TK.mono ?_); rintro e w1 ⟨rfl, hG⟩)
 exact ⟨rfl, HE _ hG, .inl ⟨_, rfl, rfl⟩⟩
theorem stmt_any (n : Int) (rec : Nat → List Tk → Except Fa (List Rw × List Tk)) (w W : World) (rb : Nat) (ts : Value) (l : List Tk) (i : Nat) (rs : List Rw) (d : Nat) (H : RS w W rb ts l n i rs) (hB : BodyOk n rec (l.drop i).length) (hd : d ≤ 32) :
  Calls Tryz.prog 112 #[.pointer (some ⟨rb, 0, none⟩), .int .i64 d] W (Did w rb ts l n rs (stmtP n rec d (l.drop i))) := by
 by_cases hi : i < l.length
 ·cases ho : ownB l[i].t with
  | false => exact stmt_use n rec w W rb ts l i rs d H hi ho
  | true =>
   have hk : kindK l[i] = l[i].t := by unfold kindK; rw [if_pos ho]
   have hs : ∀ s, shp l[i].t = some s → shK l[i] = s := fun s h => by unfold shK; rw [hk, h]; rfl
   rcases shp_cases l[i].t with ⟨_, h, _⟩ | ⟨_, h, _⟩ | ⟨_, h, _⟩ | ⟨_, h, _⟩ | ⟨_, h, _⟩ | ⟨_, h, _⟩ | ⟨_, h, _⟩ | ⟨_, _, h⟩ | ⟨_, _, _, _, _, _, _, _, _, h⟩
   ·exact stmt_own_tt n rec w W rb ts l i rs d 0 false false H hB hd hi ho (hs _ h) (.inr ⟨by omega, by omega⟩)
   ·exact stmt_own_tt n rec w W rb ts l i rs d 0 false false H hB hd hi ho (hs _ h) (.inr ⟨by omega, by omega⟩)
   ·exact stmt_own_tf n rec w W rb ts l i rs d (-1) false true H hB hd hi ho (hs _ h) (.inl rfl)
   ·exact stmt_own_ft n rec w W rb ts l i rs d 0 false true H hB hd hi ho (hs _ h) (.inr ⟨by omega, by omega⟩)
   ·exact stmt_own_tt n rec w W rb ts l i rs d 0 false true H hB hd hi ho (hs _ h) (.inr ⟨by omega, by omega⟩)
   ·exact stmt_own_ff n rec w W rb ts l i rs d 2 true false H hB hd hi ho (hs _ h) (.inr ⟨by omega, by omega⟩)
   ·exact stmt_own_ff n rec w W rb ts l i rs d 1 true false H hB hd hi ho (hs _ h) (.inr ⟨by omega, by omega⟩)
   ·rw [ho] at h; cases h
   ·rw [ho] at h; cases h
 ·exact stmt_none n rec w W rb ts l i rs d H hi
theorem BodyOk.less {n : Int} {rec : Nat → List Tk → Except Fa (List Rw × List Tk)} {N N' : Nat} (h : N' ≤ N) (hB : BodyOk n rec N) : BodyOk n rec N' := fun w W rb ts l i rs d t H hl hd => hB w W rb ts l i rs d t H (Nat.lt_of_lt_of_le hl h) hd
def preR (rs : List Rw) (r : Except Fa (List Rw × List Tk)) : Except Fa (List Rw × List Tk) := match r with | .error e => .error e | .ok (x, y) => .ok (rs ++ x, y)
theorem stmt_short {n : Int} {rec : Nat → List Tk → Except Fa (List Rw × List Tk)} {d : Nat} {l r : List Tk} {rs : List Rw} (hrec : ∀ d l r rs, rec d l = .ok (rs, r) → r.length ≤ l.length) (h : stmtP n rec d l = .ok (rs, r)) : r.length < l.length := by
 cases l with
 | nil => cases h
 | cons t u =>
  have h0 := restK_len t u
  cases hm : midP n (shK t) (restK t u) with
  | error q => rw [stmt_mid hm] at h; cases h
  | ok y =>
   obtain ⟨⟨nm, aa, x, p⟩, l4⟩ := y
   have h1 := midP_len hm
   cases hb : (shK t).body with
   | false =>
    rw [stmt_flat hm hb] at h
    cases h
    simp only [List.length_cons]
    omega
   | true =>
    cases h5 : bodyP rec d p l4 with
    | error q => rw [stmt_be hm hb h5] at h; cases h
    | ok y =>
     obtain ⟨rs2, l5⟩ := y
     rw [stmt_bo hm hb h5] at h
     cases h
     unfold bodyP at h5
     by_cases hd : 32 ≤ d
     ·rw [if_pos hd] at h5; cases h5
     ·rw [if_neg hd] at h5
      cases hr : rec (d + 1) l4 with
      | error q => rw [hr] at h5; cases h5
      | ok y =>
       obtain ⟨rs3, l6⟩ := y
       rw [hr] at h5
       cases h5
       have := hrec _ _ _ _ hr
       simp only [List.length_cons, List.length_tail]
       omega
theorem stmts_short {n : Int} : ∀ (f d : Nat) (l r : List Tk) (rs : List Rw), stmtsP n f d l = .ok (rs, r) → r.length ≤ l.length ∧ seesB wShut r = true := by
 intro f
 induction f with
 | zero => intro d l r rs h; cases h
 | succ f ih =>
  intro d l r rs h
  unfold stmtsP at h
  by_cases hs : seesB wShut l = true
  ·rw [if_pos hs] at h; cases h; exact ⟨Nat.le_refl _, hs⟩
  ·rw [if_neg hs] at h
   cases h1 : stmtP n (stmtsP n f) d l with
   | error q => rw [h1] at h; cases h
   | ok y =>
    obtain ⟨rs1, r1⟩ := y
    rw [h1] at h
    simp only at h
    cases h2 : stmtsP n f d r1 with
    | error q => rw [h2] at h; cases h
    | ok y =>
     obtain ⟨rs2, r2⟩ := y
     rw [h2] at h
     cases h
     have g1 := stmt_short (fun d l r rs h => (ih d l r rs h).1) h1
     have g2 := ih _ _ _ _ h2
     exact ⟨by omega, g2.2⟩
set_option maxHeartbeats 2000000 in
theorem body_any (n : Int) : ∀ (F : Nat), BodyOk n (stmtsP n F) F := by
 intro F
 induction F using Nat.strongRecOn with
 | _ F ih =>
  intro w W rb ts l i rs d t H hlen hd
  by_cases hd2 : 32 ≤ d
  ·obtain rfl : d = 32 := by omega
   have e : bodyP (stmtsP n F) 32 t.p (l.drop i) = .error (t.p, 102) := by unfold bodyP; rw [if_pos hd2]
   rw [e]
   obtain ⟨v, hR, _, _⟩ := H
   have hb := hR.below
   clear e hR ih
   unfold Did
   go_enter Tryz.func152, Tryz.ntmps152
   go_wp2
   exact ⟨rfl, bal hb _, .inl ⟨_, rfl, rfl⟩⟩
  obtain ⟨R0, hR0⟩ : ∃ R0, R0 = bodyP (stmtsP n F) d t.p (l.drop i) := ⟨_, rfl⟩
  have HO : Hid (∀ rs l5, stmtsP n F (d + 1) (l.drop i) = .ok (rs, l5) → R0 = .ok (rs, l5.tail)) := fun rs l5 h => by rw [hR0]; unfold bodyP; rw [if_neg hd2, h]
  have HE : Hid (∀ q, stmtsP n F (d + 1) (l.drop i) = .error q → R0 = .error q) := fun q h => by rw [hR0]; unfold bodyP; rw [if_neg hd2, h]
  rw [← hR0]
  clear hR0
  have HI : Hid (∀ f, f < F → BodyOk n (stmtsP n f) f) := ih
  have hg1 : ¬ (32 : Int) ≤ (d : Int) := by omega
  have H0 : Hid (∀ o, RS w (W.alloc o) rb ts l n i rs) := fun o => by
   obtain ⟨v, hR, hO, hc⟩ := H
   exact ⟨v, hR.on (bal (Below.refl _ _) _), hO.below (bal (Below.refl _ _) _), hc⟩
  clear H ih
  unfold Did
  go_enter Tryz.func152, Tryz.ntmps152
  go_upto_region 3 with (fail)
  go_loopg [] F (fun g wr => ∃ (rs1 : List Rw) (j f0 : Nat), f0 = g ∧ f0 ≤ F ∧ (l.drop j).length < f0 ∧ Hid (stmtsP n F (d + 1) (l.drop i) = preR rs1 (stmtsP n f0 (d + 1) (l.drop j))) ∧ Hid (RS w wr rb ts l n j (rs ++ rs1)))
  case atStart => exact ⟨[], i, F, rfl, Nat.le_refl _, hlen, by show _ = _; cases stmtsP n F (d + 1) (l.drop i) <;> simp [preR], by rw [List.append_nil]; exact H0.out _⟩
  case round =>
   clear H0
   obtain ⟨rs1, j, f0, rfl, hfF, hfl, hP, hH⟩ := hrel
   obtain ⟨f, rfl⟩ : ∃ f, f0 = f + 1 := ⟨f0 - 1, by omega⟩
   have hB := BodyOk.less (show (l.drop j).length ≤ f by omega) (HI.out f (by omega))
   obtain ⟨v, hR, hO, hc⟩ := hH.out
   have SE := sees_any w wr rb ts l n j v wShut hR
   have hD := fun m => hR.on (below_drewN (Below.refl wr.heap.size wr) m)
   have hOD := fun m => hO.below (below_drewN (Below.refl wr.heap.size wr) m)
   cases hs : seesB wShut (l.drop j) with
   | true =>
    rw [hs] at SE
    obtain ⟨t1, r1, ht1, ht2⟩ := seesB_cons hs
    have EQ : Hid (stmtsP n F (d + 1) (l.drop i) = .ok (rs1, t1 :: r1)) := by
     show _ = _
     rw [hP.out]
     unfold stmtsP
     rw [if_pos hs, ht1]
     show Except.ok (rs1 ++ [], t1 :: r1) = _
     rw [List.append_nil]
    have SG : ∀ m, Calls Tryz.prog 150 #[.pointer (some ⟨rb, 0, none⟩), .string ⟨#[125]⟩] (wr.drewN m) fun e W'' => e = .returned (tv t1) ∧ GB (wr.drewN m) W'' rb ∧ ∃ j2, r1 = l.drop j2 ∧ RS0 w W'' rb ts l n j2 v := fun m => told_ok (by
     have := sign_any' w (wr.drewN m) rb ts l n j v wShut (hD m)
     have e2 : signP n wShut (l.drop j) = .ok (t1, r1) := by rw [ht1]; simp only [signP, if_pos ht2]
     rwa [e2] at this)
    have hjl := hR.le
    have hlj : (l.drop j).length = l.length - j := List.length_drop
    have hlr : r1.length + 1 = (l.drop j).length := by rw [ht1]; rfl
    have hbk := fun m => (hD m).blk
    clear hP hs ht1 ht2 hB
    go_wp2_with (first
     | (go_at_call 165; (with_reducible refine SE.mono ?_); rintro e w1 ⟨rfl, m, rfl⟩)
     | (go_at_call 150; (with_reducible refine (SG m).mono ?_); rintro e w2 ⟨rfl, hG, j2, hj2, hR2⟩))
    go_end0
    refine ⟨hR2.below, .inr ⟨rs1, j2, by rw [HO.out _ _ EQ.out, ← hj2]; rfl, rfl, v, hR2, (hOD m).gb hG (hbk m), ?_⟩⟩
    have e9 : r1.length = l.length - j2 := by rw [hj2, List.length_drop]
    have := hR2.le
    omega
   | false =>
    rw [hs] at SE
    have ST := fun m => stmt_any n (stmtsP n f) w (wr.drewN m) rb ts l j (rs ++ rs1) (d + 1) ⟨v, hD m, hOD m, hc⟩ hB (by omega)
    have ES : stmtsP n (f + 1) (d + 1) (l.drop j) = match stmtP n (stmtsP n f) (d + 1) (l.drop j) with | .error e => .error e | .ok (rs, r) => match stmtsP n f (d + 1) r with | .error e => .error e | .ok (rs2, r2) => .ok (rs ++ rs2, r2) := by
     show (if seesB wShut (l.drop j) = true then _ else _) = _
     rw [hs]
     rfl
    cases h1 : stmtP n (stmtsP n f) (d + 1) (l.drop j) with
    | error q =>
     rw [h1] at ST ES
     have EQ : Hid (stmtsP n F (d + 1) (l.drop i) = .error q) := by show _ = _; rw [hP.out, ES]; rfl
     have ST2 : ∀ m, Calls Tryz.prog 112 #[.pointer (some ⟨rb, 0, none⟩), .int .i64 ((d : Int) + 1)] (wr.drewN m) fun e W' => e = .panicked [flt q] ∧ Below w.heap.size w W' := fun m => did_err (ST m)
     clear hP hs hB ES h1 ST
     go_wp2_with (first
      | (go_at_call 165; (with_reducible refine SE.mono ?_); rintro e w1 ⟨rfl, m, rfl⟩)
      | (go_at_call 112; (with_reducible refine (ST2 m).mono ?_); rintro e w2 ⟨rfl, hE⟩))
     exact ⟨rfl, hE, .inl ⟨q, HE.out _ EQ.out, rfl⟩⟩
    | ok y =>
     obtain ⟨rs2, r2⟩ := y
     rw [h1] at ST ES
     have hsh := stmt_short (fun d l r rs h => (stmts_short f d l r rs h).1) h1
     have EQ : Hid (stmtsP n F (d + 1) (l.drop i) = preR (rs1 ++ rs2) (stmtsP n f (d + 1) r2)) := by
      show _ = _
      rw [hP.out, ES]
      dsimp only
      cases stmtsP n f (d + 1) r2 with
      | error e => rfl
      | ok y => show Except.ok (rs1 ++ (rs2 ++ y.1), y.2) = Except.ok (rs1 ++ rs2 ++ y.1, y.2); rw [List.append_assoc]
     have ST2 : ∀ m, Calls Tryz.prog 112 #[.pointer (some ⟨rb, 0, none⟩), .int .i64 ((d : Int) + 1)] (wr.drewN m) fun e W' => e = .returned (.tuple #[]) ∧ Below w.heap.size w W' ∧ ∃ j, r2 = l.drop j ∧ RS w W' rb ts l n j (rs ++ rs1 ++ rs2) := fun m => did_ok (ST m)
     clear hP hs hB ES h1 ST
     go_wp2_with (first
      | (go_at_call 165; (with_reducible refine SE.mono ?_); rintro e w1 ⟨rfl, m, rfl⟩)
      | (go_at_call 112; (with_reducible refine (ST2 m).mono ?_); rintro e w2 ⟨rfl, hE, j2, hj2, hR2⟩))
     go_roundg f
     case measure => omega
     case rel => exact ⟨rs1 ++ rs2, j2, f, rfl, by omega, by rw [← hj2]; omega, by rw [← hj2]; exact EQ, by rw [← List.append_assoc]; exact hR2⟩
def preQ (rs : List Rw) (r : Except Fa (List Rw)) : Except Fa (List Rw) := match r with | .error e => .error e | .ok x => .ok (rs ++ x)
set_option maxHeartbeats 2000000 in
theorem program_any (w W : World) (rb : Nat) (ts : Value) (l : List Tk) (n : Int) (H : RS w W rb ts l n 0 []) :
  Calls Tryz.prog 61 #[.pointer (some ⟨rb, 0, none⟩)] W fun e W' => Below w.heap.size w W' ∧ ((∃ q, progP n (l.length + 1) l = .error q ∧ e = .panicked [flt q]) ∨ ∃ rs, progP n (l.length + 1) l = .ok rs ∧ e = .returned (.tuple #[]) ∧ RS w W' rb ts l n l.length rs) := by
 have H0 : Hid (RS w W rb ts l n 0 []) := H
 obtain ⟨F, hF⟩ : ∃ F, F = l.length + 1 := ⟨_, rfl⟩
 have HFF : Hid (F = l.length + 1) := hF
 rw [← hF]
 clear H hF
 go_enter Tryz.func61, Tryz.ntmps61
 go_wp2
 go_loopg [] F (fun g wr => ∃ (rs1 : List Rw) (j f0 : Nat), f0 = g ∧ f0 ≤ F ∧ (l.drop j).length < f0 ∧ Hid (progP n F l = preQ rs1 (progP n f0 (l.drop j))) ∧ Hid (RS w wr rb ts l n j rs1))
 case atStart => exact ⟨[], 0, F, rfl, Nat.le_refl _, by rw [HFF.out]; simp, by show _ = _; cases h : progP n F l <;> simp [preQ, h], H0⟩
 case round =>
  clear H0
  obtain ⟨rs1, j, f0, rfl, hfF, hfl, hP, hH⟩ := hrel
  obtain ⟨f, rfl⟩ : ∃ f, f0 = f + 1 := ⟨f0 - 1, by omega⟩
  obtain ⟨v, hR, hO, hc⟩ := hH.out
  have hB := BodyOk.less (show (l.drop j).length ≤ f by omega) (body_any n f)
  have hD := fun m => hR.on (below_drewN (Below.refl wr.heap.size wr) m)
  have hOD := fun m => hO.below (below_drewN (Below.refl wr.heap.size wr) m)
  have hlen := hR.len
  have hrl := hR.blk.lt
  have c0 : wr.cell? ⟨rb, 0, none⟩ = some ts := hR.blk.cell 0
  have c1 : wr.cell? ⟨rb, 1, none⟩ = some (.int .i64 (j : Int)) := hR.blk.cell 1
  obtain ⟨ta, tc, rfl, htc, _⟩ := hR.tok
  by_cases hj : j < l.length
  ·have ST := fun m => stmt_any n (stmtsP n f) w (wr.drewN m) rb _ l j rs1 0 ⟨v, hD m, hOD m, hc⟩ hB (by omega)
   have ES : progP n (f + 1) (l.drop j) = match stmtP n (stmtsP n f) 0 (l.drop j) with | .error e => .error e | .ok (rs, r) => match progP n f r with | .error e => .error e | .ok rs2 => .ok (rs ++ rs2) := by
    rw [drop_at hj]
    rfl
   cases h1 : stmtP n (stmtsP n f) 0 (l.drop j) with
   | error q =>
    rw [h1] at ST ES
    have EQ : Hid (progP n F l = .error q) := by show _ = _; rw [hP.out, ES]; rfl
    have ST2 : ∀ m, Calls Tryz.prog 112 #[.pointer (some ⟨rb, 0, none⟩), .int .i64 0] (wr.drewN m) fun e W' => e = .panicked [flt q] ∧ Below w.heap.size w W' := fun m => did_err (ST m)
    clear hP hB ES h1 ST
    go_upto_region 0 with (fail)
    go_quiet (fail)
    go_wp2_with (go_at_call 112; (with_reducible refine (ST2 _).mono ?_); rintro e w2 ⟨rfl, hE⟩)
    exact ⟨rfl, hE, .inl ⟨q, EQ.out, rfl⟩⟩
   | ok y =>
    obtain ⟨rs2, r2⟩ := y
    rw [h1] at ST ES
    have hsh := stmt_short (fun d l r rs h => (stmts_short f d l r rs h).1) h1
    have EQ : Hid (progP n F l = preQ (rs1 ++ rs2) (progP n f r2)) := by
     show _ = _
     rw [hP.out, ES]
     dsimp only
     cases progP n f r2 with
     | error e => rfl
     | ok y => show Except.ok (rs1 ++ (rs2 ++ y)) = Except.ok (rs1 ++ rs2 ++ y); rw [List.append_assoc]
    have ST2 : ∀ m, Calls Tryz.prog 112 #[.pointer (some ⟨rb, 0, none⟩), .int .i64 0] (wr.drewN m) fun e W' => e = .returned (.tuple #[]) ∧ Below w.heap.size w W' ∧ ∃ j, r2 = l.drop j ∧ RS w W' rb _ l n j (rs1 ++ rs2) := fun m => did_ok (ST m)
    clear hP hB ES h1 ST
    go_upto_region 0 with (fail)
    go_quiet (fail)
    go_wp2_with (go_at_call 112; (with_reducible refine (ST2 _).mono ?_); rintro e w2 ⟨rfl, hE, j2, hj2, hR2⟩)
    go_roundg f
    case measure => omega
    case rel => exact ⟨rs1 ++ rs2, j2, f, rfl, by omega, by rw [← hj2]; omega, by rw [← hj2]; exact EQ, hR2⟩
  ·have hjl := hR.le
   obtain rfl : j = l.length := by omega
   have EQ : Hid (progP n F l = .ok rs1) := by show _ = _; rw [hP.out, drop_out hj]; show Except.ok (rs1 ++ []) = _; rw [List.append_nil]
   clear hP hB
   go_upto_region 0 with (fail)
   go_quiet (fail)
   go_wp2
   go_end0
   exact ⟨(hD _).below, .inr ⟨rs1, EQ.out, rfl, v, hD _, hOD _, hc⟩⟩
end Go.Proofs.YtdjfpghgklkejaaGreatDoor
namespace Go.Proofs.YtdjfpghgklkejaaGreatDoor
open Go.RowKit Go.Sort
theorem frame20 (a b c v : Value) : #[a, b, c] ++ ((Array.replicate 17 undef).setIfInBounds 3 v).setIfInBounds 0 v = #[a, b, c, v, undef, undef, v, undef, undef, undef, undef, undef, undef, undef, undef, undef, undef, undef, undef, undef] := by kernel_rfl
set_option maxHeartbeats 1000000 in
theorem catch_idle (p q r : Nat) (w : World) :
  CallsD Tryz.prog 60 #[.pointer (some ⟨p, 0, none⟩), .pointer (some ⟨q, 0, none⟩), .pointer (some ⟨r, 0, none⟩)] .returning w fun e u' w' => e = .returned (.tuple #[]) ∧ u' = .returning ∧ Below w.heap.size w w' := by
 refine callsD_of_wpS Tryz.func60 rfl fun c₀ cs hu => ?_
 apply wpS_seq
 apply wpS_region
 simp [wpOpsS, go_sem, recoverD, hu, Tryz.ntmps60, Exit.thenS]
 refine wpS_of_wp ?_
 rw [frame20]
 have hta : ∀ w : World, (Instr.typeAssert .nilIface 20 129 true).run Tryz.prog w = .ok (.tuple #[.agg #[.int .i64 0, .int .i64 0], .bool false]) w := fun _ => by kernel_rfl
 have hne : ∀ w : World, (binOp .neq 20 .nilIface .nilIface).run Tryz.prog w = .ok (.bool false) w := fun _ => by kernel_rfl
 go_wp2
 refine ⟨rfl, _, ?_, _, results_none rfl _ _ _, rfl, hu, bal (Below.refl _ _) _⟩
 cases c₀; simp_all
set_option maxHeartbeats 1000000 in
theorem catch_it (p q r : Nat) (f : Fa) (x y z : Value) (w : World) (hpq : p ≠ q) (hpr : p ≠ r) (hqr : q ≠ r) (c0 : BK w p #[x] 22) (c1 : BK w q #[y] 3) (c2 : BK w r #[z] 30) :
  CallsD Tryz.prog 60 #[.pointer (some ⟨p, 0, none⟩), .pointer (some ⟨q, 0, none⟩), .pointer (some ⟨r, 0, none⟩)] (.panicking [flt f]) w fun e u' w' => e = .returned (.tuple #[]) ∧ u' = .panicking [{ v := .iface 129 (.agg #[.int .i64 f.1, .int .i64 (f.2 : Nat)]), recovered := true }] ∧
   w'.cell? ⟨p, 0, none⟩ = some (.slice none 0 0) ∧ w'.cell? ⟨q, 0, none⟩ = some (.int .i64 f.1) ∧ w'.cell? ⟨r, 0, none⟩ = some (.int .i64 (f.2 : Nat)) ∧ ∀ B, B ≤ w.heap.size → B ≤ p → B ≤ q → B ≤ r → Below B w w' := by
 refine callsD_of_wpS Tryz.func60 rfl fun c₀ cs hu => ?_
 apply wpS_seq
 apply wpS_region
 simp [wpOpsS, go_sem, recoverD, hu, Tryz.ntmps60, Exit.thenS]
 refine wpS_of_wp ?_
 rw [frame20]
 have hta : ∀ w : World, (Instr.typeAssert (.iface 129 (.agg #[.int .i64 f.1, .int .i64 (f.2 : Nat)])) 20 129 true).run Tryz.prog w = .ok (.tuple #[.agg #[.int .i64 f.1, .int .i64 (f.2 : Nat)], .bool true]) w := fun _ => by kernel_rfl
 have d0 : w.cell? ⟨p, 0, none⟩ = some x := c0.cell 0
 have d1 : w.cell? ⟨q, 0, none⟩ = some y := c1.cell 0
 have d2 : w.cell? ⟨r, 0, none⟩ = some z := c2.cell 0
 have e0 := c0.free 0
 have e1 := c1.free 0
 have e2 := c2.free 0
 have z0 := c0.lt
 have z1 := c1.lt
 have z2 := c2.lt
 go_wp2
 go_region
 have b0 := ((((c0.set 0 (.slice none 0 0)).far (Ne.symm hpq) 0 (.int .i64 f.1)).far (Ne.symm hpr) 0 (.int .i64 (f.2 : Nat))).alloc (.cells #[.int .i64 f.1, .int .i64 (f.2 : Nat)] 129)).drew
 have b1 := ((((c1.far hpq 0 (.slice none 0 0)).set 0 (.int .i64 f.1)).far (Ne.symm hqr) 0 (.int .i64 (f.2 : Nat))).alloc (.cells #[.int .i64 f.1, .int .i64 (f.2 : Nat)] 129)).drew
 have b2 := ((((c2.far hpr 0 (.slice none 0 0)).far hqr 0 (.int .i64 f.1)).set 0 (.int .i64 (f.2 : Nat))).alloc (.cells #[.int .i64 f.1, .int .i64 (f.2 : Nat)] 129)).drew
 refine ⟨rfl, _, ?_, _, results_none rfl _ _ _, rfl, rfl, b0.cell 0, b1.cell 0, b2.cell 0, fun B h0 h1 h2 h3 => below_drew ((((Below.refl _ _).setCell (p := ⟨p, 0, none⟩) h1 _).setCell (p := ⟨q, 0, none⟩) h2 _ |>.setCell (p := ⟨r, 0, none⟩) h3 _).alloc (by simpa using h0) _)⟩
 cases c₀
 simp_all
theorem OR.mono {W : World} {B B' : Nat} {v : Value} {rs : List Rw} (h : OR W B v rs) (hb : B' ≤ B) : OR W B' v rs := by
 obtain ⟨vs, h1, h2, h3⟩ := h
 exact ⟨vs, h1, own_mono h2 hb, fun k hk hk' => own_mono (h3 k hk hk') hb⟩
theorem OR.low {W : World} {B b : Nat} {v : Value} {rs : List Rw} (h : OR W B v rs) (hb : b < B) (k : Nat) (x : Value) : OR (W.setCell ⟨b, k, none⟩ x) B v rs := by
 obtain ⟨vs, h1, h2, h3⟩ := h
 exact ⟨vs, h1, own_kept h2 (grown_set W b k x) (fun g e e2 => by have := (h2.lt g e).1; cases e2; omega), fun j hj hj' => own_kept (h3 j hj hj') (grown_set W b k x) (fun g e e2 => by have := ((h3 j hj hj').lt g e).1; cases e2; omega)⟩
theorem Pre.sz {s : ByteArray} {i : Nat} {l : List Tk} (h : Pre s i l) : ∀ k (hk : k < l.length), l[k].t.size ≤ s.size :=
 (Pre.ind (R := fun _ l => ∀ k (hk : k < l.length), l[k].t.size ≤ s.size) (fun k h => absurd h (Nat.not_lt_zero _)) (fun _ _ _ h => h) (fun _ _ _ _ _ h => h) (fun i j l k ht h m hm => by
  rw [List.length_append] at hm
  simp only [List.length_cons, List.length_nil] at hm
  by_cases e : m < l.length
  ·rw [List.getElem_append_left e]; exact h m e
  ·obtain rfl : m = l.length := by omega
   have e1 : (l ++ [tok s k i j])[l.length]'(by simp) = tok s k i j := by simp
   rw [e1]
   show (s.extract i j).size ≤ _
   rw [ByteArray.size_extract]
   omega) h).2
theorem three {w w1 : World} {a b c : Array Value} {A B C : TypeId} (h : Below (((w.alloc (.cells a A)).alloc (.cells b B)).alloc (.cells c C)).heap.size (((w.alloc (.cells a A)).alloc (.cells b B)).alloc (.cells c C)) w1) : BK w1 w.heap.size a A ∧ BK w1 (w.heap.size + 1) b B ∧ BK w1 (w.heap.size + 1 + 1) c C := by
 have e1 : (w.alloc (.cells a A)).heap.size = w.heap.size + 1 := by simp
 have e2 : ((w.alloc (.cells a A)).alloc (.cells b B)).heap.size = w.heap.size + 1 + 1 := by simp
 have x0 := ((bk_new w a A).alloc (.cells b B)).alloc (.cells c C)
 have x1 := (bk_new (w.alloc (.cells a A)) b B).alloc (.cells c C)
 have x2 := bk_new ((w.alloc (.cells a A)).alloc (.cells b B)) c C
 rw [e1] at x1
 rw [e2] at x2
 exact ⟨(h.block _ x0.lt).trans x0, (h.block _ x1.lt).trans x1, (h.block _ x2.lt).trans x2⟩
set_option maxHeartbeats 4000000 in
set_option maxRecDepth 100000 in
theorem parse_any (s : ByteArray) (rs : List Rw) (a : Int) (e : Nat) (w : World) (hs : s.size ≤ 9223372036854775807) (hv : VR w) (ho : POut s rs a e) :
  Calls Tryz.prog 29 #[.string s] w fun x w' => ∃ v, x = .returned (.tuple #[v, .int .i64 a, .int .i64 e]) ∧ OR w' w.heap.size v rs ∧ Below w.heap.size w w' := by
 obtain ⟨l, a0, e0, hOut, hcase⟩ := ho
 have CS := fun W => scan_any s l a0 e0 W hs hOut
 have hmf : ∀ (fn : Fn) (first cap : Array Value) (w : World), (Instr.makeFunc fn first cap).run Tryz.prog w = .ok (.func fn first cap) w := fun _ _ _ _ => rfl
 have B3 : ∀ {w1 : World}, Below (((w.alloc (.cells #[.slice none 0 0] 22)).alloc (.cells #[.int .i64 0] 3)).alloc (.cells #[.int .i64 0] 30)).heap.size (((w.alloc (.cells #[.slice none 0 0] 22)).alloc (.cells #[.int .i64 0] 3)).alloc (.cells #[.int .i64 0] 30)) w1 → Below w.heap.size w w1 := fun h => btr (bal (bal (bal (Below.refl _ _) _) _) _) h
 rcases hcase with ⟨he, rfl, rfl, rfl⟩ | ⟨rfl, hcase⟩
 ·have he2 : ((e : Int) == 0) = false := by simp; omega
  have he3 : ((e : Int) != 0) = true := by simp; omega
  clear hOut he
  go_enter_defers Tryz.func29, Tryz.ntmps29
  go_upto_region 3 with (go_at_call 59; (with_reducible refine (CS _).mono ?_); rintro x w1 ⟨v1, rfl, hI1⟩; obtain ⟨a1, c1, rfl⟩ := hI1.shape; obtain ⟨bp, bq, br⟩ := three hI1.below; have p0 : w1.cell? ⟨w.heap.size, 0, none⟩ = some (.slice none 0 0) := bp.cell 0; have q0 : w1.cell? ⟨w.heap.size + 1, 0, none⟩ = some (.int .i64 0) := bq.cell 0; have r0 : w1.cell? ⟨w.heap.size + 1 + 1, 0, none⟩ = some (.int .i64 0) := br.cell 0; have p1 := bp.free 0; have q1 := bq.free 0; have r1 := br.free 0; have r2 := br.lt)
  go_region
  go_wp2
  have hb := below_drew (bset (bset (bset (bset (bset (B3 hI1.below) (w.heap.size + 1) 0 (.int .i64 a0) (by omega)) (w.heap.size + 1 + 1) 0 (.int .i64 e) (by omega)) w.heap.size 0 (.slice none 0 0) (by omega)) (w.heap.size + 1) 0 (.int .i64 a0) (by omega)) (w.heap.size + 1 + 1) 0 (.int .i64 e) (by omega))
  have k0 := (((((bp.far (c := w.heap.size + 1) (by omega) 0 (.int .i64 a0)).far (c := w.heap.size + 1 + 1) (by omega) 0 (.int .i64 e)).set 0 (.slice none 0 0)).far (c := w.heap.size + 1) (by omega) 0 (.int .i64 a0)).far (c := w.heap.size + 1 + 1) (by omega) 0 (.int .i64 e)).drew
  have k1 := (((((bq.set 0 (.int .i64 a0)).far (c := w.heap.size + 1 + 1) (by omega) 0 (.int .i64 e)).far (c := w.heap.size) (by omega) 0 (.slice none 0 0)).set 0 (.int .i64 a0)).far (c := w.heap.size + 1 + 1) (by omega) 0 (.int .i64 e)).drew
  have k2 := (((((br.far (c := w.heap.size + 1) (by omega) 0 (.int .i64 a0)).set 0 (.int .i64 e)).far (c := w.heap.size) (by omega) 0 (.slice none 0 0)).far (c := w.heap.size + 1) (by omega) 0 (.int .i64 a0)).set 0 (.int .i64 e)).drew
  clear p0 q0 r0 p1 q1 r1 bp bq br
  generalize (((((w1.setCell ⟨w.heap.size + 1, 0, none⟩ (.int .i64 a0)).setCell ⟨w.heap.size + 1 + 1, 0, none⟩ (.int .i64 e)).setCell ⟨w.heap.size, 0, none⟩ (.slice none 0 0)).setCell ⟨w.heap.size + 1, 0, none⟩ (.int .i64 a0)).setCell ⟨w.heap.size + 1 + 1, 0, none⟩ (.int .i64 e)).drew = WF at *
  have m0 : WF.cell? ⟨w.heap.size, 0, none⟩ = some (.slice none 0 0) := k0.cell 0
  have m1 : WF.cell? ⟨w.heap.size + 1, 0, none⟩ = some (.int .i64 a0) := k1.cell 0
  have m2 : WF.cell? ⟨w.heap.size + 1 + 1, 0, none⟩ = some (.int .i64 e) := k2.cell 0
  exact ⟨.tuple #[.slice none 0 0, .int .i64 a0, .int .i64 e], by simp [results, Tryz.results29, go_sem, m0, m1, m2], _, rfl, OR.nil _ _, hb⟩
 have hsz : s.size ≤ 65536 ∧ Pre s s.size l ∧ a0 = 0 := by
  rcases hOut with ⟨_, _, _, h⟩ | ⟨h1, h2, h3, _⟩ | ⟨_, _, h, _⟩
  ·cases h
  ·exact ⟨h1, h2, h3⟩
  ·cases h
 obtain ⟨hs6, hp, rfl⟩ := hsz
 have hcount := hp.count
 have hall := hp.right
 have hsize := hp.sz
 have START : ∀ w1 a1 c1, SI (((w.alloc (.cells #[.slice none 0 0] 22)).alloc (.cells #[.int .i64 0] 3)).alloc (.cells #[.int .i64 0] 30)) w1 (.slice a1 l.length c1) l → ∀ x y : Value, RS ((w1.setCell ⟨w.heap.size + 1, 0, none⟩ x).setCell ⟨w.heap.size + 1 + 1, 0, none⟩ y) (((w1.setCell ⟨w.heap.size + 1, 0, none⟩ x).setCell ⟨w.heap.size + 1 + 1, 0, none⟩ y).alloc (.cells #[.slice a1 l.length c1, .int .i64 0, .int .i64 s.size, .slice none 0 0] 132)) w1.heap.size (.slice a1 l.length c1) l s.size 0 [] := fun w1 a1 c1 hI x y => by
  have hz : ((w1.setCell ⟨w.heap.size + 1, 0, none⟩ x).setCell ⟨w.heap.size + 1 + 1, 0, none⟩ y).heap.size = w1.heap.size := by simp [World.setCell]
  have hlo : ∀ g, (Value.slice a1 l.length c1).ownBlock = some g → w.heap.size + 3 ≤ g := fun g e => by have := (hI.own.lt g e).1; simp at this; omega
  have o1 := own_kept hI.own (grown_set w1 (w.heap.size + 1) 0 x) (fun g e e2 => by have := hlo g e; cases e2; omega)
  have o2 := own_kept o1 (grown_set _ (w.heap.size + 1 + 1) 0 y) (fun g e e2 => by have := hlo g e; cases e2; omega)
  have hb0 := bset (bset (B3 hI.below) (w.heap.size + 1) 0 x (by omega)) (w.heap.size + 1 + 1) 0 y (by omega)
  refine ⟨.slice none 0 0, ⟨(own_sl o2).form, bal (Below.refl _ _) _, by rw [hz]; exact Nat.le_refl _, ?_, Nat.zero_le _, by omega, hall, fun k hk => by have := hsize k hk; omega, hv.below hb0⟩, OR.nil _ _, Nat.le_refl _⟩
  have := bk_new ((w1.setCell ⟨w.heap.size + 1, 0, none⟩ x).setCell ⟨w.heap.size + 1 + 1, 0, none⟩ y) #[.slice a1 l.length c1, .int .i64 0, .int .i64 s.size, .slice none 0 0] 132
  rw [hz] at this
  exact this
 have PG := fun W0 W1 rb ts h => program_any W0 W1 rb ts l s.size h
 clear hall hsize hOut hp
 rcases hcase with ⟨p, x, hpr, rfl, rfl, rfl⟩ | ⟨hpr, rfl, rfl⟩
 ·have PG2 : ∀ W0 W1 rb ts, RS W0 W1 rb ts l s.size 0 [] → Calls Tryz.prog 61 #[.pointer (some ⟨rb, 0, none⟩)] W1 fun x W' => x = .panicked [flt (a, e)] ∧ Below W0.heap.size W0 W' := fun W0 W1 rb ts h => (PG W0 W1 rb ts h).mono fun x W' ⟨h1, h2⟩ => by
   refine ⟨?_, h1⟩
   rcases h2 with ⟨q, e1, e2⟩ | ⟨rs, e1, _⟩
   ·rw [hpr] at e1; cases e1; exact e2
   ·rw [hpr] at e1; cases e1
  clear PG hpr
  go_enter_defers Tryz.func29, Tryz.ntmps29
  go_wp2_with (first | (go_at_call 59; (with_reducible refine (CS _).mono ?_); rintro x w1 ⟨v1, rfl, hI1⟩; obtain ⟨a1, c1, rfl⟩ := hI1.shape; obtain ⟨bp, bq, br⟩ := three hI1.below; have p0 : w1.cell? ⟨w.heap.size, 0, none⟩ = some (.slice none 0 0) := bp.cell 0; have q0 : w1.cell? ⟨w.heap.size + 1, 0, none⟩ = some (.int .i64 0) := bq.cell 0; have r0 : w1.cell? ⟨w.heap.size + 1 + 1, 0, none⟩ = some (.int .i64 0) := br.cell 0; have p1 := bp.free 0; have q1 := bq.free 0; have r1 := br.free 0; have r2 := br.lt) | (go_at_call 61; (with_reducible refine (PG2 _ _ _ _ (START w1 a1 c1 hI1 _ _)).mono ?_); rintro x w2 ⟨rfl, hB2⟩))
  have e0 : BK w2 w.heap.size #[.slice none 0 0] 22 := (hB2.block _ (by simp [World.setCell]; omega)).trans ((bp.far (by omega) 0 (.int .i64 0)).far (by omega) 0 (.int .i64 0))
  have e1 : BK w2 (w.heap.size + 1) #[.int .i64 0] 3 := (hB2.block _ (by simp [World.setCell]; omega)).trans ((bq.set 0 (.int .i64 0)).far (by omega) 0 (.int .i64 0))
  have e2 : BK w2 (w.heap.size + 1 + 1) #[.int .i64 0] 30 := (hB2.block _ (by simp [World.setCell]; omega)).trans ((br.far (by omega) 0 (.int .i64 0)).set 0 (.int .i64 0))
  have hb := bset (bset (B3 hI1.below) (w.heap.size + 1) 0 (.int .i64 0) (by omega)) (w.heap.size + 1 + 1) 0 (.int .i64 0) (by omega)
  have hbb := btr hb hB2
  refine leaves_cons (f := 60) (args := #[.pointer (some ⟨w.heap.size, 0, none⟩), .pointer (some ⟨w.heap.size + 1, 0, none⟩), .pointer (some ⟨w.heap.size + 1 + 1, 0, none⟩)]) (by simp) (by simp [go_sem]) ?_
  refine (catch_it w.heap.size (w.heap.size + 1) (w.heap.size + 1 + 1) (a, e) _ _ _ _ (by omega) (by omega) (by omega) e0 e1 e2).mono ?_
  rintro x u w3 ⟨rfl, rfl, k0, k1, k2, hB3⟩
  simp [Leaves, settle, results, Tryz.results29, go_sem, k0, k1, k2]
  exact ⟨OR.nil _ _, hbb.trans (hB3 _ hbb.size (by omega) (by omega) (by omega))⟩
 ·have PG2 : ∀ W0 W1 rb ts, RS W0 W1 rb ts l s.size 0 [] → Calls Tryz.prog 61 #[.pointer (some ⟨rb, 0, none⟩)] W1 fun x W' => x = .returned (.tuple #[]) ∧ Below W0.heap.size W0 W' ∧ RS W0 W' rb ts l s.size l.length rs := fun W0 W1 rb ts h => (PG W0 W1 rb ts h).mono fun x W' ⟨h1, h2⟩ => by
   rcases h2 with ⟨q, e1, e2⟩ | ⟨rs, e1, e2, e3⟩
   ·rw [hpr] at e1; cases e1
   ·rw [hpr] at e1; cases e1; exact ⟨e2, h1, e3⟩
  clear PG hpr
  go_enter_defers Tryz.func29, Tryz.ntmps29
  go_wp2_with (first | (go_at_call 59; (with_reducible refine (CS _).mono ?_); rintro x w1 ⟨v1, rfl, hI1⟩; obtain ⟨a1, c1, rfl⟩ := hI1.shape; obtain ⟨bp, bq, br⟩ := three hI1.below; have p0 : w1.cell? ⟨w.heap.size, 0, none⟩ = some (.slice none 0 0) := bp.cell 0; have q0 : w1.cell? ⟨w.heap.size + 1, 0, none⟩ = some (.int .i64 0) := bq.cell 0; have r0 : w1.cell? ⟨w.heap.size + 1 + 1, 0, none⟩ = some (.int .i64 0) := br.cell 0; have p1 := bp.free 0; have q1 := bq.free 0; have r1 := br.free 0; have r2 := br.lt) | (go_at_call 61; (with_reducible refine (PG2 _ _ _ _ (START w1 a1 c1 hI1 _ _)).mono ?_); rintro x w2 ⟨rfl, hB2, v2, hR2, hO2, hc2⟩; obtain ⟨a2, c2, rfl⟩ := hO2.shape; have n3 : w2.cell? ⟨w1.heap.size, 3, none⟩ = some (.slice a2 rs.length c2) := hR2.blk.cell 3; have e0 : BK w2 w.heap.size #[.slice none 0 0] 22 := (hB2.block _ (by simp [World.setCell]; omega)).trans ((bp.far (by omega) 0 (.int .i64 0)).far (by omega) 0 (.int .i64 0)); have e1 : BK w2 (w.heap.size + 1) #[.int .i64 0] 3 := (hB2.block _ (by simp [World.setCell]; omega)).trans ((bq.set 0 (.int .i64 0)).far (by omega) 0 (.int .i64 0)); have e2 : BK w2 (w.heap.size + 1 + 1) #[.int .i64 0] 30 := (hB2.block _ (by simp [World.setCell]; omega)).trans ((br.far (by omega) 0 (.int .i64 0)).set 0 (.int .i64 0)); have f0 : w2.cell? ⟨w.heap.size, 0, none⟩ = some (.slice none 0 0) := e0.cell 0; have f1 : w2.cell? ⟨w.heap.size + 1, 0, none⟩ = some (.int .i64 0) := e1.cell 0; have f2 : w2.cell? ⟨w.heap.size + 1 + 1, 0, none⟩ = some (.int .i64 0) := e2.cell 0; have g0 := e0.free 0; have g1 := e1.free 0; have g2 := e2.free 0))
  have hb := bset (bset (B3 hI1.below) (w.heap.size + 1) 0 (.int .i64 0) (by omega)) (w.heap.size + 1 + 1) 0 (.int .i64 0) (by omega)
  have hw0 : w.heap.size + 3 ≤ ((w1.setCell ⟨w.heap.size + 1, 0, none⟩ (.int .i64 0)).setCell ⟨w.heap.size + 1 + 1, 0, none⟩ (.int .i64 0)).heap.size := by simp [World.setCell]; omega
  have hO3 := ((hO2.low (b := w.heap.size) (by omega) 0 (.slice a2 rs.length c2)).low (b := w.heap.size + 1) (by omega) 0 (.int .i64 0)).low (b := w.heap.size + 1 + 1) (by omega) 0 (.int .i64 0)
  have hb3 := bset (bset (bset (btr hb hB2) w.heap.size 0 (.slice a2 rs.length c2) (by omega)) (w.heap.size + 1) 0 (.int .i64 0) (by omega)) (w.heap.size + 1 + 1) 0 (.int .i64 0) (by omega)
  have k0 := ((e0.set 0 (.slice a2 rs.length c2)).far (c := w.heap.size + 1) (by omega) 0 (.int .i64 0)).far (c := w.heap.size + 1 + 1) (by omega) 0 (.int .i64 0)
  have k1 := ((e1.far (c := w.heap.size) (by omega) 0 (.slice a2 rs.length c2)).set 0 (.int .i64 0)).far (c := w.heap.size + 1 + 1) (by omega) 0 (.int .i64 0)
  have k2 := ((e2.far (c := w.heap.size) (by omega) 0 (.slice a2 rs.length c2)).far (c := w.heap.size + 1) (by omega) 0 (.int .i64 0)).set 0 (.int .i64 0)
  refine leaves_cons (f := 60) (args := #[.pointer (some ⟨w.heap.size, 0, none⟩), .pointer (some ⟨w.heap.size + 1, 0, none⟩), .pointer (some ⟨w.heap.size + 1 + 1, 0, none⟩)]) (by simp) (by simp [go_sem]) ?_
  refine (catch_idle w.heap.size (w.heap.size + 1) (w.heap.size + 1 + 1) _).mono ?_
  rintro x u w3 ⟨rfl, rfl, hB3⟩
  have m0 : w3.cell? ⟨w.heap.size, 0, none⟩ = some (.slice a2 rs.length c2) := BK.cell ((hB3.block _ k0.lt).trans k0) 0
  have m1 : w3.cell? ⟨w.heap.size + 1, 0, none⟩ = some (.int .i64 0) := BK.cell ((hB3.block _ k1.lt).trans k1) 0
  have m2 : w3.cell? ⟨w.heap.size + 1 + 1, 0, none⟩ = some (.int .i64 0) := BK.cell ((hB3.block _ k2.lt).trans k2) 0
  have hOF := (hO3.below hB3).mono (show w.heap.size ≤ _ by omega)
  have hBF := btr hb3 hB3
  clear hO3 hb3 k0 k1 k2 hB3
  simp [Leaves, settle, results, Tryz.results29, go_sem, m0, m1, m2]
  exact ⟨hOF, hBF⟩
end Go.Proofs.YtdjfpghgklkejaaGreatDoor
namespace Go.Proofs.YtdjfpghgklkejaaGreatDoor
open Go.RowKit Go.Sort
structure RA (W : World) (b o : Nat) (l : List Ar) : Prop where
 c0 : ∀ j (h : j < l.length), W.cell? ⟨b, o + j * 2, none⟩ = some (.string l[j].n)
 c1 : ∀ j (h : j < l.length), W.cell? ⟨b, o + j * 2 + 1, none⟩ = some (.int .i64 l[j].x)
 lt : b < W.heap.size
theorem RA.below {W W' : World} {b o : Nat} {l : List Ar} (h : RA W b o l) (hb : Below W.heap.size W W') : RA W' b o l :=
 ⟨fun j hj => (hb.cell (p := ⟨b, o + j * 2, none⟩) h.lt).trans (h.c0 j hj), fun j hj => (hb.cell (p := ⟨b, o + j * 2 + 1, none⟩) h.lt).trans (h.c1 j hj), Nat.lt_of_lt_of_le h.lt hb.size⟩
def SA (W : World) (v : Value) (l : List Ar) : Prop := ∃ a c, v = .slice a l.length c ∧ l.length ≤ c ∧ ∀ k, k < l.length → ∃ b o, a = some ⟨b, o, none⟩ ∧ RA W b o l
theorem SA.below {W W' : World} {v : Value} {l : List Ar} (h : SA W v l) (hb : Below W.heap.size W W') : SA W' v l := by
 obtain ⟨a, c, e, hc, hr⟩ := h
 exact ⟨a, c, e, hc, fun k hk => by obtain ⟨b, o, e, r⟩ := hr k hk; exact ⟨b, o, e, r.below hb⟩⟩
theorem own_sa {W : World} {B : Nat} {v : Value} {l : List Ar} (h : W.ownsRow B 100 2 v l.length (ars l)) : SA W v l := by
 rcases Nat.eq_zero_or_pos l.length with h0 | h0
 ·obtain ⟨a, c, rfl⟩ := own_shape h
  rcases h.2 with ⟨e, _⟩ | ⟨g, cap, cur, e, _, _, hn, _⟩
  ·exact ⟨a, c, rfl, by omega, fun k hk => by omega⟩
  ·exact ⟨a, c, rfl, by omega, fun k hk => by omega⟩
 ·obtain ⟨g, cap, rfl, hc, _, hcell, _, hl⟩ := own_at h h0
  have hlen := ars_length l
  refine ⟨_, cap, rfl, hc, fun _ _ => ⟨g, 0, rfl, fun j hj => ?_, fun j hj => ?_, hl⟩⟩
  ·have e := (ars_at l j hj).1
   rw [List.getElem?_eq_getElem (by omega)] at e
   rw [Nat.zero_add, hcell (j * 2) (by omega), Option.some.inj e]
  ·have e := (ars_at l j hj).2
   rw [List.getElem?_eq_getElem (by omega)] at e
   rw [Nat.zero_add, hcell (j * 2 + 1) (by omega), Option.some.inj e]
structure RR (W : World) (b o : Nat) (rs : List Rw) (vs : List Value) : Prop where
 c0 : ∀ j (h : j < rs.length), W.cell? ⟨b, o + j * 6, none⟩ = some (.string rs[j].kind)
 c1 : ∀ j (h : j < rs.length), W.cell? ⟨b, o + j * 6 + 1, none⟩ = some (.string rs[j].name)
 c2 : ∀ j (_ : j < rs.length) (h' : j < vs.length), W.cell? ⟨b, o + j * 6 + 2, none⟩ = some vs[j]
 c3 : ∀ j (h : j < rs.length), W.cell? ⟨b, o + j * 6 + 3, none⟩ = some (.int .i64 rs[j].num)
 c4 : ∀ j (h : j < rs.length), W.cell? ⟨b, o + j * 6 + 4, none⟩ = some (.int .i64 rs[j].rows)
 c5 : ∀ j (h : j < rs.length), W.cell? ⟨b, o + j * 6 + 5, none⟩ = some (.int .i64 rs[j].place)
 lt : b < W.heap.size
theorem RR.below {W W' : World} {b o : Nat} {rs : List Rw} {vs : List Value} (h : RR W b o rs vs) (hb : Below W.heap.size W W') : RR W' b o rs vs :=
 ⟨fun j hj => (hb.cell (p := ⟨b, _, none⟩) h.lt).trans (h.c0 j hj), fun j hj => (hb.cell (p := ⟨b, _, none⟩) h.lt).trans (h.c1 j hj), fun j hj hj' => (hb.cell (p := ⟨b, _, none⟩) h.lt).trans (h.c2 j hj hj'), fun j hj => (hb.cell (p := ⟨b, _, none⟩) h.lt).trans (h.c3 j hj), fun j hj => (hb.cell (p := ⟨b, _, none⟩) h.lt).trans (h.c4 j hj), fun j hj => (hb.cell (p := ⟨b, _, none⟩) h.lt).trans (h.c5 j hj), Nat.lt_of_lt_of_le h.lt hb.size⟩
def SR (W : World) (v : Value) (rs : List Rw) : Prop := ∃ a c vs, v = .slice a rs.length c ∧ rs.length ≤ c ∧ rs.length = List.length vs ∧ (∀ k (h : k < rs.length) (h' : k < vs.length), SA W vs[k] rs[k].args) ∧ ∀ k, k < rs.length → ∃ b o, a = some ⟨b, o, none⟩ ∧ RR W b o rs vs
theorem SR.below {W W' : World} {v : Value} {rs : List Rw} (h : SR W v rs) (hb : Below W.heap.size W W') : SR W' v rs := by
 obtain ⟨a, c, vs, e, hc, hv, ha, hr⟩ := h
 exact ⟨a, c, vs, e, hc, hv, fun k h h' => (ha k h h').below hb, fun k hk => by obtain ⟨b, o, e, r⟩ := hr k hk; exact ⟨b, o, e, r.below hb⟩⟩
theorem OR.sr {W : World} {B : Nat} {v : Value} {rs : List Rw} (h : OR W B v rs) : SR W v rs := by
 obtain ⟨vs, h1, h2, h3⟩ := h
 rcases Nat.eq_zero_or_pos rs.length with h0 | h0
 ·obtain ⟨a, c, rfl⟩ := own_shape h2
  exact ⟨a, c, vs, rfl, by omega, h1, fun k hk hk' => own_sa (h3 k hk hk'), fun k hk => by omega⟩
 ·obtain ⟨g, cap, rfl, hc, _, hcell, _, hl⟩ := own_at h2 h0
  have hlen := rws_length rs vs h1
  have get : ∀ (i : Nat) (x : Value), i < rs.length * 6 → (rws rs vs)[i]? = some x → W.cell? ⟨g, 0 + i, none⟩ = some x := fun i x hi e => by
   rw [List.getElem?_eq_getElem (by omega)] at e
   rw [Nat.zero_add, hcell i (by omega), Option.some.inj e]
  refine ⟨_, cap, vs, rfl, hc, h1, fun k hk hk' => own_sa (h3 k hk hk'), fun _ _ => ⟨g, 0, rfl, ?_, ?_, ?_, ?_, ?_, ?_, hl⟩⟩
  ·intro j hj; exact get _ _ (by omega) (rws_at rs vs h1 j hj (by omega)).1
  ·intro j hj; exact get _ _ (by omega) (rws_at rs vs h1 j hj (by omega)).2.1
  ·intro j hj hj'; exact get _ _ (by omega) (rws_at rs vs h1 j hj hj').2.2.1
  ·intro j hj; exact get _ _ (by omega) (rws_at rs vs h1 j hj (by omega)).2.2.2.1
  ·intro j hj; exact get _ _ (by omega) (rws_at rs vs h1 j hj (by omega)).2.2.2.2.1
  ·intro j hj; exact get _ _ (by omega) (rws_at rs vs h1 j hj (by omega)).2.2.2.2.2
def rowSame (pl : Bool) (r s : Rw) : Prop := r.kind = s.kind ∧ r.name = s.name ∧ r.num = s.num ∧ r.rows = s.rows ∧ (pl = true → r.place = s.place) ∧ r.args = s.args
def SameP (pl : Bool) (a b : List Rw) : Prop := a.length = b.length ∧ ∀ k (h : k < a.length) (h' : k < b.length), rowSame pl a[k] b[k]
def SameR (pl : Bool) (p q : List Rw) (e : Ending) : Prop := ∃ b : Bool, e = .returned (.bool b) ∧ (b = true ↔ SameP pl p q)
end Go.Proofs.YtdjfpghgklkejaaGreatDoor
namespace Go.Proofs.YtdjfpghgklkejaaGreatDoor
def numOk (n : Int) : Bool := decide (0 ≤ n) && decide (n ≤ 9007199254740991)
def plnN (s : ByteArray) : Bool := nmB s && !ownB s
def argOk (ix : Bool) (a : Ar) : Bool := plnN a.n && (decide (a.x = -1) || (ix && numOk a.x))
def fitB (r : Rw) (sh : Sh) : Bool :=
 (if sh.name = true then plnN r.name else decide (r.name = ⟨#[]⟩)) && (if sh.num = true then numOk r.num else decide (r.num = 0)) &&
  (decide (sh.args = -1) || decide ((r.args.length : Int) = sh.args)) && r.args.all (argOk sh.idx)
def shR (r : Rw) : Sh := (shp r.kind).getD shNone
def chk : Nat → Nat → List Rw → Bool
 | 0, _, _ => true
 | _ + 1, _, [] => true
 | f + 1, d, r :: rs =>
  (shp r.kind).isSome && fitB r (shR r) && decide (0 ≤ r.rows) && decide (r.rows ≤ (rs.length : Int)) &&
   (if (shR r).body = true then decide (d < 32) && chk f (d + 1) (rs.take r.rows.toNat) else decide (r.rows = 0)) && chk f d (rs.drop r.rows.toNat)
abbrev numT (x : Int) : ByteArray := ⟨(Lib.itoa x).toArray⟩
def tkN (s : ByteArray) : Tk := ⟨1, s, 0⟩
def tkD (x : Int) : Tk := ⟨2, numT x, 0⟩
def tkS (s : ByteArray) : Tk := ⟨3, s, 0⟩
def argK (a : Ar) : List Tk := tkN a.n :: (if 0 ≤ a.x then [tkS wLeft, tkD a.x, tkS wRight] else [])
def kindT (r : Rw) : List Tk := if r.kind = wUse then [] else [tkN r.kind]
def nameT (r : Rw) (sh : Sh) : List Tk := if sh.name = true then [tkN r.name] else []
def argsT (l : List Ar) : List Tk := l.flatMap argK
def numTk (r : Rw) (sh : Sh) : List Tk := if sh.num = true then [tkD r.num] else []
def headK (r : Rw) (sh : Sh) : List Tk := kindT r ++ (nameT r sh ++ (argsT r.args ++ (numTk r sh ++ [tkS (lastS sh)])))
def bodyK : Nat → List Rw → List Tk
 | 0, _ => []
 | _ + 1, [] => []
 | f + 1, r :: rs => headK r (shR r) ++ ((if (shR r).body = true then bodyK f (rs.take r.rows.toNat) ++ [tkS wShut] else []) ++ bodyK f (rs.drop r.rows.toNat))
def sepB (last t : ByteArray) : Bool := !(decide (last = ⟨#[]⟩)) && !(decide (last = wLeft)) && !(decide (t = wSemi)) && !(decide (t = wLeft)) && !(decide (t = wRight))
def tokB (last t : ByteArray) : List UInt8 := (if sepB last t = true then [32] else []) ++ t.data.toList
def lineB : ByteArray → List Tk → List UInt8
 | _, [] => []
 | last, t :: ts => tokB last t.t ++ lineB t.t ts
def indB (d : Nat) : List UInt8 := List.replicate (2 * d) 32
def bodyB : Nat → Nat → List Rw → List UInt8
 | 0, _, _ => []
 | _ + 1, _, [] => []
 | f + 1, d, r :: rs => (indB d ++ (lineB ⟨#[]⟩ (headK r (shR r)) ++ [10])) ++ ((if (shR r).body = true then bodyB f (d + 1) (rs.take r.rows.toNat) ++ (indB d ++ ([125] ++ [10])) else []) ++ bodyB f d (rs.drop r.rows.toNat))
end Go.Proofs.YtdjfpghgklkejaaGreatDoor
namespace Go.Proofs.YtdjfpghgklkejaaGreatDoor
open Go.RowKit Go.Sort
theorem ne_empty {s : ByteArray} (h : 0 < s.size) : (s.toList == []) = false := by
 rw [ByteArray.toList_eq]
 cases e : s.data.toList with
 | nil =>
  have : s.data.toList.length = s.size := rfl
  rw [e] at this
  simp at this
  omega
 | cons x r => rfl
theorem isName_any (s : ByteArray) (w : World) (hs : s.size ≤ 9223372036854775807) :
  Calls Tryz.prog 172 #[.string s] w fun e w' => e = .returned (.bool (nmB s)) ∧ w' = w := by
 by_cases h0 : 0 < s.size
 ·have LA := fun w => letter2_any s[0].toNat w
  have EN : ∀ w, Calls Tryz.prog 107 #[.string s, .int .i64 0] w fun e w' => e = .returned (.int .i64 (run isN s 0 : Nat)) ∧ w' = w := fun w => nameEnd_any s 0 _ w hs (run_end isN6 (i := 0) (s := s) (by omega))
  have hz := ne_empty h0
  unfold nmB
  rw [cb_at h0]
  generalize run isN s 0 = j at *
  cases hL : isL s[0].toNat with
  | true =>
   rw [hL] at LA
   clear hL
   go_enter Tryz.func172, Tryz.ntmps172
   go_wp2_with (first | (go_at_call 106; (with_reducible refine (LA _).mono ?_); rintro e w1 ⟨rfl, rfl⟩) | (go_at_call 107; (with_reducible refine (EN _).mono ?_); rintro e w1 ⟨rfl, rfl⟩))
   go_ret
   exact ⟨ret_b (by simp; omega), rfl⟩
  | false =>
   rw [hL] at LA
   clear hL
   go_enter Tryz.func172, Tryz.ntmps172
   go_wp2_with (first | (go_at_call 106; (with_reducible refine (LA _).mono ?_); rintro e w1 ⟨rfl, rfl⟩) | (go_at_call 107; (with_reducible refine (EN _).mono ?_); rintro e w1 ⟨rfl, rfl⟩))
   go_ret
   exact ⟨rfl, rfl⟩
 ·obtain rfl : s = ⟨#[]⟩ := by
   apply ByteArray.ext
   exact Array.eq_empty_of_size_eq_zero (by show s.size = 0; omega)
  go_enter Tryz.func172, Tryz.ntmps172
  go_wp2
  go_ret
  exact ⟨rfl, rfl⟩
theorem RR.drop {W : World} {b o : Nat} {rs : List Rw} {vs : List Value} (h : RR W b o rs vs) (k : Nat) : RR W b (o + k * 6) (rs.drop k) (vs.drop k) := by
 have e : ∀ j, o + k * 6 + j * 6 = o + (k + j) * 6 := fun j => by omega
 refine ⟨fun j hj => ?_, fun j hj => ?_, fun j hj hj' => ?_, fun j hj => ?_, fun j hj => ?_, fun j hj => ?_, h.lt⟩
 all_goals rw [e, List.getElem_drop]
 all_goals rw [List.length_drop] at hj
 ·exact h.c0 _ _
 ·exact h.c1 _ _
 ·exact h.c2 _ (by omega) _
 ·exact h.c3 _ _
 ·exact h.c4 _ _
 ·exact h.c5 _ _
theorem RR.take {W : World} {b o : Nat} {rs : List Rw} {vs : List Value} (h : RR W b o rs vs) (k : Nat) : RR W b o (rs.take k) (vs.take k) := by
 refine ⟨fun j hj => ?_, fun j hj => ?_, fun j hj hj' => ?_, fun j hj => ?_, fun j hj => ?_, fun j hj => ?_, h.lt⟩
 all_goals rw [List.getElem_take]
 all_goals rw [List.length_take] at hj
 ·exact h.c0 _ _
 ·exact h.c1 _ _
 ·exact h.c2 _ (by omega) _
 ·exact h.c3 _ _
 ·exact h.c4 _ _
 ·exact h.c5 _ _
theorem SR.drop {W : World} {a : Option Addr} {c : Nat} {rs : List Rw} (h : SR W (.slice a rs.length c) rs) (k : Nat) (hk : k ≤ rs.length) :
  ∃ a' c', (∀ w, (Instr.slice 22 (.slice a rs.length c) (some (.int .i64 (k : Int))) none none).run Tryz.prog w = .ok (.slice a' (rs.drop k).length c') w) ∧ SR W (.slice a' (rs.drop k).length c') (rs.drop k) := by
 obtain ⟨a0, c0, vs, e, hc, hv, ha, hr⟩ := h
 cases e
 refine ⟨if c = k then a else a.map (·.add (k * 6)), c - k, fun w => ?_, ?_⟩
 ·rw [run_slice_l w 22 a rs.length c (by kernel_rfl) .i64 (k : Int) (by omega) (by omega)]
  rw [show Tryz.prog.elem 22 = 79 by kernel_rfl, Tryz.sizeOf79]
  simp only [Result.andThen, sliced, Int.toNat_natCast, List.length_drop]
 ·refine ⟨_, _, vs.drop k, rfl, by rw [List.length_drop]; omega, by rw [List.length_drop, List.length_drop, hv], fun j h h' => ?_, fun j hj => ?_⟩
  ·rw [List.getElem_drop, List.getElem_drop]
   rw [List.length_drop] at h h'
   exact ha _ (by omega) (by omega)
  ·rw [List.length_drop] at hj
   obtain ⟨b, o, rfl, r⟩ := hr (k + j) (by omega)
   rw [if_neg (by omega)]
   exact ⟨b, o + k * 6, by rw [Option.map_some, WideShapes.add_plain], r.drop k⟩
theorem SR.take {W : World} {a : Option Addr} {c : Nat} {rs : List Rw} (h : SR W (.slice a rs.length c) rs) (k : Nat) (hk : k ≤ rs.length) :
  ∃ a' c', (∀ w, (Instr.slice 22 (.slice a rs.length c) none (some (.int .i64 (k : Int))) none).run Tryz.prog w = .ok (.slice a' (rs.take k).length c') w) ∧ SR W (.slice a' (rs.take k).length c') (rs.take k) := by
 obtain ⟨a0, c0, vs, e, hc, hv, ha, hr⟩ := h
 cases e
 have hl : (rs.take k).length = k := by rw [List.length_take]; omega
 refine ⟨a, c, fun w => ?_, ?_⟩
 ·rw [run_slice_h w 22 a rs.length c (by kernel_rfl) .i64 (k : Int) (by omega) (by omega)]
  rw [show Tryz.prog.elem 22 = 79 by kernel_rfl, Tryz.sizeOf79]
  simp only [Result.andThen, sliced, Int.toNat_natCast, hl, Nat.zero_mul, Nat.sub_zero]
  congr 2
  cases a with
  | none => simp
  | some x => simp [Addr.add]
 ·refine ⟨_, _, vs.take k, rfl, by rw [hl]; omega, by rw [List.length_take, List.length_take, hv], fun j h h' => ?_, fun j hj => ?_⟩
  ·rw [List.getElem_take, List.getElem_take]
   rw [List.length_take] at h h'
   exact ha _ (by omega) (by omega)
  ·rw [hl] at hj
   obtain ⟨b, o, rfl, r⟩ := hr j (by omega)
   exact ⟨b, o, rfl, r.take k⟩
def Szs (rs : List Rw) : Prop := ∀ r ∈ rs, r.name.size ≤ 9223372036854775807 ∧ r.args.length ≤ 9223372036854775807 ∧ ∀ a ∈ r.args, a.n.size ≤ 9223372036854775807
theorem Szs.drop {rs : List Rw} (h : Szs rs) (k : Nat) : Szs (rs.drop k) := fun r hr => h r (List.mem_of_mem_drop hr)
theorem Szs.take {rs : List Rw} (h : Szs rs) (k : Nat) : Szs (rs.take k) := fun r hr => h r (List.mem_of_mem_take hr)
set_option maxHeartbeats 1000000 in
theorem plain_any (s : ByteArray) (w : World) (hs : s.size ≤ 9223372036854775807) :
  Calls Tryz.prog 158 #[.string s] w fun e w' => e = .returned (.bool (plnN s)) ∧ Below w.heap.size w w' := by
 have NA := fun w => isName_any s w hs
 have OA := fun w => isOwn_any s w
 unfold plnN
 cases hn : nmB s with
 | true =>
  rw [hn] at NA
  clear hn
  cases ho : ownB s with
  | true =>
   rw [ho] at OA
   clear ho
   go_enter Tryz.func158, Tryz.ntmps158
   go_wp2_with (first | (go_at_call 172; (with_reducible refine (NA _).mono ?_); rintro e w1 ⟨rfl, rfl⟩) | (go_at_call 146; (with_reducible refine (OA _).mono ?_); rintro e w2 ⟨rfl, hB⟩))
   go_ret
   exact ⟨rfl, hB⟩
  | false =>
   rw [ho] at OA
   clear ho
   go_enter Tryz.func158, Tryz.ntmps158
   go_wp2_with (first | (go_at_call 172; (with_reducible refine (NA _).mono ?_); rintro e w1 ⟨rfl, rfl⟩) | (go_at_call 146; (with_reducible refine (OA _).mono ?_); rintro e w2 ⟨rfl, hB⟩))
   go_ret
   exact ⟨rfl, hB⟩
 | false =>
  rw [hn] at NA
  clear hn
  go_enter Tryz.func158, Tryz.ntmps158
  go_wp2_with (first | (go_at_call 172; (with_reducible refine (NA _).mono ?_); rintro e w1 ⟨rfl, rfl⟩))
  go_ret
  exact ⟨rfl, Below.refl _ _⟩
theorem isnum_any (x : Int) (w : World) : Calls Tryz.prog 159 #[.int .i64 x] w fun e w' => e = .returned (.bool (numOk x)) ∧ w' = w := by
 unfold numOk
 by_cases h0 : 0 ≤ x
 ·rw [decide_eq_true h0]
  by_cases h1 : x ≤ 9007199254740991
  ·rw [decide_eq_true h1]
   go_enter Tryz.func159, Tryz.ntmps159
   go_wp2
   go_ret
   exact ⟨rfl, rfl⟩
  ·rw [decide_eq_false h1]
   go_enter Tryz.func159, Tryz.ntmps159
   go_wp2
   go_ret
   exact ⟨rfl, rfl⟩
 ·rw [decide_eq_false h0]
  go_enter Tryz.func159, Tryz.ntmps159
  go_wp2
  go_ret
  exact ⟨rfl, rfl⟩
theorem two_bk (W : World) (a c : Array Value) (A C : TypeId) {wr : World} (h : Below ((W.alloc (.cells a A)).alloc (.cells c C)).heap.size ((W.alloc (.cells a A)).alloc (.cells c C)) wr) : BK wr W.heap.size a A ∧ BK wr (W.heap.size + 1) c C := by
 have e1 : (W.alloc (.cells a A)).heap.size = W.heap.size + 1 := by simp
 have x0 := (bk_new W a A).alloc (.cells c C)
 have x1 := bk_new (W.alloc (.cells a A)) c C
 rw [e1] at x1
 exact ⟨(h.block _ x0.lt).trans x0, (h.block _ x1.lt).trans x1⟩
end Go.Proofs.YtdjfpghgklkejaaGreatDoor
