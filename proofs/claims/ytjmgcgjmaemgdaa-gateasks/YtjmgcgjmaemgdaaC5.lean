/-
  gate.Adjoint.
-/
import Derived.Test.YtjmgcgjmaemgdaaC4
namespace Go.Proofs.Ytjmgcgjmaemgdaa
open Go.RowKit Go.Sort

/-- The first Y columns are written, and of column Y the first X. -/
def prc (F : Nat → Nat → A5) (Y X : Nat) : Nat → Nat → List Value := fun x y => (if y < Y ∨ (y = Y ∧ x < X) then F x y else a0).cells
theorem prc_len (F : Nat → Nat → A5) (X Y x y : Nat) : (prc F X Y x y).length = 3 := rfl
theorem prc_zero {w W : World} {M N : Nat} (F : Nat → Nat → A5) (h : MX w W M N zA) : MX w W M N (prc F 0 0) := h.same (prc_len F 0 0) fun x y _ _ => by
  unfold prc; rw [if_neg (by omega)]; rfl
theorem prc_row {w W : World} {M N Y : Nat} {F : Nat → Nat → A5} (h : MX w W M N (prc F Y N)) : MX w W M N (prc F (Y + 1) 0) := h.same (prc_len F _ _) fun x y hx hy => by
  unfold prc
  by_cases e : y < Y + 1
  · rw [if_pos (by omega), if_pos (by omega)]
  · rw [if_neg (by omega), if_neg (by omega)]
theorem prc_put {w W : World} {M N X Y : Nat} {F : Nat → Nat → A5} (h : MX w W M N (prc F Y X)) (hX : X < N) (hY : Y < N) :
    MX w (((W.setCell ⟨M + 1 + X, Y * 3, none⟩ (cx (F X Y).q.a (F X Y).q.b)).setCell ⟨M + 1 + X, Y * 3 + 1, none⟩ (cx (F X Y).q.c (F X Y).q.d)).setCell ⟨M + 1 + X, Y * 3 + 2, none⟩ (.int .i64 ((F X Y).k : Nat))) M N (prc F Y (X + 1)) :=
  (h.put X Y hX hY _ _ _).same (prc_len F _ _) fun x y hx hy => by
    unfold upd
    by_cases e : x = X ∧ y = Y
    · obtain ⟨rfl, rfl⟩ := e
      rw [if_pos ⟨rfl, rfl⟩]
      unfold prc
      rw [if_pos (by omega)]
    · rw [if_neg e]
      unfold prc
      by_cases e2 : y < Y ∨ (y = Y ∧ x < X)
      · rw [if_pos e2, if_pos (by omega)]
      · rw [if_neg e2, if_neg (by omega)]
theorem prc_full {w W : World} {M N : Nat} {F : Nat → Nat → A5} (h : MX w W M N (prc F N 0)) : MX w W M N (fun x y => (F x y).cells) := h.same (fun _ _ => rfl) fun x y hx hy => by
  unfold prc; rw [if_pos (by omega)]
/-- The adjoint. -/
def adjP (A : Nat → Nat → A5) : Nat → Nat → A5 := fun x y => (A y x).conj
set_option maxRecDepth 100000 in
set_option maxHeartbeats 2000000 in
theorem adj_any {w : World} {M N : Nat} {A : Nat → Nat → A5} (h : MR w M N A) (hN : N = 2 ∨ N = 4 ∨ N = 8) (hc : ∀ x y, x < N → y < N → (A x y).chk = true) :
    Calls Try.prog 26 #[mv M N] w fun e w' => ∃ P, e = .returned (.tuple #[mv P N, .int .i64 0]) ∧ MX w w' P N (fun x y => (adjP A x y).cells) := by
  have h0 : 0 < N := by omega
  have h8 : N ≤ 8 := by omega
  have C := shaped_any h h0 h8
  have NO := fun w => noughts_any hN w
  have HD : Hid (∀ V X Y, X < N → Y < N → Calls Try.prog 39 #[(A Y X).v] V fun e w' => e = .returned (.tuple #[(adjP A X Y).v, .int .i64 0]) ∧ Below V.heap.size V w') := fun V X Y hX hY => aconj (A Y X) (hc Y X hY hX) V
  have HM := hidG h
  have r0 := h.m 0 h0
  clear hc hN h
  generalize adjP A = F at *
  go_enter Try.func26, Try.ntmps26
  go_upto_region 5 with (first
    | (go_at_call 38; (with_reducible refine C.mono ?_); rintro e w1 ⟨rfl, hE⟩; subst hE)
    | (go_at_call 31; (with_reducible refine (NO _).mono ?_); rintro e w2 ⟨rfl, hm⟩))
  have hI := hidG (prc_zero F hm)
  clear hm r0 C NO
  obtain ⟨P, hP⟩ : ∃ P, P = w1.heap.size := ⟨_, rfl⟩
  rw [← hP]
  rw [← hP] at hI
  clear hP
  go_loopw [23] (fun v wr => ∃ Y : Nat, Y ≤ N ∧ v = .int .i64 Y ∧ Hid (MX w1 wr P N (prc F Y 0))) (fun v _ => N - (intOf v).toNat)
  case atStart => exact ⟨0, by omega, rfl, hI⟩
  case round =>
    clear hI
    obtain ⟨Y, hY, rfl, hH⟩ := hrel
    by_cases hlt : Y < N
    · have ck := (HM.out.on hH.out.below).m Y hlt
      go_upto_region 8 with (fail)
      go_loopw [30] (fun v wr => ∃ X : Nat, X ≤ N ∧ v = .int .i64 X ∧ Hid (MX w1 wr P N (prc F Y X))) (fun v _ => N - (intOf v).toNat)
      case atStart => exact ⟨0, by omega, rfl, hH⟩
      case round =>
        clear hH ck
        obtain ⟨X, hX, rfl, hH⟩ := hrel
        by_cases hlx : X < N
        · have c0 := (HM.out.on hH.out.below).c0 Y X hlt hlx
          have c1 := (HM.out.on hH.out.below).c1 Y X hlt hlx
          have c2 := (HM.out.on hH.out.below).c2 Y X hlt hlx
          have DT := fun V => HD.out V X Y hlx hlt
          obtain ⟨p, hp⟩ : ∃ p, Hid (p = F X Y) := ⟨_, rfl⟩
          rw [← hp.out] at DT
          generalize A Y X = a at *
          go_upto_region 13 with (go_at_call 39; (with_reducible refine (DT _).mono ?_); rintro e w3 ⟨rfl, hN⟩)
          have hA := hidG (((hH.out.on (bal (Below.refl _ _) _)).on hN).on (bal (Below.refl _ _) (.cells #[cx p.q.a p.q.b, cx p.q.c p.q.d, .int .i64 (p.k : Nat)] 46)))
          have hV := Bx.new w3 p.cells 46
          have v0 := hV.c 0 _ rfl
          have v1 := hV.c 1 _ rfl
          have v2 := hV.c 2 _ rfl
          obtain ⟨a0', a1', a2', ha⟩ := len3 (hA.out.len X Y)
          have m0 := hA.out.m X hlx
          have e0 : (w3.alloc (.cells #[cx p.q.a p.q.b, cx p.q.c p.q.d, .int .i64 (p.k : Nat)] 46)).cell? ⟨P + 1 + X, Y * 3, none⟩ = some a0' := hA.out.c X Y 0 a0' hlx hlt (by rw [ha]; rfl)
          have e1 := hA.out.c X Y 1 a1' hlx hlt (by rw [ha]; rfl)
          have e2 := hA.out.c X Y 2 a2' hlx hlt (by rw [ha]; rfl)
          have f0 := hA.out.f X (Y * 3) hlx
          have f1 := hA.out.f X (Y * 3 + 1) hlx
          have f2 := hA.out.f X (Y * 3 + 2) hlx
          clear hV ha hH
          obtain ⟨E, hE⟩ : ∃ E, E = w3.heap.size := ⟨_, rfl⟩
          rw [← hE]
          rw [← hE] at v0 v1 v2
          clear hE
          change (w3.alloc (.cells #[cx p.q.a p.q.b, cx p.q.c p.q.d, .int .i64 (p.k : Nat)] 46)).cell? ⟨E, 0, none⟩ = _ at v0
          change (w3.alloc (.cells #[cx p.q.a p.q.b, cx p.q.c p.q.d, .int .i64 (p.k : Nat)] 46)).cell? ⟨E, 1, none⟩ = _ at v1
          change (w3.alloc (.cells #[cx p.q.a p.q.b, cx p.q.c p.q.d, .int .i64 (p.k : Nat)] 46)).cell? ⟨E, 2, none⟩ = _ at v2
          generalize (w3.alloc (.cells #[cx p.q.a p.q.b, cx p.q.c p.q.d, .int .i64 (p.k : Nat)] 46)) = V at *
          go_region
          go_wp2
          go_roundw
          case rel => exact ⟨X + 1, by omega, by go_num, by have := prc_put hA.out.drew hlx hlt; rw [← hp.out] at this; exact this⟩
          case measure => simp [intOf]; omega
        · obtain rfl : X = N := by omega
          go_wp2
          go_roundw
          case rel => exact ⟨Y + 1, by omega, by go_num, prc_row hH.out⟩
          case measure => simp [intOf]; omega
    · obtain rfl : Y = N := by omega
      go_wp2
      go_ret2
      exact ⟨P, rfl, prc_full hH.out⟩
end Go.Proofs.Ytjmgcgjmaemgdaa
