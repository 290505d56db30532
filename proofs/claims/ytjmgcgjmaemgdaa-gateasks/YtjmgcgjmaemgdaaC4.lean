/-
  gate.Mul.
-/
import Derived.Test.YtjmgcgjmaemgdaaC2
import Derived.Test.YtjmgcgjmaemgdaaC3
import Derived.Test.YtjmgcgjmaemgdaaM3
namespace Go.Proofs.Ytjmgcgjmaemgdaa
open Go.RowKit Go.Sort

theorem noughts_any {N : Nat} (hN : N = 2 ∨ N = 4 ∨ N = 8) (w : World) : Calls Try.prog 31 #[.int .i64 (N : Int), .int .i64 (N : Int)] w fun e w' => e = .returned (mv w.heap.size N) ∧ MX w w' w.heap.size N zA := by
  rcases hN with rfl | rfl | rfl
  · exact noughts_2 w
  · exact noughts_4 w
  · exact noughts_8 w
/-- The first X rows are written, and of row X the first Y. -/
def prt (F : Nat → Nat → A5) (X Y : Nat) : Nat → Nat → List Value := fun x y => (if x < X ∨ (x = X ∧ y < Y) then F x y else a0).cells
theorem prt_len (F : Nat → Nat → A5) (X Y x y : Nat) : (prt F X Y x y).length = 3 := rfl
theorem MX.same {w W : World} {M N : Nat} {A A' : Nat → Nat → List Value} (h : MX w W M N A) (hl : ∀ x y, (A' x y).length = 3) (e : ∀ x y, x < N → y < N → A x y = A' x y) : MX w W M N A' :=
  ⟨h.below, h.ge, h.m, fun x y t v hx hy hv => h.c x y t v hx hy (by rw [e x y hx hy]; exact hv), h.f, hl, h.lt⟩
theorem prt_zero {w W : World} {M N : Nat} (F : Nat → Nat → A5) (h : MX w W M N zA) : MX w W M N (prt F 0 0) := h.same (prt_len F 0 0) fun x y _ _ => by
  unfold prt; rw [if_neg (by omega)]; rfl
theorem prt_row {w W : World} {M N X : Nat} {F : Nat → Nat → A5} (h : MX w W M N (prt F X N)) : MX w W M N (prt F (X + 1) 0) := h.same (prt_len F _ _) fun x y hx hy => by
  unfold prt
  by_cases e : x < X + 1
  · rw [if_pos (by omega), if_pos (by omega)]
  · rw [if_neg (by omega), if_neg (by omega)]
theorem prt_put {w W : World} {M N X Y : Nat} {F : Nat → Nat → A5} (h : MX w W M N (prt F X Y)) (hX : X < N) (hY : Y < N) :
    MX w (((W.setCell ⟨M + 1 + X, Y * 3, none⟩ (cx (F X Y).q.a (F X Y).q.b)).setCell ⟨M + 1 + X, Y * 3 + 1, none⟩ (cx (F X Y).q.c (F X Y).q.d)).setCell ⟨M + 1 + X, Y * 3 + 2, none⟩ (.int .i64 ((F X Y).k : Nat))) M N (prt F X (Y + 1)) :=
  (h.put X Y hX hY _ _ _).same (prt_len F _ _) fun x y hx hy => by
    unfold upd
    by_cases e : x = X ∧ y = Y
    · obtain ⟨rfl, rfl⟩ := e
      rw [if_pos ⟨rfl, rfl⟩]
      unfold prt
      rw [if_pos (by omega)]
    · rw [if_neg e]
      unfold prt
      by_cases e2 : x < X ∨ (x = X ∧ y < Y)
      · rw [if_pos e2, if_pos (by omega)]
      · rw [if_neg e2, if_neg (by omega)]
theorem prt_full {w W : World} {M N : Nat} {F : Nat → Nat → A5} (h : MX w W M N (prt F N 0)) : MX w W M N (fun x y => (F x y).cells) := h.same (fun _ _ => rfl) fun x y hx hy => by
  unfold prt; rw [if_pos (by omega)]
/-- The product. -/
def mulP (A B : Nat → Nat → A5) (N : Nat) : Nat → Nat → A5 := fun x y => dotP A B x y N
set_option maxRecDepth 100000 in
set_option maxHeartbeats 2000000 in
theorem mul_any {w : World} {M M' N : Nat} {A B : Nat → Nat → A5} (h : MR w M N A) (h' : MR w M' N B) (hN : N = 2 ∨ N = 4 ∨ N = 8) (hc : ∀ x y, x < N → y < N → (A x y).chk = true) (hc' : ∀ x y, x < N → y < N → (B x y).chk = true)
    (hok : ∀ x y, x < N → y < N → dotOk A B x y N = true) :
    Calls Try.prog 25 #[mv M N, mv M' N] w fun e w' => ∃ P, e = .returned (.tuple #[mv P N, .int .i64 0]) ∧ MX w w' P N (fun x y => (mulP A B N x y).cells) := by
  have h0 : 0 < N := by omega
  have h8 : N ≤ 8 := by omega
  have C := both_any h h' h0 h8 hc hc'
  have NO := fun w => noughts_any hN w
  have HD : Hid (∀ V, Below w.heap.size w V → ∀ X Y, X < N → Y < N → Calls Try.prog 37 #[.slice (some ⟨M + 1 + X, 0, none⟩) N N, mv M' N, .int .i64 (Y : Int)] V fun e w' => e = .returned (.tuple #[(mulP A B N X Y).v, .int .i64 0]) ∧ Below V.heap.size V w') := fun V hV X Y hX hY => dot_any (h.on hV) (h'.on hV) h8 X Y hX hY (hok X Y hX hY)
  have HM := hidG h
  have HM' := hidG h'
  clear hc hc' hok hN h h'
  generalize mulP A B N = F at *
  go_enter Try.func25, Try.ntmps25
  go_upto_region 6 with (first
    | (go_at_call 36; (with_reducible refine C.mono ?_); rintro e w1 ⟨rfl, hB⟩; have r0 := (HM'.out.on hB).m 0 h0)
    | (go_at_call 31; (with_reducible refine (NO _).mono ?_); rintro e w2 ⟨rfl, hm⟩))
  have hI := hidG (prt_zero F (hm.base hB))
  clear hm hB r0
  generalize w1.heap.size = P at *
  go_loopw [28] (fun v wr => ∃ X : Nat, X ≤ N ∧ v = .int .i64 X ∧ Hid (MX w wr P N (prt F X 0))) (fun v _ => N - (intOf v).toNat)
  case atStart => exact ⟨0, by omega, rfl, hI⟩
  case round =>
    clear hI
    obtain ⟨X, hX, rfl, hH⟩ := hrel
    by_cases hlt : X < N
    · have ck := (HM.out.on hH.out.below).m X hlt
      have cp := hH.out.m X hlt
      go_upto_region 9 with (fail)
      go_loopw [38] (fun v wr => ∃ Y : Nat, Y ≤ N ∧ v = .int .i64 Y ∧ Hid (MX w wr P N (prt F X Y))) (fun v _ => N - (intOf v).toNat)
      case atStart => exact ⟨0, by omega, rfl, hH⟩
      case round =>
        clear hH ck cp
        obtain ⟨Y, hY, rfl, hH⟩ := hrel
        by_cases hly : Y < N
        · have DT := HD.out _ hH.out.below X Y hlt hly
          obtain ⟨p, hp⟩ : ∃ p, Hid (p = F X Y) := ⟨_, rfl⟩
          rw [← hp.out] at DT
          go_upto_region 14 with (go_at_call 37; (with_reducible refine DT.mono ?_); rintro e w3 ⟨rfl, hN⟩)
          have hA := hidG ((hH.out.on hN).on (bal (Below.refl _ _) (.cells #[cx p.q.a p.q.b, cx p.q.c p.q.d, .int .i64 (p.k : Nat)] 46)))
          have hV := Bx.new w3 p.cells 46
          have v0 := hV.c 0 _ rfl
          have v1 := hV.c 1 _ rfl
          have v2 := hV.c 2 _ rfl
          obtain ⟨a0', a1', a2', ha⟩ := len3 (hA.out.len X Y)
          have m0 := hA.out.m X hlt
          have e0 : (w3.alloc (.cells #[cx p.q.a p.q.b, cx p.q.c p.q.d, .int .i64 (p.k : Nat)] 46)).cell? ⟨P + 1 + X, Y * 3, none⟩ = some a0' := hA.out.c X Y 0 a0' hlt hly (by rw [ha]; rfl)
          have e1 := hA.out.c X Y 1 a1' hlt hly (by rw [ha]; rfl)
          have e2 := hA.out.c X Y 2 a2' hlt hly (by rw [ha]; rfl)
          have f0 := hA.out.f X (Y * 3) hlt
          have f1 := hA.out.f X (Y * 3 + 1) hlt
          have f2 := hA.out.f X (Y * 3 + 2) hlt
          clear hV ha hH
          obtain ⟨E, hE⟩ : ∃ E, E = w3.heap.size := ⟨_, rfl⟩
          rw [← hE]
          rw [← hE] at v0 v1 v2
          clear hE
          change (w3.alloc (.cells #[cx p.q.a p.q.b, cx p.q.c p.q.d, .int .i64 (p.k : Nat)] 46)).cell? ⟨E, 0, none⟩ = _ at v0
          change (w3.alloc (.cells #[cx p.q.a p.q.b, cx p.q.c p.q.d, .int .i64 (p.k : Nat)] 46)).cell? ⟨E, 1, none⟩ = _ at v1
          change (w3.alloc (.cells #[cx p.q.a p.q.b, cx p.q.c p.q.d, .int .i64 (p.k : Nat)] 46)).cell? ⟨E, 2, none⟩ = _ at v2
          generalize (w3.alloc (.cells #[cx p.q.a p.q.b, cx p.q.c p.q.d, .int .i64 (p.k : Nat)] 46)) = V at *
          go_region
          go_wp2
          go_roundw
          case rel => exact ⟨Y + 1, by omega, by go_num, by have := prt_put hA.out.drew hlt hly; rw [← hp.out] at this; exact this⟩
          case measure => simp [intOf]; omega
        · obtain rfl : Y = N := by omega
          go_wp2
          go_roundw
          case rel => exact ⟨X + 1, by omega, by go_num, prt_row hH.out⟩
          case measure => simp [intOf]; omega
    · obtain rfl : X = N := by omega
      go_wp2
      go_ret2
      exact ⟨P, rfl, prt_full hH.out⟩
end Go.Proofs.Ytjmgcgjmaemgdaa
