/-
  gate.dot.
-/
import Derived.Test.YtjmgcgjmaemgdaaC1
namespace Go.Proofs.Ytjmgcgjmaemgdaa
open Go.RowKit Go.Sort

theorem bcell {W w1 : World} (hb : Below W.heap.size W w1) : (∀ b o, b < W.heap.size → w1.cell? ⟨b, o, none⟩ = W.cell? ⟨b, o, none⟩) ∧ (∀ b o, b < W.heap.size → w1.frozen? ⟨b, o, none⟩ = W.frozen? ⟨b, o, none⟩) :=
  ⟨fun b o h => hb.cell (p := ⟨b, o, none⟩) h, fun b o h => hb.frozen (p := ⟨b, o, none⟩) h⟩
theorem bdr {a w : World} (h : Below a.heap.size a w.drew) (o : Obj) : Below a.heap.size a (w.alloc o).drew := ⟨h.os, h.tape, h.output, Nat.le_trans h.size (by show w.heap.size ≤ (w.heap.push o).size; simp), fun k hk => by
  rw [← h.block k hk]
  show (w.heap.push o)[k]? = w.heap[k]?
  have hw : k < w.heap.size := Nat.lt_of_lt_of_le hk h.size
  simp [Array.getElem?_push, Nat.ne_of_lt hw]⟩
theorem Bx.set3 {W : World} {B : Nat} {u v t : Value} (h : Bx W B [u, v, t]) (u' v' t' : Value) : Bx (((W.setCell ⟨B, 0, none⟩ u').setCell ⟨B, 1, none⟩ v').setCell ⟨B, 2, none⟩ t') B [u', v', t'] := by
  have g0 : (W.cell? ⟨B, 0, none⟩).isSome := by rw [h.c 0 _ rfl]; rfl
  have g1 : ((W.setCell ⟨B, 0, none⟩ u').cell? ⟨B, 1, none⟩).isSome := by rw [set_cell _ _ _ _ _ _ g0, if_neg (by omega), h.c 1 _ rfl]; rfl
  have g2 : (((W.setCell ⟨B, 0, none⟩ u').setCell ⟨B, 1, none⟩ v').cell? ⟨B, 2, none⟩).isSome := by rw [set_cell _ _ _ _ _ _ g1, if_neg (by omega), set_cell _ _ _ _ _ _ g0, if_neg (by omega), h.c 2 _ rfl]; rfl
  refine ⟨fun j x hj => ?_, fun j x hj => ?_, by simpa using h.lt⟩
  · rw [set_cell _ _ _ _ _ _ g2, set_cell _ _ _ _ _ _ g1, set_cell _ _ _ _ _ _ g0]
    match j, hj with
    | 0, hj => simpa using hj
    | 1, hj => simpa using hj
    | 2, hj => simpa using hj
    | j + 3, hj => simp at hj
  · have : j < 3 := (List.getElem?_eq_some_iff.1 hj).1
    have q : ∃ y, [u, v, t][j]? = some y := ⟨_, List.getElem?_eq_getElem (by simpa using this)⟩
    obtain ⟨y, hy⟩ := q
    simpa using h.f j y hy
/-- The sum of the first products. -/
def dotP (A B : Nat → Nat → A5) (x y : Nat) : Nat → A5
  | 0 => ⟨⟨0, 0, 0, 0⟩, 0⟩
  | k + 1 => addS (dotP A B x y k) (mulS (A x k) (B k y))
def dotOk (A B : Nat → Nat → A5) (x y N : Nat) : Bool := (List.range N).all fun k => okM (A x k) (B k y) && okA (dotP A B x y k) (mulS (A x k) (B k y))
abbrev DF (V W : World) (E : Nat) (v0 v1 v2 : Value) (M k y : Nat) (sl u0 u1 u2 : Value) : Prop := Below V.heap.size V W ∧ W.cell? ⟨E, 0, none⟩ = some v0 ∧ W.cell? ⟨E, 1, none⟩ = some v1 ∧ W.cell? ⟨E, 2, none⟩ = some v2 ∧
  W.cell? ⟨M, k, none⟩ = some sl ∧ W.cell? ⟨M + 1 + k, y * 3, none⟩ = some u0 ∧ W.cell? ⟨M + 1 + k, y * 3 + 1, none⟩ = some u1 ∧ W.cell? ⟨M + 1 + k, y * 3 + 2, none⟩ = some u2
theorem df_keep {V W : World} {E : Nat} {v0 v1 v2 : Value} {M k y : Nat} {sl u0 u1 u2 : Value} (h : DF V V E v0 v1 v2 M k y sl u0 u1 u2) (hb : Below V.heap.size V W) : DF V W E v0 v1 v2 M k y sl u0 u1 u2 := by
  obtain ⟨h0, h1, h2, h3, h4, h5, h6, h7⟩ := h
  have k : ∀ {p : Addr} {v : Value}, V.cell? p = some v → W.cell? p = some v := fun {p v} hp => (hb.cell (World.block_lt_of_cell? V p hp)).trans hp
  exact ⟨hb, k h1, k h2, k h3, k h4, k h5, k h6, k h7⟩
structure DJ (w W : World) (v : A5) : Prop where
  below : Below w.heap.size w W
  r : Bx W w.heap.size [.complex .f64 0 0, .complex .f64 0 0, .int .i64 0]
  s : Bx W (w.heap.size + 1) v.cells
theorem DJ.on {w W W2 : World} {v : A5} (h : DJ w W v) (hb : Below W.heap.size W W2) : DJ w W2 v := ⟨btr h.below hb, h.r.below hb, h.s.below hb⟩
set_option maxRecDepth 100000 in
set_option maxHeartbeats 2000000 in
theorem dot_any {w : World} {M M' N : Nat} {A B : Nat → Nat → A5} (h : MR w M N A) (h' : MR w M' N B) (h8 : N ≤ 8) (x y : Nat) (hx : x < N) (hy : y < N) (hok : dotOk A B x y N = true) :
    Calls Try.prog 37 #[.slice (some ⟨M + 1 + x, 0, none⟩) N N, mv M' N, .int .i64 (y : Int)] w fun e w' => e = .returned (.tuple #[(dotP A B x y N).v, .int .i64 0]) ∧ Below w.heap.size w w' := by
  unfold dotOk at hok
  simp only [List.all_eq_true, List.mem_range, Bool.and_eq_true] at hok
  have hI : Hid (DJ w ((w.alloc (.cells #[.complex .f64 0 0, .complex .f64 0 0, .int .i64 0] 46)).alloc (.cells #[.complex .f64 0 0, .complex .f64 0 0, .int .i64 0] 46)) (dotP A B x y 0)) := by
    refine ⟨bal (bal (Below.refl _ _) _) _, (Bx.new w [.complex .f64 0 0, .complex .f64 0 0, .int .i64 0] 46).alloc _, ?_⟩
    have := Bx.new (w.alloc (.cells #[.complex .f64 0 0, .complex .f64 0 0, .int .i64 0] 46)) [.complex .f64 0 0, .complex .f64 0 0, .int .i64 0] 46
    have t : Bx ((w.alloc (.cells #[.complex .f64 0 0, .complex .f64 0 0, .int .i64 0] 46)).alloc (.cells #[.complex .f64 0 0, .complex .f64 0 0, .int .i64 0] 46)) (w.heap.size + 1) [.complex .f64 0 0, .complex .f64 0 0, .int .i64 0] := by simpa [go_sem] using this
    exact t
  go_enter Try.func37, Try.ntmps37
  go_upto_region 3 with (fail)
  go_loopw [15] (fun v wr => ∃ k : Nat, k ≤ N ∧ v = .int .i64 k ∧ Hid (DJ w wr (dotP A B x y k))) (fun v _ => N - (intOf v).toNat)
  case atStart => exact ⟨0, by omega, rfl, hI⟩
  case round =>
    clear hI
    obtain ⟨k, hk, rfl, hH⟩ := hrel
    by_cases hlt : k < N
    · have hM := h.on hH.out.below
      have hM' := h'.on hH.out.below
      have c0 := hM.c0 x k hx hlt
      have c1 := hM.c1 x k hx hlt
      have c2 := hM.c2 x k hx hlt
      obtain ⟨k1, k2⟩ := hok k hlt
      have MU := fun w => amul (A x k) (B k y) k1 w
      obtain ⟨t, ht⟩ : ∃ t, Hid (t = dotP A B x y (k + 1)) := ⟨_, rfl⟩
      have AD : ∀ w, Calls Try.prog 53 #[(dotP A B x y k).v, (mulS (A x k) (B k y)).v] w fun e w' => e = .returned (.tuple #[t.v, .int .i64 0]) ∧ Below w.heap.size w w' := fun w => by rw [ht.out]; exact aadd (dotP A B x y k) (mulS (A x k) (B k y)) k2 w
      have D0 := hM'.m k hlt
      have D1 := hM'.c0 k y hlt hy
      have D2 := hM'.c1 k y hlt hy
      have D3 := hM'.c2 k y hlt hy
      clear k1 k2 hM hM' hok h h'
      generalize dotP A B x y k = s at *
      generalize A x k = a at *
      generalize B k y = b at *
      generalize mulS a b = p at *
      have hDF : Hid (DF (wr.alloc (.cells #[cx a.q.a a.q.b, cx a.q.c a.q.d, .int .i64 (a.k : Nat)] 46)) (wr.alloc (.cells #[cx a.q.a a.q.b, cx a.q.c a.q.d, .int .i64 (a.k : Nat)] 46)) wr.heap.size (cx a.q.a a.q.b) (cx a.q.c a.q.d) (.int .i64 (a.k : Nat)) M' k y (.slice (some ⟨M' + 1 + k, 0, none⟩) N N) (cx b.q.a b.q.b) (cx b.q.c b.q.d) (.int .i64 (b.k : Nat))) := by
        have hb : Below wr.heap.size wr (wr.alloc (.cells #[cx a.q.a a.q.b, cx a.q.c a.q.d, .int .i64 (a.k : Nat)] 46)) := bal (Below.refl _ _) _
        have kk : ∀ {p : Addr} {v : Value}, wr.cell? p = some v → (wr.alloc (.cells #[cx a.q.a a.q.b, cx a.q.c a.q.d, .int .i64 (a.k : Nat)] 46)).cell? p = some v := fun {p v} hp => (hb.cell (World.block_lt_of_cell? wr p hp)).trans hp
        have hn := Bx.new wr a.cells 46
        exact ⟨Below.refl _ _, hn.c 0 _ rfl, hn.c 1 _ rfl, hn.c 2 _ rfl, kk D0, kk D1, kk D2, kk D3⟩
      have hJ : Hid (DJ w (wr.alloc (.cells #[cx a.q.a a.q.b, cx a.q.c a.q.d, .int .i64 (a.k : Nat)] 46)) s) := hH.out.on (bal (Below.refl _ _) _)
      clear D0 D1 D2 D3 hH
      go_upto_region 5 with (fail)
      clear c0 c1 c2
      obtain ⟨E, hE⟩ : ∃ E, E = wr.heap.size := ⟨_, rfl⟩
      rw [← hE]
      rw [← hE] at hDF
      clear hE
      generalize (wr.alloc (.cells #[cx a.q.a a.q.b, cx a.q.c a.q.d, .int .i64 (a.k : Nat)] 46)) = V at *
      have hV := Below.refl V.heap.size V
      go_cut [11, 12] from 20 to 31 (fun v11 v12 W => ∃ B7, v11 = Value.pointer (some ⟨B7, 0, none⟩) ∧ v12 = Value.int .i64 0 ∧ Below V.heap.size V W ∧ W.cell? ⟨B7, 0, none⟩ = some (cx p.q.a p.q.b) ∧ W.cell? ⟨B7, 1, none⟩ = some (cx p.q.c p.q.d) ∧ W.cell? ⟨B7, 2, none⟩ = some (.int .i64 (p.k : Nat)))
      case first =>
        go_region_held3 (fun w' => DF V w' E (cx a.q.a a.q.b) (cx a.q.c a.q.d) (.int .i64 (a.k : Nat)) M' k y (.slice (some ⟨M' + 1 + k, 0, none⟩) N N) (cx b.q.a b.q.b) (cx b.q.c b.q.d) (.int .i64 (b.k : Nat)))
          ((refine df_keep hDF.out ?_; first | exact below_drew hV | exact btr (And.left (by assumption)) hN | exact bdr (And.left (by assumption)) _ | exact bal (And.left (by assumption)) _ | exact bal hK _ | exact bset (bset (bset hK _ _ _ (Below.size (by assumption))) _ _ _ (Below.size (by assumption))) _ _ _ (Below.size (by assumption)) | exact bset (bset (bset hK _ _ _ (Nat.le_refl _)) _ _ _ (Nat.le_refl _)) _ _ _ (Nat.le_refl _)))
          (first | (go_at_call 52; (with_reducible refine (MU _).mono ?_); rintro e w2 ⟨rfl, hN⟩; have hK := btr (And.left (by assumption)) hN; obtain ⟨hc, hf⟩ := bcell hN))
        all_goals
          go_wp2
          go_meet
          case rel => exact ⟨_, rfl, rfl, And.left (by assumption), by simp [*, go_sem], by simp [*, go_sem], by simp [*, go_sem]⟩
      case rest =>
        obtain ⟨B7, rfl, rfl, hB, p0, p1, p2⟩ := hcut
        have hJ2 : Hid (DJ w _ s) := hJ.out.on hB
        clear hJ hB hDF hV
        have s0 := hJ2.out.s.c 0 _ rfl
        have s1 := hJ2.out.s.c 1 _ rfl
        have s2 := hJ2.out.s.c 2 _ rfl
        go_wp2_with (go_at_call 53; (with_reducible refine (AD _).mono ?_); rintro e w3 ⟨rfl, hN⟩; have hJ3 : Hid (DJ w w3 s) := hJ2.out.on hN; have r0 := hJ3.out.s.c 0 _ rfl; have r1 := hJ3.out.s.c 1 _ rfl; have r2 := hJ3.out.s.c 2 _ rfl; have f0 := hJ3.out.s.f 0 _ rfl; have f1 := hJ3.out.s.f 1 _ rfl; have f2 := hJ3.out.s.f 2 _ rfl)
        go_roundw
        case rel =>
          refine ⟨k + 1, by omega, by go_num, ?_⟩
          rw [← ht.out]
          exact ⟨bset (bset (bset hJ3.out.below _ _ _ (by omega)) _ _ _ (by omega)) _ _ _ (by omega), ((hJ3.out.r.off (by omega)).off (by omega)).off (by omega), hJ3.out.s.set3 _ _ _⟩
        case measure => simp [intOf]; omega
    · obtain rfl : k = N := by omega
      obtain ⟨s, hs⟩ : ∃ s, Hid (s = dotP A B x y k) := ⟨_, rfl⟩
      rw [← hs.out] at hH
      have s0 := hH.out.s.c 0 _ rfl
      have s1 := hH.out.s.c 1 _ rfl
      have s2 := hH.out.s.c 2 _ rfl
      have r0 := hH.out.r.c 0 _ rfl
      have r1 := hH.out.r.c 1 _ rfl
      have r2 := hH.out.r.c 2 _ rfl
      have f0 := hH.out.r.f 0 _ rfl
      have f1 := hH.out.r.f 1 _ rfl
      have f2 := hH.out.r.f 2 _ rfl
      go_wp2
      refine bodyPost_ret (v := .tuple #[s.v, .int .i64 0]) (by simp [results, Try.results37, go_sem, r0, r1, r2]) rfl ⟨by rw [hs.out], ?_⟩
      exact bset (bset (bset hH.out.below _ _ _ (Nat.le_refl _)) _ _ _ (Nat.le_refl _)) _ _ _ (Nat.le_refl _)
end Go.Proofs.Ytjmgcgjmaemgdaa
