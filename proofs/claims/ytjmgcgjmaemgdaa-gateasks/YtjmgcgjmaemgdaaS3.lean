/-
  The reference's power.
-/
import Derived.Test.YtjmgcgjmaemgdaaS2
import Derived.Test.YtjmgcgjmaemgdaaB7
namespace Go.Proofs.Ytjmgcgjmaemgdaa
open Go.RowKit Go.Sort

set_option maxHeartbeats 400000 in
theorem reven_no (w : World) : Calls Try.prog 85 #[cx 1 0] w fun e w' => e = .returned (.bool false) ∧ w' = w := by
  have c1 := fb_int sm1
  have c0 := fb_int sm0
  go_enter Try.func85, Try.ntmps85
  go_wp2
  go_ret
  exact ⟨by simp, rfl⟩
set_option maxHeartbeats 400000 in
theorem rrhalve_no (w : World) : Calls Try.prog 74 #[rg 1 0 0 0] w fun e w' => e = .returned (.tuple #[rg 0 0 0 0, .bool false, .int .i64 0]) ∧ Below w.heap.size w w' := by
  have C := fun w => rrcheck 1 0 0 0 w sm1 sm0 sm0 sm0
  have E := fun w => reven_no w
  have hW : Below w.heap.size w ((w.alloc (.cells #[cx 1 0, cx 0 0] 44)).alloc (.cells #[.complex .f64 0 0, .complex .f64 0 0] 44)) := bal (bal (Below.refl _ _) _) _
  have hR : Bx ((w.alloc (.cells #[cx 1 0, cx 0 0] 44)).alloc (.cells #[.complex .f64 0 0, .complex .f64 0 0] 44)) w.heap.size [cx 1 0, cx 0 0] := (Bx.new w [cx 1 0, cx 0 0] 44).alloc _
  have hX : Bx ((w.alloc (.cells #[cx 1 0, cx 0 0] 44)).alloc (.cells #[.complex .f64 0 0, .complex .f64 0 0] 44)) (w.heap.size + 1) [.complex .f64 0 0, .complex .f64 0 0] := by
    have := Bx.new (w.alloc (.cells #[cx 1 0, cx 0 0] 44)) [.complex .f64 0 0, .complex .f64 0 0] 44
    simpa [go_sem] using this
  go_enter Try.func74, Try.ntmps74
  go_wp2_with (first
    | (go_at_call 73; (with_reducible refine (C _).mono ?_); rintro e w1 ⟨rfl, hN⟩; replace hW := btr hW hN; replace hR := hR.below hN; replace hX := hX.below hN; have r0 := hR.c 0 _ rfl; have r1 := hR.c 1 _ rfl; have c0 := hX.c 0 _ rfl; have c1 := hX.c 1 _ rfl; have f0 := hX.f 0 _ rfl; have f1 := hX.f 1 _ rfl)
    | (go_at_call 85; (with_reducible refine (E _).mono ?_); rintro e w2 ⟨rfl, hE⟩; subst hE))
  refine bodyPost_ret (v := .tuple #[rg 0 0 0 0, .bool false, .int .i64 0]) (by simp [results, Try.results74, go_sem, c0, c1]; rfl) rfl ⟨rfl, ?_⟩
  exact bset (bset hW _ _ _ (by omega)) _ _ _ (by omega)
set_option maxHeartbeats 400000 in
theorem racheck (h : Nat) (hh : h ≤ 1) (w : World) : Calls Try.prog 60 #[av 1 0 0 0 (h : Nat)] w fun e w' => e = .returned (.int .i64 0) ∧ Below w.heap.size w w' := by
  have C := fun w => rrcheck 1 0 0 0 w sm1 sm0 sm0 sm0
  have N := fun w => rrhalve_no w
  have : h = 0 ∨ h = 1 := by omega
  rcases this with rfl | rfl
  · show Calls Try.prog 60 #[av 1 0 0 0 0] w _
    have hW : Below w.heap.size w (w.alloc (.cells #[cx 1 0, cx 0 0, .int .i64 0] 46)) := bal (Below.refl _ _) _
    have hY : Bx (w.alloc (.cells #[cx 1 0, cx 0 0, .int .i64 0] 46)) w.heap.size [cx 1 0, cx 0 0, .int .i64 0] := Bx.new w [cx 1 0, cx 0 0, .int .i64 0] 46
    go_enter Try.func60, Try.ntmps60
    go_wp2_with (go_at_call 73; (with_reducible refine (C _).mono ?_); rintro e w1 ⟨rfl, hN⟩; replace hW := btr hW hN; replace hY := hY.below hN; have y2 := hY.c 2 _ rfl)
    all_goals (go_ret; exact ⟨by simp, hW⟩)
  · show Calls Try.prog 60 #[av 1 0 0 0 1] w _
    have hW : Below w.heap.size w (w.alloc (.cells #[cx 1 0, cx 0 0, .int .i64 1] 46)) := bal (Below.refl _ _) _
    have hY : Bx (w.alloc (.cells #[cx 1 0, cx 0 0, .int .i64 1] 46)) w.heap.size [cx 1 0, cx 0 0, .int .i64 1] := Bx.new w [cx 1 0, cx 0 0, .int .i64 1] 46
    go_enter Try.func60, Try.ntmps60
    go_wp2_with (first
      | (go_at_call 73; (with_reducible refine (C _).mono ?_); rintro e w1 ⟨rfl, hN⟩; replace hW := btr hW hN; replace hY := hY.below hN; have y0 := hY.c 0 _ rfl; have y1 := hY.c 1 _ rfl; have y2 := hY.c 2 _ rfl)
      | (go_at_call 74; (with_reducible refine (N _).mono ?_); rintro e w2 ⟨rfl, hN⟩; replace hW := bal (btr hW hN) (.cells #[cx 0 0, cx 0 0] 44)))
    all_goals (go_ret; exact ⟨by simp, hW⟩)
set_option maxRecDepth 100000 in
set_option maxHeartbeats 400000 in
theorem raturn (k : Nat) (hk : k < 8) (h : Nat) (hh : h ≤ 1) (w : World) : Calls Try.prog 50 #[av 1 0 0 0 (h : Nat), .int .i64 (k : Int)] w fun e w' => e = .returned (.tuple #[av (rot k).a (rot k).b (rot k).c (rot k).d (h : Nat), .int .i64 0]) ∧ Below w.heap.size w w' := by
  have C := fun w => racheck h hh w
  have T := fun w => rrturn k hk w
  obtain ⟨z, hz⟩ : ∃ z, Hid (z = rot k) := ⟨_, rfl⟩
  rw [← hz.out] at T ⊢
  clear hz
  have hW : Below w.heap.size w ((w.alloc (.cells #[cx 1 0, cx 0 0, .int .i64 (h : Nat)] 46)).alloc (.cells #[.complex .f64 0 0, .complex .f64 0 0, .int .i64 0] 46)) := bal (bal (Below.refl _ _) _) _
  have hR : Bx ((w.alloc (.cells #[cx 1 0, cx 0 0, .int .i64 (h : Nat)] 46)).alloc (.cells #[.complex .f64 0 0, .complex .f64 0 0, .int .i64 0] 46)) w.heap.size [cx 1 0, cx 0 0, .int .i64 (h : Nat)] := (Bx.new w [cx 1 0, cx 0 0, .int .i64 (h : Nat)] 46).alloc _
  have hX : Bx ((w.alloc (.cells #[cx 1 0, cx 0 0, .int .i64 (h : Nat)] 46)).alloc (.cells #[.complex .f64 0 0, .complex .f64 0 0, .int .i64 0] 46)) (w.heap.size + 1) [.complex .f64 0 0, .complex .f64 0 0, .int .i64 0] := by
    have := Bx.new (w.alloc (.cells #[cx 1 0, cx 0 0, .int .i64 (h : Nat)] 46)) [.complex .f64 0 0, .complex .f64 0 0, .int .i64 0] 46
    simpa [go_sem] using this
  go_enter Try.func50, Try.ntmps50
  go_wp2_with (first
    | (go_at_call 60; (with_reducible refine (C _).mono ?_); rintro e w1 ⟨rfl, hN⟩; replace hW := btr hW hN; replace hR := hR.below hN; replace hX := hX.below hN; have r0 := hR.c 0 _ rfl; have r1 := hR.c 1 _ rfl)
    | (go_at_call 61; (with_reducible refine (T _).mono ?_); rintro e w2 ⟨rfl, hN⟩; replace hW := bal (btr hW hN) (.cells #[cx z.a z.b, cx z.c z.d] 44); replace hR := (hR.below hN).alloc (.cells #[cx z.a z.b, cx z.c z.d] 44); replace hX := (hX.below hN).alloc (.cells #[cx z.a z.b, cx z.c z.d] 44); have r2 := hR.c 2 _ rfl; have c0 := hX.c 0 _ rfl; have c1 := hX.c 1 _ rfl; have c2 := hX.c 2 _ rfl; have f0 := hX.f 0 _ rfl; have f1 := hX.f 1 _ rfl; have f2 := hX.f 2 _ rfl))
  refine bodyPost_ret (v := .tuple #[av z.a z.b z.c z.d (h : Nat), .int .i64 0]) (by simp [results, Try.results50, go_sem, c0, c1, c2]) rfl ⟨rfl, ?_⟩
  exact bset (bset (bset hW _ _ _ (by omega)) _ _ _ (by omega)) _ _ _ (by omega)
set_option maxRecDepth 100000 in
set_option maxHeartbeats 400000 in
theorem rpower (k : Nat) (hk : k < 8) (h : Nat) (hh : h ≤ 1) (w : World) : Calls Try.prog 35 #[.int .i64 (k : Int), .int .i64 (h : Nat)] w fun e w' => e = .returned (un k (h : Nat)) ∧ Below w.heap.size w w' := by
  have T : ∀ w, Calls Try.prog 50 #[.agg #[.complex .f64 4607182418800017408 0, .complex .f64 0 0, .int .i64 (h : Nat)], .int .i64 (k : Int)] w fun e w' => e = .returned (.tuple #[av (rot k).a (rot k).b (rot k).c (rot k).d (h : Nat), .int .i64 0]) ∧ Below w.heap.size w w' := fun w => raturn k hk h hh w
  have hu : un k (h : Nat) = av (rot k).a (rot k).b (rot k).c (rot k).d (h : Nat) := by
    obtain ⟨e1, e2, e3, e4⟩ := rot_is ⟨k, hk⟩
    simp only at e1 e2 e3 e4
    rw [e1, e2, e3, e4]
  rw [hu]
  clear hu
  generalize rot k = z at *
  have hX : Bx (w.alloc (.cells #[.complex .f64 0 0, .complex .f64 0 0, .int .i64 0] 46)) w.heap.size [.complex .f64 0 0, .complex .f64 0 0, .int .i64 0] := Bx.new w [.complex .f64 0 0, .complex .f64 0 0, .int .i64 0] 46
  have hW : Below w.heap.size w (w.alloc (.cells #[.complex .f64 0 0, .complex .f64 0 0, .int .i64 0] 46)) := bal (Below.refl _ _) _
  go_enter Try.func35, Try.ntmps35
  go_wp2_with (go_at_call 50; (with_reducible refine (T _).mono ?_); rintro e w2 ⟨rfl, hN⟩; replace hW := bal (btr (bal hW _) hN) (.cells #[cx z.a z.b, cx z.c z.d, .int .i64 (h : Nat)] 46); replace hX := ((hX.alloc _).below hN).alloc (.cells #[cx z.a z.b, cx z.c z.d, .int .i64 (h : Nat)] 46); have c0 := hX.c 0 _ rfl; have c1 := hX.c 1 _ rfl; have c2 := hX.c 2 _ rfl; have f0 := hX.f 0 _ rfl; have f1 := hX.f 1 _ rfl; have f2 := hX.f 2 _ rfl)
  refine bodyPost_ret (v := av z.a z.b z.c z.d (h : Nat)) (by simp [results, Try.results35, go_sem, c0, c1, c2]) rfl ⟨rfl, ?_⟩
  exact bset (bset (bset hW _ _ _ (Nat.le_refl _)) _ _ _ (Nat.le_refl _)) _ _ _ (Nat.le_refl _)
end Go.Proofs.Ytjmgcgjmaemgdaa
