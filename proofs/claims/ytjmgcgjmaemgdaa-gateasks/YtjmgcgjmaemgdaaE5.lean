/-
  Turns of amplitudes that can't be halved; an entry of a gate's column as an amplitude.
-/
import Derived.Test.YtjmgcgjmaemgdaaE4
namespace Go.Proofs.Ytjmgcgjmaemgdaa
open Go.RowKit Go.Sort

set_option maxHeartbeats 1000000 in
theorem aturn (a b c d K p : Int) (m : Nat) (w : World) (ha : sm a) (hb : sm b) (hc : sm c) (hd : sm d) (ho : od a b ∨ od c d) (hk : 0 ≤ K) (hk2 : K ≤ 60) (hm : bits .and .i64 p 7 = (m : Int)) (h8 : m < 8) :
    Calls Try.prog 41 #[av a b c d K, .int .i64 p] w fun e w' => e = .returned (.tuple #[av (tA m a b c d) (tB m a b c d) (tC m a b c d) (tD m a b c d) K, .int .i64 0]) ∧ Below w.heap.size w w' := by
  have C := fun w => acheck_odd a b c d K w ha hb hc hd ho hk hk2
  have T := fun w => rturn a b c d p m w ha hb hc hd hm h8
  have O := fun w => over_any (tA m a b c d) (tB m a b c d) (tC m a b c d) (tD m a b c d) K w
  generalize tA m a b c d = A at *
  generalize tB m a b c d = B at *
  generalize tC m a b c d = C' at *
  generalize tD m a b c d = D at *
  clear hm h8 ho hk hk2 ha hb hc hd
  have hW : Below w.heap.size w ((w.alloc (.cells #[cx a b, cx c d, .int .i64 K] 46)).alloc (.cells #[.complex .f64 0 0, .complex .f64 0 0, .int .i64 0] 46)) := bal (bal (Below.refl _ _) _) _
  have hY : Bx ((w.alloc (.cells #[cx a b, cx c d, .int .i64 K] 46)).alloc (.cells #[.complex .f64 0 0, .complex .f64 0 0, .int .i64 0] 46)) w.heap.size [cx a b, cx c d, .int .i64 K] := (Bx.new w [cx a b, cx c d, .int .i64 K] 46).alloc _
  have hX : Bx ((w.alloc (.cells #[cx a b, cx c d, .int .i64 K] 46)).alloc (.cells #[.complex .f64 0 0, .complex .f64 0 0, .int .i64 0] 46)) (w.heap.size + 1) [.complex .f64 0 0, .complex .f64 0 0, .int .i64 0] := by
    have := Bx.new (w.alloc (.cells #[cx a b, cx c d, .int .i64 K] 46)) [.complex .f64 0 0, .complex .f64 0 0, .int .i64 0] 46
    simpa [go_sem] using this
  go_enter Try.func41, Try.ntmps41
  go_wp2_with (first
    | (go_at_call 54; (with_reducible refine (C _).mono ?_); rintro e w1 ⟨rfl, hN1⟩; replace hW := btr hW hN1; replace hX := hX.below hN1; replace hY := hY.below hN1; have y0 := hY.c 0 _ rfl; have y1 := hY.c 1 _ rfl)
    | (go_at_call 57; (with_reducible refine (T _).mono ?_); rintro e w2 ⟨rfl, hN2⟩; replace hW := bal (btr hW hN2) (.cells #[cx A B, cx C' D] 44); replace hX := (hX.below hN2).alloc (.cells #[cx A B, cx C' D] 44); replace hY := hY.below hN2; have y2 := fun o => (hY.alloc o).c 2 _ rfl)
    | (go_at_call 56; (with_reducible refine (O _).mono ?_); rintro e w3 ⟨rfl, hN3⟩; replace hW := btr hW hN3; replace hX := hX.below hN3; have c0 := hX.c 0 _ rfl; have c1 := hX.c 1 _ rfl; have c2 := hX.c 2 _ rfl; have f0 := hX.f 0 _ rfl; have f1 := hX.f 1 _ rfl; have f2 := hX.f 2 _ rfl))
  refine bodyPost_ret (v := .tuple #[av A B C' D K, .int .i64 0]) (by simp [results, Try.results41, go_sem, c0, c1, c2]) rfl ⟨rfl, ?_⟩
  repeat (first | exact hW | refine bset ?_ _ _ _ (by omega))

theorem sm0 : sm 0 := by unfold sm; decide
theorem sm1 : sm 1 := by unfold sm; decide
theorem od10 : od 1 0 := by unfold od; decide
/-- w to the m over r to the h. -/
abbrev un (m : Nat) (h : Int) : Value := av (tA m 1 0 0 0) (tB m 1 0 0 0) (tC m 1 0 0 0) (tD m 1 0 0 0) h
set_option maxHeartbeats 1000000 in
theorem value_any (r p h : Int) (m : Nat) (w : World) (hh : 0 ≤ h) (hh2 : h ≤ 60) (hm : bits .and .i64 p 7 = (m : Int)) (h8 : m < 8) :
    Calls Try.prog 33 #[.agg #[.int .i64 r, .int .i64 p, .int .i64 h]] w fun e w' => e = .returned (un m h) ∧ Below w.heap.size w w' := by
  have T : ∀ w, Calls Try.prog 41 #[.agg #[.complex .f64 4607182418800017408 0, .complex .f64 0 0, .int .i64 h], .int .i64 p] w fun e w' => e = .returned (.tuple #[un m h, .int .i64 0]) ∧ Below w.heap.size w w' := fun w =>
    aturn 1 0 0 0 h p m w sm1 sm0 sm0 sm0 (.inl od10) hh hh2 hm h8
  unfold un
  unfold un at T
  generalize tA m 1 0 0 0 = A at *
  generalize tB m 1 0 0 0 = B at *
  generalize tC m 1 0 0 0 = C at *
  generalize tD m 1 0 0 0 = D at *
  clear hm h8 hh hh2
  have hW : Below w.heap.size w ((w.alloc (.cells #[.int .i64 r, .int .i64 p, .int .i64 h] 67)).alloc (.cells #[.complex .f64 0 0, .complex .f64 0 0, .int .i64 0] 46)) := bal (bal (Below.refl _ _) _) _
  have hX : Bx ((w.alloc (.cells #[.int .i64 r, .int .i64 p, .int .i64 h] 67)).alloc (.cells #[.complex .f64 0 0, .complex .f64 0 0, .int .i64 0] 46)) (w.heap.size + 1) [.complex .f64 0 0, .complex .f64 0 0, .int .i64 0] := by
    have := Bx.new (w.alloc (.cells #[.int .i64 r, .int .i64 p, .int .i64 h] 67)) [.complex .f64 0 0, .complex .f64 0 0, .int .i64 0] 46
    simpa [go_sem] using this
  go_enter Try.func33, Try.ntmps33
  go_wp2_with (go_at_call 41; (with_reducible refine (T _).mono ?_); rintro e w2 ⟨rfl, hN2⟩; replace hW := bal (btr hW hN2) (.cells #[cx A B, cx C D, .int .i64 h] 46); have hX2 := fun o => (hX.below hN2).alloc o; have c0 := fun o => (hX2 o).c 0 _ rfl; have c1 := fun o => (hX2 o).c 1 _ rfl; have c2 := fun o => (hX2 o).c 2 _ rfl; have f0 := fun o => (hX2 o).f 0 _ rfl; have f1 := fun o => (hX2 o).f 1 _ rfl; have f2 := fun o => (hX2 o).f 2 _ rfl)
  refine bodyPost_ret (v := av A B C D h) (by simp [results, Try.results33, go_sem, c0, c1, c2]) rfl ⟨rfl, ?_⟩
  repeat (first | exact hW | refine bset ?_ _ _ _ (by omega))
end Go.Proofs.Ytjmgcgjmaemgdaa
