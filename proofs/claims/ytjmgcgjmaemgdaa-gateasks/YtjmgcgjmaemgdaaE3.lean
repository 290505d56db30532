/-
  Turns of small elements of the ring and of small amplitudes.
-/
import Derived.Test.YtjmgcgjmaemgdaaE2
namespace Go.Proofs.Ytjmgcgjmaemgdaa
open Go.RowKit Go.Sort

/-- Block B holds these values, and may be written. -/
structure Bx (W : World) (B : Nat) (vs : List Value) : Prop where
  c : ∀ j v, vs[j]? = some v → W.cell? ⟨B, j, none⟩ = some v
  f : ∀ j v, vs[j]? = some v → W.frozen? ⟨B, j, none⟩ = false
  lt : B < W.heap.size
theorem Bx.below {W W' : World} {B : Nat} {vs : List Value} (h : Bx W B vs) (hb : Below W.heap.size W W') : Bx W' B vs :=
  ⟨fun j v hj => (hb.cell (p := ⟨B, j, none⟩) h.lt).trans (h.c j v hj), fun j v hj => (hb.frozen (p := ⟨B, j, none⟩) h.lt).trans (h.f j v hj), Nat.lt_of_lt_of_le h.lt hb.size⟩
theorem Bx.alloc {W : World} {B : Nat} {vs : List Value} (h : Bx W B vs) (o : Obj) : Bx (W.alloc o) B vs := h.below (bal (Below.refl _ _) _)
theorem Bx.drew {W : World} {B : Nat} {vs : List Value} (h : Bx W B vs) : Bx W.drew B vs := ⟨h.c, h.f, h.lt⟩
theorem Bx.new (W : World) (vs : List Value) (t : TypeId) : Bx (W.alloc (.cells vs.toArray t)) W.heap.size vs where
  c j v hj := by rw [World.cell?_alloc_at _ _ _ _ rfl]; simpa using hj
  f j v hj := World.frozen?_alloc_at _ _ _ _ rfl
  lt := by simp [go_sem]
theorem bset {a w : World} (h : Below a.heap.size a w) (b o : Nat) (v : Value) (hb : a.heap.size ≤ b) : Below a.heap.size a (w.setCell ⟨b, o, none⟩ v) := h.setCell hb v

set_option maxHeartbeats 400000 in
theorem turned_any (a b k c d l : Int) (q r : Nat) (w : World) (ha : sm a) (hb : sm b) (hc : sm c) (hd : sm d) (hq : bits .and .i64 k 3 = (q : Int)) (h4 : q < 4) (hr : bits .and .i64 l 3 = (r : Int)) (h5 : r < 4) :
    Calls Try.prog 72 #[cx a b, .int .i64 k, cx c d, .int .i64 l] w fun e w' => e = .returned (.tuple #[rg (re4 q a b) (im4 q a b) (re4 r c d) (im4 r c d), .int .i64 0]) ∧ Below w.heap.size w w' := by
  have A := fun w => gturn a b k q w ha hb hq h4
  have B := fun w => gturn c d l r w hc hd hr h5
  generalize re4 q a b = A1 at *
  generalize im4 q a b = A2 at *
  generalize re4 r c d = B1 at *
  generalize im4 r c d = B2 at *
  clear hq hr h4 h5
  have EL := fun w0 : World => element_any (fb A1) (fb A2) (fb B1) (fb B2) w0.heap.size 2 2 (w0.alloc (.cells #[.int .i64 0, .int .i64 0] 25)) (by decide) (by simp [go_sem]) (fun j hj => (Bx.new w0 [.int .i64 0, .int .i64 0] 25).c j (.int .i64 0) (by
    have : j = 0 ∨ j = 1 := by omega
    rcases this with rfl | rfl <;> rfl))
  have hW : Below w.heap.size w (w.alloc (.cells #[.complex .f64 0 0, .complex .f64 0 0] 44)) := bal (Below.refl _ _) _
  have hX : Bx (w.alloc (.cells #[.complex .f64 0 0, .complex .f64 0 0] 44)) w.heap.size [.complex .f64 0 0, .complex .f64 0 0] := Bx.new w _ _
  go_enter Try.func72, Try.ntmps72
  go_wp2_with (first
    | (go_at_call 70; (with_reducible refine (A _).mono ?_); rintro e w1 ⟨rfl, hN1⟩; replace hW := btr hW hN1; replace hX := hX.below hN1)
    | (go_at_call 70; (with_reducible refine (B _).mono ?_); rintro e w2 ⟨rfl, hN2⟩; replace hW := btr hW hN2; replace hX := hX.below hN2)
    | (go_at_call 71; (with_reducible refine (EL _).mono ?_); rintro e w3 ⟨rfl, hN3⟩; replace hW := btr (bal hW _) hN3; replace hX := (hX.alloc _).below hN3; have c0 := hX.c 0 _ rfl; have c1 := hX.c 1 _ rfl; have f0 := hX.f 0 _ rfl; have f1 := hX.f 1 _ rfl))
  refine bodyPost_ret (v := .tuple #[rg A1 A2 B1 B2, .int .i64 0]) (by simp [results, Try.results72, go_sem, c0, c1]) rfl ⟨rfl, ?_⟩
  repeat (first | exact hW | refine bset ?_ _ _ _ (by omega))

/-- The element times w to the m. -/
def tA (m : Nat) (a b c d : Int) : Int := if m % 2 = 0 then re4 (m / 2) a b else re4 ((m / 2 + 1) % 4) c d
def tB (m : Nat) (a b c d : Int) : Int := if m % 2 = 0 then im4 (m / 2) a b else im4 ((m / 2 + 1) % 4) c d
def tC (m : Nat) (a b c d : Int) : Int := if m % 2 = 0 then re4 (m / 2) c d else re4 (m / 2) a b
def tD (m : Nat) (a b c d : Int) : Int := if m % 2 = 0 then im4 (m / 2) c d else im4 (m / 2) a b
set_option maxHeartbeats 1000000 in
theorem rturn (a b c d k : Int) (m : Nat) (w : World) (ha : sm a) (hb : sm b) (hc : sm c) (hd : sm d) (hm : bits .and .i64 k 7 = (m : Int)) (h8 : m < 8) :
    Calls Try.prog 57 #[rg a b c d, .int .i64 k] w fun e w' => e = .returned (.tuple #[rg (tA m a b c d) (tB m a b c d) (tC m a b c d) (tD m a b c d), .int .i64 0]) ∧ Below w.heap.size w w' := by
  have C := fun w => rcheck a b c d w ha hb hc hd
  have hW : Below w.heap.size w ((w.alloc (.cells #[cx a b, cx c d] 44)).alloc (.cells #[.complex .f64 0 0, .complex .f64 0 0] 44)) := bal (bal (Below.refl _ _) _) _
  have hY : Bx ((w.alloc (.cells #[cx a b, cx c d] 44)).alloc (.cells #[.complex .f64 0 0, .complex .f64 0 0] 44)) w.heap.size [cx a b, cx c d] := (Bx.new w [cx a b, cx c d] 44).alloc _
  have hX : Bx ((w.alloc (.cells #[cx a b, cx c d] 44)).alloc (.cells #[.complex .f64 0 0, .complex .f64 0 0] 44)) (w.heap.size + 1) [.complex .f64 0 0, .complex .f64 0 0] := by
    have := Bx.new (w.alloc (.cells #[cx a b, cx c d] 44)) [.complex .f64 0 0, .complex .f64 0 0] 44
    simpa [go_sem] using this
  have T0 := fun w => turned_any a b 0 c d 0 0 0 w ha hb hc hd (by decide) (by decide) (by decide) (by decide)
  have T1 := fun w => turned_any a b 1 c d 1 1 1 w ha hb hc hd (by decide) (by decide) (by decide) (by decide)
  have T2 := fun w => turned_any a b 2 c d 2 2 2 w ha hb hc hd (by decide) (by decide) (by decide) (by decide)
  have T3 := fun w => turned_any a b 3 c d 3 3 3 w ha hb hc hd (by decide) (by decide) (by decide) (by decide)
  have U0 := fun w => turned_any c d 1 a b 0 1 0 w hc hd ha hb (by decide) (by decide) (by decide) (by decide)
  have U1 := fun w => turned_any c d 2 a b 1 2 1 w hc hd ha hb (by decide) (by decide) (by decide) (by decide)
  have U2 := fun w => turned_any c d 3 a b 2 3 2 w hc hd ha hb (by decide) (by decide) (by decide) (by decide)
  have U3 := fun w => turned_any c d 4 a b 3 0 3 w hc hd ha hb (by decide) (by decide) (by decide) (by decide)
  have : m = 0 ∨ m = 1 ∨ m = 2 ∨ m = 3 ∨ m = 4 ∨ m = 5 ∨ m = 6 ∨ m = 7 := by omega
  rcases this with rfl | rfl | rfl | rfl | rfl | rfl | rfl | rfl
  all_goals
    go_enter Try.func57, Try.ntmps57
    go_wp2_with (first
      | (go_at_call 67; (with_reducible refine (C _).mono ?_); rintro e w1 ⟨rfl, hN1⟩; replace hW := btr hW hN1; replace hX := hX.below hN1; replace hY := hY.below hN1; have y0 := hY.c 0 _ rfl; have y1 := hY.c 1 _ rfl)
      | (go_at_call 72; (with_reducible refine (T0 _).mono ?_); rintro e w2 ⟨rfl, hN2⟩; replace hW := btr hW hN2; replace hX := hX.below hN2; have c0 := hX.c 0 _ rfl; have c1 := hX.c 1 _ rfl; have f0 := hX.f 0 _ rfl; have f1 := hX.f 1 _ rfl)
      | (go_at_call 72; (with_reducible refine (T1 _).mono ?_); rintro e w2 ⟨rfl, hN2⟩; replace hW := btr hW hN2; replace hX := hX.below hN2; have c0 := hX.c 0 _ rfl; have c1 := hX.c 1 _ rfl; have f0 := hX.f 0 _ rfl; have f1 := hX.f 1 _ rfl)
      | (go_at_call 72; (with_reducible refine (T2 _).mono ?_); rintro e w2 ⟨rfl, hN2⟩; replace hW := btr hW hN2; replace hX := hX.below hN2; have c0 := hX.c 0 _ rfl; have c1 := hX.c 1 _ rfl; have f0 := hX.f 0 _ rfl; have f1 := hX.f 1 _ rfl)
      | (go_at_call 72; (with_reducible refine (T3 _).mono ?_); rintro e w2 ⟨rfl, hN2⟩; replace hW := btr hW hN2; replace hX := hX.below hN2; have c0 := hX.c 0 _ rfl; have c1 := hX.c 1 _ rfl; have f0 := hX.f 0 _ rfl; have f1 := hX.f 1 _ rfl)
      | (go_at_call 72; (with_reducible refine (U0 _).mono ?_); rintro e w2 ⟨rfl, hN2⟩; replace hW := btr hW hN2; replace hX := hX.below hN2; have c0 := hX.c 0 _ rfl; have c1 := hX.c 1 _ rfl; have f0 := hX.f 0 _ rfl; have f1 := hX.f 1 _ rfl)
      | (go_at_call 72; (with_reducible refine (U1 _).mono ?_); rintro e w2 ⟨rfl, hN2⟩; replace hW := btr hW hN2; replace hX := hX.below hN2; have c0 := hX.c 0 _ rfl; have c1 := hX.c 1 _ rfl; have f0 := hX.f 0 _ rfl; have f1 := hX.f 1 _ rfl)
      | (go_at_call 72; (with_reducible refine (U2 _).mono ?_); rintro e w2 ⟨rfl, hN2⟩; replace hW := btr hW hN2; replace hX := hX.below hN2; have c0 := hX.c 0 _ rfl; have c1 := hX.c 1 _ rfl; have f0 := hX.f 0 _ rfl; have f1 := hX.f 1 _ rfl)
      | (go_at_call 72; (with_reducible refine (U3 _).mono ?_); rintro e w2 ⟨rfl, hN2⟩; replace hW := btr hW hN2; replace hX := hX.below hN2; have c0 := hX.c 0 _ rfl; have c1 := hX.c 1 _ rfl; have f0 := hX.f 0 _ rfl; have f1 := hX.f 1 _ rfl))
    refine bodyPost_ret (v := .tuple #[_, .int .i64 0]) (by simp [results, Try.results57, go_sem, c0, c1]; exact ⟨⟨rfl, rfl⟩, rfl, rfl⟩) rfl ⟨rfl, ?_⟩
    repeat (first | exact hW | refine bset ?_ _ _ _ (by omega))
end Go.Proofs.Ytjmgcgjmaemgdaa
