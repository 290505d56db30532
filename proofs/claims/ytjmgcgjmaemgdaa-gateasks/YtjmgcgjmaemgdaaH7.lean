/-
  The law GateAsks, from what its calls tell.
-/
import Derived.Test.YtjmgcgjmaemgdaaH6
import Derived.Test.YtjmgcgjmaemgdaaU1
namespace Go.Proofs.Ytjmgcgjmaemgdaa
open Go.RowKit Go.Sort

set_option maxRecDepth 100000 in
set_option maxHeartbeats 8000000 in
theorem asks_nil {s : ByteArray} (y : Int) (w : World) (q hv e1 e2 e3 : Int) (cl di : Bool) (t : ByteArray) (PA PB : World → Value → Prop)
    (Ar1 : ∀ w, Calls Try.prog 8 #[.string s] w fun e w' => e = .returned (.int .i64 q) ∧ Below w.heap.size w w')
    (Ar2 : ∀ w, Calls Try.prog 9 #[.string s] w fun e w' => e = .returned (.int .i64 q) ∧ w' = w)
    (Ha1 : ∀ w, Calls Try.prog 10 #[.string s] w fun e w' => e = .returned (.int .i64 hv) ∧ Below w.heap.size w w')
    (Ha2 : ∀ w, Calls Try.prog 11 #[.string s] w fun e w' => e = .returned (.int .i64 hv) ∧ w' = w)
    (Cl1 : ∀ w, Calls Try.prog 12 #[.string s] w fun e w' => e = .returned (.bool cl) ∧ Below w.heap.size w w')
    (Cl2 : ∀ w, Calls Try.prog 13 #[.string s] w fun e w' => e = .returned (.bool cl) ∧ w' = w)
    (Di1 : ∀ w, Calls Try.prog 14 #[.string s] w fun e w' => e = .returned (.bool di) ∧ Below w.heap.size w w')
    (Di2 : ∀ w, Calls Try.prog 15 #[.string s] w fun e w' => e = .returned (.bool di) ∧ w' = w)
    (In1 : ∀ w, Calls Try.prog 16 #[.string s] w fun e w' => e = .returned (.tuple #[.string t, .int .i64 e1]) ∧ Below w.heap.size w w')
    (In2 : ∀ w, Calls Try.prog 17 #[.string s] w fun e w' => e = .returned (.tuple #[.string t, .int .i64 e1]) ∧ w' = w)
    (Ma1 : ∀ w, Calls Try.prog 18 #[.string s] w fun e w' => ∃ v, e = .returned (.tuple #[v, .int .i64 e2]) ∧ Below w.heap.size w w' ∧ PA w' v)
    (Ma2 : ∀ w, Calls Try.prog 19 #[.string s] w fun e w' => ∃ v, e = .returned (.tuple #[v, .int .i64 e2]) ∧ Below w.heap.size w w' ∧ PB w' v)
    (hPA : ∀ W W2 v, PA W v → Below W.heap.size W W2 → PA W2 v)
    (SA : ∀ V a b, PA V a → PB V b → Calls Try.prog 20 #[a, b] V fun e w' => e = .returned (.bool true) ∧ Below V.heap.size V w')
    (Co1 : ∀ w, Calls Try.prog 21 #[.string s, .int .i64 y] w fun e w' => e = .returned (.tuple #[.slice none 0 0, .slice none 0 0, .int .i64 e3]) ∧ Below w.heap.size w w')
    (Co2 : ∀ w, Calls Try.prog 22 #[.string s, .int .i64 y] w fun e w' => e = .returned (.tuple #[.slice none 0 0, .slice none 0 0, .int .i64 e3]) ∧ w' = w) :
    Calls Try.prog 3 #[.string s, .int .i64 y] w fun e w' => e = .returned (.bool true) ∧ Below w.heap.size w w' := by
  have AL := alive_any w
  go_enter Try.func3, Try.ntmps3
  go_upto_region 5 with (first
    | (go_at_call 7; (with_reducible refine AL.mono ?_); rintro e w1 ⟨rfl, hW⟩)
    | (go_at_call 8; (with_reducible refine (Ar1 _).mono ?_); rintro e w2 ⟨rfl, hN⟩; replace hW := btr hW hN)
    | (go_at_call 9; (with_reducible refine (Ar2 _).mono ?_); rintro e w2 ⟨rfl, hE⟩; subst hE)
    | (go_at_call 10; (with_reducible refine (Ha1 _).mono ?_); rintro e w2 ⟨rfl, hN⟩; replace hW := btr hW hN)
    | (go_at_call 11; (with_reducible refine (Ha2 _).mono ?_); rintro e w2 ⟨rfl, hE⟩; subst hE)
    | (go_at_call 12; (with_reducible refine (Cl1 _).mono ?_); rintro e w2 ⟨rfl, hN⟩; replace hW := btr hW hN)
    | (go_at_call 13; (with_reducible refine (Cl2 _).mono ?_); rintro e w2 ⟨rfl, hE⟩; subst hE)
    | (go_at_call 14; (with_reducible refine (Di1 _).mono ?_); rintro e w2 ⟨rfl, hN⟩; replace hW := btr hW hN)
    | (go_at_call 15; (with_reducible refine (Di2 _).mono ?_); rintro e w2 ⟨rfl, hE⟩; subst hE))
  clear Ar1 Ar2 Ha1 Ha2 Cl1 Cl2 Di1 Di2 AL
  go_upto_region 9 with (first
    | (go_at_call 16; (with_reducible refine (In1 _).mono ?_); rintro e w2 ⟨rfl, hN⟩; replace hW := btr hW hN)
    | (go_at_call 17; (with_reducible refine (In2 _).mono ?_); rintro e w2 ⟨rfl, hE⟩; subst hE))
  clear In1 In2
  go_upto_region 13 with (first
    | (go_at_call 18; (with_reducible refine (Ma1 _).mono ?_); rintro e w2 ⟨va, rfl, hN, pa⟩; replace hW := btr hW hN)
    | (go_at_call 19; (with_reducible refine (Ma2 _).mono ?_); rintro e w2 ⟨vb, rfl, hN, pb⟩; replace hW := btr hW hN; replace pa := hPA _ _ _ pa hN)
    | (go_at_call 20; (with_reducible refine (SA _ _ _ pa pb).mono ?_); rintro e w2 ⟨rfl, hN⟩; replace hW := btr hW hN))
  clear Ma1 Ma2 SA hPA pa pb
  go_upto_region 18 with (first
    | (go_at_call 21; (with_reducible refine (Co1 _).mono ?_); rintro e w2 ⟨rfl, hN⟩; replace hW := btr hW hN)
    | (go_at_call 22; (with_reducible refine (Co2 _).mono ?_); rintro e w2 ⟨rfl, hE⟩; subst hE))
  refine wp_loop_rounds 1 ?_
  rw [rounds_succ]
  go_wp2
  go_ret
  exact ⟨by simp, hW⟩
/-- Two lists that can be read: rows and amplitudes. -/
structure QL (W : World) (n : Nat) (r h : Nat → Int) (m : Nat → Nat) (g g' : Nat) : Prop where
  rc : ∀ j, j < n → W.cell? ⟨g, j, none⟩ = some (.int .i64 (r j))
  a0 : ∀ j, j < n → W.cell? ⟨g', j * 3, none⟩ = some (cx (tA (m j) 1 0 0 0) (tB (m j) 1 0 0 0))
  a1 : ∀ j, j < n → W.cell? ⟨g', j * 3 + 1, none⟩ = some (cx (tC (m j) 1 0 0 0) (tD (m j) 1 0 0 0))
  a2 : ∀ j, j < n → W.cell? ⟨g', j * 3 + 2, none⟩ = some (.int .i64 (h j))
  l1 : g < W.heap.size
  l2 : g' < W.heap.size
theorem QL.on {W W2 : World} {n : Nat} {r h : Nat → Int} {m : Nat → Nat} {g g' : Nat} (H : QL W n r h m g g') (hb : Below W.heap.size W W2) : QL W2 n r h m g g' :=
  ⟨fun j hj => (hb.cell (p := ⟨g, j, none⟩) H.l1).trans (H.rc j hj), fun j hj => (hb.cell (p := ⟨g', _, none⟩) H.l2).trans (H.a0 j hj), fun j hj => (hb.cell (p := ⟨g', _, none⟩) H.l2).trans (H.a1 j hj), fun j hj => (hb.cell (p := ⟨g', _, none⟩) H.l2).trans (H.a2 j hj), Nat.lt_of_lt_of_le H.l1 hb.size, Nat.lt_of_lt_of_le H.l2 hb.size⟩
theorem ql_of {w W : World} {n : Nat} {r h : Nat → Int} {m : Nat → Nat} {e : Ending} (H : CR w W n r h m e) (hn : 0 < n) : ∃ g c g' c', e = .returned (.tuple #[.slice (some ⟨g, 0, none⟩) n c, .slice (some ⟨g', 0, none⟩) n c', .int .i64 0]) ∧ Below w.heap.size w W ∧ QL W n r h m g g' := by
  obtain ⟨v9, v10, rfl, h9, h10⟩ := H.it
  obtain ⟨g, c, rfl, _, _, l1, c1⟩ := own_at h9 hn
  obtain ⟨g', c', rfl, _, _, l2, c2⟩ := own_at h10 hn
  exact ⟨g, c, g', c', rfl, H.below, fun j hj => c1 j _ (rowsL_at r hj), fun j hj => c2 (j * 3 + 0) _ (ampsL_at m h hj rfl), fun j hj => c2 (j * 3 + 1) _ (ampsL_at m h hj rfl), fun j hj => c2 (j * 3 + 2) _ (ampsL_at m h hj rfl), l1, l2⟩
set_option maxRecDepth 100000 in
set_option maxHeartbeats 8000000 in
theorem asks_in {s : ByteArray} (y : Int) (w : World) (q hv e1 e2 : Int) (cl di : Bool) (t : ByteArray) (PA PB : World → Value → Prop) (n : Nat) (r h : Nat → Int) (m : Nat → Nat) (hn8 : n ≤ 8) (hm : ∀ j, j < n → m j < 8)
    (Ar1 : ∀ w, Calls Try.prog 8 #[.string s] w fun e w' => e = .returned (.int .i64 q) ∧ Below w.heap.size w w')
    (Ar2 : ∀ w, Calls Try.prog 9 #[.string s] w fun e w' => e = .returned (.int .i64 q) ∧ w' = w)
    (Ha1 : ∀ w, Calls Try.prog 10 #[.string s] w fun e w' => e = .returned (.int .i64 hv) ∧ Below w.heap.size w w')
    (Ha2 : ∀ w, Calls Try.prog 11 #[.string s] w fun e w' => e = .returned (.int .i64 hv) ∧ w' = w)
    (Cl1 : ∀ w, Calls Try.prog 12 #[.string s] w fun e w' => e = .returned (.bool cl) ∧ Below w.heap.size w w')
    (Cl2 : ∀ w, Calls Try.prog 13 #[.string s] w fun e w' => e = .returned (.bool cl) ∧ w' = w)
    (Di1 : ∀ w, Calls Try.prog 14 #[.string s] w fun e w' => e = .returned (.bool di) ∧ Below w.heap.size w w')
    (Di2 : ∀ w, Calls Try.prog 15 #[.string s] w fun e w' => e = .returned (.bool di) ∧ w' = w)
    (In1 : ∀ w, Calls Try.prog 16 #[.string s] w fun e w' => e = .returned (.tuple #[.string t, .int .i64 e1]) ∧ Below w.heap.size w w')
    (In2 : ∀ w, Calls Try.prog 17 #[.string s] w fun e w' => e = .returned (.tuple #[.string t, .int .i64 e1]) ∧ w' = w)
    (Ma1 : ∀ w, Calls Try.prog 18 #[.string s] w fun e w' => ∃ v, e = .returned (.tuple #[v, .int .i64 e2]) ∧ Below w.heap.size w w' ∧ PA w' v)
    (Ma2 : ∀ w, Calls Try.prog 19 #[.string s] w fun e w' => ∃ v, e = .returned (.tuple #[v, .int .i64 e2]) ∧ Below w.heap.size w w' ∧ PB w' v)
    (hPA : ∀ W W2 v, PA W v → Below W.heap.size W W2 → PA W2 v)
    (SA : ∀ V a b, PA V a → PB V b → Calls Try.prog 20 #[a, b] V fun e w' => e = .returned (.bool true) ∧ Below V.heap.size V w')
    (Co1 : ∀ w, Calls Try.prog 21 #[.string s, .int .i64 y] w fun e w' => ∃ g c g' c', e = .returned (.tuple #[.slice (some ⟨g, 0, none⟩) n c, .slice (some ⟨g', 0, none⟩) n c', .int .i64 0]) ∧ Below w.heap.size w w' ∧ QL w' n r h m g g')
    (Co2 : ∀ w, Calls Try.prog 22 #[.string s, .int .i64 y] w fun e w' => ∃ g c g' c', e = .returned (.tuple #[.slice (some ⟨g, 0, none⟩) n c, .slice (some ⟨g', 0, none⟩) n c', .int .i64 0]) ∧ Below w.heap.size w w' ∧ QL w' n r h m g g') :
    Calls Try.prog 3 #[.string s, .int .i64 y] w fun e w' => e = .returned (.bool true) ∧ Below w.heap.size w w' := by
  have AL := alive_any w
  go_enter Try.func3, Try.ntmps3
  go_upto_region 5 with (first
    | (go_at_call 7; (with_reducible refine AL.mono ?_); rintro e w1 ⟨rfl, hW⟩)
    | (go_at_call 8; (with_reducible refine (Ar1 _).mono ?_); rintro e w2 ⟨rfl, hN⟩; replace hW := btr hW hN)
    | (go_at_call 9; (with_reducible refine (Ar2 _).mono ?_); rintro e w2 ⟨rfl, hE⟩; subst hE)
    | (go_at_call 10; (with_reducible refine (Ha1 _).mono ?_); rintro e w2 ⟨rfl, hN⟩; replace hW := btr hW hN)
    | (go_at_call 11; (with_reducible refine (Ha2 _).mono ?_); rintro e w2 ⟨rfl, hE⟩; subst hE)
    | (go_at_call 12; (with_reducible refine (Cl1 _).mono ?_); rintro e w2 ⟨rfl, hN⟩; replace hW := btr hW hN)
    | (go_at_call 13; (with_reducible refine (Cl2 _).mono ?_); rintro e w2 ⟨rfl, hE⟩; subst hE)
    | (go_at_call 14; (with_reducible refine (Di1 _).mono ?_); rintro e w2 ⟨rfl, hN⟩; replace hW := btr hW hN)
    | (go_at_call 15; (with_reducible refine (Di2 _).mono ?_); rintro e w2 ⟨rfl, hE⟩; subst hE))
  clear Ar1 Ar2 Ha1 Ha2 Cl1 Cl2 Di1 Di2 AL
  go_upto_region 9 with (first
    | (go_at_call 16; (with_reducible refine (In1 _).mono ?_); rintro e w2 ⟨rfl, hN⟩; replace hW := btr hW hN)
    | (go_at_call 17; (with_reducible refine (In2 _).mono ?_); rintro e w2 ⟨rfl, hE⟩; subst hE))
  clear In1 In2
  go_upto_region 13 with (first
    | (go_at_call 18; (with_reducible refine (Ma1 _).mono ?_); rintro e w2 ⟨va, rfl, hN, pa⟩; replace hW := btr hW hN)
    | (go_at_call 19; (with_reducible refine (Ma2 _).mono ?_); rintro e w2 ⟨vb, rfl, hN, pb⟩; replace hW := btr hW hN; replace pa := hPA _ _ _ pa hN)
    | (go_at_call 20; (with_reducible refine (SA _ _ _ pa pb).mono ?_); rintro e w2 ⟨rfl, hN⟩; replace hW := btr hW hN))
  clear Ma1 Ma2 SA hPA pa pb
  go_upto_region 18 with (first
    | (go_at_call 21; (with_reducible refine (Co1 _).mono ?_); rintro e w2 ⟨g1, c1, g2, c2, rfl, hN, q1⟩; replace hW := btr hW hN)
    | (go_at_call 22; (with_reducible refine (Co2 _).mono ?_); rintro e w3 ⟨g3, c3, g4, c4, rfl, hN, q2⟩; replace hW := btr hW hN; replace q1 := q1.on hN))
  clear Co1 Co2
  have hI : Hid (Below w.heap.size w w3 ∧ QL w3 n r h m g1 g2 ∧ QL w3 n r h m g3 g4) := ⟨hW, q1, q2⟩
  clear hW q1 q2 hN
  go_loopw [15] (fun v wr => ∃ j : Nat, j ≤ n ∧ v = .int .i64 j ∧ Hid (Below w.heap.size w wr ∧ QL wr n r h m g1 g2 ∧ QL wr n r h m g3 g4)) (fun v _ => n - (intOf v).toNat)
  case atStart => exact ⟨0, by omega, rfl, hI⟩
  case round =>
    clear hI
    obtain ⟨j, hj, rfl, hH⟩ := hrel
    by_cases hlt : j < n
    · have h1 := hH.out.2.1
      have h2 := hH.out.2.2
      have d0 := h1.rc j hlt
      have d1 := h1.a0 j hlt
      have d2 := h1.a1 j hlt
      have d3 := h1.a2 j hlt
      have f0 := h2.rc j hlt
      have f1 := h2.a0 j hlt
      have f2 := h2.a1 j hlt
      have f3 := h2.a2 j hlt
      have QN := run_un_nne (m j) (hm j hlt) (h j)
      clear h1 h2
      go_upto_region 20 with (fail)
      go_quiet (fail)
      go_wp2
      go_roundw
      case rel => exact ⟨j + 1, by omega, by go_num, bdn hH.out.1 _, hH.out.2.1.on (bdn (Below.refl _ _) _), hH.out.2.2.on (bdn (Below.refl _ _) _)⟩
      case measure => simp [intOf]; omega
    · go_wp2
      go_ret
      exact ⟨by simp, hH.out.1⟩
end Go.Proofs.Ytjmgcgjmaemgdaa
