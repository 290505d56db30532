/-
  The law GateBack, from what its calls tell.
-/
import Derived.Test.YtjmgcgjmaemgdaaC1
import Derived.Test.YtjmgcgjmaemgdaaC2
import Derived.Test.YtjmgcgjmaemgdaaK6
import Derived.Test.YtjmgcgjmaemgdaaN1
namespace Go.Proofs.Ytjmgcgjmaemgdaa
open Go.RowKit Go.Sort

set_option maxRecDepth 100000 in
set_option maxHeartbeats 8000000 in
theorem back_core (k : Int) (i : Nat) (hi : i < 25) (hk : (k.tmod 25 + 25).tmod 25 = (i : Int)) (t1 : -25 < k.tmod 25) (t2 : k.tmod 25 < 25) (w : World)
    (q : Int) (N : Nat) (hq : (q = 1 ∧ N = 2) ∨ (q = 2 ∧ N = 4) ∨ (q = 3 ∧ N = 8)) (s s' : ByteArray) (hs : nm i = s) (A B : Nat → Nat → A5) (hv : Int) (cl di : Bool)
    (I1 : ∀ w, Calls Try.prog 16 #[.string s] w fun e w' => e = .returned (.tuple #[.string s', .int .i64 0]) ∧ Below w.heap.size w w')
    (I2 : ∀ w, Calls Try.prog 16 #[.string s'] w fun e w' => e = .returned (.tuple #[.string s, .int .i64 0]) ∧ Below w.heap.size w w')
    (M1 : ∀ w, Calls Try.prog 18 #[.string s] w fun e w' => ∃ M, e = .returned (.tuple #[mv M N, .int .i64 0]) ∧ Below w.heap.size w w' ∧ MR w' M N A)
    (M2 : ∀ w, Calls Try.prog 18 #[.string s'] w fun e w' => ∃ M, e = .returned (.tuple #[mv M N, .int .i64 0]) ∧ Below w.heap.size w w' ∧ MR w' M N B)
    (A1 : ∀ w, Calls Try.prog 8 #[.string s] w fun e w' => e = .returned (.int .i64 q) ∧ Below w.heap.size w w')
    (A2 : ∀ w, Calls Try.prog 8 #[.string s'] w fun e w' => e = .returned (.int .i64 q) ∧ Below w.heap.size w w')
    (H1 : ∀ w, Calls Try.prog 10 #[.string s] w fun e w' => e = .returned (.int .i64 hv) ∧ Below w.heap.size w w')
    (H2 : ∀ w, Calls Try.prog 10 #[.string s'] w fun e w' => e = .returned (.int .i64 hv) ∧ Below w.heap.size w w')
    (C1 : ∀ w, Calls Try.prog 12 #[.string s] w fun e w' => e = .returned (.bool cl) ∧ Below w.heap.size w w')
    (C2 : ∀ w, Calls Try.prog 12 #[.string s'] w fun e w' => e = .returned (.bool cl) ∧ Below w.heap.size w w')
    (D1 : ∀ w, Calls Try.prog 14 #[.string s] w fun e w' => e = .returned (.bool di) ∧ Below w.heap.size w w')
    (D2 : ∀ w, Calls Try.prog 14 #[.string s'] w fun e w' => e = .returned (.bool di) ∧ Below w.heap.size w w')
    (U1 : ∀ V M M', MR V M N A → MR V M' N B → Calls Try.prog 25 #[mv M N, mv M' N] V fun e w' => ∃ P, e = .returned (.tuple #[mv P N, .int .i64 0]) ∧ Below V.heap.size V w' ∧ MR w' P N oneA)
    (U2 : ∀ V M M', MR V M N B → MR V M' N A → Calls Try.prog 25 #[mv M N, mv M' N] V fun e w' => ∃ P, e = .returned (.tuple #[mv P N, .int .i64 0]) ∧ Below V.heap.size V w' ∧ MR w' P N oneA)
    (AD : ∀ V M, MR V M N A → Calls Try.prog 26 #[mv M N] V fun e w' => ∃ P, e = .returned (.tuple #[mv P N, .int .i64 0]) ∧ Below V.heap.size V w' ∧ MR w' P N B)
    (UN : ∀ V M, MR V M N A → Calls Try.prog 27 #[mv M N] V fun e w' => e = .returned (.tuple #[.bool true, .int .i64 0]) ∧ Below V.heap.size V w')
    (EY : ∀ V M, MR V M N oneA → Calls Try.prog 28 #[mv M N] V fun e w' => e = .returned (.bool true) ∧ Below V.heap.size V w')
    (SA : ∀ V M M', MR V M N B → MR V M' N B → Calls Try.prog 20 #[mv M N, mv M' N] V fun e w' => e = .returned (.bool true) ∧ Below V.heap.size V w') :
    Calls Try.prog 5 #[.int .i64 k] w fun e w' => e = .returned (.bool true) ∧ Below w.heap.size w w' := by
  have AL := alive_any w
  have NC := fun w => names_any w
  have CN : ∀ wr : World, (wr.alloc (.cells NA 9)).cell? ⟨wr.heap.size, i, none⟩ = some (.string s) := fun wr => by rw [← hs]; exact cell_of (MapKept.heap_alloc wr (.cells NA 9)).1 (NA_at hi)
  generalize NA = na at NC CN
  clear hs
  rcases hq with ⟨rfl, rfl⟩ | ⟨rfl, rfl⟩ | ⟨rfl, rfl⟩
  all_goals
    go_enter Try.func5, Try.ntmps5
    go_upto_region 5 with (first
      | (go_at_call 7; (with_reducible refine AL.mono ?_); rintro e w1 ⟨rfl, hW⟩; have cn := CN w1)
      | (go_at_call 24; (with_reducible refine (NC _).mono ?_); rintro e w2 ⟨rfl, rfl⟩))
    replace hW := bal hW (.cells na 9)
    clear cn CN NC AL hk t1 t2
    generalize (w1.alloc (.cells na 9)) = W at *
    go_upto_region 9 with (first
      | (go_at_call 16; (with_reducible refine (I1 _).mono ?_); rintro e w3 ⟨rfl, hN⟩; replace hW := btr hW hN)
      | (go_at_call 16; (with_reducible refine (I2 _).mono ?_); rintro e w4 ⟨rfl, hN⟩; replace hW := btr hW hN)
      | (go_at_call 18; (with_reducible refine (M1 _).mono ?_); rintro e w5 ⟨MA, rfl, hN, hA⟩; replace hW := btr hW hN)
      | (go_at_call 18; (with_reducible refine (M2 _).mono ?_); rintro e w6 ⟨MB, rfl, hN, hB⟩; replace hW := btr hW hN; replace hA := hA.on hN))
    clear I1 I2 M1 M2
    go_upto_region 11 with (first
      | (go_at_call 8; (with_reducible refine (A1 _).mono ?_); rintro e w7 ⟨rfl, hN⟩; replace hW := btr hW hN; replace hA := hA.on hN; replace hB := hB.on hN)
      | (go_at_call 8; (with_reducible refine (A2 _).mono ?_); rintro e w7 ⟨rfl, hN⟩; replace hW := btr hW hN; replace hA := hA.on hN; replace hB := hB.on hN)
      | (go_at_call 10; (with_reducible refine (H1 _).mono ?_); rintro e w7 ⟨rfl, hN⟩; replace hW := btr hW hN; replace hA := hA.on hN; replace hB := hB.on hN)
      | (go_at_call 10; (with_reducible refine (H2 _).mono ?_); rintro e w7 ⟨rfl, hN⟩; replace hW := btr hW hN; replace hA := hA.on hN; replace hB := hB.on hN)
      | (go_at_call 12; (with_reducible refine (C1 _).mono ?_); rintro e w7 ⟨rfl, hN⟩; replace hW := btr hW hN; replace hA := hA.on hN; replace hB := hB.on hN)
      | (go_at_call 12; (with_reducible refine (C2 _).mono ?_); rintro e w7 ⟨rfl, hN⟩; replace hW := btr hW hN; replace hA := hA.on hN; replace hB := hB.on hN)
      | (go_at_call 14; (with_reducible refine (D1 _).mono ?_); rintro e w7 ⟨rfl, hN⟩; replace hW := btr hW hN; replace hA := hA.on hN; replace hB := hB.on hN)
      | (go_at_call 14; (with_reducible refine (D2 _).mono ?_); rintro e w7 ⟨rfl, hN⟩; replace hW := btr hW hN; replace hA := hA.on hN; replace hB := hB.on hN))
    clear A2 H1 H2 C1 C2 D1 D2
    go_upto_region 15 with (first
      | (go_at_call 25; (with_reducible refine (U1 _ _ _ hA hB).mono ?_); rintro e w8 ⟨P, rfl, hN, hP⟩; replace hW := btr hW hN; replace hA := hA.on hN; replace hB := hB.on hN)
      | (go_at_call 25; (with_reducible refine (U2 _ _ _ hB hA).mono ?_); rintro e w9 ⟨Q, rfl, hN, hQ⟩; replace hW := btr hW hN; replace hA := hA.on hN; replace hB := hB.on hN; replace hP := hP.on hN)
      | (go_at_call 26; (with_reducible refine (AD _ _ hA).mono ?_); rintro e w10 ⟨R, rfl, hN, hR⟩; replace hW := btr hW hN; replace hA := hA.on hN; replace hB := hB.on hN; replace hP := hP.on hN; replace hQ := hQ.on hN)
      | (go_at_call 27; (with_reducible refine (UN _ _ hA).mono ?_); rintro e w11 ⟨rfl, hN⟩; replace hW := btr hW hN; replace hA := hA.on hN; replace hB := hB.on hN; replace hP := hP.on hN; replace hQ := hQ.on hN; replace hR := hR.on hN))
    clear U1 U2 AD UN hA
    go_wp2_with (first
      | (go_at_call 8; (with_reducible refine (A1 _).mono ?_); rintro e w12 ⟨rfl, hN⟩; replace hW := btr hW hN; replace hB := hB.on hN; replace hP := hP.on hN; replace hQ := hQ.on hN; replace hR := hR.on hN)
      | (go_at_call 28; (with_reducible refine (EY _ _ hP).mono ?_); rintro e w13 ⟨rfl, hN⟩; replace hW := btr hW hN; replace hB := hB.on hN; replace hP := hP.on hN; replace hQ := hQ.on hN; replace hR := hR.on hN)
      | (go_at_call 28; (with_reducible refine (EY _ _ hQ).mono ?_); rintro e w13 ⟨rfl, hN⟩; replace hW := btr hW hN; replace hB := hB.on hN; replace hP := hP.on hN; replace hQ := hQ.on hN; replace hR := hR.on hN)
      | (go_at_call 20; (with_reducible refine (SA _ _ _ hR hB).mono ?_); rintro e w14 ⟨rfl, hN⟩; replace hW := btr hW hN))
    go_ret
    exact ⟨by simp, hW⟩
end Go.Proofs.Ytjmgcgjmaemgdaa
