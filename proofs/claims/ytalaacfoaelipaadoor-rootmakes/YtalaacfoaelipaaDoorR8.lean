/-
  The law RootMakes answers true.
-/
import Derived.Test.YtalaacfoaelipaaDoorR7
import Derived.Test.YtalaacfoaelipaaDoorF1
namespace Go.Proofs.YtalaacfoaelipaaDoor
open Go.RowKit Go.Sort

theorem keepR3 {W V : World} {A B C : Nat} {a1 a2 a3 b1 b2 b3 c1 c2 c3 : Int} (hA : RB W A a1 a2 a3) (hB : RB W B b1 b2 b3) (hC : RB W C c1 c2 c3) (h : Below W.heap.size W V) :
    Below W.heap.size W V ∧ V.cell? ⟨A, 0, none⟩ = some (.int .i64 a1) ∧ V.cell? ⟨A, 1, none⟩ = some (.int .i64 a2) ∧ V.cell? ⟨A, 2, none⟩ = some (.int .i64 a3) ∧
    V.cell? ⟨B, 0, none⟩ = some (.int .i64 b1) ∧ V.cell? ⟨B, 1, none⟩ = some (.int .i64 b2) ∧ V.cell? ⟨B, 2, none⟩ = some (.int .i64 b3) ∧
    V.cell? ⟨C, 0, none⟩ = some (.int .i64 c1) ∧ V.cell? ⟨C, 1, none⟩ = some (.int .i64 c2) ∧ V.cell? ⟨C, 2, none⟩ = some (.int .i64 c3) := by
  have x := hA.below h
  have y := hB.below h
  have z := hC.below h
  exact ⟨h, x.c0, x.c1, x.c2, y.c0, y.c1, y.c2, z.c0, z.c1, z.c2⟩
set_option maxHeartbeats 4000000 in
set_option maxRecDepth 100000 in
theorem makes_core (a1 a2 a3 : Int) (r : Rt) (ce : Int) (w : World) (hT : Tab w)
    (R1 : ∀ w, Calls Tryd.prog 10 #[.int .i64 a1, .int .i64 a2, .int .i64 a3] w fun z w' => z = .returned (rtV r) ∧ Below w.heap.size w w')
    (C1 : ∀ w, Tab w → Calls Tryd.prog 11 #[.int .i64 a1, .int .i64 a2, .int .i64 a3] w fun z w' => z = .returned (rtV r) ∧ Below w.heap.size w w')
    (K1 : ∀ w, Calls Tryd.prog 12 #[rv a1 a2 a3] w fun z w' => z = .returned (.int .i64 ce) ∧ Below w.heap.size w w') (K2 : ∀ w, Calls Tryd.prog 13 #[rv a1 a2 a3] w fun z w' => z = .returned (.int .i64 ce) ∧ Below w.heap.size w w') :
    Calls Tryd.prog 3 #[rv a1 a2 a3] w fun x w' => x = .returned (.bool true) ∧ Below w.heap.size w w' := by
  have rA := RB.new w a1 a2 a3
  have hW : Below w.heap.size w (w.alloc (.cells #[.int .i64 a1, .int .i64 a2, .int .i64 a3] 23)) := bal (Below.refl _ _) _
  have AW := awake_any _ (hT.below hW)
  go_enter Tryd.func3, Tryd.ntmps3
  go_upto_region 3 with (first
    | (go_at_call 9; (with_reducible refine AW.mono ?_); rintro e w1 ⟨rfl, hN⟩; have T := (hT.below hW).below hN; replace hW := btr hW hN; replace rA := rA.below hN))
  go_cut [3, 4] from 9 to 18 (fun vp ve W => (∃ B : Nat, vp = Value.pointer (some ⟨B, 0, none⟩) ∧ ve = Value.int .i64 r.e ∧ RB W B r.p r.q r.k) ∧ Below w.heap.size w W ∧ Tab W ∧ RB W w.heap.size a1 a2 a3)
  case first =>
    have ⟨x0, x1, x2⟩ := rA
    go_wp2_with (go_at_call 10; (with_reducible refine (R1 _).mono ?_); rintro e w2 ⟨rfl, hN⟩; unfold rtV)
    go_meet
    case rel => exact ⟨⟨_, rfl, rfl, RB.new _ _ _ _⟩, bal (btr hW hN) _, (T.below hN).alloc _, (rA.below hN).alloc _⟩
  clear hW T rA
  obtain ⟨⟨B3, rfl, rfl, r3⟩, hW, T, rA⟩ := hcut
  go_upto_region 4 with (fail)
  go_cut [5, 6] from 19 to 28 (fun vp ve W => (∃ B : Nat, vp = Value.pointer (some ⟨B, 0, none⟩) ∧ ve = Value.int .i64 r.e ∧ RB W B r.p r.q r.k) ∧ Below w.heap.size w W ∧ Tab W ∧ RB W w.heap.size a1 a2 a3 ∧ RB W B3 r.p r.q r.k)
  case first =>
    have ⟨x0, x1, x2⟩ := rA
    go_wp2_with (go_at_call 11; (with_reducible refine (C1 _ T).mono ?_); rintro e w2 ⟨rfl, hN⟩; unfold rtV)
    go_meet
    case rel => exact ⟨⟨_, rfl, rfl, RB.new _ _ _ _⟩, bal (btr hW hN) _, (T.below hN).alloc _, (rA.below hN).alloc _, (r3.below hN).alloc _⟩
  clear hW T rA r3
  obtain ⟨⟨B5, rfl, rfl, r5⟩, hW, T, rA, r3⟩ := hcut
  go_upto_region 5 with (fail)
  go_region_held3 (fun w' => Below wc.heap.size wc w' ∧ w'.cell? ⟨w.heap.size, 0, none⟩ = some (.int .i64 a1) ∧ w'.cell? ⟨w.heap.size, 1, none⟩ = some (.int .i64 a2) ∧ w'.cell? ⟨w.heap.size, 2, none⟩ = some (.int .i64 a3) ∧
    w'.cell? ⟨B3, 0, none⟩ = some (.int .i64 r.p) ∧ w'.cell? ⟨B3, 1, none⟩ = some (.int .i64 r.q) ∧ w'.cell? ⟨B3, 2, none⟩ = some (.int .i64 r.k) ∧
    w'.cell? ⟨B5, 0, none⟩ = some (.int .i64 r.p) ∧ w'.cell? ⟨B5, 1, none⟩ = some (.int .i64 r.q) ∧ w'.cell? ⟨B5, 2, none⟩ = some (.int .i64 r.k))
    ((refine keepR3 rA r3 r5 ?_; first | exact below_drew (by assumption) | exact below_drew (Below.refl _ _) | exact btr (And.left (by assumption)) hN))
    (first
      | (go_at_call 12; (with_reducible refine (K1 _).mono ?_); rintro e w2 ⟨rfl, hN⟩; have hK := btr (And.left (by assumption)) hN)
      | (go_at_call 13; (with_reducible refine (K2 _).mono ?_); rintro e w3 ⟨rfl, hN⟩; have hK := btr (And.left (by assumption)) hN))
  all_goals go_wp2
  all_goals go_ret
  all_goals exact ⟨rfl, btr hW hK⟩
theorem makes_any (a1 a2 a3 : Int) (w : World) (hT : Tab w) (h1 : -9223372036854775808 ≤ a1 ∧ a1 ≤ 9223372036854775807) (h2 : -9223372036854775808 ≤ a2 ∧ a2 ≤ 9223372036854775807) (h3 : a3 ≤ 9223372036854775807) :
    Calls Tryd.prog 3 #[rv a1 a2 a3] w fun x w' => x = .returned (.bool true) ∧ Below w.heap.size w w' := by
  by_cases h : isRoot a1 a2 a3
  · exact makes_core a1 a2 a3 (makeR a1 a2 a3) 0 w hT (fun w => rmake_any _ _ _ w h1 h2) (fun w hT => make_any _ _ _ w hT h1 h2 h3) (fun w => check_yes _ _ _ w h) (fun w => rcheck_yes _ _ _ w h)
  · exact makes_core a1 a2 a3 (makeR a1 a2 a3) 2 w hT (fun w => rmake_any _ _ _ w h1 h2) (fun w hT => make_any _ _ _ w hT h1 h2 h3) (fun w => check_no _ _ _ w h) (fun w => rcheck_no _ _ _ w h)
end Go.Proofs.YtalaacfoaelipaaDoor
