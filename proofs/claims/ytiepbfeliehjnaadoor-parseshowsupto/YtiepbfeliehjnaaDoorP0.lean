/-
  The kinds of statements, as the program and the reference ask for them.
-/
import Derived.Test.YtiepbfeliehjnaaDoorN1
import Derived.Test.YtiepbfeliehjnaaDoorA2
namespace Go.Proofs.YtiepbfeliehjnaaDoor
open Go.RowKit Go.Sort

abbrev shv (s : Sh) : Value := .agg #[.bool s.name, .int .i64 s.args, .bool s.idx, .bool s.num, .bool s.body]
theorem ne_lit {k : ByteArray} {x : Array UInt8} (h : k ≠ ⟨x⟩) : (k.toList == x.toList) = false := by
  rw [ByteArray.toList_eq]
  simp only [beq_eq_false_iff_ne, ne_eq]
  intro e
  exact h (ByteArray.ext (Array.ext' e))
theorem beq_str (a b : ByteArray) : (a.toList == b.toList) = decide (a = b) := by
  rw [ByteArray.toList_eq, ByteArray.toList_eq]
  by_cases h : a = b
  · rw [decide_eq_true h, h]; simp
  · rw [decide_eq_false h]
    simp only [beq_eq_false_iff_ne, ne_eq]
    intro e
    exact h (ByteArray.ext (Array.ext' e))
set_option maxHeartbeats 1000000 in
theorem shape_any (k : ByteArray) (w : World) :
    Calls Tryd.prog 50 #[.string k] w fun e w' => e = .returned (.tuple #[shv ((shp k).getD shNone), .bool (shp k).isSome]) ∧ Below w.heap.size w w' := by
  rcases shp_cases k with ⟨rfl, h, _⟩ | ⟨rfl, h, _⟩ | ⟨rfl, h, _⟩ | ⟨rfl, h, _⟩ | ⟨rfl, h, _⟩ | ⟨rfl, h, _⟩ | ⟨rfl, h, _⟩ | ⟨rfl, h, _⟩ | ⟨h1, h2, h3, h4, h5, h6, h7, h8, h, _⟩
  case inr.inr.inr.inr.inr.inr.inr.inr =>
    rw [h]
    clear h
    have g1 := ne_lit h1
    have g2 := ne_lit h2
    have g3 := ne_lit h3
    have g4 := ne_lit h4
    have g5 := ne_lit h5
    have g6 := ne_lit h6
    have g7 := ne_lit h7
    have g8 := ne_lit h8
    clear h1 h2 h3 h4 h5 h6 h7 h8
    go_enter Tryd.func50, Tryd.ntmps50
    go_wp2
    exact bodyPost_ret (v := .tuple #[shv shNone, .bool false]) (by simp [results, Tryd.results50, go_sem]) rfl ⟨rfl, (Below.refl _ _).alloc (Nat.le_refl _) _⟩
  all_goals
    rw [h]
    clear h
    go_enter Tryd.func50, Tryd.ntmps50
    go_wp2
    refine bodyPost_ret (v := .tuple #[shv _, .bool true]) (by simp [results, Tryd.results50, go_sem]; done) rfl ⟨rfl, (Below.refl _ _).alloc (Nat.le_refl _) _⟩
theorem isOwn_any (k : ByteArray) (w : World) :
    Calls Tryd.prog 60 #[.string k] w fun e w' => e = .returned (.bool (ownB k)) ∧ Below w.heap.size w w' := by
  have SA := fun w => shape_any k w
  rcases shp_cases k with ⟨rfl, h, g⟩ | ⟨rfl, h, g⟩ | ⟨rfl, h, g⟩ | ⟨rfl, h, g⟩ | ⟨rfl, h, g⟩ | ⟨rfl, h, g⟩ | ⟨rfl, h, g⟩ | ⟨rfl, h, g⟩ | ⟨h1, h2, h3, h4, h5, h6, h7, h8, h, g⟩
  case inr.inr.inr.inr.inr.inr.inr.inr =>
    rw [h] at SA
    rw [g]
    clear h g
    have g8 := ne_lit h8
    clear h1 h2 h3 h4 h5 h6 h7 h8
    go_enter Tryd.func60, Tryd.ntmps60
    go_wp2_with (go_at_call 50; (with_reducible refine (SA _).mono ?_); rintro e w1 ⟨rfl, hN⟩)
    go_ret
    exact ⟨rfl, hN.alloc hN.size _⟩
  all_goals
    rw [h] at SA
    rw [g]
    clear h g
    go_enter Tryd.func60, Tryd.ntmps60
    go_wp2_with (go_at_call 50; (with_reducible refine (SA _).mono ?_); rintro e w1 ⟨rfl, hN⟩)
    go_ret
    exact ⟨rfl, hN.alloc hN.size _⟩
theorem rown_any (k : ByteArray) (w : World) :
    Calls Tryd.prog 40 #[.string k] w fun e w' => e = .returned (.bool (ownB k)) ∧ w' = w := by
  rcases shp_cases k with ⟨rfl, h, g⟩ | ⟨rfl, h, g⟩ | ⟨rfl, h, g⟩ | ⟨rfl, h, g⟩ | ⟨rfl, h, g⟩ | ⟨rfl, h, g⟩ | ⟨rfl, h, g⟩ | ⟨rfl, h, g⟩ | ⟨h1, h2, h3, h4, h5, h6, h7, h8, h, g⟩
  case inr.inr.inr.inr.inr.inr.inr.inr =>
    rw [g]
    have g1 := ne_lit h1
    have g2 := ne_lit h2
    have g3 := ne_lit h3
    have g4 := ne_lit h4
    have g5 := ne_lit h5
    have g6 := ne_lit h6
    have g7 := ne_lit h7
    clear h1 h2 h3 h4 h5 h6 h7 h8 h g
    go_enter Tryd.func40, Tryd.ntmps40
    go_wp2
    go_ret
    exact ⟨rfl, rfl⟩
  all_goals
    rw [g]
    clear h g
    go_enter Tryd.func40, Tryd.ntmps40
    go_wp2
    go_ret
    exact ⟨rfl, rfl⟩
theorem last_any (sh : Sh) (w : World) :
    Calls Tryd.prog 65 #[shv sh] w fun e w' => e = .returned (.string (lastS sh)) ∧ Below w.heap.size w w' := by
  obtain ⟨a, b, c, d, e⟩ := sh
  cases e with
  | true =>
    go_enter Tryd.func65, Tryd.ntmps65
    go_wp2
    go_ret
    exact ⟨rfl, (Below.refl _ _).alloc (Nat.le_refl _) _⟩
  | false =>
    go_enter Tryd.func65, Tryd.ntmps65
    go_wp2
    go_ret
    exact ⟨rfl, (Below.refl _ _).alloc (Nat.le_refl _) _⟩
end Go.Proofs.YtiepbfeliehjnaaDoor
