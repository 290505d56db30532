/-
  The two circuits that every law lays first.
-/
import Derived.Test.YtfaoegiignalkaaI4
import Derived.Test.YtfaoegiignalkaaE4
namespace Go.Proofs.Ytfaoegiignalkaa
open Go.RowKit Go.Shelf

abbrev gop (n : ByteArray) (qs : List Int) : Oq := ⟨1, n, qs, 0, false, 0, 0⟩
set_option maxHeartbeats 1000000 in
set_option maxRecDepth 100000 in
theorem gate_any (n : ByteArray) (a : Option Addr) (k c : Nat) (w : World) : Calls Try.prog 31 #[.string n, .slice a k c] w fun e w' => e = .returned (.agg #[.int .i64 1, .string n, .slice a k c, .int .i64 0, .bool false, .int .u64 0, .int .u64 0]) ∧ w' = w.alloc (.cells #[.int .i64 1, .string n, .slice a k c, .int .i64 0, .bool false, .int .u64 0, .int .u64 0] 57) := by
  go_enter Try.func31, Try.ntmps31
  go_wp2
  exact bodyPost_ret (v := .agg #[.int .i64 1, .string n, .slice a k c, .int .i64 0, .bool false, .int .u64 0, .int .u64 0]) (by simp [results, Try.results31, go_sem, *]) rfl ⟨rfl, rfl⟩
abbrev prs : Ci := ⟨2, 1, [gop ⟨#[104]⟩ [0], gop ⟨#[99, 120]⟩ [0, 1]]⟩
abbrev twi : Ci := ⟨2, 0, [gop ⟨#[104]⟩ [0], gop ⟨#[99, 120]⟩ [0, 0]]⟩
theorem qs_block {W : World} {g : Nat} (l : List Int) (h : BK W g (l.map (Value.int .i64)).toArray 3) : QS W (some ⟨g, 0, none⟩) l.length l :=
  ⟨Nat.le_refl _, fun _ _ => ⟨g, 0, rfl, fun j hj => by rw [h.cell]; simp [hj], h.lt⟩⟩
theorem two_ops {W : World} {g1 g2 g : Nat} (n1 n2 : ByteArray) (l1 l2 : List Int) (h1 : BK W g1 (l1.map (Value.int .i64)).toArray 3) (h2 : BK W g2 (l2.map (Value.int .i64)).toArray 3) (hl1 : l1.length ≤ 100) (hl2 : l2.length ≤ 100)
    (h : BK W g #[.int .i64 1, .string n1, .slice (some ⟨g1, 0, none⟩) l1.length l1.length, .int .i64 0, .bool false, .int .u64 0, .int .u64 0, .int .i64 1, .string n2, .slice (some ⟨g2, 0, none⟩) l2.length l2.length, .int .i64 0, .bool false, .int .u64 0, .int .u64 0] 57) :
    OS W (some ⟨g, 0, none⟩) 2 [gop n1 l1, gop n2 l2] (fun k => if k = 0 then some ⟨g1, 0, none⟩ else some ⟨g2, 0, none⟩) (fun k => if k = 0 then l1.length else l2.length) := by
  have two : ∀ {p : Nat → Prop}, p 0 → p 1 → ∀ k, k < 2 → p k := fun a b k hk => by
    match k, hk with
    | 0, _ => exact a
    | 1, _ => exact b
  refine ⟨Nat.le_refl _, fun k hk => ?_, fun _ _ => ⟨g, 0, rfl, ?_, ?_, ?_, ?_, ?_, ?_, ?_, h.lt⟩, fun k hk => ?_, by simp⟩
  · match k, hk with
    | 0, _ => exact qs_block l1 h1
    | 1, _ => exact qs_block l2 h2
  all_goals try (intro j hj; match j, hj with | 0, _ => exact h.cell _ | 1, _ => exact h.cell _)
  · match k, hk with
    | 0, _ => exact ⟨(show (0 : Int) ≤ 0 by decide), (show (0 : Int) ≤ 18446744073709551615 by decide), (show (0 : Int) ≤ 0 by decide), (show (0 : Int) ≤ 18446744073709551615 by decide), (show l1.length ≤ _ by omega)⟩
    | 1, _ => exact ⟨(show (0 : Int) ≤ 0 by decide), (show (0 : Int) ≤ 18446744073709551615 by decide), (show (0 : Int) ≤ 0 by decide), (show (0 : Int) ≤ 18446744073709551615 by decide), (show l2.length ≤ _ by omega)⟩
theorem bk_at {W : World} {b : Nat} (cs : Array Value) (T : TypeId) (h : b = W.heap.size) : BK (W.alloc (.cells cs T)) b cs T := by subst h; exact bk_new W cs T
set_option maxHeartbeats 1000000 in
set_option maxRecDepth 100000 in
theorem pair_any (w : World) : Calls Try.prog 30 #[] w fun e w' => ∃ a A C, e = .returned (civ prs a 2) ∧ OS w' a 2 prs.ops A C ∧ Below w.heap.size w w' := by
  have GA := fun n a k c w => gate_any n a k c w
  go_enter Try.func30, Try.ntmps30
  go_wp2_with (go_at_call 31; (with_reducible refine (GA _ _ _ _ _).mono ?_); rintro e w1 ⟨rfl, rfl⟩)
  refine bodyPost_ret (v := civ prs (some ⟨w.heap.size + 1 + 1 + 1 + 1 + 1, 0, none⟩) 2) (by simp [results, Try.results30, go_sem, *]) rfl ⟨_, _, _, rfl, two_ops (g1 := w.heap.size + 1) (g2 := w.heap.size + 1 + 1 + 1) ⟨#[104]⟩ ⟨#[99, 120]⟩ [0] [0, 1] ?_ ?_ (by decide) (by decide) ?_, ?_⟩
  · exact ((((bk_at _ _ (by simp)).alloc _).alloc _).alloc _).alloc _
  · exact ((bk_at _ _ (by simp)).alloc _).alloc _
  · exact bk_at _ _ (by simp)
  · repeat (first | exact Below.refl _ _ | refine bal ?_ _)
theorem lk_prs : lk prs = (0, 1, 0) := by kernel_rfl
theorem lk_twi : lk twi = (1, 0, 113) := by kernel_rfl
theorem layers_prs : (layers prs).length = 2 := by kernel_rfl
theorem inv_prs : invE prs = 0 := by kernel_rfl
theorem inv_prs2 : invR prs = ⟨2, 1, [gop ⟨#[99, 120]⟩ [0, 1], gop ⟨#[104]⟩ [0]]⟩ := by kernel_rfl
set_option maxHeartbeats 2000000 in
set_option maxRecDepth 100000 in
theorem awake_any (w : World) : Calls Try.prog 9 #[] w fun e w' => e = .returned (.bool true) ∧ Below w.heap.size w w' := by
  have GA := fun n a k c w => gate_any n a k c w
  have PA := fun w => pair_any w
  have HV : ∀ w1 a A C, OS w1 a 2 prs.ops A C → Calls Try.prog 15 #[civ prs a 2] w1 fun e w' => e = .returned (.tuple #[.int .i64 1, .int .i64 0]) ∧ Below w1.heap.size w1 w' := fun w1 a A C h => by
    have := halvesC_any prs a 2 A C w1 h
    rw [lk_prs] at this
    exact this
  have LY : ∀ w1 a A C, OS w1 a 2 prs.ops A C → Calls Try.prog 25 #[civ prs a 2] w1 fun e w' => ∃ a' c', e = .returned (.tuple #[.slice a' 2 c', .int .i64 0]) ∧ Below w1.heap.size w1 w' := fun w1 a A C h => by
    have := layers_any prs a 2 A C w1 h
    rw [lk_prs] at this
    refine this.mono ?_
    rintro e w' ⟨v, vs, rfl, hO, hB⟩
    obtain ⟨a', c', rfl⟩ := hO.shape
    rw [layers_prs]
    exact ⟨a', c', rfl, hB⟩
  have IV : ∀ w1 a A C, OS w1 a 2 prs.ops A C → Calls Try.prog 20 #[civ prs a 2] w1 fun e w' => ∃ g c', e = .returned (.tuple #[.agg #[.int .i64 2, .int .i64 1, .slice (some ⟨g, 0, none⟩) 2 c'], .int .i64 0]) ∧ w'.cell? ⟨g, 1, none⟩ = some (.string ⟨#[99, 120]⟩) ∧ g < w'.heap.size ∧ Below w1.heap.size w1 w' := fun w1 a A C h => by
    have := inverseC_any prs a 2 A C w1 h
    rw [inv_prs, inv_prs2] at this
    refine this.mono ?_
    rintro e w' ⟨a', c', vs, rfl, hO, hB⟩
    obtain ⟨a2, c2, e2, hS⟩ := hO.read
    cases e2
    obtain ⟨g, o, rfl, r⟩ := hS.at_ 0 (by decide)
    obtain ⟨g', cap, e3, _⟩ := own_at hO.own (by decide)
    cases e3
    exact ⟨g, c', rfl, r.c1 0 (by decide), r.lt, hB⟩
  have CT : ∀ w1 a A C, OS w1 a 2 twi.ops A C → Calls Try.prog 14 #[.agg #[.int .i64 2, .int .i64 0, .slice a 2 2]] w1 fun e w' => e = .returned (.tuple #[.int .i64 1, .int .i64 113]) ∧ Below w1.heap.size w1 w' := fun w1 a A C h => by
    have := check_any twi a 2 A C w1 h
    rw [lk_twi] at this
    exact this
  go_enter Try.func9, Try.ntmps9
  have HB : Below w.heap.size w w := Below.refl _ _
  go_wp2_with (first
    | (go_at_call 30; (with_reducible refine (PA _).mono ?_); rintro e w1 ⟨a1, A1, C1, rfl, hS1, hB1⟩; replace HB := btr HB hB1)
    | (go_at_call 15; (with_reducible refine (HV _ _ _ _ (by assumption)).mono ?_); rintro e w2 ⟨rfl, hB2⟩; replace HB := btr HB hB2)
    | (go_at_call 25; (with_reducible refine (LY _ _ _ _ (by assumption)).mono ?_); rintro e w3 ⟨al, cl, rfl, hB3⟩; replace HB := btr HB hB3)
    | (go_at_call 20; (with_reducible refine (IV _ _ _ _ (by assumption)).mono ?_); rintro e w5 ⟨g5, c5, rfl, hc5, hg5, hB5⟩; replace HB := btr HB hB5)
    | (go_at_call 31; (with_reducible refine (GA _ _ _ _ _).mono ?_); rintro e w1 ⟨rfl, rfl⟩))
  refine (CT _ _ _ _ (two_ops (g1 := w5.heap.size + 1) (g2 := w5.heap.size + 1 + 1 + 1) ⟨#[104]⟩ ⟨#[99, 120]⟩ [0] [0, 0] ?_ ?_ (by decide) (by decide) ?_)).mono ?_
  · exact ((((bk_at _ _ (by simp)).alloc _).alloc _).alloc _).alloc _
  · exact ((bk_at _ _ (by simp)).alloc _).alloc _
  · exact bk_at _ _ (by simp)
  rintro e w6 ⟨rfl, hB6⟩
  replace HB := btr (bal (bal (bal (bal (bal (bal HB _) _) _) _) _) _) hB6
  have kb : BK w6 w5.heap.size _ 24 := (hB6.block _ (by simp; omega)).trans ((((((bk_new w5 _ 24).alloc _).alloc _).alloc _).alloc _).alloc _)
  have kc : ∀ j, w6.cell? ⟨w5.heap.size, j, none⟩ = _ := kb.cell
  have hc6 : w6.cell? ⟨g5, 1, none⟩ = some (.string ⟨#[99, 120]⟩) := (hB6.cell (p := ⟨g5, 1, none⟩) (by simp; omega)).trans (((bal (bal (bal (bal (bal (bal (Below.refl _ w5) _) _) _) _) _) _).cell (p := ⟨g5, 1, none⟩) hg5).trans hc5)
  clear hB6 kb
  go_wp2
  go_ret
  exact ⟨rfl, HB⟩
end Go.Proofs.Ytfaoegiignalkaa
