/-
  What the calls of root's wide numbers answer.
-/
import Derived.Test.YtalaacfoaelipaaDoorRows
import Derived.Test.YtalaacfoaelipaaDoorW0
import Derived.WalkKit
import Derived.BigQuiet
import Derived.Deep.QuietTactic
import Derived.Deep.RegionHeld3
import Derived.Lib.QuietBelow
import Derived.Laws.Externs
namespace Go.Proofs.YtalaacfoaelipaaDoor
open Go.RowKit Go.Sort

theorem ret_int {k : IntKind} {a b : Int} (h : a = b) : Ending.returned (.int k a) = .returned (.int k b) := by rw [h]
theorem bcell {W w1 : World} (hb : Below W.heap.size W w1) : (∀ b o, b < W.heap.size → w1.cell? ⟨b, o, none⟩ = W.cell? ⟨b, o, none⟩) ∧ (∀ b o, b < W.heap.size → w1.frozen? ⟨b, o, none⟩ = W.frozen? ⟨b, o, none⟩) :=
  ⟨fun b o h => hb.cell (p := ⟨b, o, none⟩) h, fun b o h => hb.frozen (p := ⟨b, o, none⟩) h⟩
theorem below_drewN {B : Nat} {a w : World} (h : Below B a w) (n : Nat) : Below B a (w.drewN n) := ⟨h.os, h.tape, h.output, h.size, h.block⟩
theorem below_drew {B : Nat} {a w : World} (h : Below B a w) : Below B a w.drew := ⟨h.os, h.tape, h.output, h.size, h.block⟩

theorem bal {a w : World} (h : Below a.heap.size a w) (o : Obj) : Below a.heap.size a (w.alloc o) := h.alloc h.size o
theorem btr {a w w1 : World} (h : Below a.heap.size a w) (g : Below w.heap.size w w1) : Below a.heap.size a w1 := h.trans (g.mono h.size)

/-- A wide number as a value. -/
abbrev wd (v : Int) : Value := .agg #[.int .u64 (hiW v), .int .u64 (loW v)]
theorem wd_eq {a b c d : Int} (h : a = c) (g : b = d) : Ending.returned (.agg #[.int .u64 a, .int .u64 b]) = .returned (.agg #[.int .u64 c, .int .u64 d]) := by rw [h, g]

theorem add64_law (x y c : Int) (hx : 0 ≤ x) (hy : 0 ≤ y) (hc0 : 0 ≤ c) (hc : c ≤ 1) (w : World) :
    (callFunc 69 #[.int .u64 x, .int .u64 y, .int .u64 c]).run Tryd.prog w =
      .ok (.value (.tuple #[.int .u64 ((x + y + c) % 18446744073709551616), .int .u64 ((x + y + c) / 18446744073709551616)])) w := by
  rw [run_callFunc_extern Tryd.func69 (by kernel_rfl) (by kernel_rfl) (by kernel_rfl) (e := add64Entry) (by kernel_rfl), run_add64 x y c hx hy hc0 hc]
  rfl
theorem add64_0 (x y : Int) (hx : 0 ≤ x) (hy : 0 ≤ y) (w : World) :
    (callFunc 69 #[.int .u64 x, .int .u64 y, .int .u64 0]).run Tryd.prog w =
      .ok (.value (.tuple #[.int .u64 ((x + y) % 18446744073709551616), .int .u64 ((x + y) / 18446744073709551616)])) w := by
  have := add64_law x y 0 hx hy (by omega) (by omega) w
  rwa [Int.add_zero] at this

def sub64E : Array Value → Sem Value := fun args => do
  let (x, y, b) ← Extern.MathBitsCarry.three "Sub64" args
  pure (Extern.MathBitsCarry.pair ((x + Extern.MathBitsCarry.m64 - y - b) % Extern.MathBitsCarry.m64) (if x < y + b then 1 else 0))
theorem run_sub64E {P : Program} (x y b : Nat) (hb : b ≤ 1) (w : World) :
    (sub64E #[.int .u64 x, .int .u64 y, .int .u64 b]).run P w =
      .ok (.tuple #[.int .u64 (((x + 18446744073709551616 - y - b) % 18446744073709551616 : Nat) : Int), .int .u64 ((if x < y + b then 1 else 0 : Nat) : Int)]) w := by
  have : b = 0 ∨ b = 1 := by omega
  rcases this with rfl | rfl <;> rfl
theorem sub64_law (y b : Int) (hy : 0 ≤ y) (hy1 : y < 18446744073709551616) (hb0 : 0 ≤ b) (hb : b ≤ 1) (w : World) :
    (callFunc 80 #[.int .u64 0, .int .u64 y, .int .u64 b]).run Tryd.prog w =
      .ok (.value (.tuple #[.int .u64 ((18446744073709551616 - y - b) % 18446744073709551616), .int .u64 (bor 0 (y + b))])) w := by
  obtain ⟨Y, rfl⟩ := Int.eq_ofNat_of_zero_le hy
  obtain ⟨B, rfl⟩ := Int.eq_ofNat_of_zero_le hb0
  have := run_sub64E (P := Tryd.prog) 0 Y B (by omega) w
  rw [run_callFunc_extern Tryd.func80 (by kernel_rfl) (by kernel_rfl) (by kernel_rfl) (e := sub64E) (by kernel_rfl)]
  have e0 : (0 : Int) = ((0 : Nat) : Int) := rfl
  have e1 : (((0 + 18446744073709551616 - Y - B) % 18446744073709551616 : Nat) : Int) = (18446744073709551616 - (Y : Int) - (B : Int)) % 18446744073709551616 := by omega
  have e2 : ((if 0 < Y + B then 1 else 0 : Nat) : Int) = bor ((0 : Nat) : Int) ((Y : Int) + (B : Int)) := by unfold bor; split <;> split <;> omega
  rw [e0, this, e1, e2]
  rfl
theorem sub64_0 (y : Int) (hy : 0 ≤ y) (hy1 : y < 18446744073709551616) (w : World) :
    (callFunc 80 #[.int .u64 0, .int .u64 y, .int .u64 0]).run Tryd.prog w =
      .ok (.value (.tuple #[.int .u64 ((18446744073709551616 - y) % 18446744073709551616), .int .u64 (bor 0 y)])) w := by
  have := sub64_law y 0 hy hy1 (by omega) (by omega) w
  rwa [Int.add_zero, Int.sub_zero] at this
theorem bor_b (x y : Int) : 0 ≤ bor x y ∧ bor x y ≤ 1 := by unfold bor; split <;> omega

theorem wideOf_any (n : Int) (w : World) (h0 : -9223372036854775808 ≤ n) (h1 : n ≤ 9223372036854775807) :
    Calls Tryd.prog 34 #[.int .i64 n] w fun e w' => e = .returned (wd n) ∧ Below w.heap.size w w' := by
  obtain ⟨m1, m2⟩ := m_of n h0 h1
  go_enter Tryd.func34, Tryd.ntmps34
  go_wp2
  exact bodyPost_ret (v := wd n) (by simp [results, Tryd.results34, go_sem]) rfl ⟨rfl, (Below.refl _ _).alloc (Nat.le_refl _) _⟩

set_option maxHeartbeats 400000 in
theorem plus_any (a b : Int) (w : World) :
    Calls Tryd.prog 46 #[wd a, wd b] w fun e w' => e = .returned (wd (a + b)) ∧ Below w.heap.size w w' := by
  obtain ⟨m1, m2⟩ := m_plus a b
  have l1 := loW_b a; have l2 := loW_b b; have l3 := hiW_b a; have l4 := hiW_b b
  have A0 := fun w => add64_0 (loW a) (loW b) l1.1 l2.1 w
  have A1 := fun w => add64_law (hiW a) (hiW b) ((loW a + loW b) / 18446744073709551616) l3.1 l4.1 (by omega) (by omega) w
  go_enter Tryd.func46, Tryd.ntmps46
  go_wp2
  exact bodyPost_ret (v := wd (a + b)) (by simp [results, Tryd.results46, go_sem]) rfl ⟨rfl, bal (bal (bal (Below.refl _ _) _) _) _⟩

set_option maxHeartbeats 400000 in
theorem negative_any (a : Int) (w : World) :
    Calls Tryd.prog 68 #[wd a] w fun e w' => e = .returned (wd (-a)) ∧ Below w.heap.size w w' := by
  obtain ⟨m1, m2⟩ := m_neg a
  have l1 := loW_b a; have l3 := hiW_b a; have bb := bor_b 0 (loW a)
  have A0 := fun w => sub64_0 (loW a) l1.1 l1.2 w
  have A1 := fun w => sub64_law (hiW a) (bor 0 (loW a)) l3.1 l3.2 bb.1 bb.2 w
  go_enter Tryd.func68, Tryd.ntmps68
  go_wp2
  exact bodyPost_ret (v := wd (-a)) (by simp [results, Tryd.results68, go_sem]) rfl ⟨rfl, bal (bal (Below.refl _ _) _) _⟩

set_option maxHeartbeats 400000 in
theorem up_any (a : Int) (n : Nat) (w : World) (hn : n ≤ 64) :
    Calls Tryd.prog 47 #[wd a, .int .i64 n] w fun e w' => e = .returned (wd (a * 2 ^ n)) ∧ Below w.heap.size w w' := by
  obtain ⟨m1, m2⟩ := m_up a n hn
  go_enter Tryd.func47, Tryd.ntmps47
  go_wp2
  go_region
  go_wp2
  exact bodyPost_ret (v := wd (a * 2 ^ n)) (by simp [results, Tryd.results47, go_sem]) rfl ⟨rfl, below_drew (bal (bal (Below.refl _ _) _) _)⟩

set_option maxHeartbeats 400000 in
theorem down_any (a : Int) (n : Nat) (w : World) (hn : n ≤ 64) (ha : In128 a) :
    Calls Tryd.prog 62 #[wd a, .int .i64 n] w fun e w' => e = .returned (wd (a / 2 ^ n)) ∧ Below w.heap.size w w' := by
  obtain ⟨m1, m2⟩ := m_down a n hn ha
  go_enter Tryd.func62, Tryd.ntmps62
  go_wp2
  go_region
  go_wp2
  exact bodyPost_ret (v := wd (a / 2 ^ n)) (by simp [results, Tryd.results62, go_sem]) rfl ⟨rfl, below_drew (bal (bal (Below.refl _ _) _) _)⟩

/-- The sign of a whole number. -/
def sgn (a : Int) : Int := if a < 0 then -1 else if a = 0 then 0 else 1
theorem sign_neg (a : Int) (w : World) (ha : In128 a) (h : a < 0) :
    Calls Tryd.prog 60 #[wd a] w fun e w' => e = .returned (.int .i64 (-1)) ∧ Below w.heap.size w w' := by
  have h1 : wrap64 (hiW a) < 0 := by unfold In128 at ha; unfold hiW wrap64; omega
  go_enter Tryd.func60, Tryd.ntmps60
  go_wp2
  go_ret
  exact ⟨rfl, bal (Below.refl _ _) _⟩
theorem or_zero (a b : Int) (ha : 0 ≤ a) (ha1 : a < 18446744073709551616) (hb : 0 ≤ b) (hb1 : b < 18446744073709551616) : bits .or .u64 a b = 0 ↔ a = 0 ∧ b = 0 := by
  obtain ⟨A, rfl⟩ := Int.eq_ofNat_of_zero_le ha
  obtain ⟨B, rfl⟩ := Int.eq_ofNat_of_zero_le hb
  rw [bits_or_u64_nat A B (by omega) (by omega)]
  have : A ||| B = 0 ↔ A = 0 ∧ B = 0 := Nat.or_eq_zero_iff
  omega
theorem sign_pos (a : Int) (w : World) (ha : In128 a) (h : 0 < a) :
    Calls Tryd.prog 60 #[wd a] w fun e w' => e = .returned (.int .i64 1) ∧ Below w.heap.size w w' := by
  have h1 : ¬ wrap64 (hiW a) < 0 := by unfold In128 at ha; unfold hiW wrap64; omega
  have h2 : ¬ bits .or .u64 (hiW a) (loW a) = 0 := by
    rw [or_zero _ _ (hiW_b a).1 (hiW_b a).2 (loW_b a).1 (loW_b a).2]
    unfold In128 at ha; unfold hiW loW; omega
  go_enter Tryd.func60, Tryd.ntmps60
  go_wp2
  go_ret
  exact ⟨rfl, bal (Below.refl _ _) _⟩
theorem sign_nil (w : World) :
    Calls Tryd.prog 60 #[wd 0] w fun e w' => e = .returned (.int .i64 0) ∧ Below w.heap.size w w' := by
  have h1 : hiW 0 = 0 := by decide
  have h2 : loW 0 = 0 := by decide
  unfold wd
  rw [h1, h2]
  go_enter Tryd.func60, Tryd.ntmps60
  go_wp2
  go_ret
  exact ⟨rfl, bal (Below.refl _ _) _⟩
theorem sign_any (a : Int) (w : World) (ha : In128 a) :
    Calls Tryd.prog 60 #[wd a] w fun e w' => e = .returned (.int .i64 (sgn a)) ∧ Below w.heap.size w w' := by
  unfold sgn
  by_cases h : a < 0
  · rw [if_pos h]; exact sign_neg a w ha h
  · rw [if_neg h]
    by_cases h0 : a = 0
    · subst h0; exact sign_nil w
    · rw [if_neg h0]; exact sign_pos a w ha (by omega)

end Go.Proofs.YtalaacfoaelipaaDoor
