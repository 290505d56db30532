/-
  Put together of: PM4 PP6.
-/
import Derived.Test.YtoddbaljnlhhaabXE
namespace Go.Proofs.Ytoddbaljnlhhaab.PL
open Go.RowKit

/-- Which of the four: 0 I, 1 X, 2 Y, 3 Z. -/
def atK (b c : Nat) : Nat := if b = 1 then (if c = 1 then 2 else 1) else if c = 1 then 3 else 0
def prodK (a b : Nat) : Nat := if a = 0 then b else if b = 0 then a else if a = b then 0 else 6 - a - b
def prodF (a b : Nat) : Nat := if a = 0 then 0 else if b = 0 then 0 else if a = b then 0 else if b = a % 3 + 1 then 1 else 3
theorem atK_le (b c : Nat) : atK b c ≤ 3 := by unfold atK; split <;> split <;> omega
theorem prodK_le {a b : Nat} (ha : a ≤ 3) (hb : b ≤ 3) : prodK a b ≤ 3 := by unfold prodK; repeat (first | omega | split)
theorem prodF_le (a b : Nat) : prodF a b ≤ 3 := by unfold prodF; repeat (first | omega | split)
theorem mod_one {y j : Nat} (h : bt y j = 1) : (y % 2 ^ j) ||| 2 ^ j = y % 2 ^ (j + 1) := ext_bt fun i => by
  rw [bt_or, bt_modp, bt_modp, bt_pow]
  by_cases e : i = j
  · subst e; simp [h]
  · by_cases l : i < j
    · simp [l, e, show i < j + 1 by omega]
    · simp [l, e, show ¬ i < j + 1 by omega]
theorem mod_nil {y j : Nat} (h : bt y j = 0) : y % 2 ^ j = y % 2 ^ (j + 1) := ext_bt fun i => by
  rw [bt_modp, bt_modp]
  by_cases e : i = j
  · subst e; simp [h]
  · by_cases l : i < j
    · simp [l, show i < j + 1 by omega]
    · simp [l, show ¬ i < j + 1 by omega]
theorem key : ∀ a b c d : Fin 2, ((prodK (atK a b) (atK c d) = 1 ∨ prodK (atK a b) (atK c d) = 2) ↔ (a.val + c.val) % 2 = 1) ∧ ((prodK (atK a b) (atK c d) = 2 ∨ prodK (atK a b) (atK c d) = 3) ↔ (b.val + d.val) % 2 = 1) ∧
    prodF (atK a b) (atK c d) % 4 = (a.val * b.val + c.val * d.val + 2 * (b.val * c.val) + 3 * (((a.val + c.val) % 2) * ((b.val + d.val) % 2))) % 4 := by decide
theorem bt2 (x j : Nat) : bt x j < 2 := by have := bt_le x j; omega
theorem setX_step (x z x' z' j : Nat) : setX ((x ^^^ x') % 2 ^ j) j (prodK (atK (bt x j) (bt z j)) (atK (bt x' j) (bt z' j))) = (x ^^^ x') % 2 ^ (j + 1) := by
  have h := (key ⟨bt x j, bt2 x j⟩ ⟨bt z j, bt2 z j⟩ ⟨bt x' j, bt2 x' j⟩ ⟨bt z' j, bt2 z' j⟩).1
  have e := bt_xor x x' j
  simp only at h
  unfold setX
  by_cases g : prodK (atK (bt x j) (bt z j)) (atK (bt x' j) (bt z' j)) = 1 ∨ prodK (atK (bt x j) (bt z j)) (atK (bt x' j) (bt z' j)) = 2
  · rw [if_pos g]; exact mod_one (e.trans (h.1 g))
  · rw [if_neg g]; exact mod_nil (by have : ¬ (bt x j + bt x' j) % 2 = 1 := fun k => g (h.2 k); omega)
theorem setZ_step (x z x' z' j : Nat) : setZ ((z ^^^ z') % 2 ^ j) j (prodK (atK (bt x j) (bt z j)) (atK (bt x' j) (bt z' j))) = (z ^^^ z') % 2 ^ (j + 1) := by
  have h := (key ⟨bt x j, bt2 x j⟩ ⟨bt z j, bt2 z j⟩ ⟨bt x' j, bt2 x' j⟩ ⟨bt z' j, bt2 z' j⟩).2.1
  have e := bt_xor z z' j
  simp only at h
  unfold setZ
  by_cases g : prodK (atK (bt x j) (bt z j)) (atK (bt x' j) (bt z' j)) = 2 ∨ prodK (atK (bt x j) (bt z j)) (atK (bt x' j) (bt z' j)) = 3
  · rw [if_pos g]; exact mod_one (e.trans (h.1 g))
  · rw [if_neg g]; exact mod_nil (by have : ¬ (bt z j + bt z' j) % 2 = 1 := fun k => g (h.2 k); omega)
/-- The phases of the lowest qubits' products together. -/
def phs (x z x' z' : Nat) : Nat → Nat
  | 0 => 0
  | j + 1 => phs x z x' z' j + prodF (atK (bt x j) (bt z j)) (atK (bt x' j) (bt z' j))
theorem phs_le (x z x' z' j : Nat) : phs x z x' z' j ≤ 3 * j := by
  induction j with
  | zero => simp [phs]
  | succ j ih => have := prodF_le (atK (bt x j) (bt z j)) (atK (bt x' j) (bt z' j)); simp only [phs]; omega
theorem phs_is (x z x' z' j : Nat) : phs x z x' z' j % 4 = (pop j (x &&& z) + pop j (x' &&& z') + 2 * pop j (z &&& x') + 3 * pop j ((x ^^^ x') &&& (z ^^^ z'))) % 4 := by
  induction j with
  | zero => rfl
  | succ j ih =>
    have h := (key ⟨bt x j, bt2 x j⟩ ⟨bt z j, bt2 z j⟩ ⟨bt x' j, bt2 x' j⟩ ⟨bt z' j, bt2 z' j⟩).2.2
    simp only at h
    simp only [phs, pop]
    rw [bt_and, bt_and, bt_and, bt_and, bt_xor, bt_xor]
    generalize prodF (atK (bt x j) (bt z j)) (atK (bt x' j) (bt z' j)) = P at *
    generalize bt x j * bt z j = A at *
    generalize bt x' j * bt z' j = B at *
    generalize bt z j * bt x' j = C at *
    generalize (bt x j + bt x' j) % 2 * ((bt z j + bt z' j) % 2) = D at *
    omega
theorem phs_mul {x z x' z' n : Nat} (f f' : Nat) (hx : x < 2 ^ n) (hz : z < 2 ^ n) (hx' : x' < 2 ^ n) (hn : n ≤ 64) :
    (f + f' + phs x z x' z' n) % 4 = mulF x z f x' z' f' := by
  have h := phs_is x z x' z' n
  have a1 : x &&& z < 2 ^ n := Nat.lt_of_le_of_lt Nat.and_le_left hx
  have a2 : x' &&& z' < 2 ^ n := Nat.lt_of_le_of_lt Nat.and_le_left hx'
  have a3 : z &&& x' < 2 ^ n := Nat.lt_of_le_of_lt Nat.and_le_left hz
  have a4 : (x ^^^ x') &&& (z ^^^ z') < 2 ^ n := Nat.lt_of_le_of_lt Nat.and_le_left (xor_ltn hx hx')
  rw [← pop_up a1 64 hn, ← pop_up a2 64 hn, ← pop_up a3 64 hn, ← pop_up a4 64 hn] at h
  unfold mulF
  omega
theorem atK_nil (x z j : Nat) : atK (bt x j) (bt z j) = 0 ↔ bt (x ||| z) j = 0 := by
  rw [bt_or]
  unfold atK
  rcases bt01 x j with e | e <;> rcases bt01 z j with g | g <;> rw [e, g] <;> decide
end Go.Proofs.Ytoddbaljnlhhaab.PL
namespace Go.Proofs.Ytoddbaljnlhhaab.PL
open Go.RowKit Go.Sort

/-- Block B's cells hold that string. -/
abbrev C4 (W : World) (B : Nat) (n : Int) (x z : Nat) (f : Int) : Prop :=
  W.cell? ⟨B, 0, none⟩ = some (.int .i64 n) ∧ W.cell? ⟨B, 1, none⟩ = some (.int .u64 (x : Int)) ∧ W.cell? ⟨B, 2, none⟩ = some (.int .u64 (z : Int)) ∧ W.cell? ⟨B, 3, none⟩ = some (.int .i64 f)
theorem PB.c4 {W : World} {B : Nat} {n : Int} {x z : Nat} {f : Int} (h : PB W B n x z f) : C4 W B n x z f := ⟨h.c0, h.c1, h.c2, h.c3⟩
theorem C4.lt {W : World} {B : Nat} {n : Int} {x z : Nat} {f : Int} (h : C4 W B n x z f) : B < W.heap.size := block_lt_of_cell h.1
theorem C4.below {W W' : World} {B : Nat} {n : Int} {x z : Nat} {f : Int} (h : C4 W B n x z f) (hb : Below W.heap.size W W') : C4 W' B n x z f := by
  obtain ⟨hc, hf⟩ := bcell hb
  have hl := C4.lt h
  exact ⟨(hc _ _ hl).trans h.1, (hc _ _ hl).trans h.2.1, (hc _ _ hl).trans h.2.2.1, (hc _ _ hl).trans h.2.2.2⟩
theorem C4.alloc {W : World} {B : Nat} {n : Int} {x z : Nat} {f : Int} (h : C4 W B n x z f) (o : Obj) : C4 (W.alloc o) B n x z f := C4.below h (bal (Below.refl _ _) _)
abbrev Cal (f : Nat) (args : Array Value) (v : PS) (e : Int) : Prop := ∀ w, Calls Try.prog f args w fun r w' => r = .returned (.tuple #[pv v.n v.x v.z v.f, .int .i64 e]) ∧ Below w.heap.size w w'
abbrev Chk (f : Nat) (v : PS) : Prop := ∀ w, Calls Try.prog f #[pv v.n v.x v.z v.f] w fun r w' => r = .returned (.int .i64 0) ∧ Below w.heap.size w w'
theorem keep4 {V W W' : World} {A B C D : Nat} {n : Int} {x z : Nat} {f : Int} {n' : Int} {x' z' : Nat} {f' : Int} {n2 : Int} {x2 z2 : Nat} {f2 : Int} {n3 : Int} {x3 z3 : Nat} {f3 : Int}
    (h : Below V.heap.size V W ∧ C4 W A n x z f ∧ C4 W B n' x' z' f' ∧ C4 W C n2 x2 z2 f2 ∧ C4 W D n3 x3 z3 f3) (hN : Below W.heap.size W W') :
    Below V.heap.size V W' ∧ C4 W' A n x z f ∧ C4 W' B n' x' z' f' ∧ C4 W' C n2 x2 z2 f2 ∧ C4 W' D n3 x3 z3 f3 :=
  ⟨btr h.1 hN, C4.below h.2.1 hN, C4.below h.2.2.1 hN, C4.below h.2.2.2.1 hN, C4.below h.2.2.2.2 hN⟩

end Go.Proofs.Ytoddbaljnlhhaab.PL
