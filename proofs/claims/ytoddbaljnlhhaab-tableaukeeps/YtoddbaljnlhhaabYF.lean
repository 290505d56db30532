/-
  Put together of: JL JN.
-/
import Derived.Test.YtoddbaljnlhhaabXX
import Derived.Test.YtoddbaljnlhhaabYE
namespace Go.Proofs.Ytoddbaljnlhhaab
open Go.RowKit Go.Sort
open PL (pv PS bt cgk cgT)

/-- The letter and the phase that plain tells: of X, of Z. -/
def plL : List ((Nat × Nat) × (Nat × Nat)) := [((88, 0), (90, 0)), ((88, 0), (90, 0)), ((88, 0), (90, 0)), ((88, 0), (90, 2)), ((88, 2), (90, 2)), ((88, 2), (90, 0)), ((90, 0), (88, 0)), ((89, 0), (90, 0)), ((89, 2), (90, 0)), ((88, 0), (89, 2)), ((88, 0), (89, 0))]
def plA (i : Nat) (x : Bool) : Nat × Nat := if x = true then (plL.getD i ((0, 0), (0, 0))).1 else (plL.getD i ((0, 0), (0, 0))).2
theorem rpl_0_true (w : World) : Calls Try.prog 63 #[.string ⟨#[105]⟩, .bool true] w fun e w' => e = .returned (.tuple #[.int .u8 88, .int .i64 0]) ∧ w' = w := by
  go_enter Try.func63, Try.ntmps63
  go_wp2
  exact bodyPost_ret (v := .tuple #[.int .u8 88, .int .i64 0]) (by simp [results, Try.results63, go_sem]) rfl ⟨rfl, rfl⟩
theorem rpl_0_false (w : World) : Calls Try.prog 63 #[.string ⟨#[105]⟩, .bool false] w fun e w' => e = .returned (.tuple #[.int .u8 90, .int .i64 0]) ∧ w' = w := by
  go_enter Try.func63, Try.ntmps63
  go_wp2
  exact bodyPost_ret (v := .tuple #[.int .u8 90, .int .i64 0]) (by simp [results, Try.results63, go_sem]) rfl ⟨rfl, rfl⟩
theorem rpl_1_true (w : World) : Calls Try.prog 63 #[.string ⟨#[119]⟩, .bool true] w fun e w' => e = .returned (.tuple #[.int .u8 88, .int .i64 0]) ∧ w' = w := by
  go_enter Try.func63, Try.ntmps63
  go_wp2
  exact bodyPost_ret (v := .tuple #[.int .u8 88, .int .i64 0]) (by simp [results, Try.results63, go_sem]) rfl ⟨rfl, rfl⟩
theorem rpl_1_false (w : World) : Calls Try.prog 63 #[.string ⟨#[119]⟩, .bool false] w fun e w' => e = .returned (.tuple #[.int .u8 90, .int .i64 0]) ∧ w' = w := by
  go_enter Try.func63, Try.ntmps63
  go_wp2
  exact bodyPost_ret (v := .tuple #[.int .u8 90, .int .i64 0]) (by simp [results, Try.results63, go_sem]) rfl ⟨rfl, rfl⟩
theorem rpl_2_true (w : World) : Calls Try.prog 63 #[.string ⟨#[119, 100, 103]⟩, .bool true] w fun e w' => e = .returned (.tuple #[.int .u8 88, .int .i64 0]) ∧ w' = w := by
  go_enter Try.func63, Try.ntmps63
  go_wp2
  exact bodyPost_ret (v := .tuple #[.int .u8 88, .int .i64 0]) (by simp [results, Try.results63, go_sem]) rfl ⟨rfl, rfl⟩
theorem rpl_2_false (w : World) : Calls Try.prog 63 #[.string ⟨#[119, 100, 103]⟩, .bool false] w fun e w' => e = .returned (.tuple #[.int .u8 90, .int .i64 0]) ∧ w' = w := by
  go_enter Try.func63, Try.ntmps63
  go_wp2
  exact bodyPost_ret (v := .tuple #[.int .u8 90, .int .i64 0]) (by simp [results, Try.results63, go_sem]) rfl ⟨rfl, rfl⟩
theorem rpl_3_true (w : World) : Calls Try.prog 63 #[.string ⟨#[120]⟩, .bool true] w fun e w' => e = .returned (.tuple #[.int .u8 88, .int .i64 0]) ∧ w' = w := by
  go_enter Try.func63, Try.ntmps63
  go_wp2
  exact bodyPost_ret (v := .tuple #[.int .u8 88, .int .i64 0]) (by simp [results, Try.results63, go_sem]) rfl ⟨rfl, rfl⟩
theorem rpl_3_false (w : World) : Calls Try.prog 63 #[.string ⟨#[120]⟩, .bool false] w fun e w' => e = .returned (.tuple #[.int .u8 90, .int .i64 2]) ∧ w' = w := by
  go_enter Try.func63, Try.ntmps63
  go_wp2
  exact bodyPost_ret (v := .tuple #[.int .u8 90, .int .i64 2]) (by simp [results, Try.results63, go_sem]) rfl ⟨rfl, rfl⟩
theorem rpl_4_true (w : World) : Calls Try.prog 63 #[.string ⟨#[121]⟩, .bool true] w fun e w' => e = .returned (.tuple #[.int .u8 88, .int .i64 2]) ∧ w' = w := by
  go_enter Try.func63, Try.ntmps63
  go_wp2
  exact bodyPost_ret (v := .tuple #[.int .u8 88, .int .i64 2]) (by simp [results, Try.results63, go_sem]) rfl ⟨rfl, rfl⟩
theorem rpl_4_false (w : World) : Calls Try.prog 63 #[.string ⟨#[121]⟩, .bool false] w fun e w' => e = .returned (.tuple #[.int .u8 90, .int .i64 2]) ∧ w' = w := by
  go_enter Try.func63, Try.ntmps63
  go_wp2
  exact bodyPost_ret (v := .tuple #[.int .u8 90, .int .i64 2]) (by simp [results, Try.results63, go_sem]) rfl ⟨rfl, rfl⟩
theorem rpl_5_true (w : World) : Calls Try.prog 63 #[.string ⟨#[122]⟩, .bool true] w fun e w' => e = .returned (.tuple #[.int .u8 88, .int .i64 2]) ∧ w' = w := by
  go_enter Try.func63, Try.ntmps63
  go_wp2
  exact bodyPost_ret (v := .tuple #[.int .u8 88, .int .i64 2]) (by simp [results, Try.results63, go_sem]) rfl ⟨rfl, rfl⟩
theorem rpl_5_false (w : World) : Calls Try.prog 63 #[.string ⟨#[122]⟩, .bool false] w fun e w' => e = .returned (.tuple #[.int .u8 90, .int .i64 0]) ∧ w' = w := by
  go_enter Try.func63, Try.ntmps63
  go_wp2
  exact bodyPost_ret (v := .tuple #[.int .u8 90, .int .i64 0]) (by simp [results, Try.results63, go_sem]) rfl ⟨rfl, rfl⟩
theorem rpl_6_true (w : World) : Calls Try.prog 63 #[.string ⟨#[104]⟩, .bool true] w fun e w' => e = .returned (.tuple #[.int .u8 90, .int .i64 0]) ∧ w' = w := by
  go_enter Try.func63, Try.ntmps63
  go_wp2
  exact bodyPost_ret (v := .tuple #[.int .u8 90, .int .i64 0]) (by simp [results, Try.results63, go_sem]) rfl ⟨rfl, rfl⟩
theorem rpl_6_false (w : World) : Calls Try.prog 63 #[.string ⟨#[104]⟩, .bool false] w fun e w' => e = .returned (.tuple #[.int .u8 88, .int .i64 0]) ∧ w' = w := by
  go_enter Try.func63, Try.ntmps63
  go_wp2
  exact bodyPost_ret (v := .tuple #[.int .u8 88, .int .i64 0]) (by simp [results, Try.results63, go_sem]) rfl ⟨rfl, rfl⟩
theorem rpl_7_true (w : World) : Calls Try.prog 63 #[.string ⟨#[115]⟩, .bool true] w fun e w' => e = .returned (.tuple #[.int .u8 89, .int .i64 0]) ∧ w' = w := by
  go_enter Try.func63, Try.ntmps63
  go_wp2
  exact bodyPost_ret (v := .tuple #[.int .u8 89, .int .i64 0]) (by simp [results, Try.results63, go_sem]) rfl ⟨rfl, rfl⟩
theorem rpl_7_false (w : World) : Calls Try.prog 63 #[.string ⟨#[115]⟩, .bool false] w fun e w' => e = .returned (.tuple #[.int .u8 90, .int .i64 0]) ∧ w' = w := by
  go_enter Try.func63, Try.ntmps63
  go_wp2
  exact bodyPost_ret (v := .tuple #[.int .u8 90, .int .i64 0]) (by simp [results, Try.results63, go_sem]) rfl ⟨rfl, rfl⟩
theorem rpl_8_true (w : World) : Calls Try.prog 63 #[.string ⟨#[115, 100, 103]⟩, .bool true] w fun e w' => e = .returned (.tuple #[.int .u8 89, .int .i64 2]) ∧ w' = w := by
  go_enter Try.func63, Try.ntmps63
  go_wp2
  exact bodyPost_ret (v := .tuple #[.int .u8 89, .int .i64 2]) (by simp [results, Try.results63, go_sem]) rfl ⟨rfl, rfl⟩
theorem rpl_8_false (w : World) : Calls Try.prog 63 #[.string ⟨#[115, 100, 103]⟩, .bool false] w fun e w' => e = .returned (.tuple #[.int .u8 90, .int .i64 0]) ∧ w' = w := by
  go_enter Try.func63, Try.ntmps63
  go_wp2
  exact bodyPost_ret (v := .tuple #[.int .u8 90, .int .i64 0]) (by simp [results, Try.results63, go_sem]) rfl ⟨rfl, rfl⟩
theorem rpl_9_true (w : World) : Calls Try.prog 63 #[.string ⟨#[118]⟩, .bool true] w fun e w' => e = .returned (.tuple #[.int .u8 88, .int .i64 0]) ∧ w' = w := by
  go_enter Try.func63, Try.ntmps63
  go_wp2
  exact bodyPost_ret (v := .tuple #[.int .u8 88, .int .i64 0]) (by simp [results, Try.results63, go_sem]) rfl ⟨rfl, rfl⟩
theorem rpl_9_false (w : World) : Calls Try.prog 63 #[.string ⟨#[118]⟩, .bool false] w fun e w' => e = .returned (.tuple #[.int .u8 89, .int .i64 2]) ∧ w' = w := by
  go_enter Try.func63, Try.ntmps63
  go_wp2
  exact bodyPost_ret (v := .tuple #[.int .u8 89, .int .i64 2]) (by simp [results, Try.results63, go_sem]) rfl ⟨rfl, rfl⟩
theorem rpl_10_true (w : World) : Calls Try.prog 63 #[.string ⟨#[118, 100, 103]⟩, .bool true] w fun e w' => e = .returned (.tuple #[.int .u8 88, .int .i64 0]) ∧ w' = w := by
  go_enter Try.func63, Try.ntmps63
  go_wp2
  exact bodyPost_ret (v := .tuple #[.int .u8 88, .int .i64 0]) (by simp [results, Try.results63, go_sem]) rfl ⟨rfl, rfl⟩
theorem rpl_10_false (w : World) : Calls Try.prog 63 #[.string ⟨#[118, 100, 103]⟩, .bool false] w fun e w' => e = .returned (.tuple #[.int .u8 89, .int .i64 0]) ∧ w' = w := by
  go_enter Try.func63, Try.ntmps63
  go_wp2
  exact bodyPost_ret (v := .tuple #[.int .u8 89, .int .i64 0]) (by simp [results, Try.results63, go_sem]) rfl ⟨rfl, rfl⟩
theorem rplain_any (i : Nat) (hi : i < 11) (x : Bool) (w : World) : Calls Try.prog 63 #[.string (cgN i), .bool x] w fun e w' => e = .returned (.tuple #[.int .u8 ((plA i x).1 : Int), .int .i64 ((plA i x).2 : Int)]) ∧ w' = w := by
  rcases (show i = 0 ∨ i = 1 ∨ i = 2 ∨ i = 3 ∨ i = 4 ∨ i = 5 ∨ i = 6 ∨ i = 7 ∨ i = 8 ∨ i = 9 ∨ i = 10 by omega) with rfl | rfl | rfl | rfl | rfl | rfl | rfl | rfl | rfl | rfl | rfl
  · cases x
    · exact rpl_0_false w
    · exact rpl_0_true w
  · cases x
    · exact rpl_1_false w
    · exact rpl_1_true w
  · cases x
    · exact rpl_2_false w
    · exact rpl_2_true w
  · cases x
    · exact rpl_3_false w
    · exact rpl_3_true w
  · cases x
    · exact rpl_4_false w
    · exact rpl_4_true w
  · cases x
    · exact rpl_5_false w
    · exact rpl_5_true w
  · cases x
    · exact rpl_6_false w
    · exact rpl_6_true w
  · cases x
    · exact rpl_7_false w
    · exact rpl_7_true w
  · cases x
    · exact rpl_8_false w
    · exact rpl_8_true w
  · cases x
    · exact rpl_9_false w
    · exact rpl_9_true w
  · cases x
    · exact rpl_10_false w
    · exact rpl_10_true w
/-- The gates of which a gate is made, and on which of its qubits: 0 the first, 1 the second, 2 both, 3 both the other way round. -/
def prG : Nat → List Nat
  | 12 => [8, 11, 7]
  | 15 => [7, 7, 6, 11, 11, 6]
  | 16 => [6, 11, 11, 6, 8, 8]
  | _ => []
def prQ : Nat → List Nat
  | 12 => [1, 2, 1]
  | 15 => [0, 1, 0, 2, 3, 1]
  | 16 => [1, 3, 2, 0, 1, 0]
  | _ => []
/-- Names and numbers in memory. -/
structure PRT (W : World) (b b' : Nat) (i : Nat) : Prop where
  nm : ∀ j, j < (prG i).length → W.cell? ⟨b, j, none⟩ = some (.string (cgN ((prG i).getD j 0)))
  nu : ∀ j, j < (prG i).length → W.cell? ⟨b', j, none⟩ = some (.int .i64 ((prQ i).getD j 0 : Nat))
  lt : b < W.heap.size
  lt' : b' < W.heap.size
theorem PRT.on {W W' : World} {b b' i : Nat} (h : PRT W b b' i) (hb : Below W.heap.size W W') : PRT W' b b' i :=
  ⟨fun j hj => (hb.cell (p := ⟨b, j, none⟩) h.lt).trans (h.nm j hj), fun j hj => (hb.cell (p := ⟨b', j, none⟩) h.lt').trans (h.nu j hj), Nat.lt_of_lt_of_le h.lt hb.size, Nat.lt_of_lt_of_le h.lt' hb.size⟩
set_option maxRecDepth 100000 in
theorem rparts_12 (w : World) : Calls Try.prog 39 #[.string ⟨#[99, 121]⟩] w fun e w' => e = .returned (.tuple #[.slice (some ⟨w.heap.size, 0, none⟩) 3 3, .slice (some ⟨w.heap.size + 1, 0, none⟩) 3 3]) ∧ Below w.heap.size w w' ∧ PRT w' w.heap.size (w.heap.size + 1) 12 := by
  have k1 := (bk_new w #[.string ⟨#[115, 100, 103]⟩, .string ⟨#[99, 120]⟩, .string ⟨#[115]⟩] 9).alloc (.cells #[.int .i64 1, .int .i64 2, .int .i64 1] 3)
  have k2 := bk_new (w.alloc (.cells #[.string ⟨#[115, 100, 103]⟩, .string ⟨#[99, 120]⟩, .string ⟨#[115]⟩] 9)) #[.int .i64 1, .int .i64 2, .int .i64 1] 3
  rw [PL.alz] at k2
  have hB := bal (bal (Below.refl w.heap.size w) (.cells #[.string ⟨#[115, 100, 103]⟩, .string ⟨#[99, 120]⟩, .string ⟨#[115]⟩] 9)) (.cells #[.int .i64 1, .int .i64 2, .int .i64 1] 3)
  have hP : PRT ((w.alloc (.cells #[.string ⟨#[115, 100, 103]⟩, .string ⟨#[99, 120]⟩, .string ⟨#[115]⟩] 9)).alloc (.cells #[.int .i64 1, .int .i64 2, .int .i64 1] 3)) w.heap.size (w.heap.size + 1) 12 := ⟨fun j hj => by
      rw [k1.cell]
      have hj : j < 3 := hj
      rcases (show j = 0 ∨ j = 1 ∨ j = 2 by omega) with rfl | rfl | rfl <;> rfl, fun j hj => by
      rw [k2.cell]
      have hj : j < 3 := hj
      rcases (show j = 0 ∨ j = 1 ∨ j = 2 by omega) with rfl | rfl | rfl <;> rfl, k1.lt, k2.lt⟩
  go_enter Try.func39, Try.ntmps39
  go_wp2
  exact bodyPost_ret (v := .tuple #[.slice (some ⟨w.heap.size, 0, none⟩) 3 3, .slice (some ⟨w.heap.size + 1, 0, none⟩) 3 3]) (by simp [results, Try.results39, go_sem]) rfl ⟨rfl, hB, hP⟩
set_option maxRecDepth 100000 in
theorem rparts_15 (w : World) : Calls Try.prog 39 #[.string ⟨#[105, 115, 119, 97, 112]⟩] w fun e w' => e = .returned (.tuple #[.slice (some ⟨w.heap.size, 0, none⟩) 6 6, .slice (some ⟨w.heap.size + 1, 0, none⟩) 6 6]) ∧ Below w.heap.size w w' ∧ PRT w' w.heap.size (w.heap.size + 1) 15 := by
  have k1 := (bk_new w #[.string ⟨#[115]⟩, .string ⟨#[115]⟩, .string ⟨#[104]⟩, .string ⟨#[99, 120]⟩, .string ⟨#[99, 120]⟩, .string ⟨#[104]⟩] 9).alloc (.cells #[.int .i64 0, .int .i64 1, .int .i64 0, .int .i64 2, .int .i64 3, .int .i64 1] 3)
  have k2 := bk_new (w.alloc (.cells #[.string ⟨#[115]⟩, .string ⟨#[115]⟩, .string ⟨#[104]⟩, .string ⟨#[99, 120]⟩, .string ⟨#[99, 120]⟩, .string ⟨#[104]⟩] 9)) #[.int .i64 0, .int .i64 1, .int .i64 0, .int .i64 2, .int .i64 3, .int .i64 1] 3
  rw [PL.alz] at k2
  have hB := bal (bal (Below.refl w.heap.size w) (.cells #[.string ⟨#[115]⟩, .string ⟨#[115]⟩, .string ⟨#[104]⟩, .string ⟨#[99, 120]⟩, .string ⟨#[99, 120]⟩, .string ⟨#[104]⟩] 9)) (.cells #[.int .i64 0, .int .i64 1, .int .i64 0, .int .i64 2, .int .i64 3, .int .i64 1] 3)
  have hP : PRT ((w.alloc (.cells #[.string ⟨#[115]⟩, .string ⟨#[115]⟩, .string ⟨#[104]⟩, .string ⟨#[99, 120]⟩, .string ⟨#[99, 120]⟩, .string ⟨#[104]⟩] 9)).alloc (.cells #[.int .i64 0, .int .i64 1, .int .i64 0, .int .i64 2, .int .i64 3, .int .i64 1] 3)) w.heap.size (w.heap.size + 1) 15 := ⟨fun j hj => by
      rw [k1.cell]
      have hj : j < 6 := hj
      rcases (show j = 0 ∨ j = 1 ∨ j = 2 ∨ j = 3 ∨ j = 4 ∨ j = 5 by omega) with rfl | rfl | rfl | rfl | rfl | rfl <;> rfl, fun j hj => by
      rw [k2.cell]
      have hj : j < 6 := hj
      rcases (show j = 0 ∨ j = 1 ∨ j = 2 ∨ j = 3 ∨ j = 4 ∨ j = 5 by omega) with rfl | rfl | rfl | rfl | rfl | rfl <;> rfl, k1.lt, k2.lt⟩
  go_enter Try.func39, Try.ntmps39
  go_wp2
  exact bodyPost_ret (v := .tuple #[.slice (some ⟨w.heap.size, 0, none⟩) 6 6, .slice (some ⟨w.heap.size + 1, 0, none⟩) 6 6]) (by simp [results, Try.results39, go_sem]) rfl ⟨rfl, hB, hP⟩
set_option maxRecDepth 100000 in
theorem rparts_16 (w : World) : Calls Try.prog 39 #[.string ⟨#[105, 115, 119, 97, 112, 100, 103]⟩] w fun e w' => e = .returned (.tuple #[.slice (some ⟨w.heap.size, 0, none⟩) 6 6, .slice (some ⟨w.heap.size + 1, 0, none⟩) 6 6]) ∧ Below w.heap.size w w' ∧ PRT w' w.heap.size (w.heap.size + 1) 16 := by
  have k1 := (bk_new w #[.string ⟨#[104]⟩, .string ⟨#[99, 120]⟩, .string ⟨#[99, 120]⟩, .string ⟨#[104]⟩, .string ⟨#[115, 100, 103]⟩, .string ⟨#[115, 100, 103]⟩] 9).alloc (.cells #[.int .i64 1, .int .i64 3, .int .i64 2, .int .i64 0, .int .i64 1, .int .i64 0] 3)
  have k2 := bk_new (w.alloc (.cells #[.string ⟨#[104]⟩, .string ⟨#[99, 120]⟩, .string ⟨#[99, 120]⟩, .string ⟨#[104]⟩, .string ⟨#[115, 100, 103]⟩, .string ⟨#[115, 100, 103]⟩] 9)) #[.int .i64 1, .int .i64 3, .int .i64 2, .int .i64 0, .int .i64 1, .int .i64 0] 3
  rw [PL.alz] at k2
  have hB := bal (bal (Below.refl w.heap.size w) (.cells #[.string ⟨#[104]⟩, .string ⟨#[99, 120]⟩, .string ⟨#[99, 120]⟩, .string ⟨#[104]⟩, .string ⟨#[115, 100, 103]⟩, .string ⟨#[115, 100, 103]⟩] 9)) (.cells #[.int .i64 1, .int .i64 3, .int .i64 2, .int .i64 0, .int .i64 1, .int .i64 0] 3)
  have hP : PRT ((w.alloc (.cells #[.string ⟨#[104]⟩, .string ⟨#[99, 120]⟩, .string ⟨#[99, 120]⟩, .string ⟨#[104]⟩, .string ⟨#[115, 100, 103]⟩, .string ⟨#[115, 100, 103]⟩] 9)).alloc (.cells #[.int .i64 1, .int .i64 3, .int .i64 2, .int .i64 0, .int .i64 1, .int .i64 0] 3)) w.heap.size (w.heap.size + 1) 16 := ⟨fun j hj => by
      rw [k1.cell]
      have hj : j < 6 := hj
      rcases (show j = 0 ∨ j = 1 ∨ j = 2 ∨ j = 3 ∨ j = 4 ∨ j = 5 by omega) with rfl | rfl | rfl | rfl | rfl | rfl <;> rfl, fun j hj => by
      rw [k2.cell]
      have hj : j < 6 := hj
      rcases (show j = 0 ∨ j = 1 ∨ j = 2 ∨ j = 3 ∨ j = 4 ∨ j = 5 by omega) with rfl | rfl | rfl | rfl | rfl | rfl <;> rfl, k1.lt, k2.lt⟩
  go_enter Try.func39, Try.ntmps39
  go_wp2
  exact bodyPost_ret (v := .tuple #[.slice (some ⟨w.heap.size, 0, none⟩) 6 6, .slice (some ⟨w.heap.size + 1, 0, none⟩) 6 6]) (by simp [results, Try.results39, go_sem]) rfl ⟨rfl, hB, hP⟩
theorem rparts_0 (w : World) : Calls Try.prog 39 #[.string ⟨#[105]⟩] w fun e w' => e = .returned (.tuple #[.slice none 0 0, .slice none 0 0]) ∧ w' = w := by
  go_enter Try.func39, Try.ntmps39
  go_wp2
  exact bodyPost_ret (v := .tuple #[.slice none 0 0, .slice none 0 0]) (by simp [results, Try.results39, go_sem]) rfl ⟨rfl, rfl⟩
theorem rparts_1 (w : World) : Calls Try.prog 39 #[.string ⟨#[119]⟩] w fun e w' => e = .returned (.tuple #[.slice none 0 0, .slice none 0 0]) ∧ w' = w := by
  go_enter Try.func39, Try.ntmps39
  go_wp2
  exact bodyPost_ret (v := .tuple #[.slice none 0 0, .slice none 0 0]) (by simp [results, Try.results39, go_sem]) rfl ⟨rfl, rfl⟩
theorem rparts_2 (w : World) : Calls Try.prog 39 #[.string ⟨#[119, 100, 103]⟩] w fun e w' => e = .returned (.tuple #[.slice none 0 0, .slice none 0 0]) ∧ w' = w := by
  go_enter Try.func39, Try.ntmps39
  go_wp2
  exact bodyPost_ret (v := .tuple #[.slice none 0 0, .slice none 0 0]) (by simp [results, Try.results39, go_sem]) rfl ⟨rfl, rfl⟩
theorem rparts_3 (w : World) : Calls Try.prog 39 #[.string ⟨#[120]⟩] w fun e w' => e = .returned (.tuple #[.slice none 0 0, .slice none 0 0]) ∧ w' = w := by
  go_enter Try.func39, Try.ntmps39
  go_wp2
  exact bodyPost_ret (v := .tuple #[.slice none 0 0, .slice none 0 0]) (by simp [results, Try.results39, go_sem]) rfl ⟨rfl, rfl⟩
theorem rparts_4 (w : World) : Calls Try.prog 39 #[.string ⟨#[121]⟩] w fun e w' => e = .returned (.tuple #[.slice none 0 0, .slice none 0 0]) ∧ w' = w := by
  go_enter Try.func39, Try.ntmps39
  go_wp2
  exact bodyPost_ret (v := .tuple #[.slice none 0 0, .slice none 0 0]) (by simp [results, Try.results39, go_sem]) rfl ⟨rfl, rfl⟩
theorem rparts_5 (w : World) : Calls Try.prog 39 #[.string ⟨#[122]⟩] w fun e w' => e = .returned (.tuple #[.slice none 0 0, .slice none 0 0]) ∧ w' = w := by
  go_enter Try.func39, Try.ntmps39
  go_wp2
  exact bodyPost_ret (v := .tuple #[.slice none 0 0, .slice none 0 0]) (by simp [results, Try.results39, go_sem]) rfl ⟨rfl, rfl⟩
theorem rparts_6 (w : World) : Calls Try.prog 39 #[.string ⟨#[104]⟩] w fun e w' => e = .returned (.tuple #[.slice none 0 0, .slice none 0 0]) ∧ w' = w := by
  go_enter Try.func39, Try.ntmps39
  go_wp2
  exact bodyPost_ret (v := .tuple #[.slice none 0 0, .slice none 0 0]) (by simp [results, Try.results39, go_sem]) rfl ⟨rfl, rfl⟩
theorem rparts_7 (w : World) : Calls Try.prog 39 #[.string ⟨#[115]⟩] w fun e w' => e = .returned (.tuple #[.slice none 0 0, .slice none 0 0]) ∧ w' = w := by
  go_enter Try.func39, Try.ntmps39
  go_wp2
  exact bodyPost_ret (v := .tuple #[.slice none 0 0, .slice none 0 0]) (by simp [results, Try.results39, go_sem]) rfl ⟨rfl, rfl⟩
theorem rparts_8 (w : World) : Calls Try.prog 39 #[.string ⟨#[115, 100, 103]⟩] w fun e w' => e = .returned (.tuple #[.slice none 0 0, .slice none 0 0]) ∧ w' = w := by
  go_enter Try.func39, Try.ntmps39
  go_wp2
  exact bodyPost_ret (v := .tuple #[.slice none 0 0, .slice none 0 0]) (by simp [results, Try.results39, go_sem]) rfl ⟨rfl, rfl⟩
theorem rparts_9 (w : World) : Calls Try.prog 39 #[.string ⟨#[118]⟩] w fun e w' => e = .returned (.tuple #[.slice none 0 0, .slice none 0 0]) ∧ w' = w := by
  go_enter Try.func39, Try.ntmps39
  go_wp2
  exact bodyPost_ret (v := .tuple #[.slice none 0 0, .slice none 0 0]) (by simp [results, Try.results39, go_sem]) rfl ⟨rfl, rfl⟩
theorem rparts_10 (w : World) : Calls Try.prog 39 #[.string ⟨#[118, 100, 103]⟩] w fun e w' => e = .returned (.tuple #[.slice none 0 0, .slice none 0 0]) ∧ w' = w := by
  go_enter Try.func39, Try.ntmps39
  go_wp2
  exact bodyPost_ret (v := .tuple #[.slice none 0 0, .slice none 0 0]) (by simp [results, Try.results39, go_sem]) rfl ⟨rfl, rfl⟩
theorem rparts_11 (w : World) : Calls Try.prog 39 #[.string ⟨#[99, 120]⟩] w fun e w' => e = .returned (.tuple #[.slice none 0 0, .slice none 0 0]) ∧ w' = w := by
  go_enter Try.func39, Try.ntmps39
  go_wp2
  exact bodyPost_ret (v := .tuple #[.slice none 0 0, .slice none 0 0]) (by simp [results, Try.results39, go_sem]) rfl ⟨rfl, rfl⟩
theorem rparts_13 (w : World) : Calls Try.prog 39 #[.string ⟨#[99, 122]⟩] w fun e w' => e = .returned (.tuple #[.slice none 0 0, .slice none 0 0]) ∧ w' = w := by
  go_enter Try.func39, Try.ntmps39
  go_wp2
  exact bodyPost_ret (v := .tuple #[.slice none 0 0, .slice none 0 0]) (by simp [results, Try.results39, go_sem]) rfl ⟨rfl, rfl⟩
theorem rparts_14 (w : World) : Calls Try.prog 39 #[.string ⟨#[115, 119, 97, 112]⟩] w fun e w' => e = .returned (.tuple #[.slice none 0 0, .slice none 0 0]) ∧ w' = w := by
  go_enter Try.func39, Try.ntmps39
  go_wp2
  exact bodyPost_ret (v := .tuple #[.slice none 0 0, .slice none 0 0]) (by simp [results, Try.results39, go_sem]) rfl ⟨rfl, rfl⟩
theorem rparts_no (i : Nat) (hi : i < 17) (h : prG i = []) (w : World) : Calls Try.prog 39 #[.string (cgN i)] w fun e w' => e = .returned (.tuple #[.slice none 0 0, .slice none 0 0]) ∧ w' = w := by
  rcases (show i = 0 ∨ i = 1 ∨ i = 2 ∨ i = 3 ∨ i = 4 ∨ i = 5 ∨ i = 6 ∨ i = 7 ∨ i = 8 ∨ i = 9 ∨ i = 10 ∨ i = 11 ∨ i = 12 ∨ i = 13 ∨ i = 14 ∨ i = 15 ∨ i = 16 by omega) with rfl | rfl | rfl | rfl | rfl | rfl | rfl | rfl | rfl | rfl | rfl | rfl | rfl | rfl | rfl | rfl | rfl
  · exact rparts_0 w
  · exact rparts_1 w
  · exact rparts_2 w
  · exact rparts_3 w
  · exact rparts_4 w
  · exact rparts_5 w
  · exact rparts_6 w
  · exact rparts_7 w
  · exact rparts_8 w
  · exact rparts_9 w
  · exact rparts_10 w
  · exact rparts_11 w
  · cases h
  · exact rparts_13 w
  · exact rparts_14 w
  · cases h
  · cases h
theorem rparts_yes (i : Nat) (hi : i = 12 ∨ i = 15 ∨ i = 16) (w : World) : Calls Try.prog 39 #[.string (cgN i)] w fun e w' => e = .returned (.tuple #[.slice (some ⟨w.heap.size, 0, none⟩) (prG i).length (prG i).length, .slice (some ⟨w.heap.size + 1, 0, none⟩) (prG i).length (prG i).length]) ∧ Below w.heap.size w w' ∧ PRT w' w.heap.size (w.heap.size + 1) i := by
  rcases hi with rfl | rfl | rfl
  · exact rparts_12 w
  · exact rparts_15 w
  · exact rparts_16 w
end Go.Proofs.Ytoddbaljnlhhaab
namespace Go.Proofs.Ytoddbaljnlhhaab
open Go.RowKit Go.Sort
open PL (pv PS bt cgk cgT)
open BL (pickN putN)

/-- A number put to the places. -/
abbrev emb (q : Nat → Int) (k v : Nat) : Nat := putN v q 0 k
section
variable {q : Nat → Int} {k : Nat}
theorem bt_emb_at (h : BL.Plc q k) {v j : Nat} (hj : j < k) : bt (emb q k v) (q j).toNat = bt v j := by
  have := BL.bt_put_at (v := v) (x := 0) h hj
  simpa only [PL.bb] using this
theorem bt_emb_not {v i : Nat} (hn : ∀ j, j < k → (q j).toNat ≠ i) : bt (emb q k v) i = 0 := by
  have := BL.bt_put_not (v := v) (x := 0) (p := q) (k := k) (i := i) hn
  simp only [PL.bb] at this
  rw [this, PL.bt_nought]
theorem emb_nil (h : BL.Plc q k) : emb q k 0 = 0 := PL.ext_bt fun i => by
  rw [PL.bt_nought]
  rcases PL.at_or_not q k i with ⟨j, hj, rfl⟩ | hn
  · rw [bt_emb_at h hj, PL.bt_nought]
  · exact bt_emb_not hn
theorem plc_inj (h : BL.Plc q k) {a b : Nat} (ha : a < k) (hb : b < k) (e : (q a).toNat = (q b).toNat) : a = b := by
  have h1 := h a ha
  have h2 := h b hb
  rcases Nat.lt_trichotomy a b with g | g | g
  · exact absurd (show q a = q b by omega) (h2.2.2 a g)
  · exact g
  · exact absurd (show q b = q a by omega) (h1.2.2 b g)
theorem emb_pow (h : BL.Plc q k) {m : Nat} (hm : m < k) : emb q k (2 ^ m) = 2 ^ (q m).toNat := PL.ext_bt fun i => by
  rw [PL.bt_pow]
  rcases PL.at_or_not q k i with ⟨j, hj, rfl⟩ | hn
  · rw [bt_emb_at h hj, PL.bt_pow]
    by_cases e : j = m
    · subst e; rw [if_pos rfl, if_pos rfl]
    · rw [if_neg e, if_neg (fun g => e (plc_inj h hj hm g))]
  · rw [bt_emb_not hn, if_neg (fun g => hn m hm g.symm)]
theorem emb_xor (h : BL.Plc q k) (a b : Nat) : emb q k (a ^^^ b) = emb q k a ^^^ emb q k b := by
  have := PL.put_xor a b 0 0 h
  rwa [Nat.xor_zero] at this
/-- A gate on a string that has letters at its places alone. -/
theorem trP_emb {i : Nat} (h : BL.Plc q (cgk i)) {n a b f : Nat} (ha : a < 2 ^ cgk i) (hb : b < 2 ^ cgk i) :
    trP i q ⟨n, emb q (cgk i) a, emb q (cgk i) b, f⟩ = ⟨n, emb q (cgk i) (PL.lt (cgT i) (cgk i) a b 0).1, emb q (cgk i) (PL.lt (cgT i) (cgk i) a b 0).2.1, (f + (PL.lt (cgT i) (cgk i) a b 0).2.2) % 4⟩ := by
  rw [trP_parts]
  have h1 := BL.pick_put (x := 0) h ha
  have h2 := BL.pick_put (x := 0) h hb
  have e : ltX i q ⟨n, emb q (cgk i) a, emb q (cgk i) b, f⟩ = PL.lt (cgT i) (cgk i) a b 0 := by
    unfold ltX
    show PL.lt (cgT i) (cgk i) (pickN (putN a q 0 (cgk i)) q (cgk i)) (pickN (putN b q 0 (cgk i)) q (cgk i)) 0 = _
    rw [h1, h2]
  rw [e]
  exact ps_ext rfl (PL.put_put _ _ 0 h) (PL.put_put _ _ 0 h) rfl
end
/-- A letter at one place: 88 X, 89 Y, 90 Z. -/
def onP (n j : Nat) (l f : Nat) : PS := ⟨n, if l = 90 then 0 else 2 ^ j, if l = 88 then 0 else 2 ^ j, f⟩
theorem tab1 : ∀ i, i < 11 → cgk i = 1 ∧ PL.lt2 (cgT i) 1 1 0 0 = (if (plA i true).1 = 90 then 0 else 1, if (plA i true).1 = 88 then 0 else 1, (plA i true).2) ∧ PL.lt2 (cgT i) 1 0 1 0 = (if (plA i false).1 = 90 then 0 else 1, if (plA i false).1 = 88 then 0 else 1, (plA i false).2) := by decide +kernel
/-- A gate of one qubit, on its own. -/
theorem im_one {i : Nat} (hi : i < 11) {q : Nat → Int} (h : BL.Plc q (cgk i)) {n : Nat} (x : Bool) : trP i q (gL n (q 0).toNat x) = onP n (q 0).toNat (plA i x).1 (plA i x).2 := by
  obtain ⟨hk, h1, h2⟩ := tab1 i hi
  have hS := PL.cgT_sm i (by omega)
  have l1 := (PL.lt_2 hS 1 (x := 1) 0 0 (by decide)).1
  have l2 := (PL.lt_2 hS 1 (x := 0) 1 0 (by decide)).1
  rw [hk] at h
  have e1 : emb q 1 1 = 2 ^ (q 0).toNat := emb_pow h (m := 0) (by decide)
  have e0 : emb q 1 0 = 0 := emb_nil h
  have key : ∀ a b, a < 2 → b < 2 → trP i q ⟨n, emb q 1 a, emb q 1 b, 0⟩ = ⟨n, emb q 1 (PL.lt (cgT i) 1 a b 0).1, emb q 1 (PL.lt (cgT i) 1 a b 0).2.1, (0 + (PL.lt (cgT i) 1 a b 0).2.2) % 4⟩ := fun a b ha hb => by
    have := trP_emb (i := i) (q := q) (by rw [hk]; exact h) (n := n) (a := a) (b := b) (f := 0) (by rw [hk]; exact ha) (by rw [hk]; exact hb)
    rwa [hk] at this
  have hp : ∀ i, i < 11 → ∀ x : Bool, (plA i x).2 < 4 := by decide +kernel
  cases x
  · have k := key 0 1 (by omega) (by omega)
    rw [l2, h2, e0, e1] at k
    refine Eq.trans k ?_
    refine ps_ext rfl ?_ ?_ ?_
    · show emb q 1 (if (plA i false).1 = 90 then 0 else 1) = if (plA i false).1 = 90 then 0 else 2 ^ (q 0).toNat
      split <;> assumption
    · show emb q 1 (if (plA i false).1 = 88 then 0 else 1) = if (plA i false).1 = 88 then 0 else 2 ^ (q 0).toNat
      split <;> assumption
    · have := hp i hi false
      show (0 + (plA i false).2) % 4 = (plA i false).2
      omega
  · have k := key 1 0 (by omega) (by omega)
    rw [l1, h1, e0, e1] at k
    refine Eq.trans k ?_
    refine ps_ext rfl ?_ ?_ ?_
    · show emb q 1 (if (plA i true).1 = 90 then 0 else 1) = if (plA i true).1 = 90 then 0 else 2 ^ (q 0).toNat
      split <;> assumption
    · show emb q 1 (if (plA i true).1 = 88 then 0 else 1) = if (plA i true).1 = 88 then 0 else 2 ^ (q 0).toNat
      split <;> assumption
    · have := hp i hi true
      show (0 + (plA i true).2) % 4 = (plA i true).2
      omega
/-- A gate of two qubits, on a letter at place m: the part's turn. -/
theorem im_two {i : Nat} (hi : i < 17) (hk : cgk i = 2) {q : Nat → Int} (h : BL.Plc q 2) {n m : Nat} (hm : m < 2) (x : Bool) :
    trP i q (gL n (q m).toNat x) = ⟨n, emb q 2 (PL.lt2 (cgT i) 2 (if x = true then 2 ^ m else 0) (if x = true then 0 else 2 ^ m) 0).1, emb q 2 (PL.lt2 (cgT i) 2 (if x = true then 2 ^ m else 0) (if x = true then 0 else 2 ^ m) 0).2.1, (PL.lt2 (cgT i) 2 (if x = true then 2 ^ m else 0) (if x = true then 0 else 2 ^ m) 0).2.2 % 4⟩ := by
  have hS := PL.cgT_sm i hi
  have hm4 : 2 ^ m < 4 := by rcases (show m = 0 ∨ m = 1 by omega) with rfl | rfl <;> decide
  have e1 : emb q 2 (2 ^ m) = 2 ^ (q m).toNat := emb_pow h hm
  have e0 : emb q 2 0 = 0 := emb_nil h
  have key : ∀ a b, a < 4 → b < 4 → trP i q ⟨n, emb q 2 a, emb q 2 b, 0⟩ = ⟨n, emb q 2 (PL.lt2 (cgT i) 2 a b 0).1, emb q 2 (PL.lt2 (cgT i) 2 a b 0).2.1, (0 + (PL.lt2 (cgT i) 2 a b 0).2.2) % 4⟩ := fun a b ha hb => by
    have := trP_emb (i := i) (q := q) (by rw [hk]; exact h) (n := n) (a := a) (b := b) (f := 0) (by rw [hk]; exact ha) (by rw [hk]; exact hb)
    rw [hk, (PL.lt_2 hS 2 (x := a) b 0 ha).1] at this
    exact this
  cases x
  · have k := key 0 (2 ^ m) (by omega) hm4
    rw [e0, e1, Nat.zero_add] at k
    exact k
  · have k := key (2 ^ m) 0 hm4 (by omega)
    rw [e0, e1, Nat.zero_add] at k
    exact k
end Go.Proofs.Ytoddbaljnlhhaab
