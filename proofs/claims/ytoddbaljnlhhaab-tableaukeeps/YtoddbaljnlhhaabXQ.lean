/-
  Put together of: E1.
-/
import Derived.Test.YtoddbaljnlhhaabXA
import Derived.Test.YtoddbaljnlhhaabXP
namespace Go.Proofs.Ytoddbaljnlhhaab
open Go.RowKit Go.Sort

/-- The texts of what X and Z become. -/
def cgx : List (List (List UInt8)) := [
  [[88], [90]],
  [[88], [90]],
  [[88], [90]],
  [[88], [45, 90]],
  [[45, 88], [45, 90]],
  [[45, 88], [90]],
  [[90], [88]],
  [[89], [90]],
  [[45, 89], [90]],
  [[88], [45, 89]],
  [[88], [89]],
  [[88, 88], [88, 73], [73, 90], [90, 90]],
  [[89, 88], [88, 90], [73, 90], [90, 90]],
  [[90, 88], [88, 90], [73, 90], [90, 73]],
  [[88, 73], [73, 88], [90, 73], [73, 90]],
  [[89, 90], [90, 89], [90, 73], [73, 90]],
  [[45, 89, 90], [45, 90, 89], [90, 73], [73, 90]]]
def cgX (i j : Nat) : List UInt8 := (cgx.getD i []).getD j []
/-- Strings that can be read. -/
def TX (W : World) (B : Nat) (i : Nat) : Prop := ∃ cs, BK W B cs 9 ∧ ∀ j, j < 2 * PL.cgk i → cs[j]? = some (.string ⟨(cgX i j).toArray⟩)
theorem TX.lt {W : World} {B i : Nat} (h : TX W B i) : B < W.heap.size := by
  obtain ⟨cs, h, _⟩ := h
  exact h.lt
theorem TX.at_ {W : World} {B i j : Nat} (h : TX W B i) (hj : j < 2 * PL.cgk i) : W.cell? ⟨B, j, none⟩ = some (.string ⟨(cgX i j).toArray⟩) := by
  obtain ⟨cs, h, h2⟩ := h
  exact (h.cell j).trans (h2 j hj)
theorem tx_new (w : World) (cs : Array Value) (i : Nat) (h : ∀ j, j < 2 * PL.cgk i → cs[j]? = some (.string ⟨(cgX i j).toArray⟩)) : TX (w.alloc (.cells cs 9)) w.heap.size i := ⟨cs, bk_new w cs 9, h⟩
set_option maxRecDepth 100000 in
theorem tt_0 (w : World) : Calls Try.prog 55 #[.string ⟨#[105]⟩] w fun e w' => e = .returned (.slice (some ⟨w.heap.size, 0, none⟩) 2 2) ∧ Below w.heap.size w w' ∧ TX w' w.heap.size 0 := by
  go_enter Try.func55, Try.ntmps55
  go_wp2
  go_ret
  exact ⟨rfl, bal (Below.refl _ _) _, tx_new _ _ _ (fun j hj => by have hj : j < 2 := hj; rcases (show j = 0 ∨ j = 1 by omega) with rfl | rfl <;> rfl)⟩
set_option maxRecDepth 100000 in
theorem tt_1 (w : World) : Calls Try.prog 55 #[.string ⟨#[119]⟩] w fun e w' => e = .returned (.slice (some ⟨w.heap.size, 0, none⟩) 2 2) ∧ Below w.heap.size w w' ∧ TX w' w.heap.size 1 := by
  go_enter Try.func55, Try.ntmps55
  go_wp2
  go_ret
  exact ⟨rfl, bal (Below.refl _ _) _, tx_new _ _ _ (fun j hj => by have hj : j < 2 := hj; rcases (show j = 0 ∨ j = 1 by omega) with rfl | rfl <;> rfl)⟩
set_option maxRecDepth 100000 in
theorem tt_2 (w : World) : Calls Try.prog 55 #[.string ⟨#[119, 100, 103]⟩] w fun e w' => e = .returned (.slice (some ⟨w.heap.size, 0, none⟩) 2 2) ∧ Below w.heap.size w w' ∧ TX w' w.heap.size 2 := by
  go_enter Try.func55, Try.ntmps55
  go_wp2
  go_ret
  exact ⟨rfl, bal (Below.refl _ _) _, tx_new _ _ _ (fun j hj => by have hj : j < 2 := hj; rcases (show j = 0 ∨ j = 1 by omega) with rfl | rfl <;> rfl)⟩
set_option maxRecDepth 100000 in
theorem tt_3 (w : World) : Calls Try.prog 55 #[.string ⟨#[120]⟩] w fun e w' => e = .returned (.slice (some ⟨w.heap.size, 0, none⟩) 2 2) ∧ Below w.heap.size w w' ∧ TX w' w.heap.size 3 := by
  go_enter Try.func55, Try.ntmps55
  go_wp2
  go_ret
  exact ⟨rfl, bal (Below.refl _ _) _, tx_new _ _ _ (fun j hj => by have hj : j < 2 := hj; rcases (show j = 0 ∨ j = 1 by omega) with rfl | rfl <;> rfl)⟩
set_option maxRecDepth 100000 in
theorem tt_4 (w : World) : Calls Try.prog 55 #[.string ⟨#[121]⟩] w fun e w' => e = .returned (.slice (some ⟨w.heap.size, 0, none⟩) 2 2) ∧ Below w.heap.size w w' ∧ TX w' w.heap.size 4 := by
  go_enter Try.func55, Try.ntmps55
  go_wp2
  go_ret
  exact ⟨rfl, bal (Below.refl _ _) _, tx_new _ _ _ (fun j hj => by have hj : j < 2 := hj; rcases (show j = 0 ∨ j = 1 by omega) with rfl | rfl <;> rfl)⟩
set_option maxRecDepth 100000 in
theorem tt_5 (w : World) : Calls Try.prog 55 #[.string ⟨#[122]⟩] w fun e w' => e = .returned (.slice (some ⟨w.heap.size, 0, none⟩) 2 2) ∧ Below w.heap.size w w' ∧ TX w' w.heap.size 5 := by
  go_enter Try.func55, Try.ntmps55
  go_wp2
  go_ret
  exact ⟨rfl, bal (Below.refl _ _) _, tx_new _ _ _ (fun j hj => by have hj : j < 2 := hj; rcases (show j = 0 ∨ j = 1 by omega) with rfl | rfl <;> rfl)⟩
set_option maxRecDepth 100000 in
theorem tt_6 (w : World) : Calls Try.prog 55 #[.string ⟨#[104]⟩] w fun e w' => e = .returned (.slice (some ⟨w.heap.size, 0, none⟩) 2 2) ∧ Below w.heap.size w w' ∧ TX w' w.heap.size 6 := by
  go_enter Try.func55, Try.ntmps55
  go_wp2
  go_ret
  exact ⟨rfl, bal (Below.refl _ _) _, tx_new _ _ _ (fun j hj => by have hj : j < 2 := hj; rcases (show j = 0 ∨ j = 1 by omega) with rfl | rfl <;> rfl)⟩
set_option maxRecDepth 100000 in
theorem tt_7 (w : World) : Calls Try.prog 55 #[.string ⟨#[115]⟩] w fun e w' => e = .returned (.slice (some ⟨w.heap.size, 0, none⟩) 2 2) ∧ Below w.heap.size w w' ∧ TX w' w.heap.size 7 := by
  go_enter Try.func55, Try.ntmps55
  go_wp2
  go_ret
  exact ⟨rfl, bal (Below.refl _ _) _, tx_new _ _ _ (fun j hj => by have hj : j < 2 := hj; rcases (show j = 0 ∨ j = 1 by omega) with rfl | rfl <;> rfl)⟩
set_option maxRecDepth 100000 in
theorem tt_8 (w : World) : Calls Try.prog 55 #[.string ⟨#[115, 100, 103]⟩] w fun e w' => e = .returned (.slice (some ⟨w.heap.size, 0, none⟩) 2 2) ∧ Below w.heap.size w w' ∧ TX w' w.heap.size 8 := by
  go_enter Try.func55, Try.ntmps55
  go_wp2
  go_ret
  exact ⟨rfl, bal (Below.refl _ _) _, tx_new _ _ _ (fun j hj => by have hj : j < 2 := hj; rcases (show j = 0 ∨ j = 1 by omega) with rfl | rfl <;> rfl)⟩
set_option maxRecDepth 100000 in
theorem tt_9 (w : World) : Calls Try.prog 55 #[.string ⟨#[118]⟩] w fun e w' => e = .returned (.slice (some ⟨w.heap.size, 0, none⟩) 2 2) ∧ Below w.heap.size w w' ∧ TX w' w.heap.size 9 := by
  go_enter Try.func55, Try.ntmps55
  go_wp2
  go_ret
  exact ⟨rfl, bal (Below.refl _ _) _, tx_new _ _ _ (fun j hj => by have hj : j < 2 := hj; rcases (show j = 0 ∨ j = 1 by omega) with rfl | rfl <;> rfl)⟩
set_option maxRecDepth 100000 in
theorem tt_10 (w : World) : Calls Try.prog 55 #[.string ⟨#[118, 100, 103]⟩] w fun e w' => e = .returned (.slice (some ⟨w.heap.size, 0, none⟩) 2 2) ∧ Below w.heap.size w w' ∧ TX w' w.heap.size 10 := by
  go_enter Try.func55, Try.ntmps55
  go_wp2
  go_ret
  exact ⟨rfl, bal (Below.refl _ _) _, tx_new _ _ _ (fun j hj => by have hj : j < 2 := hj; rcases (show j = 0 ∨ j = 1 by omega) with rfl | rfl <;> rfl)⟩
set_option maxRecDepth 100000 in
theorem tt_11 (w : World) : Calls Try.prog 55 #[.string ⟨#[99, 120]⟩] w fun e w' => e = .returned (.slice (some ⟨w.heap.size, 0, none⟩) 4 4) ∧ Below w.heap.size w w' ∧ TX w' w.heap.size 11 := by
  go_enter Try.func55, Try.ntmps55
  go_wp2
  go_ret
  exact ⟨rfl, bal (Below.refl _ _) _, tx_new _ _ _ (fun j hj => by have hj : j < 4 := hj; rcases (show j = 0 ∨ j = 1 ∨ j = 2 ∨ j = 3 by omega) with rfl | rfl | rfl | rfl <;> rfl)⟩
set_option maxRecDepth 100000 in
theorem tt_12 (w : World) : Calls Try.prog 55 #[.string ⟨#[99, 121]⟩] w fun e w' => e = .returned (.slice (some ⟨w.heap.size, 0, none⟩) 4 4) ∧ Below w.heap.size w w' ∧ TX w' w.heap.size 12 := by
  go_enter Try.func55, Try.ntmps55
  go_wp2
  go_ret
  exact ⟨rfl, bal (Below.refl _ _) _, tx_new _ _ _ (fun j hj => by have hj : j < 4 := hj; rcases (show j = 0 ∨ j = 1 ∨ j = 2 ∨ j = 3 by omega) with rfl | rfl | rfl | rfl <;> rfl)⟩
set_option maxRecDepth 100000 in
theorem tt_13 (w : World) : Calls Try.prog 55 #[.string ⟨#[99, 122]⟩] w fun e w' => e = .returned (.slice (some ⟨w.heap.size, 0, none⟩) 4 4) ∧ Below w.heap.size w w' ∧ TX w' w.heap.size 13 := by
  go_enter Try.func55, Try.ntmps55
  go_wp2
  go_ret
  exact ⟨rfl, bal (Below.refl _ _) _, tx_new _ _ _ (fun j hj => by have hj : j < 4 := hj; rcases (show j = 0 ∨ j = 1 ∨ j = 2 ∨ j = 3 by omega) with rfl | rfl | rfl | rfl <;> rfl)⟩
set_option maxRecDepth 100000 in
theorem tt_14 (w : World) : Calls Try.prog 55 #[.string ⟨#[115, 119, 97, 112]⟩] w fun e w' => e = .returned (.slice (some ⟨w.heap.size, 0, none⟩) 4 4) ∧ Below w.heap.size w w' ∧ TX w' w.heap.size 14 := by
  go_enter Try.func55, Try.ntmps55
  go_wp2
  go_ret
  exact ⟨rfl, bal (Below.refl _ _) _, tx_new _ _ _ (fun j hj => by have hj : j < 4 := hj; rcases (show j = 0 ∨ j = 1 ∨ j = 2 ∨ j = 3 by omega) with rfl | rfl | rfl | rfl <;> rfl)⟩
set_option maxRecDepth 100000 in
theorem tt_15 (w : World) : Calls Try.prog 55 #[.string ⟨#[105, 115, 119, 97, 112]⟩] w fun e w' => e = .returned (.slice (some ⟨w.heap.size, 0, none⟩) 4 4) ∧ Below w.heap.size w w' ∧ TX w' w.heap.size 15 := by
  go_enter Try.func55, Try.ntmps55
  go_wp2
  go_ret
  exact ⟨rfl, bal (Below.refl _ _) _, tx_new _ _ _ (fun j hj => by have hj : j < 4 := hj; rcases (show j = 0 ∨ j = 1 ∨ j = 2 ∨ j = 3 by omega) with rfl | rfl | rfl | rfl <;> rfl)⟩
set_option maxRecDepth 100000 in
theorem tt_16 (w : World) : Calls Try.prog 55 #[.string ⟨#[105, 115, 119, 97, 112, 100, 103]⟩] w fun e w' => e = .returned (.slice (some ⟨w.heap.size, 0, none⟩) 4 4) ∧ Below w.heap.size w w' ∧ TX w' w.heap.size 16 := by
  go_enter Try.func55, Try.ntmps55
  go_wp2
  go_ret
  exact ⟨rfl, bal (Below.refl _ _) _, tx_new _ _ _ (fun j hj => by have hj : j < 4 := hj; rcases (show j = 0 ∨ j = 1 ∨ j = 2 ∨ j = 3 by omega) with rfl | rfl | rfl | rfl <;> rfl)⟩
/-- A gate's name. -/
def cgN (i : Nat) : ByteArray := ⟨(PL.cgI i).1.toArray⟩
theorem tt_any (i : Nat) (hi : i < 17) (w : World) : Calls Try.prog 55 #[.string (cgN i)] w fun e w' => e = .returned (.slice (some ⟨w.heap.size, 0, none⟩) (2 * PL.cgk i : Nat) (2 * PL.cgk i : Nat)) ∧ Below w.heap.size w w' ∧ TX w' w.heap.size i := by
  rcases (show i = 0 ∨ i = 1 ∨ i = 2 ∨ i = 3 ∨ i = 4 ∨ i = 5 ∨ i = 6 ∨ i = 7 ∨ i = 8 ∨ i = 9 ∨ i = 10 ∨ i = 11 ∨ i = 12 ∨ i = 13 ∨ i = 14 ∨ i = 15 ∨ i = 16 by omega) with rfl | rfl | rfl | rfl | rfl | rfl | rfl | rfl | rfl | rfl | rfl | rfl | rfl | rfl | rfl | rfl | rfl
  · exact tt_0 w
  · exact tt_1 w
  · exact tt_2 w
  · exact tt_3 w
  · exact tt_4 w
  · exact tt_5 w
  · exact tt_6 w
  · exact tt_7 w
  · exact tt_8 w
  · exact tt_9 w
  · exact tt_10 w
  · exact tt_11 w
  · exact tt_12 w
  · exact tt_13 w
  · exact tt_14 w
  · exact tt_15 w
  · exact tt_16 w
end Go.Proofs.Ytoddbaljnlhhaab
