/-
  Bytes that are put in, one behind the other.
-/
import Derived.Test.YtfjpdekegbnbaaaM4
namespace Go.Proofs.Ytfjpdekegbnbaaa
open Go.RowKit Go.Sort

theorem app_size (M N : ByteArray) : (M ++ N).size = M.size + N.size := ByteArray.size_append
theorem app_data (M N : ByteArray) : (M ++ N).data.toList = M.data.toList ++ N.data.toList := by
  rw [ByteArray.data_append, Array.toList_append]
theorem cb_app1 (M N : ByteArray) {j : Nat} (h : j < M.size) : cb (M ++ N) j = cb M j := by
  have hM : M.data.toList.length = M.size := rfl
  rw [cb_list, cb_list, app_data, List.getElem?_append_left (by omega)]
theorem cb_app2 (M N : ByteArray) (j : Nat) : cb (M ++ N) (M.size + j) = cb N j := by
  have hM : M.data.toList.length = M.size := rfl
  rw [cb_list, cb_list, app_data, List.getElem?_append_right (by omega), hM]
  congr 3
  omega
/-- n blanks. -/
structure Bl (M : ByteArray) (n : Nat) : Prop where
  sz : M.size = n
  b : ∀ m, m < M.size → isB (cb M m) = true
theorem Bl.nil : Bl ⟨#[]⟩ 0 := ⟨rfl, fun _ h => absurd h (Nat.not_lt_zero _)⟩
theorem Bl.put {M N : ByteArray} {n : Nat} (h : Bl M n) (hz : N.size = 1) (hb : isB (cb N 0) = true) : Bl (M ++ N) (n + 1) := by
  refine ⟨by rw [app_size, h.sz, hz], fun m hm => ?_⟩
  rw [app_size, hz] at hm
  by_cases e : m < M.size
  · rw [cb_app1 _ _ e]; exact h.b m e
  · have := cb_app2 M N 0
    rw [Nat.add_zero] at this
    rw [show m = M.size by omega, this]; exact hb
/-- b blanks, and then a remark without its line end. -/
structure Rm (M : ByteArray) (b n : Nat) : Prop where
  lt : b < M.size
  sz : M.size ≤ n
  ah : ∀ m, m < b → isB (cb M m) = true
  r : cb M b = 35
  no : ∀ m, b ≤ m → m < M.size → cb M m ≠ 10
theorem Rm.start {M : ByteArray} {n : Nat} (h : Bl M n) : Rm (M ++ ⟨#[35]⟩) n (n + 1) := by
  have hz : (⟨#[35]⟩ : ByteArray).size = 1 := rfl
  have h2 := cb_app2 M ⟨#[35]⟩ 0
  rw [Nat.add_zero, h.sz] at h2
  have h3 : cb (M ++ ⟨#[35]⟩) n = 35 := by rw [h2]; rfl
  refine ⟨by rw [app_size, hz, h.sz]; omega, by rw [app_size, hz, h.sz]; exact Nat.le_refl _, fun m hm => ?_, h3, fun m h4 h5 => ?_⟩
  · have := h.sz
    rw [cb_app1 _ _ (by omega)]; exact h.b m (by omega)
  · rw [app_size, hz, h.sz] at h5
    obtain rfl : m = n := by omega
    rw [h3]; decide
theorem Rm.keep {M : ByteArray} {b n : Nat} (h : Rm M b n) : Rm M b (n + 1) := ⟨h.lt, by have := h.sz; omega, h.ah, h.r, h.no⟩
theorem Rm.put {M N : ByteArray} {b n : Nat} (h : Rm M b n) (hz : N.size = 1) (hn : cb N 0 ≠ 10) : Rm (M ++ N) b (n + 1) := by
  have hl := h.lt
  have hs := h.sz
  have h2 := cb_app2 M N 0
  rw [Nat.add_zero] at h2
  refine ⟨by rw [app_size]; omega, by rw [app_size, hz]; omega, fun m hm => by rw [cb_app1 _ _ (by omega)]; exact h.ah m hm, by rw [cb_app1 _ _ hl]; exact h.r, fun m h4 h5 => ?_⟩
  rw [app_size, hz] at h5
  by_cases e : m < M.size
  · rw [cb_app1 _ _ e]; exact h.no m h4 e
  · rw [show m = M.size by omega, h2]; exact hn
theorem Rm.pass {M : ByteArray} {b n : Nat} (h : Rm M b n) : Pass (M ++ ⟨#[10]⟩) ∧ (M ++ ⟨#[10]⟩).size ≤ n + 1 := by
  have hz : (⟨#[10]⟩ : ByteArray).size = 1 := rfl
  have hl := h.lt
  have hs := h.sz
  have h2 := cb_app2 M ⟨#[10]⟩ 0
  rw [Nat.add_zero] at h2
  have hsz : (M ++ ⟨#[10]⟩).size = M.size + 1 := by rw [app_size, hz]
  refine ⟨.inr ⟨b, by rw [hsz]; omega, fun m hm => by rw [cb_app1 _ _ (by omega)]; exact h.ah m hm, by rw [cb_app1 _ _ hl]; exact h.r, fun m h4 h5 => ?_, ?_⟩, by rw [hsz]; omega⟩
  · rw [hsz] at h5
    rw [cb_app1 _ _ (by omega)]; exact h.no m h4 (by omega)
  · rw [hsz, show M.size + 1 - 1 = M.size by omega, h2]; rfl
theorem Bl.pass {M : ByteArray} {n : Nat} (h : Bl M n) : Pass M := .inl h.b
/-- A text with more put in, as the law lays it. -/
theorem ins_law (s M : ByteArray) (a : Nat) (ha : a ≤ s.size) : Ins s (s.extract 0 a ++ M ++ s.extract a s.size) M a := by
  refine ins_mk ha ?_
  have hz : s.data.toList.length = s.size := rfl
  rw [app_data, app_data, ext_data, ext_data]
  congr 1
  rw [List.take_of_length_le (by rw [List.length_drop]; omega)]

/-- Bytes that are handed in. -/
def SB (W : World) (v : Value) (n : Nat) : Prop := ∃ a c, v = .slice a n c ∧ n ≤ c ∧ ∀ k, k < n → ∃ (b o x : Nat), a = some ⟨b, o, none⟩ ∧ W.cell? ⟨b, o + k, none⟩ = some (.int .u8 (x : Int)) ∧ x < 256
theorem SB.below {W W' : World} {v : Value} {n : Nat} (h : SB W v n) (hb : Below W.heap.size W W') : SB W' v n := by
  obtain ⟨a, c, e, hc, hr⟩ := h
  exact ⟨a, c, e, hc, fun k hk => by
    obtain ⟨b, o, x, e, r, hx⟩ := hr k hk
    exact ⟨b, o, x, e, (hb.cell (p := ⟨b, o + k, none⟩) (World.block_lt_of_cell? W _ r)).trans r, hx⟩⟩
theorem run_one (W : World) (c : UInt8) : (convert 39 9 (.slice (some ⟨W.heap.size, 0, none⟩) 1 1)).run Try.prog (W.alloc (.cells #[.int .u8 (c.toNat : Int)] 5)) = .ok (.string ⟨#[c]⟩) (W.alloc (.cells #[.int .u8 (c.toNat : Int)] 5)) :=
  run_convert_bytes_back (P := Try.prog) _ 39 9 5 ⟨W.heap.size, 0, none⟩ 1 [c] Try.underlying39 Try.underlying5 Try.underlying9 (fun j hj => by
    have : j = 0 := by simpa using hj
    subst this
    simp [go_sem])
end Go.Proofs.Ytfjpdekegbnbaaa
