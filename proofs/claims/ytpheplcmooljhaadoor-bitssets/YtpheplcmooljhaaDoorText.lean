/-
  What Text answers.
-/
import Derived.Test.YtpheplcmooljhaaDoorNum
import Derived.Test.YtpheplcmooljhaaDoorMath3
import Derived.Deep.OwnRows
import Derived.Laws.IdiomStrings
namespace Go.Proofs.YtpheplcmooljhaaDoor
open Go.RowKit

/-- The text of the lowest n bits, the highest first. -/
def txtL (x n : Nat) : List UInt8 := (List.range n).map fun i => UInt8.ofNat (48 + bt x (n - 1 - i))
theorem txtL_len (x n : Nat) : (txtL x n).length = n := by simp [txtL]
theorem txtL_at (x n i : Nat) (h : i < (txtL x n).length) : ((txtL x n)[i].toNat : Int) = 48 + bt x (n - 1 - i) := by
  have hb := bt_le x (n - 1 - i)
  simp [txtL]
  omega

theorem Tryd.info5 : (Tryd.prog.info? 5).map (fun i => (i.zero, i.size, i.bytes)) = some (some (.int .u8 0), 1, 1) := by kernel_rfl

/-- Block B holds n bytes, the first k of them the text's. -/
structure Laid (x n B k : Nat) (w w' : World) : Prop where
  below : Below w.heap.size w w'
  here : ∀ i, i < n → ∃ c, w'.cell? ⟨B, i, none⟩ = some (.int .u8 c)
  free : ∀ i, w'.frozen? ⟨B, i, none⟩ = false
  done : ∀ i, i < k → w'.cell? ⟨B, i, none⟩ = some (.int .u8 (48 + bt x (n - 1 - i)))

theorem Laid.step {x n B k : Nat} {w w' : World} (h : Laid x n B k w w') (hB : w.heap.size ≤ B) (hk : k < n) : Laid x n B (k + 1) w (w'.setCell ⟨B, k, none⟩ (.int .u8 (48 + bt x (n - 1 - k)))) := by
  obtain ⟨c, hc⟩ := h.here k hk
  have hsame : (w'.setCell ⟨B, k, none⟩ (.int .u8 (48 + bt x (n - 1 - k)))).cell? ⟨B, k, none⟩ = some (.int .u8 (48 + bt x (n - 1 - k))) := World.cell?_setCell_same _ _ _ hc
  have hother : ∀ i, i ≠ k → (w'.setCell ⟨B, k, none⟩ (.int .u8 (48 + bt x (n - 1 - k)))).cell? ⟨B, i, none⟩ = w'.cell? ⟨B, i, none⟩ := fun i hi => World.cell?_setCell_other _ _ _ _ (by simp)
  refine ⟨h.below.setCell hB _, fun i hi => ?_, fun i => ?_, fun i hi => ?_⟩
  · by_cases e : i = k
    · subst e; exact ⟨_, hsame⟩
    · rw [hother i e]; exact h.here i hi
  · simpa using h.free i
  · by_cases e : i = k
    · subst e; exact hsame
    · rw [hother i e]; exact h.done i (by omega)

theorem text_no (x : Nat) (n : Int) (w : World) (h : n < 0 ∨ 64 < n ∨ (0 ≤ n ∧ n ≤ 64 ∧ ¬ x < 2 ^ n.toNat)) :
    Calls Tryd.prog 31 #[.int .u64 x, .int .i64 n] w fun e w' => e = .returned (.tuple #[.string ⟨#[]⟩, .int .i64 2]) ∧ w' = w := by
  rcases h with h | h | ⟨h0, h1, h2⟩
  · go_enter Tryd.func31, Tryd.ntmps31
    go_wp2
    go_ret2
    exact ⟨rfl, rfl⟩
  · have h1 : ¬ n < 0 := by omega
    go_enter Tryd.func31, Tryd.ntmps31
    go_wp2
    go_ret2
    exact ⟨rfl, rfl⟩
  · obtain ⟨m, rfl⟩ : ∃ m : Nat, n = m := ⟨n.toNat, by omega⟩
    simp only [Int.toNat_natCast] at h2
    have hm : min m 64 = m := by omega
    have hz : ((x : Int) / 2 ^ m != 0) = true := by
      rw [div_pow]
      have : ¬ x / 2 ^ m = 0 := fun h => h2 (high_zero.1 h)
      simp only [bne_iff_ne, ne_eq]
      omega
    clear h2
    go_enter Tryd.func31, Tryd.ntmps31
    go_wp2
    go_ret2
    exact ⟨rfl, rfl⟩

set_option maxHeartbeats 400000 in
theorem text_any (x n : Nat) (w : World) (hx : x < 18446744073709551616) (hn : n ≤ 64) (hv : x < 2 ^ n) :
    Calls Tryd.prog 31 #[.int .u64 x, .int .i64 n] w fun e w' => e = .returned (.tuple #[.string ⟨(txtL x n).toArray⟩, .int .i64 0]) ∧ Below w.heap.size w w' := by
  have hz : ((x : Int) / 2 ^ n != 0) = false := by
    rw [div_pow, high_zero.2 hv]; rfl
  have hm : min n 64 = n := by omega
  have hmk := run_make_row' (P := Tryd.prog) 69 5 (.int .u8 0) 1 Tryd.underlying69 Tryd.info5 rfl .i64 .i64 n (by omega) (by omega)
  clear hv
  go_enter Tryd.func31, Tryd.ntmps31
  go_wp2
  clear hz hm hmk
  go_loopw [24] (fun i wr => ∃ k : Nat, k ≤ n ∧ i = .int .i64 k ∧ Laid x n w.heap.size k w wr) (fun i _ => n - (intOf i).toNat)
  case atStart =>
    refine ⟨0, by omega, rfl, (Below.refl _ _).alloc (Nat.le_refl _) _, fun i hi => ⟨0, ?_⟩, fun i => ?_, fun i hi => by omega⟩
    · rw [World.cell?_alloc_at _ _ _ _ (by simp)]
      simp [madeCells, hi, Nat.mod_one]
    · rw [World.frozen?_alloc_at _ _ _ _ (by simp)]
  case round =>
    obtain ⟨k, hk, rfl, hl⟩ := hrel
    by_cases hlt : k < n
    · obtain ⟨c, hc⟩ := hl.here k hlt
      have hfz := hl.free k
      have hst := hl.step (Nat.le_refl _) hlt
      have HB : ∀ w, Calls Tryd.prog 44 #[.int .u64 x, .int .i64 ((n : Int) - 1 - k)] w fun e w' => e = .returned (.int .u64 (bt x (n - 1 - k))) ∧ w' = w := fun w => by
        have := bitAt_any x (n - 1 - k) w hx (by omega)
        rwa [show ((n - 1 - k : Nat) : Int) = (n : Int) - 1 - k by omega] at this
      have hbl := bt_le x (n - 1 - k)
      generalize bt x (n - 1 - k) = b at HB hst hbl
      clear hl
      go_wp2_with (first
        | (go_at_call 44; with_reducible refine (HB _).mono ?_; rintro e w' ⟨rfl, rfl⟩))
      go_roundw
      case rel => exact ⟨k + 1, by omega, by go_num, hst⟩
      case measure => simp [intOf]; omega
    · obtain rfl : k = n := by omega
      have hcv := run_convert_bytes_back (P := Tryd.prog) wr 69 9 5 ⟨w.heap.size, 0, none⟩ k (txtL x k) Tryd.underlying69 Tryd.underlying5 Tryd.underlying9 (fun j hj => by
        rw [txtL_at, Go.WideShapes.add_plain, Nat.zero_add]
        exact hl.done j (by rw [txtL_len] at hj; exact hj))
      rw [txtL_len] at hcv
      have hB : Hid (Below w.heap.size w wr) := hl.below
      clear hl
      go_wp2
      go_ret2
      exact ⟨rfl, hB⟩
end Go.Proofs.YtpheplcmooljhaaDoor
