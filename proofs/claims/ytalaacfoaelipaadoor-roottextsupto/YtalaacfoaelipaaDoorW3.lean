/-
  What Check, evenness and the table of math/bits tell.
-/
import Derived.Test.YtalaacfoaelipaaDoorW2
import Derived.Test.YtalaacfoaelipaaDoorS0
import Derived.Lib.LaidTab
import Derived.Lib.SmallJoins
namespace Go.Proofs.YtalaacfoaelipaaDoor
open Go.RowKit Go.Sort

/-- The tables of math/bits and strconv, where their variables lie. -/
structure Tab (w : World) : Prop where
  bit : ∀ j, j < 64 → w.cell? ⟨1, j, none⟩ = some (.int .u8 (Lib.deBruijn64tab.getD j 0))
  pow : Lib.TabIs Tryd.prog w "internal/strconv.uint64pow10" .u64 Lib.pow10Tab
theorem Tab.below {w w' : World} (h : Tab w) (hb : Below w.heap.size w w') : Tab w' where
  bit := fun j hj => by
    have h0 : 1 < w.heap.size := block_lt_of_cell (h.bit 0 (by omega))
    exact (hb.cell (p := ⟨1, j, none⟩) h0).trans (h.bit j hj)
  pow := Go.Joins.tab_stays (g := 2) (by kernel_rfl) h.pow hb (Nat.le_refl _)
theorem Tab.alloc {w : World} (h : Tab w) (o : Obj) : Tab (w.alloc o) := h.below (bal (Below.refl _ _) _)

theorem tz_zero (w : World) : Calls Tryd.prog 79 #[.int .u64 0] w fun e w' => e = .returned (.int .i64 64) ∧ w' = w := by
  go_enter Tryd.func79, Tryd.ntmps79
  go_wp2
  go_ret
  exact ⟨rfl, rfl⟩
theorem low_key (x k : Nat) (hx : x < 18446744073709551616) (h0 : x ≠ 0) (hk : x &&& (18446744073709551616 - x) = 2 ^ k) :
    IntKind.u64.wrap (bits .and .u64 (x : Int) (IntKind.u64.wrap (-(x : Int))) * 285870213051353865) / 288230376151711744 = ((2 ^ k * 285870213051353865 % 18446744073709551616 / 288230376151711744 : Nat) : Int) := by
  have e : IntKind.u64.wrap (-(x : Int)) = ((18446744073709551616 - x : Nat) : Int) := by rw [IntKind.wrap_u64]; omega
  rw [e, bits_and_u64_nat _ _ hx (by omega), hk, IntKind.wrap_u64]
  generalize 2 ^ k = m
  omega
theorem tz_core (x k idx : Nat) (w : World) (h1 : ((x : Int) == 0) = false) (hk : k < 64) (hi : idx < 64)
    (key : IntKind.u64.wrap (bits .and .u64 (x : Int) (IntKind.u64.wrap (-(x : Int))) * 285870213051353865) / 288230376151711744 = (idx : Int))
    (hc : w.cell? ⟨1, idx, none⟩ = some (.int .u8 k)) :
    Calls Tryd.prog 79 #[.int .u64 x] w fun e w' => e = .returned (.int .i64 k) ∧ w' = w := by
  go_enter Tryd.func79, Tryd.ntmps79
  go_wp2_with (simp only [key])
  go_ret
  exact ⟨rfl, rfl⟩
theorem low_at (x : Nat) (hx : x < 18446744073709551616) (h0 : x ≠ 0) : ∃ idx : Nat, idx < 64 ∧ Lib.ctz 64 x < 64 ∧ Lib.deBruijn64tab.getD idx 0 = Lib.ctz 64 x ∧
    IntKind.u64.wrap (bits .and .u64 (x : Int) (IntKind.u64.wrap (-(x : Int))) * 285870213051353865) / 288230376151711744 = (idx : Int) := by
  obtain ⟨hlow, hk⟩ := Lib.lowest_bit 64 x h0 hx
  obtain ⟨hi, htab⟩ := Lib.deBruijn64_at _ hk
  exact ⟨_, hi, hk, htab, low_key x _ hx h0 hlow⟩
theorem tz_any (x : Nat) (w : World) (hx : x < 18446744073709551616) (hT : Tab w) :
    Calls Tryd.prog 79 #[.int .u64 x] w fun e w' => e = .returned (.int .i64 (Lib.ctz 64 x)) ∧ w' = w := by
  by_cases h0 : x = 0
  · subst h0; exact tz_zero w
  · obtain ⟨idx, hi, hk, htab, key⟩ := low_at x hx h0
    have hc := hT.bit _ hi
    rw [htab] at hc
    exact tz_core x _ idx w (by simp; omega) hk hi key hc

theorem evenness_any (p q : Int) (w : World) (hT : Tab w) :
    Calls Tryd.prog 61 #[wd p, wd q] w fun e w' => e = .returned (.int .i64 (evn p q)) ∧ Below w.heap.size w w' := by
  have h1 := loW_b p
  have h2 := loW_b q
  have hx : (loW p).toNat ||| (loW q).toNat < 18446744073709551616 := Nat.or_lt_two_pow (n := 64) (by omega) (by omega)
  have e1 : bits .or .u64 (loW p) (loW q) = (((loW p).toNat ||| (loW q).toNat : Nat) : Int) := by
    have := bits_or_u64_nat (loW p).toNat (loW q).toNat (by omega) (by omega)
    rwa [Int.toNat_of_nonneg h1.1, Int.toNat_of_nonneg h2.1] at this
  have H := fun w hT => tz_any ((loW p).toNat ||| (loW q).toNat) w hx hT
  have HT := (hT.alloc (.cells #[.int .u64 (hiW p), .int .u64 (loW p)] 64)).alloc (.cells #[.int .u64 (hiW q), .int .u64 (loW q)] 64)
  unfold evn
  generalize (loW p).toNat ||| (loW q).toNat = x at *
  go_enter Tryd.func61, Tryd.ntmps61
  go_wp2_with (first
    | (go_at_call 79; refine (H _ HT).mono ?_; rintro e w1 ⟨rfl, rfl⟩))
  go_ret
  exact ⟨rfl, bal (bal (Below.refl _ _) _) _⟩

theorem within_any (n : Int) (w : World) : Calls Tryd.prog 35 #[.int .i64 n] w fun e w' => e = .returned (.bool (inP n)) ∧ w' = w := by
  by_cases h1 : -9007199254740991 ≤ n
  · by_cases h2 : n ≤ 9007199254740991
    · have : inP n = true := (inP_iff n).2 ⟨h1, h2⟩
      rw [this]
      clear this
      go_enter Tryd.func35, Tryd.ntmps35
      go_wp2
      go_ret
      exact ⟨rfl, rfl⟩
    · have : inP n = false := (inP_no n).2 (by omega)
      rw [this]
      clear this
      have h3 : decide (n ≤ 9007199254740991) = false := by simpa using h2
      go_enter Tryd.func35, Tryd.ntmps35
      go_wp2
      go_ret
      exact ⟨rfl, rfl⟩
  · have : inP n = false := (inP_no n).2 (by omega)
    rw [this]
    clear this
    have h3 : decide (-9007199254740991 ≤ n) = false := by simpa using h1
    go_enter Tryd.func35, Tryd.ntmps35
    go_wp2
    go_ret
    exact ⟨rfl, rfl⟩
end Go.Proofs.YtalaacfoaelipaaDoor
