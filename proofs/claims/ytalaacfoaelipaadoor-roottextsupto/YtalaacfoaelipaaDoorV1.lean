/-
  The reference's decimal.
-/
import Derived.Test.YtalaacfoaelipaaDoorAwake
import Derived.Laws.IdiomStrings
import Derived.Lib.ItoaLen
import Derived.Lib.ItoaMem
namespace Go.Proofs.YtalaacfoaelipaaDoor
open Go.RowKit Go.Sort

theorem dec_small (u : Nat) (h : u < 10) : Lib.decDigits u = [UInt8.ofNat (48 + u)] := by
  rw [Lib.decDigits, dif_pos h]
theorem dec_big (u : Nat) (h : ¬ u < 10) : Lib.decDigits u = Lib.decDigits (u / 10) ++ [UInt8.ofNat (48 + u % 10)] := by
  rw [Lib.decDigits, dif_neg h]
set_option maxRecDepth 20000 in
set_option maxHeartbeats 1000000 in
theorem decimal_digit (u : Nat) (b : UInt8) (w : World) (h : u < 10) (hb : (b.toNat : Int) = 48 + (u : Int)) :
    Calls Tryd.prog 51 #[.int .i64 u] w fun e w' => e = .returned (.string ⟨#[b]⟩) ∧ Below w.heap.size w w' := by
  have wr : IntKind.u8.wrap (48 + (u : Int)) = 48 + (u : Int) := by simp [IntKind.wrap, IntKind.signed, IntKind.bits]; omega
  have CV' := run_convert_bytes_back (P := Tryd.prog) (w.alloc (.cells #[.int .u8 (48 + (u : Int))] 5)) 105 9 5 ⟨w.heap.size, 0, none⟩ 1 [b] Tryd.underlying105 Tryd.underlying5 Tryd.underlying9 (fun j hj => by
    have : j = 0 := by simpa using hj
    subst this
    simp only [List.getElem_cons_zero, hb]
    exact World.cell?_alloc_at _ _ _ _ rfl)
  simp only [List.length_singleton] at CV'
  clear hb
  go_enter Tryd.func51, Tryd.ntmps51
  go_wp2
  go_ret
  exact ⟨rfl, bal (Below.refl _ _) _⟩
theorem decimal_small (u : Nat) (w : World) (h : u < 10) :
    Calls Tryd.prog 51 #[.int .i64 u] w fun e w' => e = .returned (.string ⟨#[UInt8.ofNat (48 + u)]⟩) ∧ Below w.heap.size w w' :=
  decimal_digit u _ w h (by
    have : (UInt8.ofNat (48 + u)).toNat = (48 + u) % 256 := by simp
    omega)
theorem dec_len (u : Nat) (h : u ≤ 9223372036854775807) : (Lib.decDigits u).length ≤ 21 := by
  have := Lib.itoa_length_le (u : Int) (by omega) (by omega)
  rwa [Lib.itoa_nonneg] at this
theorem bytes_app (a b : List UInt8) : (⟨a.toArray⟩ : ByteArray) ++ ⟨b.toArray⟩ = ⟨(a ++ b).toArray⟩ := by
  apply ByteArray.ext
  simp
set_option maxRecDepth 20000 in
set_option maxHeartbeats 1000000 in
theorem decimal_nat : ∀ (n u : Nat) (w : World), u ≤ n → u ≤ 9223372036854775807 →
    Calls Tryd.prog 51 #[.int .i64 u] w fun e w' => e = .returned (.string ⟨(Lib.decDigits u).toArray⟩) ∧ Below w.heap.size w w'
  | n, u, w, hn, hu => by
    by_cases h : u < 10
    · rw [dec_small u h]
      exact decimal_small u w h
    · obtain ⟨m, rfl⟩ : ∃ m, n = m + 1 := ⟨n - 1, by omega⟩
      have IH := fun w => decimal_nat m (u / 10) w (by omega) (by omega)
      have S := fun w => decimal_small (u % 10) w (by omega)
      rw [dec_big u h, ← bytes_app]
      have e1 : ((u / 10 : Nat) : Int) = (u : Int) / 10 := by omega
      have e2 : ((u % 10 : Nat) : Int) = (u : Int) % 10 := by omega
      rw [e1] at IH
      rw [e2] at S
      clear e1 e2 hn
      have hl := dec_len (u / 10) (by omega)
      generalize Lib.decDigits (u / 10) = l at *
      generalize UInt8.ofNat (48 + u % 10) = b at *
      go_enter Tryd.func51, Tryd.ntmps51
      go_wp2_with (first
        | (go_at_call 51; (with_reducible refine (IH _).mono ?_); rintro e w1 ⟨rfl, hB⟩)
        | (go_at_call 51; (with_reducible refine (S _).mono ?_); rintro e w2 ⟨rfl, hN⟩; replace hB := btr hB hN))
      go_ret
      exact ⟨rfl, hB⟩
set_option maxRecDepth 20000 in
theorem decimal_any (n : Int) (w : World) (h0 : -9007199254740991 ≤ n) (h1 : n ≤ 9007199254740991) :
    Calls Tryd.prog 51 #[.int .i64 n] w fun e w' => e = .returned (.string ⟨(Lib.itoa n).toArray⟩) ∧ Below w.heap.size w w' := by
  by_cases h : n < 0
  · obtain ⟨u, rfl⟩ : ∃ u : Nat, n = -(u : Int) := ⟨n.natAbs, by omega⟩
    rw [Lib.itoa_neg u (by omega), show (45 :: Lib.decDigits u) = [45] ++ Lib.decDigits u from rfl, ← bytes_app]
    have IH := fun w => decimal_nat u u w (Nat.le_refl _) (by omega)
    have hl := dec_len u (by omega)
    have e : - -(u : Int) = (u : Int) := by omega
    have hu : u ≤ 9007199254740991 := by omega
    clear h0 h1
    generalize Lib.decDigits u = l at *
    go_enter Tryd.func51, Tryd.ntmps51
    go_wp2_with (go_at_call 51; (with_reducible refine (IH _).mono ?_); rintro e w1 ⟨rfl, hB⟩)
    go_ret
    exact ⟨rfl, hB⟩
  · obtain ⟨u, rfl⟩ := Int.eq_ofNat_of_zero_le (show 0 ≤ n by omega)
    rw [Lib.itoa_nonneg]
    exact decimal_nat u u w (Nat.le_refl _) (by omega)
end Go.Proofs.YtalaacfoaelipaaDoor
