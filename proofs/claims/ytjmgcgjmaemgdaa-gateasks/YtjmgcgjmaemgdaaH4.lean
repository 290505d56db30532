/-
  The reference's Column at every gate and column.
-/
import Derived.Test.YtjmgcgjmaemgdaaH2
import Derived.Test.YtjmgcgjmaemgdaaH3
namespace Go.Proofs.Ytjmgcgjmaemgdaa
open Go.RowKit Go.Sort

theorem gx_of (i y x : Nat) (hi : i < 25) (hy : y < 2 ^ qOf i) (hx : x < 2 ^ qOf i) : GXat (enR (ens i y)) (enH (ens i y)) (fun j => mo (enP (ens i y) j)) (fun x => reP i x y) (fun x => reH i x y) (atS i y) x := by
  obtain ⟨⟨_, _, h8⟩, hc⟩ := (gate_ok i hi).cell y x hy hx
  rcases hc with ⟨m, h, e, s⟩ | ⟨e, s⟩
  · have h0 := s.h0
    have h1 := s.h1
    refine .inl ⟨m, h.toNat, ?_, ?_, s.m8, by omega, s.row, s.pw, ?_, s.nat, h8⟩
    · show (rO (ec i x y)).1 = _
      rw [e]; rfl
    · show (rO (ec i x y)).2 = _
      rw [e]
      show h = _
      omega
    · rw [s.hf]; omega
  · refine .inr ⟨?_, s.nat⟩
    show (rO (ec i x y)).1 = _
    rw [e]; rfl
theorem rcolumn_all (i y : Nat) (hi : i < 25) (hy : y < 2 ^ qOf i) (w : World) : Calls Try.prog 22 #[.string (nm i), .int .i64 (y : Nat)] w fun e w' => CR w w' (ens i y).length (enR (ens i y)) (enH (ens i y)) (fun j => mo (enP (ens i y) j)) e := by
  have A := fun w => rarity_all i hi w
  have EN : ∀ x, x < 2 ^ qOf i → ∀ w, Calls Try.prog 34 #[.string (nm i), .int .i64 (x : Nat), .int .i64 (y : Nat)] w fun e w' => e = .returned (.tuple #[.int .i64 (reP i x y), .int .i64 (reH i x y)]) ∧ w' = w := fun x hx w => rentry_all i x y hi hx hy w
  have GX := fun x hx => gx_of i y x hi hy hx
  have fin := ((gate_ok i hi).col y hy).nat
  have a0 : atS i y 0 = 0 := rfl
  rcases (gate_ok i hi).q with e | e | e
  · rw [e] at A EN GX fin hy
    exact rcolumn_1 y hy _ _ _ _ (fun x => reP i x y) (fun x => reH i x y) (atS i y) w A EN GX a0 fin
  · rw [e] at A EN GX fin hy
    exact rcolumn_2 y hy _ _ _ _ (fun x => reP i x y) (fun x => reH i x y) (atS i y) w A EN GX a0 fin
  · rw [e] at A EN GX fin hy
    exact rcolumn_3 y hy _ _ _ _ (fun x => reP i x y) (fun x => reH i x y) (atS i y) w A EN GX a0 fin
end Go.Proofs.Ytjmgcgjmaemgdaa
