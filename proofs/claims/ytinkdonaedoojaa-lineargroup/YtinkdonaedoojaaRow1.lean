/-
  The three matrices and two numbers that LinearGroup takes, opened.
-/
import Derived.Test.YtinkdonaedoojaaRow0
namespace Go.Proofs.Ytinkdonaedoojaa
open Go.ChangeShapes Go.WideShapes Go.ChangeAt Go.ChangeMaps Go.RowKit Go.Sort

theorem Try.cells61 : Try.prog.cellsOf 61 = 8 := by kernel_rfl
section
variable {H : Type} {enc : TypeId × Value → H} {W : World}
set_option maxRecDepth 100000 in
theorem grp_of_cells {fuel : Nat} {cs : List Value} {x : DataW H × List MemPlace} (h : DataW.trod enc Try.prog W 0 (fun _ => true) true fuel 61 cs = some x) :
    ∃ (N1 N2 N3 : Int) (a1 a2 a3 : Option Addr) (n1 n2 n3 c1 c2 c3 : Nat) (f1 f2 f3 : Nat → Nat) (x y : Int), cs = [.int .i64 N1, .slice a1 n1 c1, .int .i64 N2, .slice a2 n2 c2, .int .i64 N3, .slice a3 n3 c3, .int .u64 x, .int .u64 y] ∧ RR W a1 n1 f1 ∧ RR W a2 n2 f2 ∧ RR W a3 n3 f3 ∧ (Lit.int .u64 x).wf = true ∧ (Lit.int .u64 y).wf = true := by
  obtain ⟨xs, n, _, rfl, hlen, hxl, hf⟩ := DataW.trod_struct Try.underlying61 h
  rw [Try.cells61] at hlen
  match cs, hlen, xs, hxl, hf with
  | [v0, v1, v2, v3, v4, v5, v6, v7], _, [x0, x1, x2, x3, x4], _, hf =>
    have h0 : DataW.trod enc Try.prog W 0 (fun _ => true) true n 24 (([v0, v1, v2, v3, v4, v5, v6, v7].drop 0).take (Try.prog.cellsOf 24)) = some x0 := hf 0 _ rfl
    rw [Try.cells24] at h0
    have h1 : DataW.trod enc Try.prog W 0 (fun _ => true) true n 24 (([v0, v1, v2, v3, v4, v5, v6, v7].drop 2).take (Try.prog.cellsOf 24)) = some x1 := hf 1 _ rfl
    rw [Try.cells24] at h1
    have h2 : DataW.trod enc Try.prog W 0 (fun _ => true) true n 24 (([v0, v1, v2, v3, v4, v5, v6, v7].drop 4).take (Try.prog.cellsOf 24)) = some x2 := hf 2 _ rfl
    rw [Try.cells24] at h2
    have h3 : DataW.trod enc Try.prog W 0 (fun _ => true) true n 25 (([v0, v1, v2, v3, v4, v5, v6, v7].drop 6).take (Try.prog.cellsOf 25)) = some x3 := hf 3 _ rfl
    rw [Try.cells25] at h3
    have h4 : DataW.trod enc Try.prog W 0 (fun _ => true) true n 25 (([v0, v1, v2, v3, v4, v5, v6, v7].drop 7).take (Try.prog.cellsOf 25)) = some x4 := hf 4 _ rfl
    rw [Try.cells25] at h4
    obtain ⟨N1, a1, n1, c1, f1, e0, R1, _⟩ := lin_of_cells (cs := [v0, v1]) h0
    obtain ⟨N2, a2, n2, c2, f2, e1, R2, _⟩ := lin_of_cells (cs := [v2, v3]) h1
    obtain ⟨N3, a3, n3, c3, f3, e2, R3, _⟩ := lin_of_cells (cs := [v4, v5]) h2
    obtain ⟨x, e3, _, w3⟩ := DataW.trod_int (cs := [v6]) Try.underlying25 h3
    obtain ⟨y, e4, _, w4⟩ := DataW.trod_int (cs := [v7]) Try.underlying25 h4
    simp at e0 e1 e2 e3 e4
    obtain ⟨rfl, rfl⟩ := e0
    obtain ⟨rfl, rfl⟩ := e1
    obtain ⟨rfl, rfl⟩ := e2
    subst e3 e4
    exact ⟨N1, N2, N3, a1, a2, a3, n1, n2, n3, c1, c2, c3, f1, f2, f3, x, y, rfl, R1, R2, R3, w3, w4⟩
set_option maxRecDepth 100000 in
theorem grp_of_trod {base : Nat} {v : Value} {d : DataW H} {p : List MemPlace} (hval : Value.okWide Try.prog W .any base 61 v) (h : DataW.Trod enc Try.prog W 0 (fun _ => true) true 61 v d p) :
    ∃ (N1 N2 N3 : Int) (a1 a2 a3 : Option Addr) (n1 n2 n3 c1 c2 c3 : Nat) (f1 f2 f3 : Nat → Nat) (x y : Nat), v = .agg #[.int .i64 N1, .slice a1 n1 c1, .int .i64 N2, .slice a2 n2 c2, .int .i64 N3, .slice a3 n3 c3, .int .u64 x, .int .u64 y] ∧ RR W a1 n1 f1 ∧ RR W a2 n2 f2 ∧ RR W a3 n3 f3 ∧ x < 18446744073709551616 ∧ y < 18446744073709551616 := by
  obtain ⟨cs, rfl, hsz⟩ := okWide_struct Try.underlying61 hval
  obtain ⟨fuel, hf⟩ := h
  obtain ⟨N1, N2, N3, a1, a2, a3, n1, n2, n3, c1, c2, c3, f1, f2, f3, x, y, e, R1, R2, R3, wx, wy⟩ := grp_of_cells hf
  have hx := wf_u64 wx
  have hy := wf_u64 wy
  obtain ⟨x, rfl⟩ := Int.eq_ofNat_of_zero_le hx.1
  obtain ⟨y, rfl⟩ := Int.eq_ofNat_of_zero_le hy.1
  obtain ⟨cs⟩ := cs
  simp [Value.cells] at e
  subst e
  exact ⟨N1, N2, N3, a1, a2, a3, n1, n2, n3, c1, c2, c3, f1, f2, f3, x, y, rfl, R1, R2, R3, by omega, by omega⟩
end
end Go.Proofs.Ytinkdonaedoojaa
