/-
  Put together of: PRow0.
-/
import Derived.Test.YtoddbaljnlhhaaaRows
import Derived.Test.YtoddbaljnlhhaaaXC
import Derived.ProofKit
import Derived.OpenShut
import Derived.Carry
import Derived.Lib.SmallJoins
namespace Go.Proofs.Ytoddbaljnlhhaaa.PL
open Go.ChangeShapes Go.WideShapes Go.ChangeAt Go.RowKit Go.Joins

theorem Try.own : ownKnob Try.prog.godebug = none := by kernel_rfl
theorem Try.laidOut : laidOutB Try.prog = true := by kernel_rfl
theorem Try.cells27 : Try.prog.cellsOf 27 = 4 := by kernel_rfl
set_option maxRecDepth 100000 in
theorem open_pauli {H : Type} {enc : TypeId × Value → H} {W : World} {base b0 : Nat} {sp : Nat → Bool} {held : Bool} {r : Reach} {v : Value} {d : DataW H} {p : List MemPlace}
    (hv : Value.okWide Try.prog W r b0 27 v) (h : DataW.Trod enc Try.prog W base sp held 27 v d p) :
    ∃ (a : Int) (b c : Nat) (e : Int), v = pv a b c e ∧ d = .agg [.lit (.int .i64 a), .lit (.int .u64 (b : Int)), .lit (.int .u64 (c : Int)), .lit (.int .i64 e)] ∧ p = [] ∧ (Lit.int .i64 a).wf = true ∧ (Lit.int .u64 (b : Int)).wf = true ∧ (Lit.int .u64 (c : Int)).wf = true ∧ (Lit.int .i64 e).wf = true ∧ b < 18446744073709551616 ∧ c < 18446744073709551616 := by
  obtain ⟨c0, c1, c2, c3, y0, y1, y2, y3, m, rfl, rfl, rfl, h0, h1, h2, h3⟩ := open_agg4 Try.underlying27 (by kernel_rfl) Try.cells27 hv h
  obtain ⟨a, e0, rfl, wa⟩ := DataW.trod_int Try.underlying3 h0
  obtain ⟨b, e1, rfl, wb⟩ := DataW.trod_int Try.underlying25 h1
  obtain ⟨c, e2, rfl, wc⟩ := DataW.trod_int Try.underlying25 h2
  obtain ⟨e, e3, rfl, we⟩ := DataW.trod_int Try.underlying3 h3
  simp at e0 e1 e2 e3
  subst e0 e1 e2 e3
  have hb := bounds_u64 wb
  have hc := bounds_u64 wc
  obtain ⟨b, rfl⟩ := Int.eq_ofNat_of_zero_le (show 0 ≤ b by omega)
  obtain ⟨c, rfl⟩ := Int.eq_ofNat_of_zero_le (show 0 ≤ c by omega)
  exact ⟨a, b, c, e, rfl, rfl, rfl, wa, wb, wc, we, by omega, by omega⟩
set_option maxRecDepth 100000 in
theorem shut_pauli {H : Type} {enc : TypeId × Value → H} {W : World} {base : Nat} {sp : Nat → Bool} {held : Bool} {a : Int} {b c : Nat} {e : Int} (wa : (Lit.int .i64 a).wf = true) (wb : (Lit.int .u64 (b : Int)).wf = true) (wc : (Lit.int .u64 (c : Int)).wf = true) (we : (Lit.int .i64 e).wf = true) :
    DataW.Trod enc Try.prog W base sp held 27 (pv a b c e) (.agg [.lit (.int .i64 a), .lit (.int .u64 (b : Int)), .lit (.int .u64 (c : Int)), .lit (.int .i64 e)]) [] :=
  shut_agg4 (y0 := (.lit (.int .i64 a), [])) (y1 := (.lit (.int .u64 (b : Int)), [])) (y2 := (.lit (.int .u64 (c : Int)), [])) (y3 := (.lit (.int .i64 e), [])) Try.underlying27 (by kernel_rfl) Try.cells27
    ⟨1, by simp [DataW.trod, Try.underlying3, wa]⟩ ⟨1, by simp [DataW.trod, Try.underlying25, wb]⟩ ⟨1, by simp [DataW.trod, Try.underlying25, wc]⟩ ⟨1, by simp [DataW.trod, Try.underlying3, we]⟩
end Go.Proofs.Ytoddbaljnlhhaaa.PL
