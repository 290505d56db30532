/-
  The law LinearFrom.
-/
import Derived.Test.YtinkdonaedoojaaF3
import Derived.Test.YtinkdonaedoojaaF4
import Derived.Test.YtinkdonaedoojaaL1
namespace Go.Proofs.Ytinkdonaedoojaa
open Go.RowKit

set_option maxHeartbeats 4000000 in
set_option maxRecDepth 100000 in
theorem lfrom_any (c : CL.Ci) (a : Option Addr) (cp : Nat) (A : Nat → Option Addr) (C : Nat → Nat) (w : World) (H : CL.OS w a cp c.ops A C) :
    Calls Try.prog 4 #[CL.civ c a cp] w fun e w' => e = .returned (.bool true) ∧ Below w.heap.size w w' := by
  have P1 := fun w' (h : Below w.heap.size w w') => from_any c a cp A C w' (H.below h)
  have P2 := fun w' (h : Below w.heap.size w w') => rfrom_any c a cp A C w' (H.below h)
  generalize frR c = R at P1 P2
  obtain ⟨M, m, F, E⟩ := R
  have HB := hid (bal (Below.refl w.heap.size w) (.cells (CL.cic c a cp) 50))
  have K0 := hid (bk_new w (CL.cic c a cp) 50)
  have AL := alive_any
  clear H
  go_enter Try.func4, Try.ntmps4
  go_upto_region 3 with (go_at_call 8; (with_reducible refine (AL _).mono ?_); rintro e w1 ⟨rfl, hN⟩)
  replace HB := hid (btr HB.out hN)
  replace K0 := hid (bk_on K0.out hN)
  clear hN AL
  have d0 := K0.out.cell
  have l0 := K0.out.lt
  go_upto_region 4 with (go_at_call 22; (with_reducible refine (P1 _ HB.out).mono ?_); rintro e wa ⟨vwa, rfl, hO, hN⟩; obtain ⟨awa, cwa, rfl⟩ := os_shape hO)
  replace HB := hid (bal (btr HB.out hN) (.cells #[.int .i64 M, .slice awa m cwa] 24))
  replace K0 := hid ((bk_on K0.out hN).alloc (.cells #[.int .i64 M, .slice awa m cwa] 24))
  have K7 := hid (bk_new wa #[.int .i64 M, .slice awa m cwa] 24)
  have O7 := hid (hO.on (bal (Below.refl wa.heap.size wa) (.cells #[.int .i64 M, .slice awa m cwa] 24)))
  clear hN hO d0 l0 P1
  generalize hV : wa.alloc (.cells #[.int .i64 M, .slice awa m cwa] 24) = Xwa at *
  clear hV
  generalize wa.heap.size = b7 at *
  have d0 := K0.out.cell
  have l0 := K0.out.lt
  go_upto_region 5 with (go_at_call 23; (with_reducible refine (P2 _ HB.out).mono ?_); rintro e wb ⟨vwb, rfl, hO, hN⟩; obtain ⟨awb, cwb, rfl⟩ := os_shape hO)
  replace HB := hid (bal (btr HB.out hN) (.cells #[.int .i64 M, .slice awb m cwb] 24))
  replace K7 := hid ((bk_on K7.out hN).alloc (.cells #[.int .i64 M, .slice awb m cwb] 24))
  replace O7 := hid ((O7.out.on hN).on (bal (Below.refl wb.heap.size wb) (.cells #[.int .i64 M, .slice awb m cwb] 24)))
  have K9 := hid (bk_new wb #[.int .i64 M, .slice awb m cwb] 24)
  have O9 := hid (hO.on (bal (Below.refl wb.heap.size wb) (.cells #[.int .i64 M, .slice awb m cwb] 24)))
  clear hN hO d0 l0 K0 P2
  generalize hV : wb.alloc (.cells #[.int .i64 M, .slice awb m cwb] 24) = Xwb at *
  clear hV
  generalize wb.heap.size = b9 at *
  have d7 := K7.out.cell
  have l7 := K7.out.lt
  have d9 := K9.out.cell
  have l9 := K9.out.lt
  have SM := same_os (M := M) O7.out O9.out
  have hE : ((E : Int) == E) = true := beq_self_eq_true _
  go_wp2_with (go_at_call 13; (with_reducible refine SM.mono ?_); rintro e wc ⟨rfl, hN⟩)
  go_ret
  exact ⟨rfl, btr HB.out hN⟩
end Go.Proofs.Ytinkdonaedoojaa
