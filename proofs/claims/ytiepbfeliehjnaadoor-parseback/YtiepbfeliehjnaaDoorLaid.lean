/-
  What the rows' condition on their variables gives: a table of strconv, an error; a world that meets it.
-/
import Derived.Test.YtiepbfeliehjnaaDoorP1
import Derived.ProofKit
import Derived.OpenShut
import Derived.Carry
import Derived.LaidMore
import Derived.LaidOnce
import Derived.LaidSub
import Derived.Lib.LaidTab
import Derived.Stop.Joined
import Derived.Lay
import Derived.Lib.LaidU8
import Derived.Shelf.Vars
namespace Go.Proofs.YtiepbfeliehjnaaDoor
open Go.ChangeShapes Go.WideShapes Go.ChangeAt Go.RowKit Go.Joins

theorem Tryd.own : ownKnob Tryd.prog.godebug = none := by kernel_rfl
theorem Tryd.laidOut : laidOutB Tryd.prog = true := by kernel_rfl
def seatLaid : List (String × DataW Unit) := [("math/bits.deBruijn32tab", Rows.laid_math_bits_deBruijn32tab), ("math/bits.deBruijn64tab", Rows.laid_math_bits_deBruijn64tab), ("internal/strconv.uint64pow10", Rows.laid_internal_strconv_uint64pow10), ("strconv.ErrRange", Rows.laid_strconv_ErrRange), ("strconv.ErrSyntax", Rows.laid_strconv_ErrSyntax)]
theorem laid_tail {P : Program} {W : World} {x : String × DataW Unit} {l : List (String × DataW Unit)} (h : laidMet P (x :: l) W) : laidMet P l W := by
  obtain ⟨ps, hl, hnd, hrows⟩ := h
  obtain ⟨g, t, cs, fuel, p, q, e1, e2, e3, e4, hr, rfl⟩ := hl
  exact ⟨q, hr, hnd.sublist (List.sublist_append_right _ _), fun b off hp => hrows b off ((List.sublist_append_right _ _).subset hp)⟩
theorem ev_of_reads {w : World} {n : String} {nm : String} {d : DataW Unit} (h : Lib.VarReads Tryd.prog w n (.iface nm d)) {g : Nat} (hg : Tryd.prog.globalNamed n = some g) (ht : (Tryd.prog.globals[g]?).map (·.type) = some 99) : Ev w n := by
  obtain ⟨g', t, cs, fuel, p, h1, h2, h3, h4⟩ := h
  obtain rfl := Option.some.inj (hg.symm.trans h1)
  obtain rfl := Option.some.inj (ht.symm.trans h2)
  cases fuel with
  | zero => simp [DataW.trod] at h4
  | succ fuel =>
    simp only [DataW.trod, Tryd.underlying99] at h4
    split at h4
    all_goals first
      | (rename_i u v a b; exact ⟨u, v, h3.trans (congrArg some (Array.toList_inj.1 (show cs.toList = (#[Value.iface u v] : Array Value).toList from b)))⟩)
      | (rename_i a b; cases a; done)
      | (rename_i b; cases b; done)
      | (cases h4; done)
theorem vr_of_laid {W : World} (h0 : laidMetH Tryd.prog seatLaid W) : VR W := by
  rw [MakeChecks.laidMetH_plain _ _ _ (by kernel_rfl)] at h0
  have h' : laidMet Tryd.prog [("math/bits.deBruijn32tab", Rows.laid_math_bits_deBruijn32tab), ("math/bits.deBruijn64tab", Rows.laid_math_bits_deBruijn64tab), ("internal/strconv.uint64pow10", Lib.tabData .u64 Lib.pow10Tab), ("strconv.ErrRange", Rows.laid_strconv_ErrRange), ("strconv.ErrSyntax", Rows.laid_strconv_ErrSyntax)] W := h0
  have h1 := laid_tail h'
  have h2 := laid_tail h1
  exact ⟨Lib.tabIs_of_head (g := 2) (t := 127) (e := 107) (by kernel_rfl) (by kernel_rfl) Tryd.underlying127 Tryd.underlying107 (by kernel_rfl) (by kernel_rfl) h2,
    ev_of_reads (g := 1) (Lib.laidMet.reads h0 (n := "strconv.ErrRange") (d := Rows.laid_strconv_ErrRange) (by simp [seatLaid])) (by kernel_rfl) (by kernel_rfl)⟩
theorem seat_met (os : Os) (args : Array Value) : laidMetH Tryd.prog seatLaid ((World.laidAll Tryd.prog os seatLaid).forCall (fun _ _ => 0) ⟨#[], args, []⟩).memory := by
  rw [MakeChecks.laidMetH_plain _ _ _ (by kernel_rfl)]
  exact laidMet_laidAll _ (by kernel_rfl) (by kernel_rfl)
end Go.Proofs.YtiepbfeliehjnaaDoor
