/-
  What the row's condition on its variables gives: VR; a world that meets it.
-/
import Derived.Test.YtalaacfoaelipaaDoorX7
import Derived.Test.YtalaacfoaelipaaDoorLaid
import Derived.Lay
import Derived.PinnedBridge
import Derived.Lib.LaidU8T
import Derived.Shelf.Vars
namespace Go.Proofs.YtalaacfoaelipaaDoor
open Go.ChangeShapes Go.WideShapes Go.ChangeAt Go.RowKit Go.Joins

def textsLaid : List (String × DataW Unit) := [("math/bits.deBruijn32tab", Rows.laid_math_bits_deBruijn32tab), ("math/bits.deBruijn64tab", Rows.laid_math_bits_deBruijn64tab), ("internal/strconv.uint64pow10", Rows.laid_internal_strconv_uint64pow10), ("unicode/utf8.acceptRanges", Rows.laid_unicode_utf8_acceptRanges), ("strconv.ErrRange", Rows.laid_strconv_ErrRange), ("strconv.ErrSyntax", Rows.laid_strconv_ErrSyntax), ("unicode/utf8.first", Rows.laid_unicode_utf8_first)]
theorem ev_of_reads {w : World} {n : String} {nm : String} {d : DataW Unit} (h : Lib.VarReads Tryd.prog w n (.iface nm d)) {g : Nat} (hg : Tryd.prog.globalNamed n = some g) (ht : (Tryd.prog.globals[g]?).map (·.type) = some 121) : Ev w n := by
  obtain ⟨g', t, cs, fuel, p, h1, h2, h3, h4⟩ := h
  obtain rfl := Option.some.inj (hg.symm.trans h1)
  obtain rfl := Option.some.inj (ht.symm.trans h2)
  cases fuel with
  | zero => simp [DataW.trod] at h4
  | succ fuel =>
    simp only [DataW.trod, Tryd.underlying121] at h4
    split at h4
    all_goals first
      | (rename_i u v a b; exact ⟨u, v, h3.trans (congrArg some (Array.toList_inj.1 (show cs.toList = (#[Value.iface u v] : Array Value).toList from b)))⟩)
      | (rename_i a b; cases a; done)
      | (rename_i b; cases b; done)
      | (cases h4; done)
theorem u8types : U8Types Tryd.prog Tryd.lays271_ren := { t5 := Tryd.underlying5, t119 := Tryd.underlying162, t138 := Tryd.underlying164, t139 := Tryd.underlying165 }
theorem u8extra : U8Extra Tryd.prog Tryd.lays271_ren := ⟨by kernel_rfl, by kernel_rfl, by kernel_rfl, by kernel_rfl, by kernel_rfl, by kernel_rfl, by kernel_rfl⟩
theorem accept_eq : (Rows.laid_unicode_utf8_acceptRanges : DataW Unit) = Lib.acceptData := by kernel_rfl
theorem vr_of_laid {W : World} (h0 : laidMetH Tryd.prog textsLaid W) (hs : W.ShapedOpen Tryd.prog) : VR W := by
  rw [MakeChecks.laidMetH_plain _ _ _ (by kernel_rfl)] at h0
  have h' : laidMet Tryd.prog [("math/bits.deBruijn32tab", Rows.laid_math_bits_deBruijn32tab), ("math/bits.deBruijn64tab", Lib.tabData .u8 (Lib.deBruijn64tab.map fun n : Nat => (n : Int))), ("internal/strconv.uint64pow10", Lib.tabData .u64 Lib.pow10Tab), ("unicode/utf8.acceptRanges", Rows.laid_unicode_utf8_acceptRanges), ("strconv.ErrRange", Rows.laid_strconv_ErrRange), ("strconv.ErrSyntax", Rows.laid_strconv_ErrSyntax), ("unicode/utf8.first", Rows.laid_unicode_utf8_first)] W := h0
  have h1 := laid_tail h'
  have h2 := laid_tail h1
  have ht : Lib.TabIs Tryd.prog W "math/bits.deBruijn64tab" .u8 (Lib.deBruijn64tab.map fun n : Nat => (n : Int)) :=
    Lib.tabIs_of_head (g := 1) (t := 124) (e := 5) (by kernel_rfl) (by kernel_rfl) Tryd.underlying124 Tryd.underlying5 (by kernel_rfl) (by kernel_rfl) h1
  have hT : Tab W := by
    refine ⟨fun j hj => ?_, Lib.tabIs_of_head (g := 2) (t := 128) (e := 53) (by kernel_rfl) (by kernel_rfl) Tryd.underlying128 Tryd.underlying53 (by kernel_rfl) (by kernel_rfl) h2⟩
    have hc := ht.cell (g := 1) (by kernel_rfl) j (by rw [List.length_map]; exact hj)
    rw [hc]
    simp only [List.getD, List.getElem?_map]
    cases Lib.deBruijn64tab[j]? <;> rfl
  exact {
    tab := hT
    mx := cell_of_shapedOpen_int (zero := #[.int .i64 0]) (t := 3) hs (of_decide_eq_true (by kernel_rfl)) (by kernel_rfl) rfl (by kernel_rfl) (by kernel_rfl) Tryd.underlying3
    sy := ev_of_reads (g := 5) (Lib.laidMet.reads h0 (n := "strconv.ErrSyntax") (d := Rows.laid_strconv_ErrSyntax) (by simp [textsLaid])) (by kernel_rfl) (by kernel_rfl)
    ra := ev_of_reads (g := 6) (Lib.laidMet.reads h0 (n := "strconv.ErrRange") (d := Rows.laid_strconv_ErrRange) (by simp [textsLaid])) (by kernel_rfl) (by kernel_rfl)
    utf := utf8Tabs_of_readsT u8types u8extra
      (Pinned.utf8First_eq ▸ Lib.laidMet.reads h0 (n := "unicode/utf8.first") (d := Rows.laid_unicode_utf8_first) (by simp [textsLaid]))
      (accept_eq ▸ Lib.laidMet.reads h0 (n := "unicode/utf8.acceptRanges") (d := Rows.laid_unicode_utf8_acceptRanges) (by simp [textsLaid])) }
theorem texts_met (os : Os) (args : Array Value) : laidMetH Tryd.prog textsLaid ((World.laidAll Tryd.prog os textsLaid).forCall (fun _ _ => 0) ⟨#[], args, []⟩).memory := by
  rw [MakeChecks.laidMetH_plain _ _ _ (by kernel_rfl)]
  exact laidMet_laidAll _ (by kernel_rfl) (by kernel_rfl)
end Go.Proofs.YtalaacfoaelipaaDoor
