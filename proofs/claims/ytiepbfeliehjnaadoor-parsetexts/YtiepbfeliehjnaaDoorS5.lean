/-
  The law ParseTexts.
-/
import Derived.Test.YtiepbfeliehjnaaDoorS2
import Derived.Test.YtiepbfeliehjnaaDoorS4
import Derived.Test.YtiepbfeliehjnaaDoorQ2
namespace Go.Proofs.YtiepbfeliehjnaaDoor
open Go.RowKit Go.Sort

theorem rst_all : RSt := fun n rec w W rb ts l i v rs d H hO hc N hB hN hd => rstmt_any n rec w W rb ts l i v rs d H hO hc N hB hN hd
theorem own_len {W : World} {B T c n : Nat} {v : Value} {xs : List Value} (h : W.ownsRow B T c v n xs) : n ≤ 9223372036854775807 := by
  rcases h.2 with ⟨_, rfl⟩ | ⟨g, cap, cur, _, _, _, h1, h2, _⟩
  · omega
  · unfold maxLen at h2; omega
theorem OR.lens {W : World} {B : Nat} {v : Value} {rs : List Rw} (h : OR W B v rs) : rs.length ≤ 9223372036854775807 ∧ ∀ k (h : k < rs.length), rs[k].args.length ≤ 9223372036854775807 := by
  obtain ⟨vs, h1, h2, h3⟩ := h
  exact ⟨own_len h2, fun k hk => own_len (h3 k hk (by omega))⟩
set_option maxHeartbeats 8000000 in
set_option maxRecDepth 100000 in
theorem texts_any (s : ByteArray) (w : World) (hs : s.size ≤ 9223372036854775807) (hv : VR w) :
    Calls Tryd.prog 3 #[.string s] w fun e w' => e = .returned (.bool true) ∧ Below w.heap.size w w' := by
  obtain ⟨rs, a, e, ho⟩ := pout_ex s
  have AW := awake_any w hv
  have RP := fun w1 => rparse_any rst_all s rs a e w1 hs ho
  have PA := fun w1 h => parse_any s rs a e w1 hs h ho
  have SM : ∀ w1 va vb, SR w1 va rs → SR w1 vb rs → rs.length ≤ 9223372036854775807 → (∀ k (h : k < rs.length), rs[k].args.length ≤ 9223372036854775807) → Calls Tryd.prog 11 #[va, vb, .bool true] w1 fun e w' => e = .returned (.bool true) ∧ Below w1.heap.size w1 w' := fun w1 va vb h1 h2 h3 h4 =>
    (same_any rs rs va vb true w1 h1 h2 h3 h4).mono fun e w' ⟨⟨b, e1, e2⟩, hb⟩ => ⟨by rw [e1, e2.2 (SameP.refl true rs)], hb⟩
  have HV : Hid (VR w) := hv
  clear hv ho
  go_enter Tryd.func3, Tryd.ntmps3
  go_wp2_with (first
    | (go_at_call 8; (with_reducible refine AW.mono ?_); rintro x w1 ⟨rfl, hB1⟩)
    | (go_at_call 9; (with_reducible refine (RP w1).mono ?_); rintro x w2 ⟨v2, rfl, ⟨B2, hO2⟩, hB2⟩)
    | (go_at_call 10; (with_reducible refine (PA w2 (HV.out.below (btr hB1 hB2))).mono ?_); rintro x w3 ⟨v3, rfl, hO3, hB3⟩)
    | (go_at_call 11; (with_reducible refine (SM w3 _ _ hO3.sr (hO2.sr.below hB3) hO3.lens.1 hO3.lens.2).mono ?_); rintro x w4 ⟨rfl, hB4⟩))
  go_ret
  exact ⟨rfl, btr (btr (btr hB1 hB2) hB3) hB4⟩
end Go.Proofs.YtiepbfeliehjnaaDoor
