/-
  What the two Texts tell of any root.
-/
import Derived.Test.YtalaacfoaelipaaDoorV2
import Derived.Test.YtalaacfoaelipaaDoorV3
namespace Go.Proofs.YtalaacfoaelipaaDoor
open Go.RowKit Go.Sort

/-- The text of (p + q times the square root of 2). -/
def bodyL (p q : Int) : List UInt8 :=
  if q = 0 then Lib.itoa p else if p = 0 then Lib.itoa q ++ [114] else if 0 < q then Lib.itoa p ++ [43] ++ (Lib.itoa q ++ [114]) else Lib.itoa p ++ (Lib.itoa q ++ [114])
/-- .. and of it over 2^k. -/
def textL (p q k : Int) : List UInt8 := if k = 0 then bodyL p q else bodyL p q ++ ([47, 50, 94] ++ Lib.itoa k)
theorem nil_app (b : ByteArray) : (⟨#[]⟩ : ByteArray) ++ b = b := by
  apply ByteArray.ext
  simp
theorem itoa_ne (n : Int) : (Lib.itoa n).isEmpty = false := by
  have key : ∀ u, (Lib.decDigits u).isEmpty = false := fun u => by
    rw [Lib.decDigits]; split <;> simp
  unfold Lib.itoa
  split
  · rfl
  · exact key _
theorem itoa_all (p q k : Int) (hp : -9007199254740991 ≤ p ∧ p ≤ 9007199254740991) (hq : -9007199254740991 ≤ q ∧ q ≤ 9007199254740991) (hk : 0 ≤ k ∧ k ≤ 60) :
    (Lib.itoa p).length ≤ 21 ∧ (Lib.itoa q).length ≤ 21 ∧ (Lib.itoa k).length ≤ 21 ∧ (Lib.itoa p).isEmpty = false :=
  ⟨Lib.itoa_length_le p (by omega) (by omega), Lib.itoa_length_le q (by omega) (by omega), Lib.itoa_length_le k (by omega) (by omega), itoa_ne p⟩
theorem text_A {p q : Int} (h : q = 0) : (⟨(Lib.itoa p).toArray⟩ : ByteArray) = ⟨(bodyL p q).toArray⟩ := by unfold bodyL; rw [if_pos h]
theorem text_B {p q : Int} (hp : p = 0) (h : ¬ q = 0) : (⟨#[]⟩ : ByteArray) ++ ((⟨(Lib.itoa q).toArray⟩ : ByteArray) ++ (⟨#[114]⟩ : ByteArray)) = ⟨(bodyL p q).toArray⟩ := by
  unfold bodyL; rw [if_neg h, if_pos hp, nil_app]; exact bytes_app _ [114]
theorem text_C {p q : Int} (hp : ¬ p = 0) (h : 0 < q) : ((⟨(Lib.itoa p).toArray⟩ : ByteArray) ++ (⟨#[43]⟩ : ByteArray)) ++ ((⟨(Lib.itoa q).toArray⟩ : ByteArray) ++ (⟨#[114]⟩ : ByteArray)) = ⟨(bodyL p q).toArray⟩ := by
  unfold bodyL; rw [if_neg (by omega), if_neg hp, if_pos h, ← bytes_app, ← bytes_app, ← bytes_app]
theorem text_D {p q : Int} (hp : ¬ p = 0) (h : q < 0) : (⟨(Lib.itoa p).toArray⟩ : ByteArray) ++ ((⟨(Lib.itoa q).toArray⟩ : ByteArray) ++ (⟨#[114]⟩ : ByteArray)) = ⟨(bodyL p q).toArray⟩ := by
  unfold bodyL; rw [if_neg (by omega), if_neg hp, if_neg (by omega), ← bytes_app, ← bytes_app]
theorem text_0 {p q k : Int} {b : ByteArray} (h : b = ⟨(bodyL p q).toArray⟩) (hk : k = 0) : b = ⟨(textL p q k).toArray⟩ := by unfold textL; rw [if_pos hk]; exact h
theorem text_1 {p q k : Int} {b : ByteArray} (h : b = ⟨(bodyL p q).toArray⟩) (hk : ¬ k = 0) : b ++ ((⟨#[47, 50, 94]⟩ : ByteArray) ++ (⟨(Lib.itoa k).toArray⟩ : ByteArray)) = ⟨(textL p q k).toArray⟩ := by
  unfold textL; rw [if_neg hk, h, ← bytes_app, ← bytes_app]
theorem rtext_yes (p q k : Int) (w : World) (h : isRoot p q k) : Calls Tryd.prog 26 #[rv p q k] w fun e w' => e = .returned (.tuple #[.string ⟨(textL p q k).toArray⟩, .int .i64 0]) ∧ Below w.heap.size w w' := by
  have C := fun w => rcheck_yes p q k w h
  obtain ⟨hp, hq, hk, _⟩ := h
  have D1 := fun w => decimal_any p w hp.1 hp.2
  have D2 := fun w => decimal_any q w hq.1 hq.2
  have D3 := fun w => decimal_any k w (by omega) (by omega)
  have hn := itoa_all p q k hp hq hk
  by_cases k0 : k = 0 <;> by_cases p0 : p = 0 <;> rcases (show q = 0 ∨ 0 < q ∨ q < 0 by omega) with q0 | q0 | q0
  · exact rtext_A20 p q k _ _ _ _ w p0 q0 k0 hn (text_0 (text_A q0) k0) C D1 D2 D3
  · exact rtext_B10 p q k _ _ _ _ w p0 q0 k0 hn (text_0 (text_B p0 (by omega)) k0) C D1 D2 D3
  · exact rtext_B20 p q k _ _ _ _ w p0 q0 k0 hn (text_0 (text_B p0 (by omega)) k0) C D1 D2 D3
  · exact rtext_A10 p q k _ _ _ _ w p0 q0 k0 hn (text_0 (text_A q0) k0) C D1 D2 D3
  · exact rtext_C0 p q k _ _ _ _ w p0 q0 k0 hn (text_0 (text_C p0 q0) k0) C D1 D2 D3
  · exact rtext_D0 p q k _ _ _ _ w p0 q0 k0 hn (text_0 (text_D p0 q0) k0) C D1 D2 D3
  · exact rtext_A21 p q k _ _ _ _ w p0 q0 k0 hn (text_1 (text_A q0) k0) C D1 D2 D3
  · exact rtext_B11 p q k _ _ _ _ w p0 q0 k0 hn (text_1 (text_B p0 (by omega)) k0) C D1 D2 D3
  · exact rtext_B21 p q k _ _ _ _ w p0 q0 k0 hn (text_1 (text_B p0 (by omega)) k0) C D1 D2 D3
  · exact rtext_A11 p q k _ _ _ _ w p0 q0 k0 hn (text_1 (text_A q0) k0) C D1 D2 D3
  · exact rtext_C1 p q k _ _ _ _ w p0 q0 k0 hn (text_1 (text_C p0 q0) k0) C D1 D2 D3
  · exact rtext_D1 p q k _ _ _ _ w p0 q0 k0 hn (text_1 (text_D p0 q0) k0) C D1 D2 D3
theorem ctext_yes (p q k : Int) (w : World) (hT : Tab w) (h : isRoot p q k) : Calls Tryd.prog 27 #[rv p q k] w fun e w' => e = .returned (.tuple #[.string ⟨(textL p q k).toArray⟩, .int .i64 0]) ∧ Below w.heap.size w w' := by
  have C := fun w => check_yes p q k w h
  obtain ⟨hp, hq, hk, _⟩ := h
  have D1 := fun w hT => format_any p w (by omega) (by omega) hT
  have D2 := fun w hT => format_any q w (by omega) (by omega) hT
  have D3 := fun w hT => itoa_any k w (by omega) (by omega) hT
  have hn := itoa_all p q k hp hq hk
  by_cases k0 : k = 0 <;> by_cases p0 : p = 0 <;> rcases (show q = 0 ∨ 0 < q ∨ q < 0 by omega) with q0 | q0 | q0
  · exact ctext_A20 p q k _ _ _ _ w hT p0 q0 k0 hn (text_0 (text_A q0) k0) C D1 D2 D3
  · exact ctext_B10 p q k _ _ _ _ w hT p0 q0 k0 hn (text_0 (text_B p0 (by omega)) k0) C D1 D2 D3
  · exact ctext_B20 p q k _ _ _ _ w hT p0 q0 k0 hn (text_0 (text_B p0 (by omega)) k0) C D1 D2 D3
  · exact ctext_A10 p q k _ _ _ _ w hT p0 q0 k0 hn (text_0 (text_A q0) k0) C D1 D2 D3
  · exact ctext_C0 p q k _ _ _ _ w hT p0 q0 k0 hn (text_0 (text_C p0 q0) k0) C D1 D2 D3
  · exact ctext_D0 p q k _ _ _ _ w hT p0 q0 k0 hn (text_0 (text_D p0 q0) k0) C D1 D2 D3
  · exact ctext_A21 p q k _ _ _ _ w hT p0 q0 k0 hn (text_1 (text_A q0) k0) C D1 D2 D3
  · exact ctext_B11 p q k _ _ _ _ w hT p0 q0 k0 hn (text_1 (text_B p0 (by omega)) k0) C D1 D2 D3
  · exact ctext_B21 p q k _ _ _ _ w hT p0 q0 k0 hn (text_1 (text_B p0 (by omega)) k0) C D1 D2 D3
  · exact ctext_A11 p q k _ _ _ _ w hT p0 q0 k0 hn (text_1 (text_A q0) k0) C D1 D2 D3
  · exact ctext_C1 p q k _ _ _ _ w hT p0 q0 k0 hn (text_1 (text_C p0 q0) k0) C D1 D2 D3
  · exact ctext_D1 p q k _ _ _ _ w hT p0 q0 k0 hn (text_1 (text_D p0 q0) k0) C D1 D2 D3
theorem rtext_no (p q k : Int) (w : World) (h : ¬ isRoot p q k) : Calls Tryd.prog 26 #[rv p q k] w fun e w' => e = .returned (.tuple #[.string ⟨#[]⟩, .int .i64 2]) ∧ Below w.heap.size w w' := by
  have C := fun w => rcheck_no p q k w h
  clear h
  go_enter Tryd.func26, Tryd.ntmps26
  go_wp2_with (go_at_call 13; (with_reducible refine (C _).mono ?_); rintro e w1 ⟨rfl, hB⟩; obtain ⟨hc, hf⟩ := bcell hB)
  go_ret2
  exact ⟨rfl, btr (bal (Below.refl _ _) _) hB⟩
theorem ctext_no (p q k : Int) (w : World) (h : ¬ isRoot p q k) : Calls Tryd.prog 27 #[rv p q k] w fun e w' => e = .returned (.tuple #[.string ⟨#[]⟩, .int .i64 2]) ∧ Below w.heap.size w w' := by
  have C := fun w => check_no p q k w h
  clear h
  go_enter Tryd.func27, Tryd.ntmps27
  go_wp2_with (go_at_call 12; (with_reducible refine (C _).mono ?_); rintro e w1 ⟨rfl, hB⟩; obtain ⟨hc, hf⟩ := bcell hB)
  go_ret2
  exact ⟨rfl, btr (bal (Below.refl _ _) _) hB⟩
end Go.Proofs.YtalaacfoaelipaaDoor
