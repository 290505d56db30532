/-
  Put together of: JR.
-/
import Derived.Test.YtoddbaljnlhhaabYH
namespace Go.Proofs.Ytoddbaljnlhhaab
open Go.RowKit Go.Sort
open PL (pv PS bt cgk cgT)
open BL (pickN putN)

/-- The gates that are not made of others. -/
abbrev smp (i : Nat) : Prop := i < 11 ∨ i = 11 ∨ i = 13 ∨ i = 14
theorem two_cases {q : Nat → Int} (hP : BL.Plc q 2) (_h0 : 0 ≤ q 0) (_h1 : 0 ≤ q 1) : (q 0).toNat ≠ (q 1).toNat := fun e => absurd (plc_inj hP (a := 0) (b := 1) (by decide) (by decide) e) (by decide)
theorem rim_any (i : Nat) (hs : smp i) (N j : Nat) (hN : N ≤ 64) (hj : j < N) (x : Bool) (q : Nat → Int) (aq : Option Addr) (cq : Nat) (w : World) (HQ : BL.Row aq q (cgk i) w) (hP : BL.Plc q (cgk i)) (hq : ∀ m, m < cgk i → 0 ≤ q m ∧ q m < (N : Nat)) (hcq : cgk i ≤ cq) :
    Calls Try.prog 40 #[.int .i64 (N : Nat), .string (cgN i), .slice aq (cgk i : Nat) cq, .int .i64 (j : Nat), .bool x] w fun e w' => e = .returned (trP i q (gL N j x)).v ∧ Below w.heap.size w w' := by
  by_cases hi : i < 11
  · have hk := (tab1 i hi).1
    rw [hk] at HQ hq hcq ⊢
    exact rim1 i hi N j hN hj x q aq cq w HQ hP (hq 0 (by decide)).1 hcq
  have hk : cgk i = 2 := by rcases hs with h | rfl | rfl | rfl <;> first | exact absurd h hi | decide
  have hP2 := hP
  rw [hk] at HQ hP2 hq hcq ⊢
  obtain ⟨hq0, hq0'⟩ := hq 0 (by decide)
  obtain ⟨hq1, hq1'⟩ := hq 1 (by decide)
  have hne := two_cases hP2 hq0 hq1
  obtain ⟨b, o, rfl, c0⟩ := HQ.at_ 0 (by decide)
  obtain ⟨b', o', e, c1⟩ := HQ.at_ 1 (by decide)
  cases e
  rw [Nat.add_zero] at c0
  obtain ⟨qa, ha⟩ := Int.eq_ofNat_of_zero_le hq0
  obtain ⟨qb, hb⟩ := Int.eq_ofNat_of_zero_le hq1
  have ea : (q 0).toNat = qa := by omega
  have eb : (q 1).toNat = qb := by omega
  have hbl := block_lt_of_cell c0
  rw [ha] at c0
  rw [hb] at c1
  have HC : Hid (∀ W, Below w.heap.size w W → W.cell? ⟨b, o, none⟩ = some (.int .i64 (qa : Nat)) ∧ W.cell? ⟨b, o + 1, none⟩ = some (.int .i64 (qb : Nat)) ∧ b < W.heap.size) := fun W hB => ⟨(hB.cell (p := ⟨b, o, none⟩) hbl).trans c0, (hB.cell (p := ⟨b, o + 1, none⟩) hbl).trans c1, Nat.lt_of_lt_of_le hbl hB.size⟩
  have haN : qa < N := by omega
  have hbN : qb < N := by omega
  have hab : qa ≠ qb := by omega
  by_cases ja : j = qa
  · subst ja
    rcases hs with h | rfl | rfl | rfl
    · exact absurd h hi
    · cases x
      · have h := two_11_0_false (n := N) hP2
        first | rw [ea, eb] at h | rw [ea] at h | rw [eb] at h
        rw [h]
        exact rim_11_0_false N j qb hN haN hbN hab b o cq w HC hcq
      · have h := two_11_0_true (n := N) hP2
        first | rw [ea, eb] at h | rw [ea] at h | rw [eb] at h
        rw [h]
        exact rim_11_0_true N j qb hN haN hbN hab b o cq w HC hcq
    · cases x
      · have h := two_13_0_false (n := N) hP2
        first | rw [ea, eb] at h | rw [ea] at h | rw [eb] at h
        rw [h]
        exact rim_13_0_false N j qb hN haN hbN hab b o cq w HC hcq
      · have h := two_13_0_true (n := N) hP2
        first | rw [ea, eb] at h | rw [ea] at h | rw [eb] at h
        rw [h]
        exact rim_13_0_true N j qb hN haN hbN hab b o cq w HC hcq
    · cases x
      · have h := two_14_0_false (n := N) hP2
        first | rw [ea, eb] at h | rw [ea] at h | rw [eb] at h
        rw [h]
        exact rim_14_0_false N j qb hN haN hbN hab b o cq w HC hcq
      · have h := two_14_0_true (n := N) hP2
        first | rw [ea, eb] at h | rw [ea] at h | rw [eb] at h
        rw [h]
        exact rim_14_0_true N j qb hN haN hbN hab b o cq w HC hcq
  by_cases jb : j = qb
  · subst jb
    rcases hs with h | rfl | rfl | rfl
    · exact absurd h hi
    · cases x
      · have h := two_11_1_false (n := N) hP2
        first | rw [ea, eb] at h | rw [ea] at h | rw [eb] at h
        rw [h]
        exact rim_11_1_false N qa j hN haN hbN hab b o cq w HC hcq
      · have h := two_11_1_true (n := N) hP2
        first | rw [ea, eb] at h | rw [ea] at h | rw [eb] at h
        rw [h]
        exact rim_11_1_true N qa j hN haN hbN hab b o cq w HC hcq
    · cases x
      · have h := two_13_1_false (n := N) hP2
        first | rw [ea, eb] at h | rw [ea] at h | rw [eb] at h
        rw [h]
        exact rim_13_1_false N qa j hN haN hbN hab b o cq w HC hcq
      · have h := two_13_1_true (n := N) hP2
        first | rw [ea, eb] at h | rw [ea] at h | rw [eb] at h
        rw [h]
        exact rim_13_1_true N qa j hN haN hbN hab b o cq w HC hcq
    · cases x
      · have h := two_14_1_false (n := N) hP2
        first | rw [ea, eb] at h | rw [ea] at h | rw [eb] at h
        rw [h]
        exact rim_14_1_false N qa j hN haN hbN hab b o cq w HC hcq
      · have h := two_14_1_true (n := N) hP2
        first | rw [ea, eb] at h | rw [ea] at h | rw [eb] at h
        rw [h]
        exact rim_14_1_true N qa j hN haN hbN hab b o cq w HC hcq
  have hoff : trP i q (gL N j x) = gL N j x := trP_gen_off x (fun m hm => by
    rw [hk] at hm
    rcases (show m = 0 ∨ m = 1 by omega) with rfl | rfl <;> omega)
  rw [hoff]
  rcases hs with h | rfl | rfl | rfl
  · exact absurd h hi
  · cases x
    · exact rim_11_2_false N qa qb j hN haN hbN hab hj ja jb b o cq w HC hcq
    · exact rim_11_2_true N qa qb j hN haN hbN hab hj ja jb b o cq w HC hcq
  · cases x
    · exact rim_13_2_false N qa qb j hN haN hbN hab hj ja jb b o cq w HC hcq
    · exact rim_13_2_true N qa qb j hN haN hbN hab hj ja jb b o cq w HC hcq
  · cases x
    · exact rim_14_2_false N qa qb j hN haN hbN hab hj ja jb b o cq w HC hcq
    · exact rim_14_2_true N qa qb j hN haN hbN hab hj ja jb b o cq w HC hcq
end Go.Proofs.Ytoddbaljnlhhaab
