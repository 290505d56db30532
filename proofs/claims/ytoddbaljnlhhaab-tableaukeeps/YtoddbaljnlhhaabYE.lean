/-
  Put together of: JM.
-/
import Derived.Test.YtoddbaljnlhhaabXY
namespace Go.Proofs.Ytoddbaljnlhhaab
open Go.RowKit Go.Sort
open PL (pv PS bt cgk cgT)
open BL (pickN putN)

theorem pop_xor_pow {w j : Nat} (h : bt w j = 0) : ∀ n, PL.pop n (w ^^^ 2 ^ j) = PL.pop n w + if j < n then 1 else 0
  | 0 => rfl
  | n + 1 => by
    simp only [PL.pop]
    rw [pop_xor_pow h n, PL.bt_xor_pow]
    by_cases e : n = j
    · subst e
      rw [if_pos rfl, h, if_neg (by omega), if_pos (by omega)]
    · rw [if_neg e]
      by_cases g : j < n
      · rw [if_pos g, if_pos (by omega)]; omega
      · rw [if_neg g, if_neg (by omega)]; omega
theorem and_off {x z j : Nat} (h : bt z j = 0) : (x ^^^ 2 ^ j) &&& z = x &&& z := PL.ext_bt fun i => by
  rw [PL.bt_and, PL.bt_and, PL.bt_xor_pow]
  by_cases e : i = j
  · subst e; rw [h]; simp
  · rw [if_neg e]
theorem and_on {x z j : Nat} (h : bt x j = 1) (hz : bt z j = 0) : x &&& (z ^^^ 2 ^ j) = (x &&& z) ^^^ 2 ^ j := PL.ext_bt fun i => by
  rw [PL.bt_and, PL.bt_xor_pow, PL.bt_xor_pow, PL.bt_and]
  by_cases e : i = j
  · subst e; rw [if_pos rfl, if_pos rfl, h, hz]
  · rw [if_neg e, if_neg e, PL.bt_and]
theorem and_off' {x z j : Nat} (h : bt x j = 0) : x &&& (z ^^^ 2 ^ j) = x &&& z := by rw [Nat.and_comm, and_off h, Nat.and_comm]
theorem and_pow {z j : Nat} (h : bt z j = 0) : z &&& 2 ^ j = 0 := PL.ext_bt fun i => by
  rw [PL.bt_and, PL.bt_pow, PL.bt_nought]
  by_cases e : i = j
  · subst e; rw [h]; simp
  · rw [if_neg e]; simp
abbrev gX (n j : Nat) : PS := ⟨n, 2 ^ j, 0, 0⟩
abbrev gZ (n j : Nat) : PS := ⟨n, 0, 2 ^ j, 0⟩
abbrev gL (n j : Nat) (x : Bool) : PS := if x = true then gX n j else gZ n j
abbrev bmp (p : PS) : PS := ⟨p.n, p.x, p.z, (p.f + 1) % 4⟩
theorem mulX {n x z f m j : Nat} (hz : bt z j = 0) : (⟨n, x, z, f⟩ : PS).mul (gX m j) = ⟨n, x ^^^ 2 ^ j, z, f % 4⟩ := by
  refine ps_ext rfl rfl (by show z ^^^ 0 = z; exact Nat.xor_zero z) ?_
  show PL.mulF x z f (2 ^ j) 0 0 = f % 4
  rw [PL.mulF_phi]
  unfold PL.phi
  rw [and_pow hz, Nat.xor_zero, and_off hz, Nat.and_zero, PL.pop_zero]
  omega
theorem mulZ0 {n x z f m j : Nat} (hx : bt x j = 0) : (⟨n, x, z, f⟩ : PS).mul (gZ m j) = ⟨n, x, z ^^^ 2 ^ j, f % 4⟩ := by
  refine ps_ext rfl (by show x ^^^ 0 = x; exact Nat.xor_zero x) rfl ?_
  show PL.mulF x z f 0 (2 ^ j) 0 = f % 4
  rw [PL.mulF_phi]
  unfold PL.phi
  rw [Nat.xor_zero, and_off' hx, Nat.and_zero, Nat.zero_and, PL.pop_zero]
  omega
theorem mulZ1 {n x z f m j : Nat} (hx : bt x j = 1) (hz : bt z j = 0) (hj : j < 64) : (⟨n, x, z, f⟩ : PS).mul (gZ m j) = ⟨n, x, z ^^^ 2 ^ j, (f + 3) % 4⟩ := by
  refine ps_ext rfl (by show x ^^^ 0 = x; exact Nat.xor_zero x) rfl ?_
  show PL.mulF x z f 0 (2 ^ j) 0 = (f + 3) % 4
  rw [PL.mulF_phi]
  unfold PL.phi
  have hb : bt (x &&& z) j = 0 := by rw [PL.bt_and, hz, Nat.mul_zero]
  rw [Nat.xor_zero, and_on hx hz, Nat.and_zero, Nat.zero_and, PL.pop_zero, pop_xor_pow hb, if_pos hj]
  omega
/-- The bits below j. -/
def trX (x : Nat) : Nat → Nat
  | 0 => 0
  | j + 1 => if bt x j = 1 then trX x j ^^^ 2 ^ j else trX x j
theorem bt_trX (x : Nat) : ∀ j i, bt (trX x j) i = if i < j then bt x i else 0
  | 0, i => by rw [trX, PL.bt_nought, if_neg (by omega)]
  | j + 1, i => by
    rw [trX]
    by_cases h : bt x j = 1
    · rw [if_pos h, PL.bt_xor_pow, bt_trX x j j, bt_trX x j i]
      by_cases e : i = j
      · subst e; rw [if_pos rfl, if_neg (by omega), if_pos (by omega), h]
      · rw [if_neg e]
        by_cases g : i < j
        · rw [if_pos g, if_pos (by omega)]
        · rw [if_neg g, if_neg (by omega)]
    · rw [if_neg h, bt_trX x j i]
      by_cases e : i = j
      · subst e
        have := PL.bt_le x i
        rw [if_neg (by omega), if_pos (by omega)]
        omega
      · by_cases g : i < j
        · rw [if_pos g, if_pos (by omega)]
        · rw [if_neg g, if_neg (by omega)]
theorem bt_low {x n i : Nat} (hx : x < 2 ^ n) (hi : n ≤ i) : bt x i = 0 := by
  unfold PL.bt
  rw [Nat.testBit_lt_two_pow (Nat.lt_of_lt_of_le hx (Nat.pow_le_pow_right (by decide) hi))]
  rfl
theorem trX_all {x n : Nat} (hx : x < 2 ^ n) : trX x n = x := PL.ext_bt fun i => by
  rw [bt_trX]
  by_cases g : i < n
  · rw [if_pos g]
  · rw [if_neg g, bt_low hx (by omega)]
/-- The letters below j, with the phase. -/
abbrev trS (p : PS) (j : Nat) : PS := ⟨p.n, trX p.x j, trX p.z j, p.f⟩
def st1 (p : PS) (j : Nat) (A : PS) : PS := if bt p.x j = 1 ∧ bt p.z j = 1 then bmp A else A
def st2 (p : PS) (j : Nat) (A : PS) : PS := if bt p.x j = 1 then A.mul (gX p.n j) else A
def st3 (p : PS) (j : Nat) (A : PS) : PS := if bt p.z j = 1 then A.mul (gZ p.n j) else A
theorem trS_step {p : PS} {j : Nat} (hf : p.f < 4) (hj : j < 64) : st3 p j (st2 p j (st1 p j (trS p j))) = trS p (j + 1) := by
  have hx0 : bt (trX p.x j) j = 0 := by rw [bt_trX, if_neg (by omega)]
  have hz0 : bt (trX p.z j) j = 0 := by rw [bt_trX, if_neg (by omega)]
  have hxj : bt (trX p.x j ^^^ 2 ^ j) j = 1 := by rw [PL.bt_xor_pow, if_pos rfl, hx0]
  unfold st1 st2 st3
  unfold trS
  simp only [trX]
  by_cases h1 : bt p.x j = 1
  · by_cases h2 : bt p.z j = 1
    · rw [if_pos h2, if_pos h1, if_pos ⟨h1, h2⟩, if_pos h1, if_pos h2, mulX hz0, mulZ1 hxj hz0 hj]
      refine ps_ext rfl rfl rfl ?_
      show ((p.f + 1) % 4 % 4 + 3) % 4 = p.f
      omega
    · rw [if_neg h2, if_pos h1, if_neg (fun h => h2 h.2), if_pos h1, if_neg h2, mulX hz0]
      exact ps_ext rfl rfl rfl (Nat.mod_eq_of_lt hf)
  · by_cases h2 : bt p.z j = 1
    · rw [if_pos h2, if_neg h1, if_neg (fun h => h1 h.1), if_neg h1, if_pos h2, mulZ0 hx0]
      exact ps_ext rfl rfl rfl (Nat.mod_eq_of_lt hf)
    · rw [if_neg h2, if_neg h1, if_neg (fun h => h1 h.1), if_neg h1, if_neg h2]
/-! ### What a gate does -/
section
variable {i : Nat} {q : Nat → Int}
abbrev ltX (i : Nat) (q : Nat → Int) (p : PS) : PL.T3 := PL.lt (cgT i) (cgk i) (pickN p.x q (cgk i)) (pickN p.z q (cgk i)) 0
theorem trP_parts (p : PS) : trP i q p = ⟨p.n, putN (ltX i q p).1 q p.x (cgk i), putN (ltX i q p).2.1 q p.z (cgk i), (p.f + (ltX i q p).2.2) % 4⟩ := by
  unfold trP PL.trn
  simp only
  rw [PL.lt_f]
theorem trP_bmp (p : PS) : trP i q (bmp p) = bmp (trP i q p) := by
  rw [trP_parts, trP_parts]
  refine ps_ext rfl rfl rfl ?_
  show ((p.f + 1) % 4 + (ltX i q p).2.2) % 4 = ((p.f + (ltX i q p).2.2) % 4 + 1) % 4
  omega
theorem lrun_nil (T : Nat → PL.T3) (k : Nat) (a : PL.T3) : ∀ j, PL.lrun T k 0 0 a j = a
  | 0 => rfl
  | j + 1 => by
    show PL.lstep T k 0 0 j (PL.lrun T k 0 0 a j) = a
    rw [lrun_nil T k a j]
    unfold PL.lstep
    rw [PL.bt_nought, if_neg (by decide), if_neg (by decide)]
/-- A gate on other qubits leaves the string as it was. -/
theorem trP_off {p : PS} (hf : p.f < 4) (hx : pickN p.x q (cgk i) = 0) (hz : pickN p.z q (cgk i) = 0) : trP i q p = p := by
  have h1 := BL.put_pick p.x q (cgk i)
  have h2 := BL.put_pick p.z q (cgk i)
  rw [hx] at h1
  rw [hz] at h2
  have h3 : ltX i q p = (0, 0, 0) := by
    unfold ltX
    rw [hx, hz]
    unfold PL.lt
    rw [lrun_nil]
    rfl
  rw [trP_parts, h3]
  exact ps_ext rfl h1 h2 (by show (p.f + 0) % 4 = p.f; omega)
theorem pick_nil (k : Nat) : pickN 0 q k = 0 := PL.ext_bt fun j => by
  have h := BL.bt_pick 0 q k j
  simp only [PL.bb] at h
  rw [h, PL.bt_nought, PL.bt_nought]
  split <;> rfl
theorem pick_off {j k : Nat} (h : ∀ m, m < k → (q m).toNat ≠ j) : pickN (2 ^ j) q k = 0 := PL.ext_bt fun m => by
  have h1 := BL.bt_pick (2 ^ j) q k m
  simp only [PL.bb] at h1
  rw [h1, PL.bt_nought, PL.bt_pow]
  by_cases g : m < k
  · rw [if_pos g, if_neg (h m g)]
  · rw [if_neg g]
theorem trP_gen_off {n j : Nat} (x : Bool) (h : ∀ m, m < cgk i → (q m).toNat ≠ j) : trP i q (gL n j x) = gL n j x := by
  cases x
  · exact trP_off (by show 0 < 4; omega) (pick_nil _) (pick_off h)
  · exact trP_off (by show 0 < 4; omega) (pick_off h) (pick_nil _)
theorem trP_eye {n f : Nat} (hf : f < 4) : trP i q ⟨n, 0, 0, f⟩ = ⟨n, 0, 0, f⟩ := trP_off hf (pick_nil _) (pick_nil _)
/-- A gate goes through the putting together. -/
theorem trP_st {p A : PS} {j : Nat} (hi : i < 17) (hP : BL.Plc q (cgk i)) : trP i q (st3 p j (st2 p j (st1 p j A))) =
    (let B := if bt p.x j = 1 ∧ bt p.z j = 1 then bmp (trP i q A) else trP i q A
     let C := if bt p.x j = 1 then B.mul (trP i q (gX p.n j)) else B
     if bt p.z j = 1 then C.mul (trP i q (gZ p.n j)) else C) := by
  unfold st1 st2 st3
  by_cases h1 : bt p.x j = 1
  · by_cases h2 : bt p.z j = 1
    · simp only [h1, h2, if_true, and_self]
      rw [trP_mul hi hP, trP_mul hi hP, trP_bmp]
    · simp only [h1, h2, if_true, if_false, and_false]
      rw [trP_mul hi hP]
  · by_cases h2 : bt p.z j = 1
    · simp only [h1, h2, if_true, if_false, false_and]
      rw [trP_mul hi hP]
    · simp only [h1, h2, if_false, false_and]
end
end Go.Proofs.Ytoddbaljnlhhaab
