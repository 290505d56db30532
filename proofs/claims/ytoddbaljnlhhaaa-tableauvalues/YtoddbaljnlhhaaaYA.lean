/-
  Put together of: JF.
-/
import Derived.Test.YtoddbaljnlhhaaaXY
import Derived.Test.YtoddbaljnlhhaaaXJ
namespace Go.Proofs.Ytoddbaljnlhhaaa
open Go.RowKit Go.Sort
open PL (pv PS bt)

abbrev prP (p : PS) : Pr := ⟨p.n, p.x, p.z, p.f⟩
theorem prP_ps (p : PS) : (prP p).ps = p := by
  obtain ⟨n, x, z, f⟩ := p
  simp [Pr.ps]
/-- The numbers of the rows, two of them turned. -/
def altS (s : Nat → Nat × Nat) (N i k : Nat) : Nat → Nat × Nat := fun j => if j = k then ((s k).1 ^^^ (s i).1, (s k).2 ^^^ (s i).2) else if j = N + i then ((s (N + i)).1 ^^^ (s (N + k)).1, (s (N + i)).2 ^^^ (s (N + k)).2) else s j
theorem alt_basis {N : Nat} {s : Nat → Nat × Nat} (h : PL.Basis N s) {i k : Nat} (hi : i < N) (hk : k < N) (hik : i ≠ k) : PL.Basis N (altS s N i k) := by
  constructor
  · intro j hj
    unfold altS
    by_cases e : j = k
    · rw [if_pos e]
      have h1 := h.1 k (by omega)
      have h2 := h.1 i (by omega)
      exact ⟨Nat.xor_lt_two_pow h1.1 h2.1, Nat.xor_lt_two_pow h1.2 h2.2⟩
    · rw [if_neg e]
      by_cases g : j = N + i
      · rw [if_pos g]
        have h1 := h.1 (N + i) (by omega)
        have h2 := h.1 (N + k) (by omega)
        exact ⟨Nat.xor_lt_two_pow h1.1 h2.1, Nat.xor_lt_two_pow h1.2 h2.2⟩
      · rw [if_neg g]
        exact h.1 j hj
  · have C : ∀ a b, a < 2 * N → b < 2 * N → PL.comB (s a).1 (s a).2 (s b).1 (s b).2 = if b = PL.prt N a then 1 else 0 := h.2
    have L : ∀ a b, a < 2 * N → b < 2 * N → PL.comB (altS s N i k a).1 (altS s N i k a).2 (s b).1 (s b).2 = if a = k then ((if b = PL.prt N k then 1 else 0) + (if b = PL.prt N i then 1 else 0)) % 2 else if a = N + i then ((if b = PL.prt N (N + i) then 1 else 0) + (if b = PL.prt N (N + k) then 1 else 0)) % 2 else if b = PL.prt N a then 1 else 0 := fun a b ha hb => by
      unfold altS
      by_cases e : a = k
      · simp only [if_pos e]
        rw [PL.comB_xor, C k b (by omega) hb, C i b (by omega) hb]
      · simp only [if_neg e]
        by_cases g : a = N + i
        · simp only [if_pos g]
          rw [PL.comB_xor, C (N + i) b (by omega) hb, C (N + k) b (by omega) hb]
        · simp only [if_neg g]
          exact C a b ha hb
    intro a b ha hb
    by_cases e : b = k
    · subst e
      have e1 : altS s N i b b = ((s b).1 ^^^ (s i).1, (s b).2 ^^^ (s i).2) := by unfold altS; rw [if_pos rfl]
      rw [e1, PL.comB_xor', L a b ha hb, L a i ha (by omega)]
      unfold PL.prt
      repeat (first | omega | split)
    · by_cases g : b = N + i
      · subst g
        have e1 : altS s N i k (N + i) = ((s (N + i)).1 ^^^ (s (N + k)).1, (s (N + i)).2 ^^^ (s (N + k)).2) := by unfold altS; rw [if_neg (by omega), if_pos rfl]
        rw [e1, PL.comB_xor', L a (N + i) ha hb, L a (N + k) ha (by omega)]
        unfold PL.prt
        repeat (first | omega | split)
      · have e1 : altS s N i k b = s b := by unfold altS; rw [if_neg e, if_neg g]
        rw [e1, L a b ha hb]
        unfold PL.prt
        repeat (first | omega | split)
def altR (rows : List Pr) (N i k : Nat) : List Pr := (rows.set (N + i) (prP ((nthP rows (N + i)).mul (nthP rows (N + k))))).set k (prP ((nthP rows k).mul (nthP rows i)))
/-- The new row j as a string. -/
def altP (rows : List Pr) (N i k j : Nat) : PS := if j = k then (nthP rows k).mul (nthP rows i) else if j = N + i then (nthP rows (N + i)).mul (nthP rows (N + k)) else nthP rows j
section
variable {t : Tb} {N i k : Nat}
theorem altR_len (rows : List Pr) : (altR rows N i k).length = rows.length := by unfold altR; simp
theorem altR_at (hR : Rt t) (hN : t.n = N) (_hi : i < N) (_hk : k < N) {j : Nat} (hj : j < 2 * N) : (altR t.rows N i k)[j]? = some (prP (altP t.rows N i k j)) := by
  have hl : t.rows.length = 2 * N := by have := hR.len; omega
  unfold altR altP
  rw [List.getElem?_set]
  by_cases e : k = j
  · rw [if_pos e, if_pos (by rw [List.length_set]; omega), if_pos e.symm]
  · rw [if_neg e, if_neg (show ¬ j = k from fun h => e h.symm), List.getElem?_set]
    by_cases g : N + i = j
    · rw [if_pos g, if_pos (by omega), if_pos g.symm]
    · rw [if_neg g, if_neg (show ¬ j = N + i from fun h => g h.symm), List.getElem?_eq_getElem (by omega)]
      exact congrArg some (hR.ps (by omega)).2.2
theorem altR_nth (hR : Rt t) (hN : t.n = N) (hi : i < N) (hk : k < N) {j : Nat} (hj : j < 2 * N) : nthP (altR t.rows N i k) j = altP t.rows N i k j := by
  have h := altR_at hR hN hi hk hj
  unfold nthP
  rw [List.getD_eq_getElem?_getD, h]
  exact prP_ps _
theorem destab_com (hR : Rt t) (hN : t.n = N) (hi : i < N) (hk : k < N) : comS (nthP t.rows k) (nthP t.rows i) := by
  have h := (hR.basis hN).2 k i (by omega) (by omega)
  rw [if_neg (by unfold PL.prt; rw [if_pos hk]; omega)] at h
  exact h
theorem altP_ok (hR : Rt t) (hN : t.n = N) (hi : i < N) (hk : k < N) {j : Nat} (hj : j < 2 * N) : (altP t.rows N i k j).ok ∧ (altP t.rows N i k j).n = N ∧ (altP t.rows N i k j).f % 2 = 0 := by
  unfold altP
  by_cases e : j = k
  · rw [if_pos e]
    obtain ⟨a1, a2, a3⟩ := hR.ok hN (k := k) (by omega)
    obtain ⟨b1, b2, b3⟩ := hR.ok hN (k := i) (by omega)
    exact ⟨a1.mul b1 (by omega), a2, mul_even a3 b3 (destab_com hR hN hi hk)⟩
  · rw [if_neg e]
    by_cases g : j = N + i
    · rw [if_pos g]
      obtain ⟨a1, a2, a3⟩ := hR.ok hN (k := N + i) (by omega)
      obtain ⟨b1, b2, b3⟩ := hR.ok hN (k := N + k) (by omega)
      exact ⟨a1.mul b1 (by omega), a2, mul_even a3 b3 (stab_com hR hN hi hk)⟩
    · rw [if_neg g]
      exact hR.ok hN hj
theorem altR_rt (hR : Rt t) (hN : t.n = N) (hi : i < N) (hk : k < N) (hik : i ≠ k) : Rt ⟨t.n, altR t.rows N i k⟩ := by
  have hl : t.rows.length = 2 * N := by have := hR.len; omega
  have ha : ∀ j (h : j < (altR t.rows N i k).length), (altR t.rows N i k)[j] = prP (altP t.rows N i k j) := fun j h => by
    have h2 := altR_at hR hN hi hk (j := j) (by rw [altR_len] at h; omega)
    rw [List.getElem?_eq_getElem h] at h2
    exact Option.some.inj h2
  have hB := alt_basis (hR.basis hN) hi hk hik
  have hs : ∀ j, altS (sR t.rows) N i k j = ((altP t.rows N i k j).x, (altP t.rows N i k j).z) := fun j => by
    unfold altS altP
    by_cases e : j = k
    · rw [if_pos e, if_pos e]; rfl
    · rw [if_neg e, if_neg e]
      by_cases g : j = N + i
      · rw [if_pos g, if_pos g]; rfl
      · rw [if_neg g, if_neg g]; rfl
  refine ⟨hR.n0, hR.n1, ?_, fun j h => ?_, fun j h m hm => ?_⟩
  · show ((altR t.rows N i k).length : Int) = 2 * t.n
    rw [altR_len]; exact hR.len
  · have hj : j < 2 * N := by have h' : j < (altR t.rows N i k).length := h; rw [altR_len] at h'; omega
    show rowOk t.n ((altR t.rows N i k)[j])
    rw [ha j h]
    obtain ⟨a1, a2, a3⟩ := altP_ok hR hN hi hk hj
    exact ⟨gd_of a1, by show ((altP t.rows N i k j).n : Int) = t.n; omega, by show ((altP t.rows N i k j).f : Int) % 2 = 0; omega⟩
  · have hj : j < 2 * N := by have h' : j < (altR t.rows N i k).length := h; rw [altR_len] at h'; omega
    show comP ((altR t.rows N i k)[j]) ((altR t.rows N i k)[m]'(Nat.lt_trans hm h)) ↔ _
    rw [ha j h, ha m (Nat.lt_trans hm h)]
    show PL.comB (altP t.rows N i k j).x (altP t.rows N i k j).z (altP t.rows N i k m).x (altP t.rows N i k m).z = 0 ↔ ¬ (j : Int) = (m : Int) + t.n
    have h2 := hB.2 j m hj (by omega)
    rw [hs j, hs m] at h2
    simp only at h2
    have hp : m = PL.prt N j ↔ (j : Int) = (m : Int) + t.n := by
      unfold PL.prt
      rw [hN]
      split <;> omega
    rw [h2]
    by_cases g : m = PL.prt N j
    · rw [if_pos g]
      exact ⟨fun x => absurd x (by decide), fun x => absurd (hp.1 g) x⟩
    · rw [if_neg g]
      exact ⟨fun _ x => g (hp.2 x), fun _ => rfl⟩
theorem altR_all (hR : Rt t) (hN : t.n = N) (hi : i < N) (hk : k < N) (hik : i ≠ k) : allOne t ⟨t.n, altR t.rows N i k⟩ := by
  refine (allOne_iff (altR_rt hR hN hi hk hik) hN).2 fun j hj => ?_
  show valT t (nthP (altR t.rows N i k) (N + j)) = 1
  rw [altR_nth hR hN hi hk (by omega)]
  unfold altP
  rw [if_neg (by omega)]
  by_cases g : N + j = N + i
  · rw [if_pos g]
    obtain ⟨a1, a2, _⟩ := hR.ok hN (k := N + i) (by omega)
    obtain ⟨b1, b2, _⟩ := hR.ok hN (k := N + k) (by omega)
    exact valT_mul hR hN a1 b1 a2 b2 (valT_stab hR hN hi) (valT_stab hR hN hk)
  · rw [if_neg g]
    exact valT_stab hR hN hj
/-- What Same tells of two right tableaus of one size of which one's stabilizers have the value 1 in the other. -/
theorem same_yes {u : Tb} {r : Bool} {e : Int} (h : SamA t u r e) (h1 : Rt t) (h2 : Rt u) (h3 : t.n = u.n) (h4 : allOne t u) : r = true ∧ e = 0 := by
  rcases h with ⟨g, _⟩ | ⟨_, _, g, _⟩ | ⟨_, _, _, _, h5, h6⟩
  · exact absurd ⟨h1, h2⟩ g
  · exact absurd ⟨h3, h4⟩ g
  · exact ⟨h5, h6⟩
/-- What Value tells of a string that is right. -/
theorem val_yes {p : PS} {v e : Int} (h : ValA t (prP p) v e) (hR : Rt t) (hN : t.n = N) (hp : p.ok) (hn : p.n = N) (hf : p.f % 2 = 0) : v = valT t p ∧ e = 0 := by
  have hg : (prP p).gd := gd_of hp
  rcases h with ⟨g, _⟩ | ⟨_, g, _⟩ | ⟨_, _, g, _⟩ | ⟨_, _, _, _, h5, h6⟩
  · exact absurd hR g
  · exact absurd hg g
  · exfalso
    rcases g with g | g
    · exact g (by show (p.n : Int) = t.n; omega)
    · have g : (p.f : Int) % 2 = 1 := g
      omega
  · rw [prP_ps] at h5
    exact ⟨h5, h6⟩
end
theorem valT_in (t : Tb) (p : PS) : -1 ≤ valT t p ∧ valT t p ≤ 1 := by
  unfold valT valO
  split
  · exact ⟨by omega, by omega⟩
  · split
    · exact ⟨by omega, by omega⟩
    · exact ⟨by omega, by omega⟩
end Go.Proofs.Ytoddbaljnlhhaaa
