/-
  Plain mathematics of the strings' texts. Of no program.
-/
import Derived.Test.YtoddbaljnlhhaaaPT2
namespace Go.Proofs.Ytoddbaljnlhhaaa.PL
open Go.RowKit Go.Sort

/-- The number that the first k digits write. -/
def prs (c : Nat → Nat) : Nat → Nat
  | 0 => 0
  | k + 1 => 2 * prs c k + c k
theorem prs_lt (c : Nat → Nat) (hc : ∀ i, c i ≤ 1) (k : Nat) : prs c k < 2 ^ k := by
  induction k with
  | zero => simp [prs]
  | succ k ih =>
    have := hc k
    simp only [prs]
    rw [Nat.pow_succ]
    omega
theorem bt_prs (c : Nat → Nat) (hc : ∀ i, c i ≤ 1) (k : Nat) : ∀ i, i < k → bt (prs c k) (k - 1 - i) = c i := by
  induction k with
  | zero => intro i h; omega
  | succ k ih =>
    intro i hi
    simp only [prs]
    rw [bt_two _ _ _ (hc k)]
    by_cases e : i = k
    · subst e; rw [if_pos (by omega)]
    · rw [if_neg (by omega), show k + 1 - 1 - i - 1 = k - 1 - i by omega]
      exact ih i (by omega)
theorem prs_of {c : Nat → Nat} (hc : ∀ i, c i ≤ 1) {x n : Nat} (hx : x < 2 ^ n) (h : ∀ i, i < n → bt x (n - 1 - i) = c i) : prs c n = x :=
  ext_bt fun j => by
    by_cases hj : j < n
    · have e : j = n - 1 - (n - 1 - j) := by omega
      rw [e, bt_prs c hc n (n - 1 - j) (by omega), h (n - 1 - j) (by omega)]
    · have lo : ∀ y, y < 2 ^ n → bt y j = 0 := fun y hy => bt_zero.2 (Nat.testBit_lt_two_pow (Nat.lt_of_lt_of_le hy (Nat.pow_le_pow_right (by decide) (by omega))))
      rw [lo _ (prs_lt c hc n), lo _ hx]
theorem i_push (x b : Nat) (hx : x < 9223372036854775808) (hb : b ≤ 1) : bits .or .u64 ((x : Int) * 2) (b : Int) = ((2 * x + b : Nat) : Int) := by
  have e : (x : Int) * 2 = ((2 * x : Nat) : Int) := by omega
  have h := or_mulp x 1 b (by simp; omega)
  rw [Nat.pow_one] at h
  rw [e, i_or _ _ (by omega) (by omega), h]


/-- Byte i of a text. -/
def gl (L : List UInt8) (i : Nat) : Nat := (L.getD i 0).toNat
theorem gl_lt (L : List UInt8) (i : Nat) : gl L i < 256 := UInt8.toNat_lt _
theorem gl_at (L : List UInt8) (i : Nat) (h : i < L.length) : gl L i = L[i].toNat := by
  unfold gl
  rw [List.getD_eq_getElem?_getD, List.getElem?_eq_getElem h]
  rfl
def isLet (c : Nat) : Prop := c = 73 ∨ c = 88 ∨ c = 89 ∨ c = 90
def AllLet (L : List UInt8) : Prop := ∀ i, i < L.length → isLet (gl L i)
def xd (c : Nat) : Nat := if c = 88 ∨ c = 89 then 1 else 0
def zd (c : Nat) : Nat := if c = 90 ∨ c = 89 then 1 else 0
def xs (L : List UInt8) (i : Nat) : Nat := xd (gl L i)
def zs (L : List UInt8) (i : Nat) : Nat := zd (gl L i)
theorem xs_le (L : List UInt8) (i : Nat) : xs L i ≤ 1 := by unfold xs xd; split <;> omega
theorem zs_le (L : List UInt8) (i : Nat) : zs L i ≤ 1 := by unfold zs zd; split <;> omega
theorem prs_small {c : Nat → Nat} (hc : ∀ i, c i ≤ 1) {k : Nat} (hk : k < 64) : prs c k < 9223372036854775808 :=
  Nat.lt_of_lt_of_le (prs_lt _ hc k) (Nat.pow_le_pow_right (n := 2) (by decide) (show k ≤ 63 by omega))
/-- The sign cut off. -/
def cut1 (L : List UInt8) : Nat × List UInt8 := if Lib.hasPrefix L [45] = true then (2, Lib.trimPrefix L [45]) else (0, Lib.trimPrefix L [43])
def cutS (L : List UInt8) : Nat × List UInt8 := if Lib.hasPrefix (cut1 L).2 [105] = true then ((cut1 L).1 + 1, Lib.trimPrefix (cut1 L).2 [105]) else cut1 L
theorem cut1_f (L : List UInt8) : (cut1 L).1 ≤ 2 := by
  unfold cut1
  split
  · exact Nat.le_refl 2
  · exact Nat.zero_le 2
theorem cutS_f (L : List UInt8) : (cutS L).1 < 4 := by
  have := cut1_f L
  unfold cutS
  split
  · show (cut1 L).1 + 1 < 4; omega
  · omega
theorem cut1_len (L : List UInt8) : (cut1 L).2.length ≤ L.length := by unfold cut1; split <;> exact Lib.trimPrefix_le _ _
theorem cutS_len (L : List UInt8) : (cutS L).2.length ≤ L.length := by
  have := cut1_len L
  unfold cutS
  split
  · exact Nat.le_trans (Lib.trimPrefix_le _ _) this
  · exact this
/-- []byte(s), to be read. -/
theorem conv_rd (L : List UInt8) (w : World) : ∃ B c W, (convert 9 89 (.string ⟨L.toArray⟩)).run Try.prog w = .ok (.slice (some ⟨B, 0, none⟩) L.length c) W ∧ Below w.heap.size w W ∧ L.length ≤ c ∧ w.heap.size ≤ B ∧ ∀ j, j < L.length → W.cell? ⟨B, j, none⟩ = some (.int .u8 (gl L j : Nat)) := by
  have hsz : (⟨L.toArray⟩ : ByteArray).size = L.length := rfl
  have hr := run_bytes_of_string (P := Try.prog) w 9 89 5 ⟨L.toArray⟩ Try.underlying9 Try.underlying89 Try.underlying5
  refine ⟨w.heap.size, _, _, hr, (below_drew (Below.refl _ _)).alloc (Nat.le_refl _) _, grownCap_ge w _ 0 5, Nat.le_refl _, fun j hj => ?_⟩
  have h1 := bytesRow_at ⟨L.toArray⟩ (grownCap w (⟨L.toArray⟩ : ByteArray).size 0 5) j (by simpa using hj)
  rw [gl_at L j hj]
  have h2 := heap_alloc_new w.drew (.cells (bytesRow ⟨L.toArray⟩ (grownCap w (⟨L.toArray⟩ : ByteArray).size 0 5)) 5 ((bytesRow ⟨L.toArray⟩ (grownCap w (⟨L.toArray⟩ : ByteArray).size 0 5)).size, (bytesRow ⟨L.toArray⟩ (grownCap w (⟨L.toArray⟩ : ByteArray).size 0 5)).size + 1))
  have h3 : w.drew.heap.size = w.heap.size := rfl
  rw [h3] at h2
  simp only [World.cell?, h2, h1]
  rfl
end Go.Proofs.Ytoddbaljnlhhaaa.PL
