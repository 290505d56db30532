/-
  Digits to the base 2^16. Plain mathematics.
-/
namespace Go.Proofs.YtalaacfoaelipaaDoor

/-- The number of these digits, the lowest first. -/
def nv : List Nat → Nat
  | [] => 0
  | d :: l => d + 65536 * nv l
/-- Digits they are. -/
def Dg (l : List Nat) : Prop := ∀ d ∈ l, d < 65536
/-- The digit at a place. -/
def gd (l : List Nat) (i : Nat) : Nat := l.getD i 0
/-- The last one isn't nought. -/
def Nm (l : List Nat) : Prop := l ≠ [] → gd l (l.length - 1) ≠ 0
theorem Dg.nil : Dg [] := fun d h => by cases h
theorem Dg.snoc {l : List Nat} {d : Nat} (h : Dg l) (hd : d < 65536) : Dg (l ++ [d]) := fun x hx => by
  rcases List.mem_append.1 hx with h1 | h1
  · exact h x h1
  · simp at h1; omega
theorem Dg.at_ {l : List Nat} (h : Dg l) (i : Nat) : gd l i < 65536 := by
  by_cases hi : i < l.length
  · have e : gd l i = l[i] := by simp [gd, List.getD, hi]
    rw [e]; exact h _ (List.getElem_mem hi)
  · have e : gd l i = 0 := by simp [gd, List.getD, List.getElem?_eq_none (Nat.le_of_not_lt hi)]
    rw [e]; decide
theorem Dg.take {l : List Nat} (h : Dg l) (i : Nat) : Dg (l.take i) := fun d hd => h d (List.mem_of_mem_take hd)
theorem Dg.drop {l : List Nat} (h : Dg l) (i : Nat) : Dg (l.drop i) := fun d hd => h d (List.mem_of_mem_drop hd)
theorem nv_append (l m : List Nat) : nv (l ++ m) = nv l + 65536 ^ l.length * nv m := by
  induction l with
  | nil => simp [nv]
  | cons d l ih =>
    simp only [List.cons_append, nv, ih, List.length_cons, Nat.pow_succ]
    rw [Nat.mul_add, Nat.mul_comm (65536 ^ l.length) 65536, Nat.mul_assoc]
    omega
theorem nv_snoc (l : List Nat) (d : Nat) : nv (l ++ [d]) = nv l + 65536 ^ l.length * d := by
  rw [nv_append]; simp [nv]
theorem nv_lt {l : List Nat} (h : Dg l) : nv l < 65536 ^ l.length := by
  induction l with
  | nil => simp [nv]
  | cons d l ih =>
    have h1 := ih (fun x hx => h x (List.mem_cons_of_mem _ hx))
    have h2 := h d List.mem_cons_self
    simp only [nv, List.length_cons, Nat.pow_succ]
    omega
theorem getD_ge {l : List Nat} {i : Nat} (h : l.length ≤ i) : gd l i = 0 := by simp [gd, List.getD, List.getElem?_eq_none h]
theorem getD_lt {l : List Nat} {i : Nat} (h : i < l.length) : gd l i = l[i] := by simp [gd, List.getD, h]
theorem nv_take_succ (l : List Nat) (i : Nat) : nv (l.take (i + 1)) = nv (l.take i) + 65536 ^ i * gd l i := by
  by_cases h : i < l.length
  · rw [List.take_succ_eq_append_getElem h, nv_snoc, getD_lt h, List.length_take, Nat.min_eq_left (by omega)]
  · rw [getD_ge (by omega), List.take_of_length_le (by omega), List.take_of_length_le (by omega)]; simp
theorem nv_take_all {l : List Nat} {i : Nat} (h : l.length ≤ i) : nv (l.take i) = nv l := by rw [List.take_of_length_le h]
theorem drop_cons (l : List Nat) (i : Nat) (h : i < l.length) : l.drop i = gd l i :: l.drop (i + 1) := by
  rw [getD_lt h]; exact List.drop_eq_getElem_cons h
theorem nv_drop (l : List Nat) (i : Nat) (h : i < l.length) : nv (l.drop i) = gd l i + 65536 * nv (l.drop (i + 1)) := by
  rw [drop_cons l i h]; rfl
theorem nv_drop_ge {l : List Nat} {i : Nat} (h : l.length ≤ i) : nv (l.drop i) = 0 := by rw [List.drop_of_length_le h]; rfl
theorem nv_split (l : List Nat) (i : Nat) (h : i ≤ l.length) : nv l = nv (l.take i) + 65536 ^ i * nv (l.drop i) := by
  conv => lhs; rw [← List.take_append_drop i l]
  rw [nv_append, List.length_take, Nat.min_eq_left h]
/-- All noughts behind. -/
theorem nv_trim {l : List Nat} {k : Nat} (hk : k ≤ l.length) (hz : ∀ j, k ≤ j → j < l.length → gd l j = 0) : nv (l.take k) = nv l := by
  have h0 : ∀ n j, l.length - j = n → k ≤ j → nv (l.drop j) = 0 := by
    intro n
    induction n with
    | zero => intro j hj hkj; exact nv_drop_ge (by omega)
    | succ n ih =>
      intro j hj hkj
      rw [nv_drop l j (by omega), hz j hkj (by omega), ih (j + 1) (by omega) (by omega)]
  have h1 := h0 _ k rfl (Nat.le_refl _)
  have h2 := nv_split l k hk
  rw [h1] at h2; omega
theorem getD_take {l : List Nat} {i k : Nat} (h : i < k) : gd (l.take k) i = gd l i := by
  simp [gd, List.getD, h]
/-- A number whose last digit isn't nought is no less than that place. -/
theorem nm_le {l : List Nat} (h : Nm l) (hl : l ≠ []) : 65536 ^ (l.length - 1) ≤ nv l := by
  have hp : 0 < l.length := List.length_pos_iff.2 hl
  have h1 := nv_split l (l.length - 1) (by omega)
  rw [nv_drop l _ (by omega), show l.length - 1 + 1 = l.length by omega, nv_drop_ge (Nat.le_refl _)] at h1
  have h2 := h hl
  have h3 : 65536 ^ (l.length - 1) * 1 ≤ 65536 ^ (l.length - 1) * (gd l (l.length - 1) + 65536 * 0) := Nat.mul_le_mul_left _ (by omega)
  omega
theorem nm_zero {l : List Nat} (h : Nm l) : nv l = 0 ↔ l = [] := by
  constructor
  · intro h0
    cases l with
    | nil => rfl
    | cons d l =>
      have := nm_le h (by simp)
      have hp := Nat.pow_pos (n := (d :: l).length - 1) (show 0 < 65536 by decide)
      omega
  · intro h0; rw [h0]; rfl
/-- How long a number below 65536^m is. -/
theorem nm_len {l : List Nat} {m : Nat} (h : Nm l) (hv : nv l < 65536 ^ m) : l.length ≤ m := by
  cases l with
  | nil => simp
  | cons d l =>
    have h1 := nm_le h (by simp)
    have h2 : 65536 ^ ((d :: l).length - 1) < 65536 ^ m := by omega
    have := (Nat.pow_lt_pow_iff_right (show 1 < 65536 by decide)).1 h2
    omega
theorem set_getD (l : List Nat) (i j v : Nat) (hi : i < l.length) : gd (l.set i v) j = if i = j then v else gd l j := by
  by_cases h : i = j
  · subst h; simp [gd, List.getD, hi]
  · simp [gd, List.getD, h]
theorem set_take (l : List Nat) (i v : Nat) : (l.set i v).take i = l.take i := by
  apply List.ext_getElem?
  intro j
  by_cases h : j < i
  · simp [h, show i ≠ j by omega]
  · simp [List.getElem?_take, h]
theorem set_drop (l : List Nat) (i v : Nat) : (l.set i v).drop (i + 1) = l.drop (i + 1) := by
  apply List.ext_getElem?
  intro j
  simp [List.getElem?_drop, show i ≠ i + 1 + j by omega]
theorem nv_set (l : List Nat) (i v : Nat) (hi : i < l.length) : nv (l.set i v) + 65536 ^ i * gd l i = nv l + 65536 ^ i * v := by
  have h1 := nv_split l i (by omega)
  have h2 := nv_split (l.set i v) i (by simp; omega)
  rw [nv_drop l i hi] at h1
  rw [nv_drop (l.set i v) i (by simpa using hi), set_take, set_drop, set_getD _ _ _ _ hi, if_pos rfl] at h2
  rw [h1, h2, Nat.mul_add, Nat.mul_add]; omega
theorem Dg.set {l : List Nat} (h : Dg l) (i v : Nat) (hv : v < 65536) : Dg (l.set i v) := fun d hd => by
  rcases List.mem_or_eq_of_mem_set hd with h1 | h1
  · exact h d h1
  · omega
end Go.Proofs.YtalaacfoaelipaaDoor
