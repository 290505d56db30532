/-
  Put together of: R0 Q0 R1 R2 R3 R5 Q1.
-/
import Derived.Test.YtcfmhkhfmcmkbaaDoorXA
import Derived.OwnWalk
import Derived.WalkSmall
import Derived.Maps.AppendAt
import Derived.Deep.CutRange
import Derived.Test.YtcfmhkhfmcmkbaaDoorXG
import Derived.Test.YtcfmhkhfmcmkbaaDoorXC
import Derived.Deep.RegionHeld3
import Derived.Deep.QuietTactic
import Derived.BigQuiet
namespace Go.Proofs.YtcfmhkhfmcmkbaaDoor

/-- The number of these digits, the lowest first. -/
def nv : List Nat → Nat
  | [] => 0
  | d :: l => d + 65536 * nv l
/-- Digits they are. -/
def Dg (l : List Nat) : Prop := ∀ d ∈ l, d < 65536
/-- The digit at a place. -/
def gd (l : List Nat) (i : Nat) : Nat := l.getD i 0
/-- The last one isn't nought. -/
def Nm (l : List Nat) : Prop := l ≠ [] → gd l (l.length - 1) ≠ 0
theorem Dg.nil : Dg [] := fun d h => by cases h
theorem Dg.snoc {l : List Nat} {d : Nat} (h : Dg l) (hd : d < 65536) : Dg (l ++ [d]) := fun x hx => by
  rcases List.mem_append.1 hx with h1 | h1
  · exact h x h1
  · simp at h1; omega
theorem Dg.at_ {l : List Nat} (h : Dg l) (i : Nat) : gd l i < 65536 := by
  by_cases hi : i < l.length
  · have e : gd l i = l[i] := by simp [gd, List.getD, hi]
    rw [e]; exact h _ (List.getElem_mem hi)
  · have e : gd l i = 0 := by simp [gd, List.getD, List.getElem?_eq_none (Nat.le_of_not_lt hi)]
    rw [e]; decide
theorem Dg.take {l : List Nat} (h : Dg l) (i : Nat) : Dg (l.take i) := fun d hd => h d (List.mem_of_mem_take hd)
theorem Dg.drop {l : List Nat} (h : Dg l) (i : Nat) : Dg (l.drop i) := fun d hd => h d (List.mem_of_mem_drop hd)
theorem nv_append (l m : List Nat) : nv (l ++ m) = nv l + 65536 ^ l.length * nv m := by
  induction l with
  | nil => simp [nv]
  | cons d l ih =>
    simp only [List.cons_append, nv, ih, List.length_cons, Nat.pow_succ]
    rw [Nat.mul_add, Nat.mul_comm (65536 ^ l.length) 65536, Nat.mul_assoc]
    omega
theorem nv_snoc (l : List Nat) (d : Nat) : nv (l ++ [d]) = nv l + 65536 ^ l.length * d := by
  rw [nv_append]; simp [nv]
theorem nv_lt {l : List Nat} (h : Dg l) : nv l < 65536 ^ l.length := by
  induction l with
  | nil => simp [nv]
  | cons d l ih =>
    have h1 := ih (fun x hx => h x (List.mem_cons_of_mem _ hx))
    have h2 := h d List.mem_cons_self
    simp only [nv, List.length_cons, Nat.pow_succ]
    omega
theorem getD_ge {l : List Nat} {i : Nat} (h : l.length ≤ i) : gd l i = 0 := by simp [gd, List.getD, List.getElem?_eq_none h]
theorem getD_lt {l : List Nat} {i : Nat} (h : i < l.length) : gd l i = l[i] := by simp [gd, List.getD, h]
theorem nv_take_succ (l : List Nat) (i : Nat) : nv (l.take (i + 1)) = nv (l.take i) + 65536 ^ i * gd l i := by
  by_cases h : i < l.length
  · rw [List.take_succ_eq_append_getElem h, nv_snoc, getD_lt h, List.length_take, Nat.min_eq_left (by omega)]
  · rw [getD_ge (by omega), List.take_of_length_le (by omega), List.take_of_length_le (by omega)]; simp
theorem nv_take_all {l : List Nat} {i : Nat} (h : l.length ≤ i) : nv (l.take i) = nv l := by rw [List.take_of_length_le h]
theorem drop_cons (l : List Nat) (i : Nat) (h : i < l.length) : l.drop i = gd l i :: l.drop (i + 1) := by
  rw [getD_lt h]; exact List.drop_eq_getElem_cons h
theorem nv_drop (l : List Nat) (i : Nat) (h : i < l.length) : nv (l.drop i) = gd l i + 65536 * nv (l.drop (i + 1)) := by
  rw [drop_cons l i h]; rfl
theorem nv_drop_ge {l : List Nat} {i : Nat} (h : l.length ≤ i) : nv (l.drop i) = 0 := by rw [List.drop_of_length_le h]; rfl
theorem nv_split (l : List Nat) (i : Nat) (h : i ≤ l.length) : nv l = nv (l.take i) + 65536 ^ i * nv (l.drop i) := by
  conv => lhs; rw [← List.take_append_drop i l]
  rw [nv_append, List.length_take, Nat.min_eq_left h]
/-- All noughts behind. -/
theorem nv_trim {l : List Nat} {k : Nat} (hk : k ≤ l.length) (hz : ∀ j, k ≤ j → j < l.length → gd l j = 0) : nv (l.take k) = nv l := by
  have h0 : ∀ n j, l.length - j = n → k ≤ j → nv (l.drop j) = 0 := by
    intro n
    induction n with
    | zero => intro j hj hkj; exact nv_drop_ge (by omega)
    | succ n ih =>
      intro j hj hkj
      rw [nv_drop l j (by omega), hz j hkj (by omega), ih (j + 1) (by omega) (by omega)]
  have h1 := h0 _ k rfl (Nat.le_refl _)
  have h2 := nv_split l k hk
  rw [h1] at h2; omega
theorem getD_take {l : List Nat} {i k : Nat} (h : i < k) : gd (l.take k) i = gd l i := by
  simp [gd, List.getD, h]
/-- A number whose last digit isn't nought is no less than that place. -/
theorem nm_le {l : List Nat} (h : Nm l) (hl : l ≠ []) : 65536 ^ (l.length - 1) ≤ nv l := by
  have hp : 0 < l.length := List.length_pos_iff.2 hl
  have h1 := nv_split l (l.length - 1) (by omega)
  rw [nv_drop l _ (by omega), show l.length - 1 + 1 = l.length by omega, nv_drop_ge (Nat.le_refl _)] at h1
  have h2 := h hl
  have h3 : 65536 ^ (l.length - 1) * 1 ≤ 65536 ^ (l.length - 1) * (gd l (l.length - 1) + 65536 * 0) := Nat.mul_le_mul_left _ (by omega)
  omega
theorem nm_zero {l : List Nat} (h : Nm l) : nv l = 0 ↔ l = [] := by
  constructor
  · intro h0
    cases l with
    | nil => rfl
    | cons d l =>
      have := nm_le h (by simp)
      have hp := Nat.pow_pos (n := (d :: l).length - 1) (show 0 < 65536 by decide)
      omega
  · intro h0; rw [h0]; rfl
/-- How long a number below 65536^m is. -/
theorem nm_len {l : List Nat} {m : Nat} (h : Nm l) (hv : nv l < 65536 ^ m) : l.length ≤ m := by
  cases l with
  | nil => simp
  | cons d l =>
    have h1 := nm_le h (by simp)
    have h2 : 65536 ^ ((d :: l).length - 1) < 65536 ^ m := by omega
    have := (Nat.pow_lt_pow_iff_right (show 1 < 65536 by decide)).1 h2
    omega
theorem set_getD (l : List Nat) (i j v : Nat) (hi : i < l.length) : gd (l.set i v) j = if i = j then v else gd l j := by
  by_cases h : i = j
  · subst h; simp [gd, List.getD, hi]
  · simp [gd, List.getD, h]
theorem set_take (l : List Nat) (i v : Nat) : (l.set i v).take i = l.take i := by
  apply List.ext_getElem?
  intro j
  by_cases h : j < i
  · simp [h, show i ≠ j by omega]
  · simp [List.getElem?_take, h]
theorem set_drop (l : List Nat) (i v : Nat) : (l.set i v).drop (i + 1) = l.drop (i + 1) := by
  apply List.ext_getElem?
  intro j
  simp [List.getElem?_drop, show i ≠ i + 1 + j by omega]
theorem nv_set (l : List Nat) (i v : Nat) (hi : i < l.length) : nv (l.set i v) + 65536 ^ i * gd l i = nv l + 65536 ^ i * v := by
  have h1 := nv_split l i (by omega)
  have h2 := nv_split (l.set i v) i (by simp; omega)
  rw [nv_drop l i hi] at h1
  rw [nv_drop (l.set i v) i (by simpa using hi), set_take, set_drop, set_getD _ _ _ _ hi, if_pos rfl] at h2
  rw [h1, h2, Nat.mul_add, Nat.mul_add]; omega
theorem Dg.set {l : List Nat} (h : Dg l) (i v : Nat) (hv : v < 65536) : Dg (l.set i v) := fun d hd => by
  rcases List.mem_or_eq_of_mem_set hd with h1 | h1
  · exact h d h1
  · omega
end Go.Proofs.YtcfmhkhfmcmkbaaDoor
namespace Go.Proofs.YtcfmhkhfmcmkbaaDoor

theorem pow_cut (B c : Nat) : B * (c % 65536) + B * 65536 * (c / 65536) = B * c := by
  rw [Nat.mul_assoc, ← Nat.mul_add, Nat.mod_add_div]
/-- One round of a sum. -/
theorem plus_step (la lb l : List Nat) (cr : Nat) (h : nv l + 65536 ^ l.length * cr = nv (la.take l.length) + nv (lb.take l.length)) :
    nv (l ++ [(cr + gd la l.length + gd lb l.length) % 65536]) + 65536 ^ (l.length + 1) * ((cr + gd la l.length + gd lb l.length) / 65536) = nv (la.take (l.length + 1)) + nv (lb.take (l.length + 1)) := by
  rw [nv_snoc, nv_take_succ, nv_take_succ, Nat.pow_succ]
  have e := pow_cut (65536 ^ l.length) (cr + gd la l.length + gd lb l.length)
  rw [Nat.mul_add, Nat.mul_add] at e
  generalize 65536 ^ l.length * ((cr + gd la l.length + gd lb l.length) % 65536) = t1 at *
  generalize 65536 ^ l.length * 65536 * ((cr + gd la l.length + gd lb l.length) / 65536) = t2 at *
  omega
/-- One round of a difference: x the digit before it is made one, b whether it was below nought. -/
theorem minus_step (la lb l : List Nat) (br d b : Nat) (h : nv l + nv (lb.take l.length) + 65536 ^ l.length * br = nv (la.take l.length) + 65536 ^ l.length * br + 65536 ^ l.length * br)
    (hd : d + gd lb l.length + br = gd la l.length + 65536 * b) :
    nv (l ++ [d]) + nv (lb.take (l.length + 1)) + 65536 ^ (l.length + 1) * b = nv (la.take (l.length + 1)) + 65536 ^ (l.length + 1) * b + 65536 ^ (l.length + 1) * b := by
  rw [nv_snoc, nv_take_succ, nv_take_succ, Nat.pow_succ]
  have e : 65536 ^ l.length * (d + gd lb l.length + br) = 65536 ^ l.length * (gd la l.length + 65536 * b) := by rw [hd]
  rw [Nat.mul_add, Nat.mul_add, Nat.mul_add, ← Nat.mul_assoc] at e
  omega
theorem minus_end (la lb l : List Nat) (br : Nat) (hl : l.length = la.length) (hlb : lb.length ≤ la.length) (hd : Dg l) (hle : nv lb ≤ nv la)
    (h : nv l + nv (lb.take l.length) + 65536 ^ l.length * br = nv (la.take l.length) + 65536 ^ l.length * br + 65536 ^ l.length * br) : nv l = nv la - nv lb := by
  rw [nv_take_all (by omega), nv_take_all (by omega)] at h
  have h1 := nv_lt hd
  cases br with
  | zero => omega
  | succ b =>
    have : 65536 ^ l.length * 1 ≤ 65536 ^ l.length * (b + 1) := Nat.mul_le_mul_left _ (by omega)
    omega
/-- A longer number is greater. -/
theorem len_lt {la lb : List Nat} (ha : Dg la) (hb : Nm lb) (h : la.length < lb.length) : nv la < nv lb := by
  have h1 := nv_lt ha
  have h2 := nm_le hb (by intro e; rw [e] at h; simp at h)
  have h3 : 65536 ^ la.length ≤ 65536 ^ (lb.length - 1) := Nat.pow_le_pow_right (by decide) (by omega)
  omega
theorem digit_lt {la lb : List Nat} (ha : Dg la) (hl : la.length = lb.length) (m : Nat) (hm : m < la.length) (he : nv (la.drop (m + 1)) = nv (lb.drop (m + 1))) (h : gd la m < gd lb m) : nv la < nv lb := by
  have h1 := nv_split la m (by omega)
  have h2 := nv_split lb m (by omega)
  rw [nv_drop la m hm] at h1
  rw [nv_drop lb m (by omega), ← he] at h2
  have h3 := nv_lt (ha.take m)
  rw [List.length_take, Nat.min_eq_left (by omega)] at h3
  generalize nv (la.drop (m + 1)) = H at *
  have h4 : 65536 ^ m * (gd la m + 65536 * H + 1) ≤ 65536 ^ m * (gd lb m + 65536 * H) := Nat.mul_le_mul_left _ (by omega)
  rw [Nat.mul_add, Nat.mul_one] at h4
  omega
/-- How two numbers compare. -/
def cmpN (x y : Nat) : Int := if x < y then -1 else if y < x then 1 else 0

/-- One round of a product's inner loop. -/
theorem times_step (D d lb : List Nat) (ai i k cr : Nat) (hk : i + k < d.length)
    (h : nv d + 65536 ^ (i + k) * cr = nv D + 65536 ^ i * (ai * nv (lb.take k))) :
    nv (d.set (i + k) ((cr + gd d (i + k) + ai * gd lb k) % 65536)) + 65536 ^ (i + (k + 1)) * ((cr + gd d (i + k) + ai * gd lb k) / 65536) = nv D + 65536 ^ i * (ai * nv (lb.take (k + 1))) := by
  have h1 := nv_set d (i + k) ((cr + gd d (i + k) + ai * gd lb k) % 65536) hk
  have e := pow_cut (65536 ^ (i + k)) (cr + gd d (i + k) + ai * gd lb k)
  rw [show i + (k + 1) = i + k + 1 by omega, Nat.pow_succ, nv_take_succ, Nat.mul_add ai, Nat.mul_add]
  have e2 : 65536 ^ i * (ai * (65536 ^ k * gd lb k)) = 65536 ^ (i + k) * (ai * gd lb k) := by
    rw [Nat.pow_add, Nat.mul_left_comm ai, Nat.mul_assoc]
  rw [e2]
  rw [Nat.mul_add, Nat.mul_add] at e
  generalize 65536 ^ (i + k) * ((cr + gd d (i + k) + ai * gd lb k) % 65536) = t1 at *
  generalize 65536 ^ (i + k) * 65536 * ((cr + gd d (i + k) + ai * gd lb k) / 65536) = t2 at *
  omega
theorem times_carry (cr x a b : Nat) (h1 : cr < 65536) (h2 : x < 65536) (h3 : a < 65536) (h4 : b < 65536) : (cr + x + a * b) / 65536 < 65536 ∧ cr + x + a * b < 9223372036854775807 ∧ a * b < 9223372036854775807 := by
  have : a * b ≤ 65535 * 65535 := Nat.mul_le_mul (by omega) (by omega)
  omega
/-- How far the inner loop goes. -/
theorem times_far (D d lb : List Nat) (ai i k cr : Nat) (hb : Dg lb) (ha : ai < 65536) (hD : nv D < 65536 ^ (i + lb.length)) (hcr : 0 < cr)
    (h : nv d + 65536 ^ (i + k) * cr = nv D + 65536 ^ i * (ai * nv (lb.take k))) : k ≤ lb.length := by
  have h1 := nv_lt hb
  have h2 : nv (lb.take k) ≤ nv lb := by
    rcases Nat.lt_or_ge k lb.length with hk | hk
    · have := nv_split lb k (by omega); omega
    · rw [nv_take_all hk]; omega
  have h3 : ai * nv (lb.take k) ≤ 65535 * (65536 ^ lb.length - 1) := Nat.mul_le_mul (by omega) (by omega)
  have h4 : 65536 ^ i * (ai * nv (lb.take k)) ≤ 65536 ^ i * (65535 * (65536 ^ lb.length - 1)) := Nat.mul_le_mul_left _ h3
  have h5 : 65536 ^ i * (65535 * (65536 ^ lb.length - 1)) + 65536 ^ i * 65535 = 65536 ^ (i + lb.length) * 65535 := by
    rw [← Nat.mul_add, Nat.pow_add, Nat.mul_assoc]
    congr 1
    have : 0 < 65536 ^ lb.length := Nat.pow_pos (by decide)
    omega
  have h6 : 65536 ^ (i + k) * cr < 65536 ^ (i + lb.length + 1) := by
    rw [Nat.pow_succ 65536 (i + lb.length)]
    omega
  have h7 : 65536 ^ (i + k) * 1 ≤ 65536 ^ (i + k) * cr := Nat.mul_le_mul_left _ hcr
  have := (Nat.pow_lt_pow_iff_right (show 1 < 65536 by decide)).1 (show 65536 ^ (i + k) < 65536 ^ (i + lb.length + 1) by omega)
  omega
/-- One round of a product's outer loop. -/
theorem times_round (D d la lb : List Nat) (i : Nat) (hD : nv D = nv (la.take i) * nv lb) (h : nv d = nv D + 65536 ^ i * (gd la i * nv lb)) : nv d = nv (la.take (i + 1)) * nv lb := by
  rw [h, hD, nv_take_succ, Nat.add_mul, Nat.mul_assoc]
theorem times_bound (la lb : List Nat) (i : Nat) (ha : Dg la) (hb : Dg lb) (hi : i ≤ la.length) : nv (la.take i) * nv lb < 65536 ^ (i + lb.length) := by
  have h1 := nv_lt (ha.take i)
  rw [List.length_take, Nat.min_eq_left hi] at h1
  have h2 := nv_lt hb
  rw [Nat.pow_add]
  exact Nat.mul_lt_mul_of_lt_of_le h1 (Nat.le_of_lt h2) (Nat.pow_pos (by decide))
end Go.Proofs.YtcfmhkhfmcmkbaaDoor
namespace Go.Proofs.YtcfmhkhfmcmkbaaDoor
open Go.RowKit Go.Sort

/-- The kind of a block's cells. -/
def bty (W : World) (B : Nat) : Option TypeId := (W.shape? B).map (·.1)
theorem bty_below {W W' : World} {B : Nat} (hb : Below W.heap.size W W') (h : B < W.heap.size) : bty W' B = bty W B := by
  unfold bty World.shape?
  rw [hb.block B h]
theorem bty_new (W : World) (cs : Array Value) (t : TypeId) : bty (W.alloc (.cells cs t)) W.heap.size = some t := by
  unfold bty World.shape?
  rw [show (W.alloc (.cells cs t)).heap[W.heap.size]? = some (.cells cs t) from by show (W.heap.push _)[W.heap.size]? = _; simp]
  rfl
theorem bty_set (W : World) (a : Addr) (v : Value) (B : Nat) : bty (W.setCell a v) B = bty W B := by
  unfold bty World.shape? World.setCell
  simp only [Array.getElem?_modify]
  by_cases h : a.block = B
  · subst h
    rw [if_pos rfl]
    cases hh : W.heap[a.block]? with
    | none => rfl
    | some o => cases o <;> rfl
  · rw [if_neg h]
theorem lt_of_bty {W : World} {B : Nat} {t : TypeId} (h : bty W B = some t) : B < W.heap.size := by
  unfold bty World.shape? at h
  by_cases hb : B < W.heap.size
  · exact hb
  · rw [show W.heap[B]? = none by simp; omega] at h
    simp at h
/-- The cells from the address on hold these digits. -/
structure Row (a : Option Addr) (l : List Nat) (W : World) : Prop where
  at_ : ∀ i, i < l.length → ∃ B, a = some ⟨B, 0, none⟩ ∧ W.cell? ⟨B, i, none⟩ = some (.int .i64 (gd l i : Nat)) ∧ bty W B = some 3
theorem Row.below {a : Option Addr} {l : List Nat} {W W' : World} (h : Row a l W) (hb : Below W.heap.size W W') : Row a l W' := ⟨fun i hi => by
  obtain ⟨B, e, hc, ht⟩ := h.at_ i hi
  exact ⟨B, e, (hb.cell (p := ⟨B, i, none⟩) (block_lt_of_cell hc)).trans hc, (bty_below hb (lt_of_bty ht)).trans ht⟩⟩
theorem Row.nil (a : Option Addr) (W : World) : Row a [] W := ⟨fun i hi => by simp at hi⟩
theorem Row.take {a : Option Addr} {l : List Nat} {W : World} (h : Row a l W) (k : Nat) : Row a (l.take k) W := ⟨fun i hi => by
  rw [List.length_take] at hi
  obtain ⟨B, e, hc⟩ := h.at_ i (by omega)
  exact ⟨B, e, by rw [getD_take (by omega)]; exact hc⟩⟩
/-- A store into a block of another kind. -/
theorem Row.put {a : Option Addr} {l : List Nat} {W : World} (h : Row a l W) {R : Nat} {t : TypeId} (hR : bty W R = some t) (ht : t ≠ 3) (o : Nat) (v : Value) : Row a l (W.setCell ⟨R, o, none⟩ v) := ⟨fun i hi => by
  obtain ⟨B, e, hc, hb⟩ := h.at_ i hi
  refine ⟨B, e, ?_, (bty_set _ _ _ _).trans hb⟩
  rw [World.cell?_setCell_far _ _ _ _ (fun e' => ht (by
    have e2 : R = B := e'
    rw [e2, hb] at hR
    exact (Option.some.inj hR).symm))]
  exact hc⟩
theorem Row.drewN {a : Option Addr} {l : List Nat} {W : World} (h : Row a l W) (n : Nat) : Row a l (W.drewN n) := ⟨h.at_⟩
/-- A whole number of the reference, its digits' slice. -/
structure II (W : World) (a : Option Addr) (n c : Nat) (z : Int) : Prop where
  ex : ∃ l : List Nat, n = l.length ∧ Row a l W ∧ Dg l ∧ Nm l ∧ nv l = z.natAbs ∧ n ≤ c ∧ c ≤ 9223372036854775807
theorem II.below {W W' : World} {a : Option Addr} {n c : Nat} {z : Int} (h : II W a n c z) (hb : Below W.heap.size W W') : II W' a n c z := by
  obtain ⟨l, h1, h2, h3⟩ := h.ex
  exact ⟨l, h1, h2.below hb, h3⟩
theorem II.put {W : World} {a : Option Addr} {n c : Nat} {z : Int} (h : II W a n c z) {R : Nat} (hR : bty W R = some 101) (o : Nat) (v : Value) : II (W.setCell ⟨R, o, none⟩ v) a n c z := by
  obtain ⟨l, h1, h2, h3⟩ := h.ex
  exact ⟨l, h1, h2.put hR (by decide) o v, h3⟩
theorem II.put2 {W : World} {a : Option Addr} {n c : Nat} {z : Int} (h : II W a n c z) {R : Nat} (hR : bty W R = some 101) (v v' : Value) : II ((W.setCell ⟨R, 0, none⟩ v).setCell ⟨R, 1, none⟩ v') a n c z :=
  (h.put hR _ _).put ((bty_set _ _ _ _).trans hR) _ _
theorem II.nought (W : World) : II W none 0 0 0 := ⟨[], rfl, Row.nil _ _, Dg.nil, fun h => absurd rfl h, rfl, by omega, by omega⟩
/-- What a call that tells a whole number tells. -/
def IRet (z : Int) (e : Ending) (W : World) : Prop := ∃ a n c, e = .returned (.agg #[.int .i64 (sgn z), .slice a n c]) ∧ II W a n c z

theorem Row.alloc {a : Option Addr} {l : List Nat} {W : World} (h : Row a l W) (o : Obj) : Row a l (W.alloc o) := h.below (bal (Below.refl _ _) _)
set_option maxHeartbeats 400000 in
theorem trim_any (sg z : Int) (a : Option Addr) (l : List Nat) (c : Nat) (w : World) (hl : l.length ≤ c) (hc : c ≤ 9223372036854775807) (hr : Row a l w) (hd : Dg l) (hz : nv l = z.natAbs) (hs : z ≠ 0 → sg = sgn z) :
    Calls Tryd.prog 74 #[.int .i64 sg, .slice a l.length c] w fun e w' => IRet z e w' ∧ Below w.heap.size w w' := by
  have HR : Hid (Row a l w) := hr
  have HD : Hid (Dg l) := hd
  have HZ : Hid (nv l = z.natAbs) := hz
  have HS : Hid (z ≠ 0 → sg = sgn z) := hs
  clear hr hd hz hs
  generalize hn : l.length = n at hl
  have HN : Hid (l.length = n) := hn
  clear hn
  go_enter Tryd.func74, Tryd.ntmps74
  go_wp2
  go_loop [5] (fun i => ∃ k : Nat, k ≤ n ∧ i = .int .i64 k ∧ Hid (∀ j, k ≤ j → j < l.length → gd l j = 0)) (fun i => (intOf i).toNat)
  case atStart => exact ⟨n, by omega, rfl, fun j h1 h2 => by have := HN.out; omega⟩
  case round =>
    obtain ⟨k, hk, rfl, hz⟩ := hrel
    by_cases h0 : k = 0
    · subst h0
      have e0 : nv l = 0 := by rw [← nv_trim (l := l) (k := 0) (by omega) hz.out]; simp [nv]
      have ez : z = 0 := by have := HZ.out; omega
      subst ez
      go_wp2
      exact bodyPost_ret (v := .agg #[.int .i64 0, .slice none 0 0]) (by simp [results, Tryd.results74, go_sem]) rfl ⟨⟨none, 0, 0, rfl, II.nought _⟩, bal (Below.refl w.heap.size w) _⟩
    · obtain ⟨m, rfl⟩ : ∃ m, k = m + 1 := ⟨k - 1, by omega⟩
      clear h0
      obtain ⟨B, rfl, hcell, _⟩ := HR.out.at_ m (by have := HN.out; omega)
      have hB : B < w.heap.size := block_lt_of_cell hcell
      by_cases hv : gd l m = 0
      · have HZ' : Hid (∀ j, m ≤ j → j < l.length → gd l j = 0) := fun j h1 h2 => if e : j = m then by rw [e]; exact hv else hz.out j (by omega) h2
        rw [hv] at hcell
        clear hv
        go_wp2
        go_round
        case rel => exact ⟨m, by omega, by go_num, HZ'⟩
        case measure => simp [intOf]
      · have hv' : ¬ ((gd l m : Nat) : Int) = 0 := by omega
        have HV : Hid (gd l m ≠ 0) := hv
        clear hv
        have key : Hid (∀ o, II (w.alloc o) (some ⟨B, 0, none⟩) (m + 1) c z) := fun o => by
          have hln : m + 1 ≤ l.length := by have := HN.out; omega
          refine ⟨l.take (m + 1), by rw [List.length_take]; omega, (HR.out.take _).alloc _, HD.out.take _, fun _ => ?_, ?_, by omega, hc⟩
          · rw [List.length_take, Nat.min_eq_left hln, getD_take (by omega)]; exact HV.out
          · rw [nv_trim hln hz.out]; exact HZ.out
        obtain rfl : sg = sgn z := HS.out fun h => by
          subst h
          obtain ⟨l', h1, _, _, h2, h3, _⟩ := (key.out (.cells #[] 101)).ex
          have := (nm_zero h2).1 h3
          rw [this] at h1; simp at h1
        clear hz HZ HD HS HN HR HV
        go_wp2
        exact bodyPost_ret (v := .agg #[.int .i64 (sgn z), .slice (some ⟨B, 0, none⟩) (m + 1) c]) (by simp [results, Tryd.results74, go_sem]) rfl ⟨⟨_, _, _, rfl, key.out _⟩, bal (Below.refl w.heap.size w) _⟩

theorem Tryd.info3 : (Tryd.prog.info? 3).map (fun i => (i.zero, i.size, i.bytes)) = some (some (.int .i64 0), 1, 8) := by kernel_rfl
def vals (l : List Nat) : List Value := l.map fun (x : Nat) => .int .i64 (x : Int)
/-- The slice v is new memory, behind W0, that holds these digits. -/
structure Told (l : List Nat) (v : Value) (W0 W : World) : Prop where
  below : Below W0.heap.size W0 W
  owns : W.ownsRow W0.heap.size 3 1 v l.length (vals l)
theorem Told.push {l : List Nat} {x : Nat} {v v' : Value} {w wr w3 : World} (h : Told l v w wr)
    (ho : w3.ownsRow w.heap.size 3 1 v' (l.length + 1) (vals l ++ [.int .i64 (x : Int)])) (hg : (wr.alloc (.cells #[.int .i64 (x : Int)] 3)).grownBy w3 v.ownBlock) : Told (l ++ [x]) v' w w3 := by
  refine ⟨(h.below.alloc h.below.size _).grown hg (by have := h.below.size; simp; omega) (fun k e => (h.owns.lt k e).1), ?_⟩
  rw [show vals (l ++ [x]) = vals l ++ [.int .i64 (x : Int)] by simp [vals], List.length_append]
  exact ho
theorem Told.shape {l : List Nat} {v : Value} {w w' : World} (h : Told l v w w') : ∃ ao cv, v = .slice ao l.length cv ∧ l.length ≤ cv ∧ cv ≤ 9223372036854775807 := by
  rcases h.owns.2 with ⟨e, e2⟩ | ⟨g, c, _, e, _, _, h1, h2, _⟩
  · exact ⟨none, 0, by rw [e, e2], by omega, by omega⟩
  · unfold maxLen at h2
    exact ⟨_, c, e, h1, by omega⟩
theorem Told.row {l : List Nat} {a : Option Addr} {n c : Nat} {w w' : World} (h : Told l (.slice a n c) w w') : Row a l w' := ⟨fun i hi => by
  rcases h.owns.2 with ⟨_, e⟩ | ⟨g, c', cur, e, hb, hh, _⟩
  · omega
  · have ho := h.owns
    simp only [Value.slice.injEq] at e
    obtain ⟨rfl, rfl, rfl⟩ := e
    have hc := ho.cellAt i (by omega)
    refine ⟨g, rfl, ?_, ?_⟩
    · rw [hc, getD_lt hi]; simp [vals, hi]
    · unfold bty World.shape?; rw [hh]; rfl⟩

/-- append(d, x), d new memory of one's own. -/
theorem app_told {ops : Array Oper} {rest : List Oper} {o : Oper} {act : Act} {Q : Exit → Act → World → Prop} (hgd : o.guard = none) (s x : Operand)
    (ho : o.op = .call { callee := .builtin .append, args := #[s, x], argTypes := #[99, 99] }) (l : List Nat) (v : Value) (W0 wr : World) (ht : Told l v W0 wr) (hs : act.eval s = v) (d : Nat) (dI : Int) (hd : dI = (d : Int))
    (hx : act.eval x = .slice (some ⟨wr.heap.size, 0, none⟩) 1 1) (hl : l.length ≤ 1000)
    (h : ∀ (a : Option Addr) (c : Nat) (w3 : World), Told (l ++ [d]) (.slice a (l.length + 1) c) W0 w3 → l.length + 1 ≤ c → c ≤ 9223372036854775807 → wpList Tryd.prog ops Q rest (act.put o.dst (.slice a (l.length + 1) c)) w3) :
    wpList Tryd.prog ops Q (o :: rest) act (wr.alloc (.cells #[.int .i64 dI] 3)) := by
  subst hd
  obtain ⟨i, hi, hz0, hz1, hz2⟩ := info_parts Tryd.info3
  have hsz := ht.below.size
  refine wpList_append_own _ hgd _ _ 99 ho W0.heap.size 3 i (.int .i64 0) 1 8 Tryd.underlying99 hi hz0 hz1 hz2 rfl (by decide) v l.length (vals l) hs (ht.owns.alloc _) ⟨wr.heap.size, 0, none⟩ 1 1 [.int .i64 (d : Int)] hx rfl (cell_one_new _ _ _) (fun x hx => by simp at hx; subst hx; rfl) (by unfold maxLen; omega) (by omega) (by simp; omega) ?_
  intro v' w3 hown' hgrow3 _
  have ht' := ht.push hown' hgrow3
  obtain ⟨a, c, rfl, h1, h2⟩ := ht'.shape
  have e : (l ++ [d]).length = l.length + 1 := by simp
  rw [e] at ht' h1
  rw [e]
  exact h a c w3 ht' h1 h2
theorem of_math (u x : Nat) (l : List Nat) (h : nv l + 65536 ^ l.length * u = x) : nv (l ++ [u % 65536]) + 65536 ^ (l ++ [u % 65536]).length * (u / 65536) = x := by
  rw [nv_snoc, List.length_append, List.length_singleton, Nat.pow_succ, Nat.mul_assoc, Nat.add_assoc, ← Nat.mul_add, Nat.mod_add_div]; exact h
theorem of_len (u x : Nat) (l : List Nat) (h : nv l + 65536 ^ l.length * u = x) (hu : 0 < u) (hx : x < 65536 ^ 4) : l.length < 4 := by
  have h1 : 65536 ^ l.length * 1 ≤ 65536 ^ l.length * u := Nat.mul_le_mul_left _ hu
  exact (Nat.pow_lt_pow_iff_right (show 1 < 65536 by decide)).1 (show 65536 ^ l.length < 65536 ^ 4 by omega)
set_option maxHeartbeats 1000000 in
theorem of_core (v : Int) (sg : Int) (x : Nat) (w : World) (hx : x < 18446744073709551616) (hz : x = v.natAbs) (hs : v ≠ 0 → sg = sgn v)
    (hc : (v < 0 ∧ sg = -1 ∧ IntKind.u64.wrap (-(IntKind.u64.wrap v)) = (x : Int)) ∨ (¬ v < 0 ∧ sg = 1 ∧ IntKind.u64.wrap v = (x : Int))) :
    Calls Tryd.prog 55 #[.int .i64 v] w fun e w' => IRet v e w' ∧ Below w.heap.size w w' := by
  have HZ : Hid (x = v.natAbs) := hz
  have HS : Hid (v ≠ 0 → sg = sgn v) := hs
  clear hz hs
  rcases hc with ⟨hv, rfl, hw⟩ | ⟨hv, rfl, hw⟩
  all_goals
    go_enter Tryd.func55, Tryd.ntmps55
    go_wp2
    clear hw
    go_loopw [5, 4] (fun v' u wr => ∃ (l : List Nat) (y : Nat) (ao : Option Addr) (cv : Nat), l.length ≤ 4 ∧ y < 18446744073709551616 ∧ u = .int .u64 y ∧ v' = .slice ao l.length cv ∧ l.length ≤ cv ∧ cv ≤ 9223372036854775807 ∧ Hid (nv l + 65536 ^ l.length * y = x) ∧ Hid (Dg l) ∧ Hid (Told l v' (w.alloc (.cells #[.int .i64 0, .slice none 0 0] 101)) wr)) (fun _ u _ => (intOf u).toNat)
    case atStart => exact ⟨[], x, none, 0, by simp, hx, rfl, rfl, by simp, by omega, by simp [Hid, nv], Dg.nil, Below.refl _ _, World.ownsRow_nil _ _ _ _⟩
    case round =>
      obtain ⟨l, y, ao, cv, hl4, hy, rfl, rfl, hcv, hcv', hval, hdg, ht⟩ := hrel
      have hB := ht.out.below
      by_cases hy0 : y = 0
      · subst hy0
        have TR := trim_any _ v ao l cv wr hcv hcv' ht.out.row hdg.out (by have := hval.out; have := HZ.out; omega) HS.out
        clear hval hdg HZ HS ht
        obtain ⟨hc, hf⟩ := bcell hB
        go_wp2_with (go_at_call 74; (with_reducible refine TR.mono ?_); rintro e w2 ⟨⟨a', n', c', rfl, hI⟩, hN⟩; replace hB := btr hB hN; obtain ⟨hc, hf⟩ := bcell hB)
        exact bodyPost_ret (v := .agg #[.int .i64 (sgn v), .slice a' n' c']) (by simp [results, Tryd.results55, go_sem, hc]) rfl ⟨⟨_, _, _, rfl, hI.put2 ((bty_below hB (by simp)).trans (bty_new _ _ _)) _ _⟩, ((btr (bal (Below.refl _ _) _) hB).setCell (by simp) _).setCell (by simp) _⟩
      · have hl := of_len y x l hval.out (by omega) hx
        have hval' : Hid _ := of_math y x l hval.out
        have hdg' : Hid (Dg (l ++ [y % 65536])) := hdg.out.snoc (Nat.mod_lt _ (by decide))
        have HL : Hid ((l ++ [y % 65536]).length ≤ 4) := by show _ ≤ _; simp; omega
        clear hval hdg
        go_wp2_with (at_builtin; refine app_told rfl _ _ rfl l _ _ wr ht.out rfl (y % 65536) _ (by omega) rfl (by omega) ?_; intro a3 c3 w3 ht3 hc3 hc3')
        have hlen : (l ++ [y % 65536]).length = l.length + 1 := by simp
        generalize l ++ [y % 65536] = l' at *
        go_roundw
        case rel => exact ⟨l', y / 65536, a3, c3, HL, by omega, by go_num, by rw [hlen], by omega, hc3', hval', hdg', ht3⟩
        case measure => simp [intOf]; omega
theorem of_any (v : Int) (w : World) (hlo : -9223372036854775808 ≤ v) (hhi : v ≤ 9223372036854775807) :
    Calls Tryd.prog 55 #[.int .i64 v] w fun e w' => IRet v e w' ∧ Below w.heap.size w w' := by
  by_cases h : v < 0
  · refine of_core v (-1) v.natAbs w (by omega) rfl (fun _ => by unfold sgn; rw [if_pos h]) (Or.inl ⟨h, rfl, ?_⟩)
    rw [IntKind.wrap_u64, IntKind.wrap_u64]; omega
  · refine of_core v 1 v.natAbs w (by omega) rfl (fun h0 => by unfold sgn; rw [if_neg h, if_neg h0]) (Or.inr ⟨h, rfl, ?_⟩)
    rw [IntKind.wrap_u64]; omega
end Go.Proofs.YtcfmhkhfmcmkbaaDoor
namespace Go.Proofs.YtcfmhkhfmcmkbaaDoor
open Go.RowKit Go.Sort

theorem nv_mod2 (l : List Nat) : nv l % 2 = gd l 0 % 2 := by
  cases l with
  | nil => rfl
  | cons d l => show (d + 65536 * nv l) % 2 = d % 2; omega
theorem even_b (n d : Nat) (h : ¬ n = 0) : (((n : Int) == 0) || ((d : Int) % 2 == 0)) = decide ((d : Int) % 2 = 0) := by
  have e : ((n : Int) == 0) = false := by simpa using h
  rw [e]; rfl
set_option maxHeartbeats 400000 in
theorem even_any (s z : Int) (a : Option Addr) (n c : Nat) (w : World) (h : II w a n c z) :
    Calls Tryd.prog 78 #[.agg #[.int .i64 s, .slice a n c]] w fun e w' => e = .returned (.bool (decide (z % 2 = 0))) ∧ Below w.heap.size w w' := by
  obtain ⟨l, rfl, hr, hd, hm, hz, hc1, hc2⟩ := h.ex
  have h2 := nv_mod2 l
  have h3 := hd.at_ 0
  by_cases h0 : l.length = 0
  · have e : decide (z % 2 = 0) = true := by
      have : nv l = 0 := by rw [List.length_eq_zero_iff.1 h0]; rfl
      simp; omega
    rw [e, h0]
    clear e h2 h3 hr hd hm hz hc1
    go_enter Tryd.func78, Tryd.ntmps78
    go_wp2
    go_ret
    exact ⟨rfl, bal (Below.refl _ _) _⟩
  · obtain ⟨B, rfl, hcell, _⟩ := hr.at_ 0 (by omega)
    have hB : B < w.heap.size := block_lt_of_cell hcell
    have e : decide (z % 2 = 0) = decide (((gd l 0 : Nat) : Int) % 2 = 0) := by congr 1; simp only [eq_iff_iff]; omega
    rw [e]
    clear e h2 hr hd hm hz h
    generalize gd l 0 = d at *
    generalize l.length = n at *
    go_enter Tryd.func78, Tryd.ntmps78
    go_wp2
    go_ret
    exact ⟨by rw [even_b _ _ h0]; rfl, bal (Below.refl _ _) _⟩

theorem part_step (l : List Nat) (i : Nat) (hi : i < l.length) : nv (l.drop i) = nv (l.drop (i + 1)) * 65536 + gd l i := by rw [nv_drop l i hi]; omega
theorem part_big (l : List Nat) (i : Nat) (hi : i ≤ l.length) (h : 1 ≤ i) (hv : 137438953471 < nv (l.drop i)) : 9007199254740991 < nv l := by
  have h1 := nv_split l i hi
  have h2 : 65536 ^ 1 ≤ 65536 ^ i := Nat.pow_le_pow_right (by decide) h
  have h3 : 65536 ^ 1 * nv (l.drop i) ≤ 65536 ^ i * nv (l.drop i) := Nat.mul_le_mul_right _ h2
  omega
set_option maxHeartbeats 400000 in
theorem part_core (z rz : Int) (rb : Bool) (a : Option Addr) (l : List Nat) (c : Nat) (w : World) (hr : Row a l w) (hd : Dg l) (hm : Nm l) (hz : nv l = z.natAbs)
    (hyes : nv l ≤ 9007199254740991 → rz = z ∧ rb = true) (hno : 9007199254740991 < nv l → rz = 0 ∧ rb = false) :
    Calls Tryd.prog 80 #[.agg #[.int .i64 (sgn z), .slice a l.length c]] w fun e w' => e = .returned (.tuple #[.int .i64 rz, .bool rb]) ∧ Below w.heap.size w w' := by
  have HR : Hid (Row a l w) := hr
  have HZ : Hid (nv l = z.natAbs) := hz
  have HY : Hid (nv l ≤ 9007199254740991 → rz = z ∧ rb = true) := hyes
  have HN : Hid (9007199254740991 < nv l → rz = 0 ∧ rb = false) := hno
  have HD : Hid (Dg l) := hd
  have h4 : 4 < l.length → 9007199254740991 < nv l := fun h => by
    have h1 := nm_le hm (by intro e; rw [e] at h; simp at h)
    have h2 : 65536 ^ 4 ≤ 65536 ^ (l.length - 1) := Nat.pow_le_pow_right (by decide) (by omega)
    omega
  clear hr hz hyes hno hd hm
  by_cases hl : 4 < l.length
  · obtain ⟨rfl, rfl⟩ := HN.out (h4 hl)
    clear h4
    generalize l.length = n at *
    go_enter Tryd.func80, Tryd.ntmps80
    go_wp2
    go_ret2
    exact ⟨rfl, bal (Below.refl _ _) _⟩
  · clear h4
    generalize hn : l.length = n at *
    have HL : Hid (l.length = n) := hn
    clear hn
    go_enter Tryd.func80, Tryd.ntmps80
    go_wp2
    go_loop [4, 5] (fun v i => ∃ k : Nat, k ≤ n ∧ i = .int .i64 ((k : Int) - 1) ∧ v = .int .i64 (nv (l.drop k) : Nat)) (fun _ i => (intOf i + 1).toNat)
    case atStart => exact ⟨n, by omega, rfl, by rw [nv_drop_ge (by have := HL.out; omega)]; rfl⟩
    case round =>
      obtain ⟨k, hk, rfl, rfl⟩ := hrel
      by_cases hk0 : k = 0
      · subst hk0
        have e0 : nv (l.drop 0) = nv l := by simp
        rw [e0]
        have hnn := HZ.out
        by_cases hb : 9007199254740991 < nv l
        · obtain ⟨rfl, rfl⟩ := HN.out hb
          generalize nv l = V at *
          go_wp2
          go_ret2
          exact ⟨rfl, bal (Below.refl _ _) _⟩
        · obtain ⟨rfl, rfl⟩ := HY.out (by omega)
          by_cases hs : rz < 0
          · have e1 : sgn rz = -1 := by unfold sgn; rw [if_pos hs]
            rw [e1]
            have e2 : -((nv l : Nat) : Int) = rz := by omega
            generalize nv l = V at *
            clear hnn hs e1 e0 HZ HY HN HD HR HL
            go_wp2
            go_ret2
            exact ⟨by first | rfl | rw [e2], bal (Below.refl _ _) _⟩
          · have e1 : ¬ sgn rz < 0 := by unfold sgn; rw [if_neg hs]; split <;> omega
            have e2 : ((nv l : Nat) : Int) = rz := by omega
            rw [e2]
            have b1 : rz ≤ 9007199254740991 := by omega
            generalize sgn rz = S at *
            clear hnn e0 HZ HY HN HD HR HL e2 hb
            go_wp2
            go_ret2
            exact ⟨rfl, bal (Below.refl _ _) _⟩
      · obtain ⟨m, rfl⟩ : ∃ m, k = m + 1 := ⟨k - 1, by omega⟩
        clear hk0
        obtain ⟨B, rfl, hcell, _⟩ := HR.out.at_ m (by have := HL.out; omega)
        have hB : B < w.heap.size := block_lt_of_cell hcell
        have hdm := HD.out.at_ m
        by_cases hb : 137438953471 < nv (l.drop (m + 1))
        · obtain ⟨rfl, rfl⟩ := HN.out (part_big l (m + 1) (by have := HL.out; omega) (by omega) hb)
          generalize nv (l.drop (m + 1)) = V at *
          go_wp2
          go_ret2
          exact ⟨rfl, bal (Below.refl _ _) _⟩
        · have HS : Hid _ := part_step l m (by have := HL.out; omega)
          generalize nv (l.drop (m + 1)) = V at *
          generalize gd l m = d at *
          go_wp2
          go_round
          case rel => exact ⟨m, by omega, by go_num, by rw [HS.out]; go_num⟩
          case measure => simp [intOf]
theorem part_yes (z : Int) (a : Option Addr) (n c : Nat) (w : World) (h : II w a n c z) (hz : -9007199254740991 ≤ z ∧ z ≤ 9007199254740991) :
    Calls Tryd.prog 80 #[.agg #[.int .i64 (sgn z), .slice a n c]] w fun e w' => e = .returned (.tuple #[.int .i64 z, .bool true]) ∧ Below w.heap.size w w' := by
  obtain ⟨l, rfl, hr, hd, hm, hv, _, _⟩ := h.ex
  exact part_core z z true a l c w hr hd hm hv (fun _ => ⟨rfl, rfl⟩) (fun h => by omega)
theorem part_no (z : Int) (a : Option Addr) (n c : Nat) (w : World) (h : II w a n c z) (hz : ¬ (-9007199254740991 ≤ z ∧ z ≤ 9007199254740991)) :
    Calls Tryd.prog 80 #[.agg #[.int .i64 (sgn z), .slice a n c]] w fun e w' => e = .returned (.tuple #[.int .i64 0, .bool false]) ∧ Below w.heap.size w w' := by
  obtain ⟨l, rfl, hr, hd, hm, hv, _, _⟩ := h.ex
  exact part_core z 0 false a l c w hr hd hm hv (fun h => by omega) (fun _ => ⟨rfl, rfl⟩)
end Go.Proofs.YtcfmhkhfmcmkbaaDoor
namespace Go.Proofs.YtcfmhkhfmcmkbaaDoor
open Go.RowKit Go.Sort

/-- Block g, behind W0, holds these digits and may be written. -/
structure Arr (W0 W : World) (g : Nat) (l : List Nat) : Prop where
  below : Below W0.heap.size W0 W
  ge : W0.heap.size ≤ g
  cell : ∀ i, i < l.length → W.cell? ⟨g, i, none⟩ = some (.int .i64 (gd l i : Nat))
  fz : ∀ i, W.frozen? ⟨g, i, none⟩ = false
  ty : bty W g = some 3
theorem Arr.set {W0 W : World} {g : Nat} {l : List Nat} (h : Arr W0 W g l) (i v : Nat) (hi : i < l.length) : Arr W0 (W.setCell ⟨g, i, none⟩ (.int .i64 (v : Int))) g (l.set i v) where
  below := h.below.setCell h.ge _
  ge := h.ge
  cell := fun j hj => by
    rw [List.length_set] at hj
    rw [set_getD l i j v hi]
    by_cases e : i = j
    · subst e
      rw [if_pos rfl, World.cell?_setCell_same' _ _ _ (by rw [h.cell i hi]; rfl)]
    · rw [if_neg e, World.cell?_setCell_other _ _ _ _ (fun e' => e (by injection e')), h.cell j hj]
  fz := fun j => by simp; exact h.fz j
  ty := (bty_set _ _ _ _).trans h.ty
theorem Arr.row {W0 W : World} {g : Nat} {l : List Nat} (h : Arr W0 W g l) : Row (some ⟨g, 0, none⟩) l W := ⟨fun i hi => ⟨g, rfl, h.cell i hi, h.ty⟩⟩
theorem Arr.drewN {W0 W : World} {g : Nat} {l : List Nat} (h : Arr W0 W g l) (n : Nat) : Arr W0 (W.drewN n) g l := ⟨below_drewN h.below n, h.ge, h.cell, h.fz, h.ty⟩
theorem rep_gd (n i : Nat) : gd (List.replicate n 0) i = 0 := by
  by_cases h : i < n <;> simp [gd, List.getD, h]
theorem nv_rep (n : Nat) : nv (List.replicate n 0) = 0 := by
  induction n with
  | zero => rfl
  | succ n ih => rw [List.replicate_succ]; show 0 + 65536 * nv (List.replicate n 0) = 0; rw [ih]
theorem Dg.rep (n : Nat) : Dg (List.replicate n 0) := fun d hd => by
  have := List.eq_of_mem_replicate hd; omega
/-- make([]int, n). -/
theorem make_arr {ops : Array Oper} {rest : List Oper} {o : Oper} {act : Act} {Q : Exit → Act → World → Prop} (W0 w : World) (hB : Below W0.heap.size W0 w) (hg : o.guard = none) (x y : Operand) (hop : o.op = Op.makeSlice 99 x y)
    (L C : Int) (n : Nat) (hx : act.eval x = .int .i64 L) (hy : act.eval y = .int .i64 C) (hL : L = (n : Int)) (hC : C = (n : Int)) (hn : n ≤ 1000)
    (h : ∀ w', Arr W0 w' w.heap.size (List.replicate n 0) → wpList Tryd.prog ops Q rest (act.put o.dst (.slice (some ⟨w.heap.size, 0, none⟩) n n)) w') :
    wpList Tryd.prog ops Q (o :: rest) act w := by
  obtain ⟨i, hi, hz0, hz1, hz2⟩ := info_parts Tryd.info3
  refine wpList_make_full w hg x y 99 hop W0.heap.size 3 i (.int .i64 0) 1 Tryd.underlying99 hi hz0 hz1 .i64 .i64 L C n hx hy hL hC (by rw [hz2]; omega) (by unfold maxLen; omega) hB.size ?_
  intro w' ho hgr
  have hcells : (madeCells (Value.cells (.int .i64 0)) (n * 1)).toList = List.replicate n (.int .i64 0) := by
    rw [Nat.mul_one]; exact toList_madeCells_one _ _
  have hblk : ∃ cur, w'.heap[w.heap.size]? = some (.cells cur 3 (0, 0)) := by
    rcases ho.2 with ⟨e, _⟩ | ⟨g, cap, cur, e, _, hh, _⟩
    · cases e
    · simp only [Value.slice.injEq, Option.some.injEq, Addr.mk.injEq] at e
      obtain ⟨⟨rfl, _⟩, _⟩ := e
      exact ⟨cur, hh⟩
  obtain ⟨cur, hh⟩ := hblk
  refine h w' ⟨hB.grown hgr (by have := hB.size; omega) (fun k e => by cases e), hB.size, fun j hj => ?_, fun j => ?_, ?_⟩
  · rw [List.length_replicate] at hj
    rw [ho.cellAt j (by omega), rep_gd]
    show (madeCells (Value.cells (.int .i64 0)) (n * 1)).toList[j]? = _
    rw [hcells, List.getElem?_replicate, if_pos hj]; rfl
  · unfold World.frozen?
    rw [hh]
    simp
  · unfold bty World.shape?
    rw [hh]; rfl

theorem half_math (H d : Nat) : (d + 65536 * H) / 2 = (H % 2 * 65536 + d) / 2 + 65536 * (H / 2) ∧ (d + 65536 * H) % 2 = (H % 2 * 65536 + d) % 2 := by omega
theorem half_step (l d : List Nat) (m : Nat) (h : m < l.length) (hd : d.length = l.length) (hv : nv (d.drop (m + 1)) = nv (l.drop (m + 1)) / 2) :
    nv ((d.set m ((nv (l.drop (m + 1)) % 2 * 65536 + gd l m) / 2)).drop m) = nv (l.drop m) / 2 ∧ nv (l.drop m) % 2 = (nv (l.drop (m + 1)) % 2 * 65536 + gd l m) % 2 := by
  have h1 := half_math (nv (l.drop (m + 1))) (gd l m)
  rw [nv_drop l m h, nv_drop _ m (by simp; omega), set_getD _ _ _ _ (by omega), if_pos rfl, set_drop, hv]
  omega
theorem half_z {z : Int} {l : List Nat} (hz : nv l = z.natAbs) (he : z % 2 = 0) : nv l / 2 = (z / 2).natAbs := by omega
theorem sgn_congr {x y : Int} (h1 : x < 0 ↔ y < 0) (h2 : x = 0 ↔ y = 0) : sgn x = sgn y := by unfold sgn; simp only [h1, h2]
theorem sgn_half {z : Int} (he : z % 2 = 0) : sgn z = sgn (z / 2) := sgn_congr (by omega) (by omega)
set_option maxHeartbeats 1000000 in
theorem half_any (z : Int) (a : Option Addr) (n c : Nat) (w : World) (h : II w a n c z) (hn : n ≤ 100) (he : z % 2 = 0) :
    Calls Tryd.prog 79 #[.agg #[.int .i64 (sgn z), .slice a n c]] w fun e w' => IRet (z / 2) e w' ∧ Below w.heap.size w w' := by
  obtain ⟨l, rfl, hr, hd, hm, hz, hc1, hc2⟩ := h.ex
  rw [sgn_half he]
  have HR : Hid (Row a l w) := hr
  have HZ : Hid (nv l / 2 = (z / 2).natAbs) := half_z hz he
  have HD : Hid (Dg l) := hd
  clear hr hd hm hz he h
  obtain ⟨S, HS⟩ : ∃ S, Hid (S = sgn (z / 2)) := ⟨_, rfl⟩
  rw [← HS.out]
  obtain ⟨n, HL⟩ : ∃ n, Hid (l.length = n) := ⟨_, rfl⟩
  rw [HL.out] at hc1 hn ⊢
  go_enter Tryd.func79, Tryd.ntmps79
  go_wp2_with (at_make; refine make_arr _ _ (Below.refl _ _) rfl _ _ rfl _ _ n rfl rfl (by omega) (by omega) (by omega) ?_; intro w1 harr; have hB := harr.below; obtain ⟨hc, hf⟩ := bcell hB)
  have HA : Hid (Arr _ w1 _ _) := harr
  clear harr hB hc hf
  go_loopw [4, 5] (fun r i wr => ∃ (k : Nat) (d : List Nat), k ≤ n ∧ i = .int .i64 ((k : Int) - 1) ∧ r = .int .i64 (nv (l.drop k) % 2 : Nat) ∧ Hid (d.length = n) ∧ Hid (Dg d) ∧ Hid (nv (d.drop k) = nv (l.drop k) / 2) ∧ Hid (Arr ((w.alloc (.cells #[.int .i64 S, .slice a n c] 101)).alloc (.cells #[.int .i64 0, .slice none 0 0] 101)) wr (w.heap.size + 1 + 1) d)) (fun _ i _ => (intOf i + 1).toNat)
  case atStart =>
    have e : nv (l.drop n) = 0 := nv_drop_ge (by have := HL.out; omega)
    exact ⟨n, List.replicate n 0, by omega, rfl, by rw [e]; rfl, by show _ = _; simp, Dg.rep n, by show _ = _; rw [e, nv_drop_ge (by simp)], by simpa using HA⟩
  case round =>
    obtain ⟨k, d, hk, rfl, rfl, hdl, hdg, hv, harr⟩ := hrel
    have hB := harr.out.below
    obtain ⟨hc, hf⟩ := bcell hB
    by_cases hk0 : k = 0
    · subst hk0
      have TR := trim_any S (z / 2) _ d n wr (by have := hdl.out; omega) (by omega) harr.out.row hdg.out (by have := hv.out; simp only [List.drop_zero] at this; rw [this]; exact HZ.out) (fun _ => HS.out)
      rw [hdl.out] at TR
      clear hdl hdg hv harr HZ HD HR HL HA
      go_wp2_with (go_at_call 74; (with_reducible refine TR.mono ?_); rintro e w2 ⟨⟨a', n', c', rfl, hI⟩, hN⟩; replace hB := btr hB hN; obtain ⟨hc, hf⟩ := bcell hB)
      exact bodyPost_ret (v := .agg #[.int .i64 (sgn (z / 2)), .slice a' n' c']) (by simp [results, Tryd.results79, go_sem, hc]) rfl ⟨⟨_, _, _, rfl, hI.put2 ((bty_below hB (by simp)).trans (by have := bty_new (w.alloc (.cells #[.int .i64 S, .slice a n c] 101)) #[.int .i64 0, .slice none 0 0] 101; simpa using this)) _ _⟩, ((btr (bal (bal (Below.refl _ _) _) _) hB).setCell (by simp) _).setCell (by simp) _⟩
    · obtain ⟨m, rfl⟩ : ∃ m, k = m + 1 := ⟨k - 1, by omega⟩
      clear hk0
      have hml : m < l.length := by have := HL.out; omega
      obtain ⟨B, rfl, hcell, _⟩ := (((HR.out.alloc _).alloc _).below hB).at_ m hml
      have hown := harr.out.cell m (by have := hdl.out; omega)
      have hfz := harr.out.fz m
      have hst := half_step l d m hml (by have := hdl.out; have := HL.out; omega) hv.out
      have HV : Hid _ := hst.1
      have HV2 : Hid _ := hst.2
      have hdm := HD.out.at_ m
      have harr' : Hid _ := harr.out.set m ((nv (l.drop (m + 1)) % 2 * 65536 + gd l m) / 2) (by have := hdl.out; omega)
      have hdg' : Hid _ := hdg.out.set m ((nv (l.drop (m + 1)) % 2 * 65536 + gd l m) / 2) (by omega)
      have hdl' : Hid ((d.set m ((nv (l.drop (m + 1)) % 2 * 65536 + gd l m) / 2)).length = n) := by show _ = _; rw [List.length_set]; exact hdl.out
      have hr2 : nv (l.drop (m + 1)) % 2 < 2 := by omega
      clear hst hml
      generalize nv (l.drop (m + 1)) % 2 = R at *
      generalize gd l m = D at *
      go_wp2
      go_roundw
      case rel => exact ⟨m, _, by omega, by go_num, by rw [HV2.out]; go_num, hdl', hdg', HV, harr'⟩
      case measure => simp [intOf]
end Go.Proofs.YtcfmhkhfmcmkbaaDoor
namespace Go.Proofs.YtcfmhkhfmcmkbaaDoor
open Go.RowKit Go.Sort

/-- A variable that holds a whole number of the reference. -/
structure Bx (W : World) (B : Nat) (s : Int) (a : Option Addr) (n c : Nat) : Prop where
  c0 : W.cell? ⟨B, 0, none⟩ = some (.int .i64 s)
  c1 : W.cell? ⟨B, 1, none⟩ = some (.slice a n c)
  f0 : W.frozen? ⟨B, 0, none⟩ = false
  f1 : W.frozen? ⟨B, 1, none⟩ = false
  ty : bty W B = some 101
theorem Bx.lt {W : World} {B : Nat} {s : Int} {a : Option Addr} {n c : Nat} (h : Bx W B s a n c) : B < W.heap.size := block_lt_of_cell h.c0
theorem Bx.below {W W' : World} {B : Nat} {s : Int} {a : Option Addr} {n c : Nat} (h : Bx W B s a n c) (hb : Below W.heap.size W W') : Bx W' B s a n c := by
  obtain ⟨hc, hf⟩ := bcell hb
  have hl := h.lt
  exact ⟨(hc _ _ hl).trans h.c0, (hc _ _ hl).trans h.c1, (hf _ _ hl).trans h.f0, (hf _ _ hl).trans h.f1, (bty_below hb hl).trans h.ty⟩
theorem Bx.new (W : World) (s : Int) (a : Option Addr) (n c : Nat) : Bx (W.alloc (.cells #[.int .i64 s, .slice a n c] 101)) W.heap.size s a n c where
  c0 := by rw [World.cell?_alloc_at _ _ _ _ rfl]; rfl
  c1 := by rw [World.cell?_alloc_at _ _ _ _ rfl]; rfl
  f0 := World.frozen?_alloc_at _ _ _ _ rfl
  f1 := World.frozen?_alloc_at _ _ _ _ rfl
  ty := bty_new _ _ _
theorem Bx.alloc {W : World} {B : Nat} {s : Int} {a : Option Addr} {n c : Nat} (h : Bx W B s a n c) (o : Obj) : Bx (W.alloc o) B s a n c := h.below (bal (Below.refl _ _) _)
/-- A whole number stored into a variable. -/
def st2 (W : World) (B : Nat) (s : Int) (a : Option Addr) (n c : Nat) : World := (W.setCell ⟨B, 0, none⟩ (.int .i64 s)).setCell ⟨B, 1, none⟩ (.slice a n c)
theorem Bx.put {W : World} {B : Nat} {s : Int} {a : Option Addr} {n c : Nat} (h : Bx W B s a n c) (s' : Int) (a' : Option Addr) (n' c' : Nat) : Bx (st2 W B s' a' n' c') B s' a' n' c' where
  c0 := by
    unfold st2
    rw [World.cell?_setCell_other _ _ _ _ (fun e => by injection e with _ e2; cases e2), World.cell?_setCell_same' _ _ _ (by rw [h.c0]; rfl)]
  c1 := by
    unfold st2
    rw [World.cell?_setCell_same' _ _ _ (by rw [World.cell?_setCell_other _ _ _ _ (fun e => by injection e with _ e2; cases e2), h.c1]; rfl)]
  f0 := by unfold st2; simp; exact h.f0
  f1 := by unfold st2; simp; exact h.f1
  ty := by unfold st2; rw [bty_set, bty_set]; exact h.ty
theorem Bx.far {W : World} {B : Nat} {s : Int} {a : Option Addr} {n c : Nat} (h : Bx W B s a n c) {R : Nat} (hR : R ≠ B) (s' : Int) (a' : Option Addr) (n' c' : Nat) : Bx (st2 W R s' a' n' c') B s a n c where
  c0 := by unfold st2; rw [World.cell?_setCell_far _ _ _ _ hR, World.cell?_setCell_far _ _ _ _ hR]; exact h.c0
  c1 := by unfold st2; rw [World.cell?_setCell_far _ _ _ _ hR, World.cell?_setCell_far _ _ _ _ hR]; exact h.c1
  f0 := by unfold st2; simp; exact h.f0
  f1 := by unfold st2; simp; exact h.f1
  ty := by unfold st2; rw [bty_set, bty_set]; exact h.ty
/-- A root's cell that may be written. -/
structure Rc (W : World) (B : Nat) : Prop where
  c0 : W.cell? ⟨B, 0, none⟩ = some (.int .i64 0)
  c1 : W.cell? ⟨B, 1, none⟩ = some (.int .i64 0)
  c2 : W.cell? ⟨B, 2, none⟩ = some (.int .i64 0)
  f0 : W.frozen? ⟨B, 0, none⟩ = false
  f1 : W.frozen? ⟨B, 1, none⟩ = false
  f2 : W.frozen? ⟨B, 2, none⟩ = false
theorem Rc.lt {W : World} {B : Nat} (h : Rc W B) : B < W.heap.size := block_lt_of_cell h.c0
theorem Rc.below {W W' : World} {B : Nat} (h : Rc W B) (hb : Below W.heap.size W W') : Rc W' B := by
  obtain ⟨hc, hf⟩ := bcell hb
  have hl := h.lt
  exact ⟨(hc _ _ hl).trans h.c0, (hc _ _ hl).trans h.c1, (hc _ _ hl).trans h.c2, (hf _ _ hl).trans h.f0, (hf _ _ hl).trans h.f1, (hf _ _ hl).trans h.f2⟩
theorem Rc.new (W : World) : Rc (W.alloc (.cells #[.int .i64 0, .int .i64 0, .int .i64 0] 24)) W.heap.size where
  c0 := by rw [World.cell?_alloc_at _ _ _ _ rfl]; rfl
  c1 := by rw [World.cell?_alloc_at _ _ _ _ rfl]; rfl
  c2 := by rw [World.cell?_alloc_at _ _ _ _ rfl]; rfl
  f0 := World.frozen?_alloc_at _ _ _ _ rfl
  f1 := World.frozen?_alloc_at _ _ _ _ rfl
  f2 := World.frozen?_alloc_at _ _ _ _ rfl
theorem Rc.far {W : World} {B : Nat} (h : Rc W B) {R : Nat} (hR : R ≠ B) (s' : Int) (a' : Option Addr) (n' c' : Nat) : Rc (st2 W R s' a' n' c') B where
  c0 := by unfold st2; rw [World.cell?_setCell_far _ _ _ _ hR, World.cell?_setCell_far _ _ _ _ hR]; exact h.c0
  c1 := by unfold st2; rw [World.cell?_setCell_far _ _ _ _ hR, World.cell?_setCell_far _ _ _ _ hR]; exact h.c1
  c2 := by unfold st2; rw [World.cell?_setCell_far _ _ _ _ hR, World.cell?_setCell_far _ _ _ _ hR]; exact h.c2
  f0 := by unfold st2; simp; exact h.f0
  f1 := by unfold st2; simp; exact h.f1
  f2 := by unfold st2; simp; exact h.f2
theorem II.st {W : World} {a : Option Addr} {n c : Nat} {z : Int} (h : II W a n c z) {R : Nat} (hR : bty W R = some 101) (s' : Int) (a' : Option Addr) (n' c' : Nat) : II (st2 W R s' a' n' c') a n c z := h.put2 hR _ _
theorem below_st2 {w W : World} (h : Below w.heap.size w W) {R : Nat} (hR : w.heap.size ≤ R) (s : Int) (a : Option Addr) (n c : Nat) : Below w.heap.size w (st2 W R s a n c) := (h.setCell hR _).setCell hR _
/-- How long the digits of such a number are. -/
theorem II.len {W : World} {a : Option Addr} {n c : Nat} {z : Int} (h : II W a n c z) {m : Nat} (hz : z.natAbs < 65536 ^ m) : n ≤ m := by
  obtain ⟨l, rfl, _, _, hm, hv, _⟩ := h.ex
  exact nm_len hm (by omega)
theorem II.cap {W : World} {a : Option Addr} {n c : Nat} {z : Int} (h : II W a n c z) : n ≤ c ∧ c ≤ 9223372036854775807 := by
  obtain ⟨l, rfl, _, _, _, _, h1, h2⟩ := h.ex
  exact ⟨h1, h2⟩
/-- What One has between two rounds. -/
structure OneS (w W : World) (p q : Int) (a : Option Addr) (n c : Nat) (a' : Option Addr) (n' c' : Nat) : Prop where
  below : Below w.heap.size w W
  bp : Bx W w.heap.size (sgn p) a n c
  bq : Bx W (w.heap.size + 1) (sgn q) a' n' c'
  rc : Rc W (w.heap.size + 1 + 1)
  ip : II W a n c p
  iq : II W a' n' c' q
theorem OneS.step {w W : World} {p q : Int} {a : Option Addr} {n c : Nat} {a' : Option Addr} {n' c' : Nat} (h : OneS w W p q a n c a' n' c') {W3 : World} (hK : Below W.heap.size W W3)
    {P Q : Int} {b : Option Addr} {m d : Nat} {b' : Option Addr} {m' d' : Nat} (hP : II W3 b m d P) (hQ : II W3 b' m' d' Q) :
    OneS w (st2 (st2 W3 w.heap.size (sgn P) b m d) (w.heap.size + 1) (sgn Q) b' m' d') P Q b m d b' m' d' := by
  have hB := btr h.below hK
  have bp := h.bp.below hK
  have bq := h.bq.below hK
  have rc := h.rc.below hK
  have bp2 := bp.put (sgn P) b m d
  have bq2 := bq.far (R := w.heap.size) (by omega) (sgn P) b m d
  exact ⟨below_st2 (below_st2 hB (Nat.le_refl _) _ _ _ _) (by omega) _ _ _ _, bp2.far (by omega) _ _ _ _, bq2.put _ _ _ _, (rc.far (by omega) _ _ _ _).far (by omega) _ _ _ _,
    (hP.st bp.ty _ _ _ _).st bq2.ty _ _ _ _, (hQ.st bp.ty _ _ _ _).st bq2.ty _ _ _ _⟩
theorem keepB {W V : World} {B B' : Nat} {s s' : Int} {a a' : Option Addr} {n c n' c' : Nat} (h1 : Bx W B s a n c) (h2 : Bx W B' s' a' n' c') (h : Below W.heap.size W V) :
    Below W.heap.size W V ∧ V.cell? ⟨B, 0, none⟩ = some (.int .i64 s) ∧ V.cell? ⟨B, 1, none⟩ = some (.slice a n c) ∧ V.cell? ⟨B', 0, none⟩ = some (.int .i64 s') ∧ V.cell? ⟨B', 1, none⟩ = some (.slice a' n' c') ∧
    V.frozen? ⟨B, 0, none⟩ = false ∧ V.frozen? ⟨B, 1, none⟩ = false ∧ V.frozen? ⟨B', 0, none⟩ = false ∧ V.frozen? ⟨B', 1, none⟩ = false := by
  have b1 := h1.below h
  have b2 := h2.below h
  exact ⟨h, b1.c0, b1.c1, b2.c0, b2.c1, b1.f0, b1.f1, b2.f0, b2.f1⟩
theorem one_half {p q : Int} {k : Nat} (hp : p % 2 = 0) (hq : q % 2 = 0) : one (p / 2) (q / 2) k = one p q (k + 1) := by
  have := one_scale (p / 2) (q / 2) k 1
  rw [Int.pow_one, show p / 2 * 2 = p by omega, show q / 2 * 2 = q by omega] at this
  exact this.symm
theorem one_stop {p q : Int} {k : Nat} (h0 : ¬ (p = 0 ∧ q = 0)) (h : ¬ (0 < k ∧ p % 2 = 0 ∧ q % 2 = 0)) : one p q k = if inP p = true ∧ inP q = true ∧ k ≤ 60 then ⟨p, q, (k : Int), 0⟩ else ⟨0, 0, 0, 3⟩ := by
  have hh : hv k p q = 0 := by
    cases k with
    | zero => rfl
    | succ k => unfold hv; rw [if_neg (by omega)]
  unfold one
  rw [if_neg h0, hh]
  simp
end Go.Proofs.YtcfmhkhfmcmkbaaDoor
namespace Go.Proofs.YtcfmhkhfmcmkbaaDoor
open Go.RowKit Go.Sort

theorem drewN_two (w : World) (a b : Nat) : (w.drewN a).drewN b = w.drewN (a + b) := by simp [World.drewN, Nat.add_assoc]
set_option maxHeartbeats 1000000 in
theorem size_eq (la lb : List Nat) (a b : Option Addr) (ca cb : Nat) (w : World) (ha : Row a la w) (hb : Row b lb w) (da : Dg la) (db : Dg lb) (hl : la.length = lb.length) (hn : la.length ≤ 1000) (r : Int) (hr : r = cmpN (nv la) (nv lb)) :
    Calls Tryd.prog 72 #[.slice a la.length ca, .slice b lb.length cb] w fun e w' => e = .returned (.int .i64 r) ∧ ∃ m, w' = w.drewN m := by
  have HA : Hid (Row a la w) := ha
  have HB : Hid (Row b lb w) := hb
  have DA : Hid (Dg la) := da
  have DB : Hid (Dg lb) := db
  have HR : Hid (r = cmpN (nv la) (nv lb)) := hr
  clear ha hb da db hr
  rw [← hl]
  have HL : Hid (la.length = lb.length) := hl
  clear hl
  generalize hk : la.length = n at *
  have HK : Hid (la.length = n) := hk
  clear hk
  go_enter Tryd.func72, Tryd.ntmps72
  go_wp2
  go_loopw [5] (fun i wr => ∃ k m : Nat, k ≤ n ∧ i = .int .i64 ((k : Int) - 1) ∧ Hid (wr = w.drewN m) ∧ Hid (nv (la.drop k) = nv (lb.drop k))) (fun i _ => (intOf i + 1).toNat)
  case atStart => exact ⟨n, 0, by omega, rfl, rfl, by have := HK.out; have := HL.out; show _ = _; rw [nv_drop_ge (by omega), nv_drop_ge (by omega)]⟩
  case round =>
    obtain ⟨k, m, hkn, rfl, hw, he⟩ := hrel
    by_cases hk0 : k = 0
    · subst hk0
      obtain rfl : r = 0 := by
        have h1 := HR.out
        have h2 := he.out
        simp only [List.drop_zero] at h2
        rw [h2] at h1
        rw [h1]; unfold cmpN; simp
      go_wp2
      go_ret
      exact ⟨rfl, m, hw⟩
    · obtain ⟨j, rfl⟩ : ∃ j, k = j + 1 := ⟨k - 1, by omega⟩
      clear hk0
      have hja : j < la.length := by have := HK.out; omega
      have hjb : j < lb.length := by have := HL.out; omega
      obtain ⟨A, rfl, xa, _⟩ := ((hw.out ▸ HA.out.drewN m : Row a la wr)).at_ j hja
      obtain ⟨B, rfl, xb, _⟩ := ((hw.out ▸ HB.out.drewN m : Row b lb wr)).at_ j hjb
      have HX : Hid (gd la j < gd lb j → nv la < nv lb) := fun h => digit_lt DA.out (HK.out.trans HL.out) j hja he.out h
      have HY : Hid (gd lb j < gd la j → nv lb < nv la) := fun h => digit_lt DB.out (HK.out.trans HL.out).symm j hjb he.out.symm h
      have HE : Hid (gd la j = gd lb j → nv (la.drop j) = nv (lb.drop j)) := fun h => by rw [nv_drop la j hja, nv_drop lb j hjb, he.out, h]
      have b1 := DA.out.at_ j
      have b2 := DB.out.at_ j
      clear hja hjb he DA DB HA HB
      generalize gd la j = x at *
      generalize gd lb j = y at *
      have i0 : (0 : Int) ≤ (j : Int) := by omega
      have i1 : (j : Int) < (n : Int) := by omega
      by_cases h1 : x < y
      · obtain rfl : r = -1 := by
          have h3 := HX.out h1
          rw [HR.out]; unfold cmpN; rw [if_pos h3]
        have d1 : decide ((x : Int) < (y : Int)) = true := by simp; omega
        go_wp2
        go_quiet (fail)
        go_wp2
        go_ret
        exact ⟨rfl, _, by rw [hw.out]; exact drewN_two _ _ _⟩
      · have d1 : decide ((x : Int) < (y : Int)) = false := by simp; omega
        by_cases h2 : y < x
        · obtain rfl : r = 1 := by
            have h3 := HY.out h2
            rw [HR.out]; unfold cmpN; rw [if_neg (by omega), if_pos h3]
          have d2 : decide ((y : Int) < (x : Int)) = true := by simp; omega
          go_wp2
          go_quiet (fail)
          go_wp2
          go_quiet (fail)
          go_wp2
          go_ret
          exact ⟨rfl, _, by rw [hw.out, drewN_two, drewN_two]⟩
        · have d2 : decide ((y : Int) < (x : Int)) = false := by simp; omega
          have HE2 : Hid _ := HE.out (by omega)
          go_wp2
          go_quiet (fail)
          go_wp2
          go_quiet (fail)
          go_wp2
          go_roundw
          case rel => exact ⟨j, _, by omega, by go_num, by show _ = _; rw [hw.out, drewN_two], HE2⟩
          case measure => simp [intOf]
theorem size_ne (la lb : List Nat) (a b : Option Addr) (ca cb : Nat) (w : World) (hl : la.length ≠ lb.length) :
    Calls Tryd.prog 72 #[.slice a la.length ca, .slice b lb.length cb] w fun e w' => e = .returned (.int .i64 (if la.length < lb.length then -1 else 1)) ∧ ∃ m, w' = w.drewN m := by
  generalize la.length = n at *
  generalize lb.length = m at *
  by_cases h : n < m
  · rw [if_pos h]
    go_enter Tryd.func72, Tryd.ntmps72
    go_wp2
    go_ret
    exact ⟨rfl, 0, rfl⟩
  · rw [if_neg h]
    go_enter Tryd.func72, Tryd.ntmps72
    go_wp2
    go_ret
    exact ⟨rfl, 0, rfl⟩
/-- Which of two whole numbers' sizes is the greater. -/
theorem size_any2 (x y : Int) (a : Option Addr) (n c : Nat) (a' : Option Addr) (n' c' : Nat) (w : World) (hx : II w a n c x) (hy : II w a' n' c' y) (h1 : n ≤ 1000) :
    Calls Tryd.prog 72 #[.slice a n c, .slice a' n' c'] w fun e w' => e = .returned (.int .i64 (cmpN x.natAbs y.natAbs)) ∧ ∃ m, w' = w.drewN m := by
  obtain ⟨la, rfl, ra, da, ma, va, _, _⟩ := hx.ex
  obtain ⟨lb, rfl, rb, db, mb, vb, _, _⟩ := hy.ex
  rw [← va, ← vb]
  by_cases hl : la.length = lb.length
  · exact size_eq la lb a a' c c' w ra rb da db hl h1 _ rfl
  · have := size_ne la lb a a' c c' w hl
    by_cases h : la.length < lb.length
    · have hlt := len_lt da mb h
      rw [if_pos h] at this
      unfold cmpN
      rw [if_pos hlt]; exact this
    · have hlt := len_lt db ma (by omega)
      rw [if_neg h] at this
      unfold cmpN
      rw [if_neg (by omega), if_pos hlt]; exact this
theorem II.neg {W : World} {a : Option Addr} {n c : Nat} {z : Int} (h : II W a n c z) : II W a n c (-z) := by
  obtain ⟨l, h1, h2, h3, h4, h5, h6⟩ := h.ex
  exact ⟨l, h1, h2, h3, h4, by rw [Int.natAbs_neg]; exact h5, h6⟩
theorem sgn_neg' (z : Int) : -sgn z = sgn (-z) := by
  unfold sgn
  by_cases h : z < 0
  · rw [if_pos h, if_neg (by omega), if_neg (by omega)]; rfl
  · rw [if_neg h]
    by_cases h0 : z = 0
    · rw [if_pos h0, h0]; rfl
    · rw [if_neg h0, if_pos (by omega)]
theorem sgn_b (z : Int) : -1 ≤ sgn z ∧ sgn z ≤ 1 := by unfold sgn; split <;> (try split) <;> omega
theorem neg_any (z : Int) (a : Option Addr) (n c : Nat) (w : World) (h : II w a n c z) :
    Calls Tryd.prog 77 #[.agg #[.int .i64 (sgn z), .slice a n c]] w fun e w' => IRet (-z) e w' ∧ Below w.heap.size w w' := by
  have e := sgn_neg' z
  obtain ⟨b1, b2⟩ := sgn_b z
  have hI : Hid (∀ W, Below w.heap.size w W → II W a n c (-z)) := fun W hb => (h.below hb).neg
  clear h
  generalize sgn z = s at *
  generalize hs : sgn (-z) = t at *
  have HS : Hid (sgn (-z) = t) := hs
  clear hs
  go_enter Tryd.func77, Tryd.ntmps77
  go_wp2
  refine bodyPost_ret (v := .agg #[.int .i64 t, .slice a n c]) (by simp [results, Tryd.results77, go_sem]) rfl ⟨⟨a, n, c, by rw [HS.out], ?_⟩, ?_⟩
  · exact hI.out _ (bal (bal (Below.refl _ _) _) _)
  · exact bal (bal (Below.refl _ _) _) _
end Go.Proofs.YtcfmhkhfmcmkbaaDoor
