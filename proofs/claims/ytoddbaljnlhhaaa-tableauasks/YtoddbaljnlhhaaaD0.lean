/-
  Plain mathematics: a string turned on a few of its qubits: products turn to products, what the part's turns keep the string keeps. Of no program.
-/
import Derived.Test.YtoddbaljnlhhaaaC0
import Derived.Test.YtoddbaljnlhhaaaBMath3
namespace Go.Proofs.Ytoddbaljnlhhaaa.PL
open Go.RowKit
open BL (pickN putN Plc bt_pick bt_put_at bt_put_not)

theorem bb (x j : Nat) : BL.bt x j = bt x j := rfl
/-! ### Bits at places and elsewhere -/
theorem at_or_not (p : Nat → Int) (k i : Nat) : (∃ j, j < k ∧ (p j).toNat = i) ∨ ∀ j, j < k → (p j).toNat ≠ i := by
  by_cases h : ∃ j, j < k ∧ (p j).toNat = i
  · exact .inl h
  · exact .inr fun j hj e => h ⟨j, hj, e⟩
theorem pick_and (a b : Nat) (p : Nat → Int) (k : Nat) : pickN (a &&& b) p k = pickN a p k &&& pickN b p k :=
  ext_bt fun i => by
    have h1 := bt_pick (a &&& b) p k i
    have h2 := bt_pick a p k i
    have h3 := bt_pick b p k i
    simp only [bb] at h1 h2 h3
    rw [bt_and, h1, h2, h3]
    by_cases h : i < k
    · rw [if_pos h, if_pos h, if_pos h, bt_and]
    · rw [if_neg h, if_neg h, if_neg h]
theorem pick_xor (a b : Nat) (p : Nat → Int) (k : Nat) : pickN (a ^^^ b) p k = pickN a p k ^^^ pickN b p k :=
  ext_bt fun i => by
    have h1 := bt_pick (a ^^^ b) p k i
    have h2 := bt_pick a p k i
    have h3 := bt_pick b p k i
    simp only [bb] at h1 h2 h3
    rw [bt_xor, h1, h2, h3]
    by_cases h : i < k
    · rw [if_pos h, if_pos h, if_pos h, bt_xor]
    · rw [if_neg h, if_neg h, if_neg h]
theorem put_and (a b : Nat) {p : Nat → Int} (x y : Nat) {k : Nat} (h : Plc p k) : putN (a &&& b) p (x &&& y) k = putN a p x k &&& putN b p y k :=
  ext_bt fun i => by
    rw [bt_and]
    rcases at_or_not p k i with ⟨j, hj, rfl⟩ | hn
    · have h1 := bt_put_at (v := a &&& b) (x := x &&& y) h hj
      have h2 := bt_put_at (v := a) (x := x) h hj
      have h3 := bt_put_at (v := b) (x := y) h hj
      simp only [bb] at h1 h2 h3
      rw [h1, h2, h3, bt_and]
    · have h1 := bt_put_not (v := a &&& b) (x := x &&& y) hn
      have h2 := bt_put_not (v := a) (x := x) hn
      have h3 := bt_put_not (v := b) (x := y) hn
      simp only [bb] at h1 h2 h3
      rw [h1, h2, h3, bt_and]
theorem put_xor (a b : Nat) {p : Nat → Int} (x y : Nat) {k : Nat} (h : Plc p k) : putN (a ^^^ b) p (x ^^^ y) k = putN a p x k ^^^ putN b p y k :=
  ext_bt fun i => by
    rw [bt_xor]
    rcases at_or_not p k i with ⟨j, hj, rfl⟩ | hn
    · have h1 := bt_put_at (v := a ^^^ b) (x := x ^^^ y) h hj
      have h2 := bt_put_at (v := a) (x := x) h hj
      have h3 := bt_put_at (v := b) (x := y) h hj
      simp only [bb] at h1 h2 h3
      rw [h1, h2, h3, bt_xor]
    · have h1 := bt_put_not (v := a ^^^ b) (x := x ^^^ y) hn
      have h2 := bt_put_not (v := a) (x := x) hn
      have h3 := bt_put_not (v := b) (x := y) hn
      simp only [bb] at h1 h2 h3
      rw [h1, h2, h3, bt_xor]
theorem put_put (a b : Nat) {p : Nat → Int} (x : Nat) {k : Nat} (h : Plc p k) : putN a p (putN b p x k) k = putN a p x k :=
  ext_bt fun i => by
    rcases at_or_not p k i with ⟨j, hj, rfl⟩ | hn
    · have h1 := bt_put_at (v := a) (x := putN b p x k) h hj
      have h2 := bt_put_at (v := a) (x := x) h hj
      simp only [bb] at h1 h2
      rw [h1, h2]
    · have h1 := bt_put_not (v := a) (x := putN b p x k) hn
      have h2 := bt_put_not (v := a) (x := x) hn
      have h3 := bt_put_not (v := b) (x := x) hn
      simp only [bb] at h1 h2 h3
      rw [h1, h2, h3]
theorem pop_setB0 (v i : Nat) : ∀ n, pop n (BL.setB v i 0) + (if i < n then bt v i else 0) = pop n v
  | 0 => rfl
  | n + 1 => by
    have ih := pop_setB0 v i n
    have h1 := BL.bt_setB v i 0 n (by omega)
    simp only [bb] at h1
    simp only [pop]
    rw [h1]
    by_cases e : n = i
    · subst e
      rw [if_neg (by omega)] at ih
      rw [if_pos rfl, if_pos (by omega)]
      omega
    · rw [if_neg e]
      by_cases h : i < n
      · rw [if_pos h] at ih
        rw [if_pos (by omega)]
        omega
      · rw [if_neg h] at ih
        rw [if_neg (by omega)]
        omega
theorem pop_pick (w : Nat) (p : Nat → Int) (k : Nat) (hk : k < 64) : pop 64 (pickN w p (k + 1)) = pop 64 (pickN w p k) + bt w (p k).toNat := by
  have h1 := pop_up (BL.pickN_low w p (k + 1)) 64 (by omega)
  have h2 := pop_up (BL.pickN_low w p k) 64 (by omega)
  have h3 : pop k (pickN w p (k + 1)) = pop k (pickN w p k) := by
    have e : ∀ n, n ≤ k → pop n (pickN w p (k + 1)) = pop n (pickN w p k) := fun n => by
      induction n with
      | zero => intro _; rfl
      | succ n ih =>
        intro hn
        have g1 := bt_pick w p (k + 1) n
        have g2 := bt_pick w p k n
        simp only [bb] at g1 g2
        simp only [pop]
        rw [ih (by omega), g1, g2, if_pos (by omega), if_pos (by omega)]
    exact e k (Nat.le_refl _)
  have h4 := bt_pick w p (k + 1) k
  simp only [bb] at h4
  rw [if_pos (by omega)] at h4
  rw [h1, h2]
  simp only [pop]
  rw [h3, h4]
/-- The ones of a number: those elsewhere, and those at the places. -/
theorem pop_split (w : Nat) {p : Nat → Int} {k : Nat} (h : Plc p k) : pop 64 (putN 0 p w k) + pop 64 (pickN w p k) = pop 64 w := by
  have hk := h.len
  have e : ∀ n, n ≤ k → pop 64 (putN 0 p w n) + pop 64 (pickN w p n) = pop 64 w := fun n => by
    induction n with
    | zero => intro _; show pop 64 w + pop 64 0 = _; rw [pop_zero]; rfl
    | succ n ih =>
      intro hn
      have i1 := ih (by omega)
      have hp := h n (by omega)
      have h1 := pop_setB0 (putN 0 p w n) (p n).toNat 64
      rw [if_pos (by omega)] at h1
      have h2 := bt_put_not (v := 0) (x := w) (p := p) (k := n) (i := (p n).toNat) (fun j hj e => hp.2.2 j hj (by have := (h j (by omega)).1; omega))
      simp only [bb] at h2
      have h3 := pop_pick w p n (by omega)
      have h4 : putN 0 p w (n + 1) = BL.setB (putN 0 p w n) (p n).toNat 0 := by
        simp only [putN]
        rw [show BL.bt 0 n = 0 by rw [bb]; exact bt_nought n]
      rw [h4]
      omega
  exact e k (Nat.le_refl _)

/-! ### Phases -/
/-- What a product adds to the phases. -/
def phi (x z x' z' : Nat) : Nat := pop 64 (x &&& z) + pop 64 (x' &&& z') + 2 * pop 64 (z &&& x') + 3 * pop 64 ((x ^^^ x') &&& (z ^^^ z'))
theorem mulF_phi (x z f x' z' f' : Nat) : mulF x z f x' z' f' = (f + f' + phi x z x' z') % 4 := by unfold mulF phi; congr 1; omega
/-- The part of the phases that comes of the places is the part's. -/
theorem phi_put {p : Nat → Int} {k : Nat} (h : Plc p k) (x z x' z' : Nat) {a b a' b' : Nat} (ha : a < 2 ^ k) (hb : b < 2 ^ k) (ha' : a' < 2 ^ k) (hb' : b' < 2 ^ k) :
    phi (putN a p x k) (putN b p z k) (putN a' p x' k) (putN b' p z' k) + phi (pickN x p k) (pickN z p k) (pickN x' p k) (pickN z' p k) = phi x z x' z' + phi a b a' b' := by
  have E : ∀ u v s t : Nat, u < 2 ^ k → v < 2 ^ k → pop 64 (putN u p s k &&& putN v p t k) + pop 64 (pickN s p k &&& pickN t p k) = pop 64 (s &&& t) + pop 64 (u &&& v) := fun u v s t hu hv => by
    have h1 := pop_split (s &&& t) h
    have h2 := pop_split (putN (u &&& v) p (s &&& t) k) h
    rw [put_put 0 (u &&& v) (s &&& t) h, BL.pick_put h (Nat.lt_of_le_of_lt Nat.and_le_left hu), put_and u v s t h] at h2
    rw [pick_and] at h1
    omega
  unfold phi
  have e1 := E a b x z ha hb
  have e2 := E a' b' x' z' ha' hb'
  have e3 := E b a' z x' hb ha'
  have e4 := E (a ^^^ a') (b ^^^ b') (x ^^^ x') (z ^^^ z') (xor_ltn ha ha') (xor_ltn hb hb')
  rw [put_xor a a' x x' h, put_xor b b' z z' h, pick_xor x x', pick_xor z z'] at e4
  omega

/-! ### Turning the part -/
abbrev T3 := Nat × Nat × Nat
def lm (a t : T3) : T3 := (a.1 ^^^ t.1, a.2.1 ^^^ t.2.1, mulF a.1 a.2.1 a.2.2 t.1 t.2.1 t.2.2)
def lstep (T : Nat → T3) (k x z j : Nat) (a : T3) : T3 :=
  if bt z j = 1 then lm (if bt x j = 1 then lm a (T j) else a) (T (k + j)) else if bt x j = 1 then lm a (T j) else a
def lrun (T : Nat → T3) (k x z : Nat) (a : T3) : Nat → T3
  | 0 => a
  | j + 1 => lstep T k x z j (lrun T k x z a j)
/-- The part x z under the gate whose turns are T. -/
def lt (T : Nat → T3) (k x z f : Nat) : T3 := lrun T k x z (0, 0, (f + pop 64 (x &&& z)) % 4) k
theorem lm_f (X Z f : Nat) (t : T3) : lm (X, Z, f % 4) t = ((lm (X, Z, 0) t).1, (lm (X, Z, 0) t).2.1, (f + (lm (X, Z, 0) t).2.2) % 4) := by
  unfold lm
  simp only [mulF_phi]
  refine Prod.ext rfl (Prod.ext rfl ?_)
  show (f % 4 + t.2.2 + _) % 4 = (f + (0 + t.2.2 + _) % 4) % 4
  omega
theorem lm_add (a : T3) (f : Nat) (t : T3) : lm (a.1, a.2.1, (f + a.2.2) % 4) t = ((lm a t).1, (lm a t).2.1, (f + (lm a t).2.2) % 4) := by
  unfold lm
  simp only [mulF_phi]
  refine Prod.ext rfl (Prod.ext rfl ?_)
  show ((f + a.2.2) % 4 + t.2.2 + _) % 4 = (f + (a.2.2 + t.2.2 + _) % 4) % 4
  omega
theorem lstep_add (T : Nat → T3) (k x z j : Nat) (a : T3) (f : Nat) : lstep T k x z j (a.1, a.2.1, (f + a.2.2) % 4) = ((lstep T k x z j a).1, (lstep T k x z j a).2.1, (f + (lstep T k x z j a).2.2) % 4) := by
  unfold lstep
  split
  · split
    · rw [lm_add, lm_add]
    · rw [lm_add]
  · split
    · rw [lm_add]
    · rfl
theorem lrun_add (T : Nat → T3) (k x z : Nat) (a : T3) (f : Nat) : ∀ j, lrun T k x z (a.1, a.2.1, (f + a.2.2) % 4) j = ((lrun T k x z a j).1, (lrun T k x z a j).2.1, (f + (lrun T k x z a j).2.2) % 4)
  | 0 => rfl
  | j + 1 => by
    show lstep T k x z j (lrun T k x z _ j) = _
    rw [lrun_add T k x z a f j, lstep_add]
    rfl
theorem lt_f (T : Nat → T3) (k x z f : Nat) : lt T k x z f = ((lt T k x z 0).1, (lt T k x z 0).2.1, (f + (lt T k x z 0).2.2) % 4) := by
  unfold lt
  have h := lrun_add T k x z (0, 0, (0 + pop 64 (x &&& z)) % 4) f k
  rw [← h]
  congr 3
  show (f + pop 64 (x &&& z)) % 4 = (f + (0 + pop 64 (x &&& z)) % 4) % 4
  omega
/-- Products of parts turn to products, parts are parts, and a sign stays a sign. -/
structure Hom (T : Nat → T3) (k : Nat) : Prop where
  mul : ∀ x z x' z', x < 2 ^ k → z < 2 ^ k → x' < 2 ^ k → z' < 2 ^ k → (lt T k (x ^^^ x') (z ^^^ z') 0).1 = (lt T k x z 0).1 ^^^ (lt T k x' z' 0).1 ∧ (lt T k (x ^^^ x') (z ^^^ z') 0).2.1 = (lt T k x z 0).2.1 ^^^ (lt T k x' z' 0).2.1 ∧
    ((lt T k (x ^^^ x') (z ^^^ z') 0).2.2 + phi x z x' z') % 4 = ((lt T k x z 0).2.2 + (lt T k x' z' 0).2.2 + phi (lt T k x z 0).1 (lt T k x z 0).2.1 (lt T k x' z' 0).1 (lt T k x' z' 0).2.1) % 4
  lo : ∀ x z, x < 2 ^ k → z < 2 ^ k → (lt T k x z 0).1 < 2 ^ k ∧ (lt T k x z 0).2.1 < 2 ^ k ∧ (lt T k x z 0).2.2 % 2 = 0
/-- U takes T back. -/
def Back (T U : Nat → T3) (k : Nat) : Prop := ∀ x z, x < 2 ^ k → z < 2 ^ k → lt U k (lt T k x z 0).1 (lt T k x z 0).2.1 (lt T k x z 0).2.2 = (x, z, 0)
/-- A string turned: its X, its Z, its phase. -/
def trn (T : Nat → T3) (p : Nat → Int) (k : Nat) (r : T3) : T3 :=
  (putN (lt T k (pickN r.1 p k) (pickN r.2.1 p k) r.2.2).1 p r.1 k, putN (lt T k (pickN r.1 p k) (pickN r.2.1 p k) r.2.2).2.1 p r.2.1 k, (lt T k (pickN r.1 p k) (pickN r.2.1 p k) r.2.2).2.2)
theorem trn_mul {T : Nat → T3} {p : Nat → Int} {k : Nat} (hT : Hom T k) (h : Plc p k) (a b : T3) : trn T p k (lm a b) = lm (trn T p k a) (trn T p k b) := by
  obtain ⟨x, z, f⟩ := a
  obtain ⟨x', z', f'⟩ := b
  have l1 := BL.pickN_low x p k
  have l2 := BL.pickN_low z p k
  have l3 := BL.pickN_low x' p k
  have l4 := BL.pickN_low z' p k
  have hm := hT.mul (pickN x p k) (pickN z p k) (pickN x' p k) (pickN z' p k) l1 l2 l3 l4
  have g1 := hT.lo (pickN x p k) (pickN z p k) l1 l2
  have g2 := hT.lo (pickN x' p k) (pickN z' p k) l3 l4
  have hp := phi_put h x z x' z' g1.1 g1.2.1 g2.1 g2.2.1
  unfold trn lm
  simp only
  rw [lt_f T k (pickN (x ^^^ x') p k), lt_f T k (pickN x p k), lt_f T k (pickN x' p k)]
  rw [pick_xor, pick_xor]
  rw [hm.1, hm.2.1]
  refine Prod.ext (put_xor _ _ _ _ h) (Prod.ext (put_xor _ _ _ _ h) ?_)
  simp only [mulF_phi]
  have h3 := hm.2.2
  omega
theorem trn_back {T U : Nat → T3} {p : Nat → Int} {k : Nat} (hT : Hom T k) (hU : Back T U k) (h : Plc p k) (a : T3) (hf : a.2.2 < 4) : trn U p k (trn T p k a) = a := by
  obtain ⟨x, z, f⟩ := a
  have l1 := BL.pickN_low x p k
  have l2 := BL.pickN_low z p k
  have g1 := hT.lo (pickN x p k) (pickN z p k) l1 l2
  have hb := hU (pickN x p k) (pickN z p k) l1 l2
  unfold trn
  simp only
  rw [lt_f T k (pickN x p k)]
  simp only
  rw [BL.pick_put h g1.1, BL.pick_put h g1.2.1, put_put _ _ _ h, put_put _ _ _ h]
  rw [lt_f] at hb
  rw [lt_f]
  have e1 := congrArg (fun t : T3 => t.1) hb
  have e2 := congrArg (fun t : T3 => t.2.1) hb
  have e3 := congrArg (fun t : T3 => t.2.2) hb
  simp only at e1 e2 e3
  rw [e1, e2, BL.put_pick, BL.put_pick]
  refine Prod.ext rfl (Prod.ext rfl ?_)
  simp only at hf ⊢
  omega
theorem put_ltn {p : Nat → Int} {k n v x : Nat} (hp : ∀ j, j < k → (p j).toNat < n) (hx : x < 2 ^ n) : putN v p x k < 2 ^ n :=
  lt_pow_of_bt fun i hi => by
    have h1 := bt_put_not (v := v) (x := x) (p := p) (k := k) (i := i) (fun j hj e => by have := hp j hj; omega)
    simp only [bb] at h1
    rw [h1]
    exact bt_zero.2 (Nat.testBit_lt_two_pow (Nat.lt_of_lt_of_le hx (Nat.pow_le_pow_right (by decide) hi)))
end Go.Proofs.Ytoddbaljnlhhaaa.PL
