/-
  What the law LinearGroup calls, as facts on good matrices.
-/
import Derived.Test.YtinkdonaedoojaaL1
import Derived.Test.YtinkdonaedoojaaM3
namespace Go.Proofs.Ytinkdonaedoojaa
open Go.RowKit

/-- A product's rows. -/
def prd (f g : Nat → Nat) (n : Nat) : Nat → Nat := fun i => sm g (f i) n
def eyF : Nat → Nat := fun i => 2 ^ i
/-- The rows are below 2 to the n. -/
def Bd (n : Nat) (f : Nat → Nat) : Prop := ∀ i, i < n → f i < 2 ^ n
theorem Bd.gd {n : Nat} {f : Nat → Nat} (h : Bd n f) (hn : n ≤ 64) : Gd n n f := ⟨by omega, by omega, rfl, h⟩
theorem Bd.prd {n : Nat} {f g : Nat → Nat} (h : Bd n g) : Bd n (prd f g n) := fun i _ => sm_lt2 g (f i) n n h
theorem bd_eye (n : Nat) : Bd n eyF := fun _ hi => Nat.pow_lt_pow_right (by decide) hi
def MulC (n : Nat) (f g h : Nat → Nat) : Prop := ∀ (w : World) (a a' : Option Addr) (c c' : Nat), RR w a n f → RR w a' n g → Calls Try.prog 14 #[lv n a n c, lv n a' n c'] w fun e w' => ∃ b d, e = .returned (.tuple #[.agg #[.int .i64 (n : Nat), .slice b n d], .int .i64 0]) ∧ RR w' b n h ∧ Below w.heap.size w w'
theorem lr_rr {w w' : World} {e : Ending} {n : Nat} {F : Nat → Nat} (h : LR w w' e n n F 0) : ∃ b d, e = .returned (.tuple #[.agg #[.int .i64 (n : Nat), .slice b n d], .int .i64 0]) ∧ RR w' b n F ∧ Below w.heap.size w w' := by
  obtain ⟨v, rfl, hO, hB⟩ := h
  obtain ⟨b, d, rfl, hr⟩ := hO.rr
  exact ⟨b, d, rfl, hr, hB⟩
theorem RR.congr {W : World} {a : Option Addr} {n : Nat} {f g : Nat → Nat} (h : RR W a n f) (e : ∀ i, i < n → f i = g i) : RR W a n g :=
  ⟨fun i hi => by rw [← e i hi]; exact h.at_ i hi, fun i hi => by rw [← e i hi]; exact h.lt i hi, h.l⟩
theorem mulC {n : Nat} {f g h : Nat → Nat} (hn : n ≤ 64) (hf : Bd n f) (hg : Bd n g) (e : ∀ i, i < n → prd f g n i = h i) : MulC n f g h := fun w a a' c c' H H' => by
  refine (mul_good n a a' c c' f g w H H' (hf.gd hn) (hg.gd hn)).mono ?_
  intro e' w' hl
  obtain ⟨b, d, h1, h2, h3⟩ := lr_rr hl
  exact ⟨b, d, h1, h2.congr e, h3⟩
def SameC (n : Nat) (f g : Nat → Nat) : Prop := ∀ (w : World) (a a' : Option Addr) (c c' : Nat), RR w a n f → RR w a' n g → Calls Try.prog 13 #[lv n a n c, lv n a' n c'] w fun e w' => e = .returned (.bool true) ∧ Below w.heap.size w w'
theorem sameC (n : Nat) (f : Nat → Nat) : SameC n f f := fun w a a' c c' H H' => same_any n n n n a a' c c' f f w H H' true (fun _ _ _ => rfl) (fun h => absurd ⟨rfl, rfl, fun _ _ => rfl⟩ h)
def RankC (n : Nat) (f : Nat → Nat) (r : Nat) : Prop := ∀ (w : World) (a : Option Addr) (c : Nat), RR w a n f → Calls Try.prog 18 #[lv n a n c] w fun e w' => e = .returned (.tuple #[.int .i64 r, .int .i64 0]) ∧ Below w.heap.size w w'
theorem rankC {n : Nat} {f : Nat → Nat} (hn : n ≤ 64) (hf : Bd n f) : RankC n f (rk n f) := fun w a c H => rank_good n a c f w H (hf.gd hn)
def ApplyC (n : Nat) (f : Nat → Nat) (x y : Nat) (E : Int) : Prop := ∀ (w : World) (a : Option Addr) (c : Nat), RR w a n f → Calls Try.prog 16 #[lv n a n c, .int .u64 x] w fun e w' => e = .returned (.tuple #[.int .u64 y, .int .i64 E]) ∧ Below w.heap.size w w'
theorem applyC {n : Nat} {f : Nat → Nat} {x : Nat} (hn : n ≤ 64) (hf : Bd n f) (hx : x < 2 ^ n) : ApplyC n f x (apN f x n) 0 := fun w a c H => apply_good n a c f x w H (hf.gd hn) hx
theorem applyB {n : Nat} {f : Nat → Nat} {x : Nat} (hx64 : x < 18446744073709551616) (hx : ¬ x < 2 ^ n) : ApplyC n f x 0 2 := fun w a c H => apply_bad n n a c f x w H hx64 (fun h => hx h.2)
def EyeC (n : Nat) : Prop := ∀ (w : World), Calls Try.prog 11 #[.int .i64 n] w fun e w' => ∃ b d, e = .returned (.tuple #[.agg #[.int .i64 (n : Nat), .slice b n d], .int .i64 0]) ∧ RR w' b n eyF ∧ Below w.heap.size w w'
theorem eyeC {n : Nat} (hn : n ≤ 64) : EyeC n := fun w => (eye_good n w hn).mono fun _ _ h => lr_rr h
def TurnC (n : Nat) (f g : Nat → Nat) : Prop := ∀ (w : World) (a : Option Addr) (c : Nat), RR w a n f → Calls Try.prog 25 #[lv n a n c] w fun e w' => ∃ b d, e = .returned (.agg #[.int .i64 (n : Nat), .slice b n d]) ∧ RR w' b n g ∧ Below w.heap.size w w'
theorem turnC {n : Nat} {f : Nat → Nat} (hn : n ≤ 64) : TurnC n f (fun i => trN f i n) := fun w a c H => by
  refine (turned_any n a c f w H hn).mono ?_
  rintro e w' ⟨v, rfl, hO, hB⟩
  obtain ⟨b, d, rfl, hr⟩ := hO.rr
  exact ⟨b, d, rfl, hr, hB⟩
def InvC (n : Nat) (f g : Nat → Nat) : Prop := ∀ (w : World) (a : Option Addr) (c : Nat), RR w a n f → Calls Try.prog 20 #[lv n a n c] w fun e w' => ∃ b d, e = .returned (.tuple #[.agg #[.int .i64 (n : Nat), .slice b n d], .int .i64 0]) ∧ RR w' b n g ∧ Below w.heap.size w w'
theorem invC {n : Nat} {f : Nat → Nat} (hn : n ≤ 64) (hf : Bd n f) (hr : rk n f = n) : InvC n f (iv n f) := fun w a c H => by
  refine (inverse_good n a c f w H (hf.gd hn)).mono ?_
  rintro e w' (⟨_, h⟩ | ⟨h, _⟩)
  · exact lr_rr h
  · omega
def InvN (n : Nat) (f : Nat → Nat) : Prop := ∀ (w : World) (a : Option Addr) (c : Nat), RR w a n f → Calls Try.prog 20 #[lv n a n c] w fun e w' => ∃ b d, e = .returned (.tuple #[.agg #[.int .i64 0, .slice b 0 d], .int .i64 200]) ∧ Below w.heap.size w w'
theorem invN {n : Nat} {f : Nat → Nat} (hn : n ≤ 64) (hf : Bd n f) (hr : rk n f < n) : InvN n f := fun w a c H => by
  refine (inverse_good n a c f w H (hf.gd hn)).mono ?_
  rintro e w' (⟨h, _⟩ | ⟨_, v, rfl, hO, hB⟩)
  · omega
  · obtain ⟨b, d, rfl⟩ := os_shape hO
    exact ⟨b, d, rfl, hB⟩
theorem MulC.go {n : Nat} {f g h : Nat → Nat} (H : MulC n f g h) {w : World} {a a' : Option Addr} {c c' : Nat} (R : RR w a n f) (R' : RR w a' n g) : Calls Try.prog 14 #[lv n a n c, lv n a' n c'] w fun e w' => ∃ b d, e = .returned (.tuple #[.agg #[.int .i64 (n : Nat), .slice b n d], .int .i64 0]) ∧ RR w' b n h ∧ Below w.heap.size w w' := H w a a' c c' R R'
theorem SameC.go {n : Nat} {f g : Nat → Nat} (H : SameC n f g) {w : World} {a a' : Option Addr} {c c' : Nat} (R : RR w a n f) (R' : RR w a' n g) : Calls Try.prog 13 #[lv n a n c, lv n a' n c'] w fun e w' => e = .returned (.bool true) ∧ Below w.heap.size w w' := H w a a' c c' R R'
theorem RankC.go {n r : Nat} {f : Nat → Nat} (H : RankC n f r) {w : World} {a : Option Addr} {c : Nat} (R : RR w a n f) : Calls Try.prog 18 #[lv n a n c] w fun e w' => e = .returned (.tuple #[.int .i64 r, .int .i64 0]) ∧ Below w.heap.size w w' := H w a c R
theorem ApplyC.go {n x y : Nat} {f : Nat → Nat} {E : Int} (H : ApplyC n f x y E) {w : World} {a : Option Addr} {c : Nat} (R : RR w a n f) : Calls Try.prog 16 #[lv n a n c, .int .u64 x] w fun e w' => e = .returned (.tuple #[.int .u64 y, .int .i64 E]) ∧ Below w.heap.size w w' := H w a c R
theorem EyeC.go {n : Nat} (H : EyeC n) (w : World) : Calls Try.prog 11 #[.int .i64 n] w fun e w' => ∃ b d, e = .returned (.tuple #[.agg #[.int .i64 (n : Nat), .slice b n d], .int .i64 0]) ∧ RR w' b n eyF ∧ Below w.heap.size w w' := H w
theorem TurnC.go {n : Nat} {f g : Nat → Nat} (H : TurnC n f g) {w : World} {a : Option Addr} {c : Nat} (R : RR w a n f) : Calls Try.prog 25 #[lv n a n c] w fun e w' => ∃ b d, e = .returned (.agg #[.int .i64 (n : Nat), .slice b n d]) ∧ RR w' b n g ∧ Below w.heap.size w w' := H w a c R
theorem InvC.go {n : Nat} {f g : Nat → Nat} (H : InvC n f g) {w : World} {a : Option Addr} {c : Nat} (R : RR w a n f) : Calls Try.prog 20 #[lv n a n c] w fun e w' => ∃ b d, e = .returned (.tuple #[.agg #[.int .i64 (n : Nat), .slice b n d], .int .i64 0]) ∧ RR w' b n g ∧ Below w.heap.size w w' := H w a c R
theorem InvN.go {n : Nat} {f : Nat → Nat} (H : InvN n f) {w : World} {a : Option Addr} {c : Nat} (R : RR w a n f) : Calls Try.prog 20 #[lv n a n c] w fun e w' => ∃ b d, e = .returned (.tuple #[.agg #[.int .i64 0, .slice b 0 d], .int .i64 200]) ∧ Below w.heap.size w w' := H w a c R
end Go.Proofs.Ytinkdonaedoojaa
