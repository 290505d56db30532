/-
  The law CircuitJoins, from what its calls tell.
-/
import Derived.Test.YtfaoegiignalkaaJ10
import Derived.Test.YtfaoegiignalkaaJ3
import Derived.Test.YtfaoegiignalkaaJ7
import Derived.Test.YtfaoegiignalkaaA1
namespace Go.Proofs.Ytfaoegiignalkaa
open Go.RowKit Go.Shelf

/-- A circuit in a box: what it holds, and that it can be read. -/
structure BX (W : World) (B X : Nat) (c : Ci) (a : Option Addr) (k : Nat) (vs : List (Option Addr × Nat)) : Prop where
  bk : BK W X #[.int .i64 c.q, .int .i64 c.b, .slice a c.ops.length k] 24
  oo : OO W B (.slice a c.ops.length k) c.ops vs
theorem BX.blw {W W' : World} {B X : Nat} {c : Ci} {a : Option Addr} {k : Nat} {vs : List (Option Addr × Nat)} (h : BX W B X c a k vs) (hB : Below W.heap.size W W') : BX W' B X c a k vs := ⟨(hB.block _ h.bk.lt).trans h.bk, h.oo.below hB⟩
theorem BX.os {W : World} {B X : Nat} {c : Ci} {a : Option Addr} {k : Nat} {vs : List (Option Addr × Nat)} (h : BX W B X c a k vs) : OS W a k c.ops (vA vs) (vC vs) := by
  obtain ⟨a', c', e, hS⟩ := h.oo.read
  cases e
  exact hS
theorem bx_new {W : World} {B : Nat} {c : Ci} {a : Option Addr} {k : Nat} {vs : List (Option Addr × Nat)} (h : OO W B (.slice a c.ops.length k) c.ops vs) : BX (W.alloc (.cells #[.int .i64 c.q, .int .i64 c.b, .slice a c.ops.length k] 24)) B W.heap.size c a k vs := ⟨bk_new _ _ _, h.below (bal (Below.refl _ _) _)⟩
set_option maxHeartbeats 4000000 in
set_option maxRecDepth 100000 in
theorem joins_core (c d : Ci) (a1 a2 : Option Addr) (c1 c2 : Nat) (A1 A2 : Nat → Option Addr) (C1 C2 : Nat → Nat) (w : World) (H1 : OS w a1 c1 c.ops A1 C1) (H2 : OS w a2 c2 d.ops A2 C2)
    (RT : ∀ w1, OS w1 a1 c1 c.ops A1 C1 → OS w1 a2 c2 d.ops A2 C2 → Calls Try.prog 19 #[civ c a1 c1, civ d a2 c2] w1 fun e w' => ThR c d w1 e w') :
    Calls Try.prog 4 #[civ c a1 c1, civ d a2 c2] w fun e w' => e = .returned (.bool true) ∧ Below w.heap.size w w' := by
  have AW := fun w => awake_any w
  have F18 := fun w1 h => rinverseC_any c a1 c1 A1 C1 w1 h
  have F20 := fun w1 h => inverseC_any c a1 c1 A1 C1 w1 h
  have F21 := fun w1 h1 h2 => then_any c d a1 a2 c1 c2 A1 A2 C1 C2 w1 h1 h2
  have HO1 := hid H1
  have HO2 := hid H2
  clear H1 H2
  unfold ThR at RT F21
  generalize invR c = IR at *
  generalize invE c = IE at *
  generalize thR c d = TR at *
  generalize thE c d = TE at *
  have SI := fun a b k l A B C D w h1 h2 => same_any IR a b k l A B C D w h1 h2
  have ST := fun a b k l A B C D w h1 h2 => same_any TR a b k l A B C D w h1 h2
  go_enter Try.func4, Try.ntmps4
  have HB : Below w.heap.size w ((w.alloc (.cells #[.int .i64 c.q, .int .i64 c.b, .slice a1 c.ops.length c1] 24)).alloc (.cells #[.int .i64 d.q, .int .i64 d.b, .slice a2 d.ops.length c2] 24)) := bal (bal (Below.refl _ _) _) _
  have k1 : BK ((w.alloc (.cells #[.int .i64 c.q, .int .i64 c.b, .slice a1 c.ops.length c1] 24)).alloc (.cells #[.int .i64 d.q, .int .i64 d.b, .slice a2 d.ops.length c2] 24)) w.heap.size #[.int .i64 c.q, .int .i64 c.b, .slice a1 c.ops.length c1] 24 := (bk_new _ _ _).alloc _
  have k2 : BK ((w.alloc (.cells #[.int .i64 c.q, .int .i64 c.b, .slice a1 c.ops.length c1] 24)).alloc (.cells #[.int .i64 d.q, .int .i64 d.b, .slice a2 d.ops.length c2] 24)) (w.heap.size + 1) #[.int .i64 d.q, .int .i64 d.b, .slice a2 d.ops.length c2] 24 := bk_at _ _ (by simp)
  go_wp2_with (first
    | (go_at_call 9; (with_reducible refine (AW _).mono ?_); rintro e w1 ⟨rfl, hB1⟩; replace HB := btr HB hB1; replace k1 : BK w1 _ _ 24 := (hB1.block _ k1.lt).trans k1; replace k2 : BK w1 _ _ 24 := (hB1.block _ k2.lt).trans k2; have x1 := k1.cell; have x2 := k2.cell)
    | (go_at_call 18; (with_reducible refine (F18 _ (HO1.out.below HB)).mono ?_); rintro e w2 ⟨ax, cx, vx, rfl, hOx, hB2⟩; replace HB := bal (btr HB hB2) (.cells #[.int .i64 IR.q, .int .i64 IR.b, .slice ax IR.ops.length cx] 24); replace k1 : BK w2 _ _ 24 := (hB2.block _ k1.lt).trans k1; replace k2 : BK w2 _ _ 24 := (hB2.block _ k2.lt).trans k2; have BXx := hid (bx_new hOx); clear x1 x2 hOx; have x1 := k1.cell; have x2 := k2.cell; have l1 := k1.lt; have l2 := k2.lt; replace k1 := k1.alloc (.cells #[.int .i64 IR.q, .int .i64 IR.b, .slice ax IR.ops.length cx] 24); replace k2 := k2.alloc (.cells #[.int .i64 IR.q, .int .i64 IR.b, .slice ax IR.ops.length cx] 24))
    | (go_at_call 19; (with_reducible refine (RT _ (HO1.out.below HB) (HO2.out.below HB)).mono ?_); rintro e w3 ⟨ay, cy, vy, rfl, hOy, hB3⟩; replace HB := bal (btr HB hB3) (.cells #[.int .i64 TR.q, .int .i64 TR.b, .slice ay TR.ops.length cy] 24); replace k1 : BK w3 _ _ 24 := (hB3.block _ k1.lt).trans k1; replace k2 : BK w3 _ _ 24 := (hB3.block _ k2.lt).trans k2; have BXy := hid (bx_new hOy); replace BXx := hid ((BXx.out.blw hB3).blw (bal (Below.refl _ _) (.cells #[.int .i64 TR.q, .int .i64 TR.b, .slice ay TR.ops.length cy] 24))); clear x1 x2 l1 l2 hOy; have x1 := k1.cell; have x2 := k2.cell; have l1 := k1.lt; have l2 := k2.lt; replace k1 := k1.alloc (.cells #[.int .i64 TR.q, .int .i64 TR.b, .slice ay TR.ops.length cy] 24); replace k2 := k2.alloc (.cells #[.int .i64 TR.q, .int .i64 TR.b, .slice ay TR.ops.length cy] 24))
    | (go_at_call 20; (with_reducible refine (F20 _ (HO1.out.below HB)).mono ?_); rintro e w4 ⟨ap, cp, vp, rfl, hOp, hB4⟩; replace HB := bal (btr HB hB4) (.cells #[.int .i64 IR.q, .int .i64 IR.b, .slice ap IR.ops.length cp] 24); replace k1 : BK w4 _ _ 24 := (hB4.block _ k1.lt).trans k1; replace k2 : BK w4 _ _ 24 := (hB4.block _ k2.lt).trans k2; have BXp := hid (bx_new hOp); replace BXx := hid ((BXx.out.blw hB4).blw (bal (Below.refl _ _) (.cells #[.int .i64 IR.q, .int .i64 IR.b, .slice ap IR.ops.length cp] 24))); replace BXy := hid ((BXy.out.blw hB4).blw (bal (Below.refl _ _) (.cells #[.int .i64 IR.q, .int .i64 IR.b, .slice ap IR.ops.length cp] 24))); clear x1 x2 l1 l2 hOp; have x1 := k1.cell; have x2 := k2.cell; have l1 := k1.lt; have l2 := k2.lt; replace k1 := k1.alloc (.cells #[.int .i64 IR.q, .int .i64 IR.b, .slice ap IR.ops.length cp] 24); replace k2 := k2.alloc (.cells #[.int .i64 IR.q, .int .i64 IR.b, .slice ap IR.ops.length cp] 24))
    | (go_at_call 21; (with_reducible refine (F21 _ (HO1.out.below HB) (HO2.out.below HB)).mono ?_); rintro e w5 ⟨aq, cq, vq, rfl, hOq, hB5⟩; refine Hid.out ?_))
  refine hid ?_
  have X5 := BXx.out.blw hB5
  have Y5 := BXy.out.blw hB5
  have P5 := BXp.out.blw hB5
  have xx := X5.bk.cell
  have xy := Y5.bk.cell
  have xp := P5.bk.cell
  have lx := X5.bk.lt
  have ly := Y5.bk.lt
  have lp := P5.bk.lt
  have hBq := bal (Below.refl _ w5) (.cells #[.int .i64 TR.q, .int .i64 TR.b, .slice aq TR.ops.length cq] 24)
  have BXq := hid (bx_new hOq)
  replace BXx := hid (X5.blw hBq)
  replace BXy := hid (Y5.blw hBq)
  replace BXp := hid (P5.blw hBq)
  replace HB := btr (btr HB hB5) hBq
  clear X5 Y5 P5 hOq hB5 hBq k1 k2 x1 x2 l1 l2 F18 F20 F21 RT AW
  go_wp2_with (first
    | (go_at_call 22; (with_reducible refine (SI _ _ _ _ _ _ _ _ _ BXp.out.os BXx.out.os).mono ?_); rintro e w7 ⟨rfl, hB7⟩; have Q7 := BXq.out.blw hB7; have Y7 := BXy.out.blw hB7; have xq7 := Q7.bk.cell; have xy7 := Y7.bk.cell; replace HB := btr HB hB7; clear SI)
    | (go_at_call 22; (with_reducible refine (ST _ _ _ _ _ _ _ _ _ Q7.os Y7.os).mono ?_); rintro e w8 ⟨rfl, hB8⟩; replace HB := btr HB hB8))
  go_ret
  exact ⟨rfl, HB⟩
end Go.Proofs.Ytfaoegiignalkaa
