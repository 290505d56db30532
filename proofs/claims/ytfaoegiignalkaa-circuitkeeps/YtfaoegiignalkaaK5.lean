/-
  The law CircuitOrders, from what its calls tell.
-/
import Derived.Test.YtfaoegiignalkaaK2
import Derived.Test.YtfaoegiignalkaaO8
namespace Go.Proofs.Ytfaoegiignalkaa
open Go.RowKit Go.Shelf

theorem ol_len {W : World} {B : Nat} {v : Value} {ls : List (List Nat)} {vs : List Value} (h : OL W B v ls vs) : ls.length ≤ 9223372036854775807 ∧ ∀ l ∈ ls, l.length ≤ 9223372036854775807 := by
  refine ⟨own_len2 h.out, fun l hl => ?_⟩
  obtain ⟨i, hi, e⟩ := List.getElem_of_mem hl
  rw [← e]
  exact own_len2 (h.row i hi (by rw [← h.len]; exact hi))
section
variable (c : Ci) (a : Option Addr) (cp : Nat) (A : Nat → Option Addr) (C : Nat → Nat) (l : List Int) (al : Option Addr) (cl : Nat) (w : World)
set_option maxHeartbeats 4000000 in
set_option maxRecDepth 100000 in
theorem orders_any (H : OS w a cp c.ops A C) (hq : QS w al cl l) (hl : l.length ≤ 9223372036854775807) :
    Calls Try.prog 5 #[civ c a cp, .slice al l.length cl] w fun e w' => e = .returned (.bool true) ∧ Below w.heap.size w w' := by
  have AW := fun w => awake_any w
  have HO := hid H
  have HQ := hid hq
  have hcl := H.l
  have F23 := fun w1 h => rlayers_any c a cp A C w1 h
  have F25 := fun w1 h => layers_any c a cp A C w1 h
  have F24 := fun w1 h g => rorder_any c a cp A C l al cl w1 h g hl
  have F26 := fun w1 h g => order_any c a cp A C l al cl w1 h g hl
  have HONE : Hid (∀ R R' E E', OrS c l R E → OrS c l R' E' → R = R' ∧ E = E') := fun R R' E E' h h' => h.one h'
  have SL := fun v v' B B' vs vs' w h1 h2 g1 g2 => sameLists_any (layers c) v v' B B' vs vs' w h1 h2 g1 g2
  unfold OrR at F24 F26
  clear H hq
  generalize OrS c l = T at *
  generalize layers c = ls at *
  generalize (lk c).2.2 = LE at *
  by_cases hlen : 1000 < c.ops.length
  · have hlen' : (1000 : Int) < (c.ops.length : Int) := by omega
    clear F23 F24 F25 F26 SL HONE
    go_enter Try.func5, Try.ntmps5
    go_wp2_with (go_at_call 9; (with_reducible refine (AW _).mono ?_); rintro e w1 ⟨rfl, hB1⟩; have k1 := one_box hB1; have x1 := k1.cell; have l1 := k1.lt)
    go_ret
    exact ⟨rfl, btr (bal (Below.refl _ _) _) hB1⟩
  have hlen' : ¬ ((1000 : Int) < (c.ops.length : Int)) := by omega
  go_enter Try.func5, Try.ntmps5
  go_wp2_with (go_at_call 9; (with_reducible refine (AW _).mono ?_); rintro e w1 ⟨rfl, hB1⟩; refine Hid.out ?_)
  refine hid ?_
  have k1 := one_box hB1
  have HB : Below w.heap.size w w1 := btr (bal (Below.refl _ _) _) hB1
  have x1 := k1.cell
  have l1 := k1.lt
  clear hB1 AW
  go_wp2_with (go_at_call 23; (with_reducible refine (F23 _ (HO.out.below HB)).mono ?_); rintro e w2 ⟨v2, vs2, rfl, hL2, hB2⟩; refine Hid.out ?_)
  refine hid ?_
  replace k1 : BK w2 _ _ 24 := (hB2.block _ k1.lt).trans k1
  replace HB := btr HB hB2
  clear x1 l1 hB2 F23
  have x1 := k1.cell
  have l1 := k1.lt
  have HL2 := hid hL2
  clear hL2
  go_wp2_with (go_at_call 24; (with_reducible refine (F24 _ (HO.out.below HB) (HQ.out.below HB)).mono ?_); rintro e w3 ⟨R3, E3, a3, c3, v3, hT3, rfl, hO3, hB3⟩; refine Hid.out ?_)
  refine hid ?_
  replace k1 : BK w3 _ _ 24 := (hB3.block _ k1.lt).trans k1
  replace HB := bal (btr HB hB3) (.cells #[.int .i64 R3.q, .int .i64 R3.b, .slice a3 R3.ops.length c3] 24)
  have HT3 := hid hT3
  have HX3 := hid (bx_new hO3)
  replace HL2 := hid ((HL2.out.below hB3).below (bal (Below.refl _ _) (.cells #[.int .i64 R3.q, .int .i64 R3.b, .slice a3 R3.ops.length c3] 24)))
  clear x1 l1 hB3 hT3 hO3 F24
  have x1 := k1.cell
  have l1 := k1.lt
  replace k1 := k1.alloc (.cells #[.int .i64 R3.q, .int .i64 R3.b, .slice a3 R3.ops.length c3] 24)
  go_wp2_with (go_at_call 25; (with_reducible refine (F25 _ (HO.out.below HB)).mono ?_); rintro e w4 ⟨v4, vs4, rfl, hL4, hB4⟩; refine Hid.out ?_)
  refine hid ?_
  replace k1 : BK w4 _ _ 24 := (hB4.block _ k1.lt).trans k1
  replace HB := btr HB hB4
  replace HL2 := hid (HL2.out.below hB4)
  replace HX3 := hid (HX3.out.blw hB4)
  have HL4 := hid hL4
  clear x1 l1 hB4 hL4 F25
  have x1 := k1.cell
  have l1 := k1.lt
  have x3 := HX3.out.bk.cell
  have l3 := HX3.out.bk.lt
  go_wp2_with (go_at_call 26; (with_reducible refine (F26 _ (HO.out.below HB) (HQ.out.below HB)).mono ?_); rintro e w5 ⟨R5, E5, a5, c5, v5, hT5, rfl, hO5, hB5⟩; refine Hid.out ?_)
  refine hid ?_
  obtain ⟨rfl, rfl⟩ := HONE.out _ _ _ _ HT3.out hT5
  have hBq := bal (Below.refl _ w5) (.cells #[.int .i64 R3.q, .int .i64 R3.b, .slice a5 R3.ops.length c5] 24)
  replace HB := btr (btr HB hB5) hBq
  have X3 := HX3.out.blw hB5
  clear x1 l1 x3 l3 k1
  have x3 := X3.bk.cell
  have l3 := X3.bk.lt
  replace HX3 := hid (X3.blw hBq)
  have HX5 := hid (bx_new hO5)
  replace HL2 := hid ((HL2.out.below hB5).below hBq)
  replace HL4 := hid ((HL4.out.below hB5).below hBq)
  have hsz := ol_len HL2.out
  have S22 := fun a b k l A B C D w h1 h2 => same_any R3 a b k l A B C D w h1 h2
  clear X3 hO5 hB5 hBq hT5 HT3 F26 HONE
  go_wp2_with (first
    | (go_at_call 27; (with_reducible refine (SL _ _ _ _ _ _ _ HL4.out HL2.out hsz.1 hsz.2).mono ?_); rintro e w7 ⟨rfl, hB7⟩; have Q3 := HX3.out.blw hB7; have Q5 := HX5.out.blw hB7; have y3 := Q3.bk.cell; have y5 := Q5.bk.cell; have z3 := Q3.bk.lt; have z5 := Q5.bk.lt; replace HB := btr HB hB7; clear SL)
    | (go_at_call 22; (with_reducible refine (S22 _ _ _ _ _ _ _ _ _ Q5.os Q3.os).mono ?_); rintro e w8 ⟨rfl, hB8⟩; replace HB := btr HB hB8))
  go_ret
  exact ⟨rfl, HB⟩
end
end Go.Proofs.Ytfaoegiignalkaa
