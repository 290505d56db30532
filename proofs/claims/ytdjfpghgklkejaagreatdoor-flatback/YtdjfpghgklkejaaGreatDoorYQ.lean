/-
  Put together of: GS.
-/
import Derived.Test.YtdjfpghgklkejaaGreatDoorYP
namespace Go.Proofs.YtdjfpghgklkejaaGreatDoor
open Go.RowKit Go.Sort
theorem sameInts_any (l : List Int) (a1 a2 : Option Addr) (c1 c2 : Nat) (w : World) (hl : l.length ≤ 9223372036854775807) (H1 : QS w a1 c1 l) (H2 : QS w a2 c2 l) :
  Calls Tryz.prog 27 #[.slice a1 l.length c1, .slice a2 l.length c2] w fun e w' => e = .returned (.bool true) ∧ Below w.heap.size w w' := by
 have HO1 := hid H1
 have HO2 := hid H2
 have hcap1 := H1.cap
 have hcap2 := H2.cap
 clear H1 H2
 go_enter Tryz.func27, Tryz.ntmps27
 go_wp2
 go_loopw [5] (fun s wr => ∃ j : Nat, j ≤ l.length ∧ s = .int .i64 (j : Nat) ∧ Below w.heap.size w wr) (fun s _ => l.length - (intOf s).toNat)
 case atStart => exact ⟨0, Nat.zero_le _, rfl, Below.refl _ _⟩
 case round =>
  obtain ⟨j, hj, rfl, hB⟩ := hrel
  have HB := hid hB
  by_cases hjl : j < l.length
  case neg =>
   obtain rfl : j = l.length := by omega
   clear hB
   go_wp2
   go_ret
   exact ⟨rfl, HB.out⟩
  obtain ⟨g1, f1, rfl, r1⟩ := (HO1.out.below hB).at_ j hjl
  obtain ⟨g2, f2, rfl, r2⟩ := (HO2.out.below hB).at_ j hjl
  have t1 := r1.c j hjl
  have t2 := r2.c j hjl
  clear r1 r2 hB
  generalize l[j] = y at *
  go_wp2
  go_quiet (fail)
  go_wp2
  exact ⟨⟨j + 1, by omega, by simp, by first | exact HB.out | exact below_drew HB.out | exact below_drewN HB.out _⟩, by simp [intOf]; omega⟩
set_option maxHeartbeats 4000000 in
set_option maxRecDepth 100000 in
theorem sameC_any (c : Ci) (a1 a2 : Option Addr) (c1 c2 : Nat) (A1 A2 : Nat → Option Addr) (C1 C2 : Nat → Nat) (w : World) (H1 : OS w a1 c1 c.ops A1 C1) (H2 : OS w a2 c2 c.ops A2 C2) :
  Calls Tryz.prog 13 #[civ c a1 c1, civ c a2 c2] w fun e w' => e = .returned (.bool true) ∧ Below w.heap.size w w' := by
 have HO1 := hid H1
 have HO2 := hid H2
 have hcap1 := H1.cap
 have hcap2 := H2.cap
 have hl := H1.l
 clear H1 H2
 obtain ⟨q, b, os⟩ := c
 simp only at *
 go_enter Tryz.func13, Tryz.ntmps13
 go_wp2
 go_loopw [5] (fun s wr => ∃ k : Nat, k ≤ os.length ∧ s = .int .i64 (k : Nat) ∧ Below w.heap.size w wr ∧ BK wr w.heap.size #[.int .i64 q, .int .i64 b, .slice a1 os.length c1] 27 ∧ BK wr (w.heap.size + 1) #[.int .i64 q, .int .i64 b, .slice a2 os.length c2] 27) (fun s _ => os.length - (intOf s).toNat)
 case atStart => exact ⟨0, Nat.zero_le _, rfl, bal (bal (Below.refl _ _) _) _, (bk_new _ _ _).alloc _, bk_at _ _ (by simp)⟩
 case round =>
  obtain ⟨k, hk, rfl, hB, k1, k2⟩ := hrel
  have x1 : ∀ j, wr.cell? ⟨w.heap.size, j, none⟩ = _ := k1.cell
  have x2 : ∀ j, wr.cell? ⟨w.heap.size + 1, j, none⟩ = _ := k2.cell
  have z1 := k1.lt
  have z2 := k2.lt
  have HB := hid hB
  have HK1 := hid k1
  have HK2 := hid k2
  by_cases hlt : k < os.length
  case neg =>
   obtain rfl : k = os.length := by omega
   clear hB k1 k2
   go_wp2
   go_ret
   exact ⟨rfl, HB.out⟩
  obtain ⟨b1, o1, rfl, r1⟩ := (HO1.out.below hB).at_ k hlt
  obtain ⟨b2, o2, rfl, r2⟩ := (HO2.out.below hB).at_ k hlt
  have hl2 := (HO1.out.fit k hlt).l
  have hQ1 := hid ((HO1.out.below hB).qs k hlt)
  have hQ2 := hid ((HO2.out.below hB).qs k hlt)
  have m0 := r1.c0 k hlt
  have m1 := r1.c1 k hlt
  have m2 := r1.c2 k hlt
  have m3 := r1.c3 k hlt
  have m4 := r1.c4 k hlt
  have m5 := r1.c5 k hlt
  have m6 := r1.c6 k hlt
  have m7 := r1.lt
  have n0 := r2.c0 k hlt
  have n1 := r2.c1 k hlt
  have n2 := r2.c2 k hlt
  have n3 := r2.c3 k hlt
  have n4 := r2.c4 k hlt
  have n5 := r2.c5 k hlt
  have n6 := r2.c6 k hlt
  have n7 := r2.lt
  clear hB k1 k2 r1 r2
  generalize os[k] = o at *
  generalize A1 k = ak1 at *
  generalize C1 k = ck1 at *
  generalize A2 k = ak2 at *
  generalize C2 k = ck2 at *
  go_upto_region 6 with (fail)
  go_region
  ·have hB2 : Below wr.heap.size wr ((wr.alloc (.cells #[.int .i64 o.k, .string o.n, .slice ak1 o.qs.length ck1, .int .i64 o.b, .bool o.f, .int .u64 o.m, .int .u64 o.v] 49)).alloc (.cells #[.int .i64 o.k, .string o.n, .slice ak2 o.qs.length ck2, .int .i64 o.b, .bool o.f, .int .u64 o.m, .int .u64 o.v] 49)).drew := below_drew (bal (bal (Below.refl _ _) _) _)
   have kX : BK ((wr.alloc (.cells #[.int .i64 o.k, .string o.n, .slice ak1 o.qs.length ck1, .int .i64 o.b, .bool o.f, .int .u64 o.m, .int .u64 o.v] 49)).alloc (.cells #[.int .i64 o.k, .string o.n, .slice ak2 o.qs.length ck2, .int .i64 o.b, .bool o.f, .int .u64 o.m, .int .u64 o.v] 49)).drew wr.heap.size #[.int .i64 o.k, .string o.n, .slice ak1 o.qs.length ck1, .int .i64 o.b, .bool o.f, .int .u64 o.m, .int .u64 o.v] 49 := (bk_new _ _ _).alloc _
   have kY : BK ((wr.alloc (.cells #[.int .i64 o.k, .string o.n, .slice ak1 o.qs.length ck1, .int .i64 o.b, .bool o.f, .int .u64 o.m, .int .u64 o.v] 49)).alloc (.cells #[.int .i64 o.k, .string o.n, .slice ak2 o.qs.length ck2, .int .i64 o.b, .bool o.f, .int .u64 o.m, .int .u64 o.v] 49)).drew (wr.heap.size + 1) #[.int .i64 o.k, .string o.n, .slice ak2 o.qs.length ck2, .int .i64 o.b, .bool o.f, .int .u64 o.m, .int .u64 o.v] 49 := bk_at _ _ (by simp)
   obtain ⟨W2, hW2⟩ : ∃ W2, ((wr.alloc (.cells #[.int .i64 o.k, .string o.n, .slice ak1 o.qs.length ck1, .int .i64 o.b, .bool o.f, .int .u64 o.m, .int .u64 o.v] 49)).alloc (.cells #[.int .i64 o.k, .string o.n, .slice ak2 o.qs.length ck2, .int .i64 o.b, .bool o.f, .int .u64 o.m, .int .u64 o.v] 49)).drew = W2 := ⟨_, rfl⟩
   rw [hW2] at hB2 kX kY ⊢
   clear hW2
   have j1 : BK W2 w.heap.size _ 27 := (hB2.block _ z1).trans HK1.out
   have j2 : BK W2 (w.heap.size + 1) _ 27 := (hB2.block _ z2).trans HK2.out
   have hBW := btr HB.out hB2
   have hq1 := hQ1.out.below hB2
   have hq2 := hQ2.out.below hB2
   clear HB HK1 HK2 hQ1 hQ2 hB2 z1 z2 m7 n7
   obtain ⟨X, hX⟩ : ∃ X, X = wr.heap.size := ⟨_, rfl⟩
   obtain ⟨Y, hY⟩ : ∃ Y, Y = wr.heap.size + 1 := ⟨_, rfl⟩
   rw [← hY] at kY ⊢
   rw [← hX] at kX ⊢
   clear hX hY
   have e1 : ∀ j, W2.cell? ⟨X, j, none⟩ = _ := kX.cell
   have e2 : ∀ j, W2.cell? ⟨Y, j, none⟩ = _ := kY.cell
   have SI := hid (sameInts_any o.qs ak1 ak2 ck1 ck2 W2 hl2 hq1 hq2)
   clear hq1 hq2
   go_wp2_with (go_at_call 27; refine Hid.out ?_)
   refine hid ?_
   refine SI.out.mono ?_
   rintro x W3 ⟨rfl, hb3⟩
   have e3 : BK W3 X _ 49 := (hb3.block _ kX.lt).trans kX
   have e4 : BK W3 Y _ 49 := (hb3.block _ kY.lt).trans kY
   have f1 : ∀ j, W3.cell? ⟨X, j, none⟩ = _ := e3.cell
   have f2 : ∀ j, W3.cell? ⟨Y, j, none⟩ = _ := e4.cell
   have HF := hid (show Below w.heap.size w W3 ∧ BK W3 w.heap.size _ 27 ∧ BK W3 (w.heap.size + 1) _ 27 from ⟨btr hBW hb3, (hb3.block _ j1.lt).trans j1, (hb3.block _ j2.lt).trans j2⟩)
   clear e1 e2 e3 e4 kX kY j1 j2 hBW hb3 SI
   go_wp2
   exact ⟨⟨k + 1, by omega, by simp, HF.out.1, HF.out.2.1, HF.out.2.2⟩, by simp [intOf]; omega⟩
  ·have hB2 : Below wr.heap.size wr ((wr.alloc (.cells #[.int .i64 o.k, .string o.n, .slice ak2 o.qs.length ck2, .int .i64 o.b, .bool o.f, .int .u64 o.m, .int .u64 o.v] 49)).alloc (.cells #[.int .i64 o.k, .string o.n, .slice ak1 o.qs.length ck1, .int .i64 o.b, .bool o.f, .int .u64 o.m, .int .u64 o.v] 49)).drew := below_drew (bal (bal (Below.refl _ _) _) _)
   have kY : BK ((wr.alloc (.cells #[.int .i64 o.k, .string o.n, .slice ak2 o.qs.length ck2, .int .i64 o.b, .bool o.f, .int .u64 o.m, .int .u64 o.v] 49)).alloc (.cells #[.int .i64 o.k, .string o.n, .slice ak1 o.qs.length ck1, .int .i64 o.b, .bool o.f, .int .u64 o.m, .int .u64 o.v] 49)).drew wr.heap.size #[.int .i64 o.k, .string o.n, .slice ak2 o.qs.length ck2, .int .i64 o.b, .bool o.f, .int .u64 o.m, .int .u64 o.v] 49 := (bk_new _ _ _).alloc _
   have kX : BK ((wr.alloc (.cells #[.int .i64 o.k, .string o.n, .slice ak2 o.qs.length ck2, .int .i64 o.b, .bool o.f, .int .u64 o.m, .int .u64 o.v] 49)).alloc (.cells #[.int .i64 o.k, .string o.n, .slice ak1 o.qs.length ck1, .int .i64 o.b, .bool o.f, .int .u64 o.m, .int .u64 o.v] 49)).drew (wr.heap.size + 1) #[.int .i64 o.k, .string o.n, .slice ak1 o.qs.length ck1, .int .i64 o.b, .bool o.f, .int .u64 o.m, .int .u64 o.v] 49 := bk_at _ _ (by simp)
   obtain ⟨W2, hW2⟩ : ∃ W2, ((wr.alloc (.cells #[.int .i64 o.k, .string o.n, .slice ak2 o.qs.length ck2, .int .i64 o.b, .bool o.f, .int .u64 o.m, .int .u64 o.v] 49)).alloc (.cells #[.int .i64 o.k, .string o.n, .slice ak1 o.qs.length ck1, .int .i64 o.b, .bool o.f, .int .u64 o.m, .int .u64 o.v] 49)).drew = W2 := ⟨_, rfl⟩
   rw [hW2] at hB2 kX kY ⊢
   clear hW2
   have j1 : BK W2 w.heap.size _ 27 := (hB2.block _ z1).trans HK1.out
   have j2 : BK W2 (w.heap.size + 1) _ 27 := (hB2.block _ z2).trans HK2.out
   have hBW := btr HB.out hB2
   have hq1 := hQ1.out.below hB2
   have hq2 := hQ2.out.below hB2
   clear HB HK1 HK2 hQ1 hQ2 hB2 z1 z2 m7 n7
   obtain ⟨X, hX⟩ : ∃ X, X = wr.heap.size + 1 := ⟨_, rfl⟩
   obtain ⟨Y, hY⟩ : ∃ Y, Y = wr.heap.size := ⟨_, rfl⟩
   rw [← hX] at kX ⊢
   rw [← hY] at kY ⊢
   clear hX hY
   have e1 : ∀ j, W2.cell? ⟨X, j, none⟩ = _ := kX.cell
   have e2 : ∀ j, W2.cell? ⟨Y, j, none⟩ = _ := kY.cell
   have SI := hid (sameInts_any o.qs ak1 ak2 ck1 ck2 W2 hl2 hq1 hq2)
   clear hq1 hq2
   go_wp2_with (go_at_call 27; refine Hid.out ?_)
   refine hid ?_
   refine SI.out.mono ?_
   rintro x W3 ⟨rfl, hb3⟩
   have e3 : BK W3 X _ 49 := (hb3.block _ kX.lt).trans kX
   have e4 : BK W3 Y _ 49 := (hb3.block _ kY.lt).trans kY
   have f1 : ∀ j, W3.cell? ⟨X, j, none⟩ = _ := e3.cell
   have f2 : ∀ j, W3.cell? ⟨Y, j, none⟩ = _ := e4.cell
   have HF := hid (show Below w.heap.size w W3 ∧ BK W3 w.heap.size _ 27 ∧ BK W3 (w.heap.size + 1) _ 27 from ⟨btr hBW hb3, (hb3.block _ j1.lt).trans j1, (hb3.block _ j2.lt).trans j2⟩)
   clear e1 e2 e3 e4 kX kY j1 j2 hBW hb3 SI
   go_wp2
   exact ⟨⟨k + 1, by omega, by simp, HF.out.1, HF.out.2.1, HF.out.2.2⟩, by simp [intOf]; omega⟩
end Go.Proofs.YtdjfpghgklkejaaGreatDoor
