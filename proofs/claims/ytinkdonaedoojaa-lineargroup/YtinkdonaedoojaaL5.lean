/-
  The walk of the law LinearGroup.
-/
import Derived.Test.YtinkdonaedoojaaL3
import Derived.Test.YtinkdonaedoojaaZ0
namespace Go.Proofs.Ytinkdonaedoojaa
open Go.RowKit

abbrev gcs (N1 N2 N3 : Int) (a1 a2 a3 : Option Addr) (n1 n2 n3 c1 c2 c3 x y : Nat) : Array Value := #[.int .i64 N1, .slice a1 n1 c1, .int .i64 N2, .slice a2 n2 c2, .int .i64 N3, .slice a3 n3 c3, .int .u64 x, .int .u64 y]
/-- What the law calls, where both products are defined. -/
structure GG (n : Nat) (fA fB fC : Nat → Nat) (ra rb rab : Nat) (fAB fBC fL fI' fT : Nat → Nat) (x y : Nat) : Prop where
  mAB : MulC n fA fB fAB
  mBC : MulC n fB fC fBC
  mL : MulC n fAB fC fL
  mR : MulC n fA fBC fL
  mE : EyeC n
  mI : MulC n fA eyF fA
  mJ : MulC n eyF fA fA
  rA : RankC n fA ra
  rB : RankC n fB rb
  rAB : RankC n fAB rab
  tA : TurnC n fA fT
  rT : RankC n fT ra
  ht1 : rab ≤ ra
  ht2 : rab ≤ rb
  hinv : Hid (InvC n fA fI' ∧ MulC n fA fI' eyF ∧ MulC n fI' fA eyF ∧ n = ra) ∨ Hid (InvN n fA ∧ ra < n)
  hxy : Hid (ApplyC n fB x 0 2) ∨ (∃ X Z, Hid (ApplyC n fB x X 0) ∧ Hid (ApplyC n fAB x Z 0) ∧ Hid (ApplyC n fA X Z 0) ∧ Hid (bits .xor .u64 (x : Int) (y : Int) = ((x ^^^ y : Nat) : Int)) ∧
      ((Hid (ApplyC n fB y 0 2) ∧ ∃ Q E, Hid (ApplyC n fB (x ^^^ y) Q E)) ∨ (∃ Y Q, Hid (ApplyC n fB y Y 0) ∧ Hid (ApplyC n fB (x ^^^ y) Q 0) ∧ Hid (bits .xor .u64 (X : Int) (Y : Int) = (Q : Int)))))
/-- Products of which one is refused. -/
def GBad (w : World) (N1 N2 N3 : Int) (n1 n2 n3 : Nat) (aA aB aC : Option Addr) (cA cB cC : Nat) : Prop :=
  ∃ (M M' : Int) (m m' : Nat) (F F' : Nat → Nat) (E E' : Int), (∀ w', Below w.heap.size w w' → Calls Try.prog 14 #[lv N1 aA n1 cA, lv N2 aB n2 cB] w' fun e w2 => LR w' w2 e M m F E) ∧ (∀ w', Below w.heap.size w w' → Calls Try.prog 14 #[lv N2 aB n2 cB, lv N3 aC n3 cC] w' fun e w2 => LR w' w2 e M' m' F' E') ∧ ((E != 0) = true ∨ (E' != 0) = true)
theorem lr_box {w w' : World} {e : Ending} {M : Int} {m : Nat} {F : Nat → Nat} {E : Int} (h : LR w w' e M m F E) : ∃ b d, e = .returned (.tuple #[.agg #[.int .i64 M, .slice b m d], .int .i64 E]) ∧ Below w.heap.size w w' := by
  obtain ⟨v, rfl, hO, hB⟩ := h
  obtain ⟨b, d, rfl⟩ := os_shape hO
  exact ⟨b, d, rfl, hB⟩
set_option maxHeartbeats 8000000 in
set_option maxRecDepth 100000 in
theorem group_any (N1 N2 N3 : Int) (n1 n2 n3 : Nat) (fA fB fC : Nat → Nat) (aA aB aC : Option Addr) (cA cB cC x y : Nat) (w : World) (RA : RR w aA n1 fA) (RB : RR w aB n2 fB) (RC : RR w aC n3 fC)
    (hall : Hid (GBad w N1 N2 N3 n1 n2 n3 aA aB aC cA cB cC) ∨ Hid (∃ n : Nat, (N1 = n ∧ N2 = n ∧ N3 = n ∧ n = n1 ∧ n = n2 ∧ n = n3) ∧ ∃ (ra rb rab : Nat) (fAB fBC fL fI' fT : Nat → Nat), GG n fA fB fC ra rb rab fAB fBC fL fI' fT x y)) :
    Calls Try.prog 6 #[.agg (gcs N1 N2 N3 aA aB aC n1 n2 n3 cA cB cC x y)] w fun e w' => e = .returned (.bool true) ∧ Below w.heap.size w w' := by
  have HB := hid (bal (Below.refl w.heap.size w) (.cells (gcs N1 N2 N3 aA aB aC n1 n2 n3 cA cB cC x y) 61))
  have KG := hid (bk_new w (gcs N1 N2 N3 aA aB aC n1 n2 n3 cA cB cC x y) 61)
  have AL := alive_any
  go_enter Try.func6, Try.ntmps6
  go_upto_region 3 with (go_at_call 8; (with_reducible refine (AL _).mono ?_); rintro e w1 ⟨rfl, hN⟩)
  replace HB := hid (btr HB.out hN)
  replace KG := hid (bk_on KG.out hN)
  replace RA := hid (RA.below HB.out)
  replace RB := hid (RB.below HB.out)
  replace RC := hid (RC.below HB.out)
  clear hN AL
  have dG := KG.out.cell
  have lG := KG.out.lt
  have g0 : w1.cell? ⟨w.heap.size, 0, none⟩ = some (.int .i64 N1) := dG 0
  have g1 : w1.cell? ⟨w.heap.size, 1, none⟩ = some (.slice aA n1 cA) := dG 1
  have g2 : w1.cell? ⟨w.heap.size, 2, none⟩ = some (.int .i64 N2) := dG 2
  have g3 : w1.cell? ⟨w.heap.size, 3, none⟩ = some (.slice aB n2 cB) := dG 3
  have g4 : w1.cell? ⟨w.heap.size, 4, none⟩ = some (.int .i64 N3) := dG 4
  have g5 : w1.cell? ⟨w.heap.size, 5, none⟩ = some (.slice aC n3 cC) := dG 5
  have g6 : w1.cell? ⟨w.heap.size, 6, none⟩ = some (.int .u64 x) := dG 6
  have g7 : w1.cell? ⟨w.heap.size, 7, none⟩ = some (.int .u64 y) := dG 7
  have h0 : ∀ O1 O2 O3 : Obj, (((w1.alloc O1).alloc O2).alloc O3).cell? ⟨w.heap.size, 0, none⟩ = some (.int .i64 N1) := fun O1 O2 O3 => (((KG.out.alloc O1).alloc O2).alloc O3).cell 0
  have h1 : ∀ O1 O2 O3 : Obj, (((w1.alloc O1).alloc O2).alloc O3).cell? ⟨w.heap.size, 1, none⟩ = some (.slice aA n1 cA) := fun O1 O2 O3 => (((KG.out.alloc O1).alloc O2).alloc O3).cell 1
  have h2 : ∀ O1 O2 O3 : Obj, (((w1.alloc O1).alloc O2).alloc O3).cell? ⟨w.heap.size, 2, none⟩ = some (.int .i64 N2) := fun O1 O2 O3 => (((KG.out.alloc O1).alloc O2).alloc O3).cell 2
  have h3 : ∀ O1 O2 O3 : Obj, (((w1.alloc O1).alloc O2).alloc O3).cell? ⟨w.heap.size, 3, none⟩ = some (.slice aB n2 cB) := fun O1 O2 O3 => (((KG.out.alloc O1).alloc O2).alloc O3).cell 3
  have h4 : ∀ O1 O2 O3 : Obj, (((w1.alloc O1).alloc O2).alloc O3).cell? ⟨w.heap.size, 4, none⟩ = some (.int .i64 N3) := fun O1 O2 O3 => (((KG.out.alloc O1).alloc O2).alloc O3).cell 4
  have h5 : ∀ O1 O2 O3 : Obj, (((w1.alloc O1).alloc O2).alloc O3).cell? ⟨w.heap.size, 5, none⟩ = some (.slice aC n3 cC) := fun O1 O2 O3 => (((KG.out.alloc O1).alloc O2).alloc O3).cell 5
  have h6 : ∀ O1 O2 O3 : Obj, (((w1.alloc O1).alloc O2).alloc O3).cell? ⟨w.heap.size, 6, none⟩ = some (.int .u64 x) := fun O1 O2 O3 => (((KG.out.alloc O1).alloc O2).alloc O3).cell 6
  have h7 : ∀ O1 O2 O3 : Obj, (((w1.alloc O1).alloc O2).alloc O3).cell? ⟨w.heap.size, 7, none⟩ = some (.int .u64 y) := fun O1 O2 O3 => (((KG.out.alloc O1).alloc O2).alloc O3).cell 7
  clear dG
  go_cut [3, 4, 5, 6, 7] from 48 to 57 (fun v3 v4 v5 v6 v7 W => ∃ bA bB bC, Below w1.heap.size w1 W ∧ BK W bA (lcs N1 aA n1 cA) 24 ∧ BK W bB (lcs N2 aB n2 cB) 24 ∧ BK W bC (lcs N3 aC n3 cC) 24 ∧ v3 = Value.pointer (some ⟨bA, 0, none⟩) ∧ v4 = Value.pointer (some ⟨bB, 0, none⟩) ∧ v5 = Value.pointer (some ⟨bC, 0, none⟩) ∧ v6 = Value.int .u64 x ∧ v7 = Value.int .u64 y)
  case first =>
    clear hall RA RB RC HB
    clear g0 g1 g2 g3 g4 g5 g6 g7 h0 h1 h2 h3 h4 h5 h6 h7
    refine wp_region_noPanic ?_
    refine region_z (S := fun W => BK W w.heap.size (gcs N1 N2 N3 aA aB aC n1 n2 n3 cA cB cC x y) 61) 17 (by kernel_rfl) (bk_on KG.out (below_drew (Below.refl _ _))) (fun hHeld => ?_)
    have HS : Hid (BK w1.drew w.heap.size (gcs N1 N2 N3 aA aB aC n1 n2 n3 cA cB cC x y) 61) := hid (bk_on KG.out (below_drew (Below.refl _ _)))
    have HX : Hid (Below w1.heap.size w1 w1.drew) := hid (below_drew (Below.refl _ _))
    have hXz : w1.heap.size ≤ w1.drew.heap.size := HX.out.size
    have hwz : w.heap.size < w1.drew.heap.size := Nat.lt_of_lt_of_le lG hXz
    clear KG hHeld
    generalize w1.drew = X at *
    refine zAny_take (i := 0) (oi := { dst := some 48, op := Op.fieldAddr 61 (Operand.tmp 1) 0, type := 0, pos := "law.go:116", after := #[], guard := none }) (v := ?_) rfl (by kernel_rfl) (by kernel_rfl) (by kernel_rfl) (by kernel_rfl) (fun _ _ _ h => h) (Or.inl ⟨by rfl, ?_⟩) HS.out ?_
    rotate_left
    (intro w0 hSw; go_simp; try (with_reducible rfl))
    (try simp only [Act.put, List.setIfInBounds_toArray, List.set_cons_zero, List.set_cons_succ])
    refine zAny_take (i := 1) (oi := { dst := some 49, op := Op.load 24 (Operand.tmp 48), type := 24, pos := "law.go:116", after := #[{ on := 0, ground := Ground.data }], guard := none }) (v := ?_) rfl (by kernel_rfl) (by kernel_rfl) (by kernel_rfl) (by kernel_rfl) (fun _ _ _ h => h) (Or.inl ⟨by rfl, ?_⟩) HS.out ?_
    rotate_left
    (intro w0 hSw; have c0 : w0.cell? ⟨w.heap.size, 0, none⟩ = some (.int .i64 N1) := BK.cell hSw 0; have c1 : w0.cell? ⟨w.heap.size, 1, none⟩ = some (.slice aA n1 cA) := BK.cell hSw 1; clear hSw; go_simp; try (with_reducible rfl))
    (try simp only [Act.put, List.setIfInBounds_toArray, List.set_cons_zero, List.set_cons_succ])
    refine zAny_take (i := 2) (oi := { dst := some 50, op := Op.fieldAddr 61 (Operand.tmp 1) 1, type := 0, pos := "law.go:116", after := #[{ on := 13, ground := Ground.gcOnly Departure.lateStores }], guard := none }) (v := ?_) rfl (by kernel_rfl) (by kernel_rfl) (by kernel_rfl) (by kernel_rfl) (fun _ _ _ h => h) (Or.inl ⟨by rfl, ?_⟩) HS.out ?_
    rotate_left
    (intro w0 hSw; go_simp; try (with_reducible rfl))
    (try simp only [Act.put, List.setIfInBounds_toArray, List.set_cons_zero, List.set_cons_succ])
    refine zAny_take (i := 3) (oi := { dst := some 51, op := Op.load 24 (Operand.tmp 50), type := 24, pos := "law.go:116", after := #[{ on := 2, ground := Ground.data }, { on := 13, ground := Ground.gcOnly Departure.lateStores }], guard := none }) (v := ?_) rfl (by kernel_rfl) (by kernel_rfl) (by kernel_rfl) (by kernel_rfl) (fun _ _ _ h => h) (Or.inl ⟨by rfl, ?_⟩) HS.out ?_
    rotate_left
    (intro w0 hSw; have c2 : w0.cell? ⟨w.heap.size, 2, none⟩ = some (.int .i64 N2) := BK.cell hSw 2; have c3 : w0.cell? ⟨w.heap.size, 3, none⟩ = some (.slice aB n2 cB) := BK.cell hSw 3; clear hSw; go_simp; try (with_reducible rfl))
    (try simp only [Act.put, List.setIfInBounds_toArray, List.set_cons_zero, List.set_cons_succ])
    refine zAny_take (i := 4) (oi := { dst := some 52, op := Op.fieldAddr 61 (Operand.tmp 1) 2, type := 0, pos := "law.go:116", after := #[{ on := 14, ground := Ground.gcOnly Departure.lateStores }], guard := none }) (v := ?_) rfl (by kernel_rfl) (by kernel_rfl) (by kernel_rfl) (by kernel_rfl) (fun _ _ _ h => h) (Or.inl ⟨by rfl, ?_⟩) HS.out ?_
    rotate_left
    (intro w0 hSw; go_simp; try (with_reducible rfl))
    (try simp only [Act.put, List.setIfInBounds_toArray, List.set_cons_zero, List.set_cons_succ])
    refine zAny_take (i := 5) (oi := { dst := some 53, op := Op.load 24 (Operand.tmp 52), type := 24, pos := "law.go:116", after := #[{ on := 4, ground := Ground.data }, { on := 14, ground := Ground.gcOnly Departure.lateStores }], guard := none }) (v := ?_) rfl (by kernel_rfl) (by kernel_rfl) (by kernel_rfl) (by kernel_rfl) (fun _ _ _ h => h) (Or.inl ⟨by rfl, ?_⟩) HS.out ?_
    rotate_left
    (intro w0 hSw; have c4 : w0.cell? ⟨w.heap.size, 4, none⟩ = some (.int .i64 N3) := BK.cell hSw 4; have c5 : w0.cell? ⟨w.heap.size, 5, none⟩ = some (.slice aC n3 cC) := BK.cell hSw 5; clear hSw; go_simp; try (with_reducible rfl))
    (try simp only [Act.put, List.setIfInBounds_toArray, List.set_cons_zero, List.set_cons_succ])
    refine zAny_take (i := 6) (oi := { dst := some 54, op := Op.fieldAddr 61 (Operand.tmp 1) 3, type := 0, pos := "law.go:116", after := #[{ on := 15, ground := Ground.gcOnly Departure.lateStores }], guard := none }) (v := ?_) rfl (by kernel_rfl) (by kernel_rfl) (by kernel_rfl) (by kernel_rfl) (fun _ _ _ h => h) (Or.inl ⟨by rfl, ?_⟩) HS.out ?_
    rotate_left
    (intro w0 hSw; go_simp; try (with_reducible rfl))
    (try simp only [Act.put, List.setIfInBounds_toArray, List.set_cons_zero, List.set_cons_succ])
    refine zAny_take (i := 7) (oi := { dst := some 55, op := Op.load 25 (Operand.tmp 54), type := 25, pos := "law.go:116", after := #[{ on := 6, ground := Ground.data }, { on := 15, ground := Ground.gcOnly Departure.lateStores }], guard := none }) (v := ?_) rfl (by kernel_rfl) (by kernel_rfl) (by kernel_rfl) (by kernel_rfl) (fun _ _ _ h => h) (Or.inl ⟨by rfl, ?_⟩) HS.out ?_
    rotate_left
    (intro w0 hSw; have c6 : w0.cell? ⟨w.heap.size, 6, none⟩ = some (.int .u64 x) := BK.cell hSw 6; clear hSw; go_simp; try (with_reducible rfl))
    (try simp only [Act.put, List.setIfInBounds_toArray, List.set_cons_zero, List.set_cons_succ])
    refine zAny_take (i := 8) (oi := { dst := some 56, op := Op.fieldAddr 61 (Operand.tmp 1) 4, type := 0, pos := "law.go:116", after := #[{ on := 16, ground := Ground.gcOnly Departure.lateStores }], guard := none }) (v := ?_) rfl (by kernel_rfl) (by kernel_rfl) (by kernel_rfl) (by kernel_rfl) (fun _ _ _ h => h) (Or.inl ⟨by rfl, ?_⟩) HS.out ?_
    rotate_left
    (intro w0 hSw; go_simp; try (with_reducible rfl))
    (try simp only [Act.put, List.setIfInBounds_toArray, List.set_cons_zero, List.set_cons_succ])
    refine zAny_take (i := 9) (oi := { dst := some 57, op := Op.load 25 (Operand.tmp 56), type := 25, pos := "law.go:116", after := #[{ on := 8, ground := Ground.data }, { on := 16, ground := Ground.gcOnly Departure.lateStores }], guard := none }) (v := ?_) rfl (by kernel_rfl) (by kernel_rfl) (by kernel_rfl) (by kernel_rfl) (fun _ _ _ h => h) (Or.inl ⟨by rfl, ?_⟩) HS.out ?_
    rotate_left
    (intro w0 hSw; have c7 : w0.cell? ⟨w.heap.size, 7, none⟩ = some (.int .u64 y) := BK.cell hSw 7; clear hSw; go_simp; try (with_reducible rfl))
    (try simp only [Act.put, List.setIfInBounds_toArray, List.set_cons_zero, List.set_cons_succ])
    refine zAny_ready (rs := [10, 11, 12]) (by kernel_rfl) (by simp) (zReady.cons (o := { dst := some 3, op := Op.alloc 24, type := 0, pos := "law.go:116", after := #[], guard := none }) rfl (fun K hK => ?_) (zReady.cons (o := { dst := some 4, op := Op.alloc 24, type := 0, pos := "law.go:116", after := #[], guard := none }) rfl (fun K hK => ?_) (zReady.cons (o := { dst := some 5, op := Op.alloc 24, type := 0, pos := "law.go:116", after := #[], guard := none }) rfl (fun K hK => ?_) zReady.nil)))
    · go_simp
      refine hK.out _ _ (fun _ => HS.out.alloc _) (fun _ => ?_)
      clear hK K
      (try simp only [Act.put, List.setIfInBounds_toArray, List.set_cons_zero, List.set_cons_succ])
      refine zAny_ready (rs := [11, 12]) (by kernel_rfl) (by simp) (zReady.cons (o := { dst := some 4, op := Op.alloc 24, type := 0, pos := "law.go:116", after := #[], guard := none }) rfl (fun K hK => ?_) (zReady.cons (o := { dst := some 5, op := Op.alloc 24, type := 0, pos := "law.go:116", after := #[], guard := none }) rfl (fun K hK => ?_) zReady.nil))
      · go_simp
        refine hK.out _ _ (fun _ => (HS.out.alloc _).alloc _) (fun _ => ?_)
        clear hK K
        (try simp only [Act.put, List.setIfInBounds_toArray, List.set_cons_zero, List.set_cons_succ])
        refine zAny_ready (rs := [12]) (by kernel_rfl) (by simp) (zReady.cons (o := { dst := some 5, op := Op.alloc 24, type := 0, pos := "law.go:116", after := #[], guard := none }) rfl (fun K hK => ?_) zReady.nil)
        · go_simp
          refine hK.out _ _ (fun _ => ((HS.out.alloc _).alloc _).alloc _) (fun _ => ?_)
          clear hK K
          (try simp only [Act.put, List.setIfInBounds_toArray, List.set_cons_zero, List.set_cons_succ])
          have k3 : Hid (BK (((X.alloc (.cells #[.int .i64 0, .slice none 0 0] 24)).alloc (.cells #[.int .i64 0, .slice none 0 0] 24)).alloc (.cells #[.int .i64 0, .slice none 0 0] 24)) X.heap.size #[.int .i64 0, .slice none 0 0] 24) := hid (boxes3 X #[.int .i64 0, .slice none 0 0] #[.int .i64 0, .slice none 0 0] #[.int .i64 0, .slice none 0 0]).2.1
          have k4 : Hid (BK (((X.alloc (.cells #[.int .i64 0, .slice none 0 0] 24)).alloc (.cells #[.int .i64 0, .slice none 0 0] 24)).alloc (.cells #[.int .i64 0, .slice none 0 0] 24)) (X.heap.size + 1) #[.int .i64 0, .slice none 0 0] 24) := hid (boxes3 X #[.int .i64 0, .slice none 0 0] #[.int .i64 0, .slice none 0 0] #[.int .i64 0, .slice none 0 0]).2.2.1
          have k5 : Hid (BK (((X.alloc (.cells #[.int .i64 0, .slice none 0 0] 24)).alloc (.cells #[.int .i64 0, .slice none 0 0] 24)).alloc (.cells #[.int .i64 0, .slice none 0 0] 24)) (X.heap.size + 1 + 1) #[.int .i64 0, .slice none 0 0] 24) := hid (boxes3 X #[.int .i64 0, .slice none 0 0] #[.int .i64 0, .slice none 0 0] #[.int .i64 0, .slice none 0 0]).2.2.2
          have n34 : X.heap.size ≠ (X.heap.size + 1) := by omega
          have n35 : X.heap.size ≠ (X.heap.size + 1 + 1) := by omega
          have n45 : (X.heap.size + 1) ≠ (X.heap.size + 1 + 1) := by omega
          have m3 : X.heap.size ≠ w.heap.size := by omega
          have m4 : (X.heap.size + 1) ≠ w.heap.size := by omega
          have m5 : (X.heap.size + 1 + 1) ≠ w.heap.size := by omega
          replace HX : Hid (Below w1.heap.size w1 (((X.alloc (.cells #[.int .i64 0, .slice none 0 0] 24)).alloc (.cells #[.int .i64 0, .slice none 0 0] 24)).alloc (.cells #[.int .i64 0, .slice none 0 0] 24))) := hid (bal (bal (bal HX.out _) _) _)
          replace HS : Hid (BK (((X.alloc (.cells #[.int .i64 0, .slice none 0 0] 24)).alloc (.cells #[.int .i64 0, .slice none 0 0] 24)).alloc (.cells #[.int .i64 0, .slice none 0 0] 24)) w.heap.size (gcs N1 N2 N3 aA aB aC n1 n2 n3 cA cB cC x y) 61) := hid (((HS.out.alloc _).alloc _).alloc _)
          have q3 : w1.heap.size ≤ X.heap.size := by omega
          have q4 : w1.heap.size ≤ (X.heap.size + 1) := by omega
          have q5 : w1.heap.size ≤ (X.heap.size + 1 + 1) := by omega
          clear hXz hwz
          generalize (((X.alloc (.cells #[.int .i64 0, .slice none 0 0] 24)).alloc (.cells #[.int .i64 0, .slice none 0 0] 24)).alloc (.cells #[.int .i64 0, .slice none 0 0] 24)) = Y at *
          generalize X.heap.size + 1 + 1 = b5 at *
          generalize X.heap.size + 1 = b4 at *
          generalize X.heap.size = b3 at *
          refine zAny_ready (rs := [13]) (by kernel_rfl) (by simp) (zReady.cons (o := { dst := none, op := Op.store 24 (Operand.tmp 3) (Operand.tmp 49), type := 0, pos := "law.go:116", after := #[{ on := 10, ground := Ground.data }, { on := 1, ground := Ground.data }, { on := 0, ground := Ground.phase }, { on := 1, ground := Ground.phase }, { on := 2, ground := Ground.textOnly Departure.lateStores }, { on := 3, ground := Ground.textOnly Departure.lateStores }, { on := 4, ground := Ground.textOnly Departure.lateStores }, { on := 5, ground := Ground.textOnly Departure.lateStores }, { on := 6, ground := Ground.textOnly Departure.lateStores }, { on := 7, ground := Ground.textOnly Departure.lateStores }, { on := 8, ground := Ground.textOnly Departure.lateStores }, { on := 9, ground := Ground.textOnly Departure.lateStores }, { on := 10, ground := Ground.phase }, { on := 11, ground := Ground.phase }, { on := 12, ground := Ground.phase }], guard := none }) rfl (fun K hK => ?_) zReady.nil)
          have xc := k3.out.cell
          have xf := k3.out.free
          have xl := k3.out.lt
          go_simp
          refine hK.out _ _ (fun _ => (HS.out.far (c := b3) (by omega) 0 (.int .i64 N1)).far (c := b3) (by omega) 1 (.slice aA n1 cA)) (fun _ => ?_)
          clear hK K xc xf xl
          (try simp only [Act.put, List.setIfInBounds_toArray, List.set_cons_zero, List.set_cons_succ])
          replace HX : Hid (Below w1.heap.size w1 ((Y.setCell ⟨b3, 0, none⟩ (.int .i64 N1)).setCell ⟨b3, 1, none⟩ (.slice aA n1 cA))) := hid (bset (bset HX.out _ _ _ q3) _ _ _ q3)
          replace HS : Hid (BK ((Y.setCell ⟨b3, 0, none⟩ (.int .i64 N1)).setCell ⟨b3, 1, none⟩ (.slice aA n1 cA)) w.heap.size (gcs N1 N2 N3 aA aB aC n1 n2 n3 cA cB cC x y) 61) := hid ((HS.out.far (c := b3) (by omega) 0 (.int .i64 N1)).far (c := b3) (by omega) 1 (.slice aA n1 cA))
          replace k3 : Hid (BK ((Y.setCell ⟨b3, 0, none⟩ (.int .i64 N1)).setCell ⟨b3, 1, none⟩ (.slice aA n1 cA)) b3 #[(.int .i64 N1), (.slice aA n1 cA)] 24) := hid ((k3.out.set 0 (.int .i64 N1)).set 1 (.slice aA n1 cA))
          replace k4 : Hid (BK ((Y.setCell ⟨b3, 0, none⟩ (.int .i64 N1)).setCell ⟨b3, 1, none⟩ (.slice aA n1 cA)) b4 #[.int .i64 0, .slice none 0 0] 24) := hid ((k4.out.far (c := b3) (by omega) 0 (.int .i64 N1)).far (c := b3) (by omega) 1 (.slice aA n1 cA))
          replace k5 : Hid (BK ((Y.setCell ⟨b3, 0, none⟩ (.int .i64 N1)).setCell ⟨b3, 1, none⟩ (.slice aA n1 cA)) b5 #[.int .i64 0, .slice none 0 0] 24) := hid ((k5.out.far (c := b3) (by omega) 0 (.int .i64 N1)).far (c := b3) (by omega) 1 (.slice aA n1 cA))
          generalize ((Y.setCell ⟨b3, 0, none⟩ (.int .i64 N1)).setCell ⟨b3, 1, none⟩ (.slice aA n1 cA)) = Y1 at *
          refine zAny_ready (rs := [14]) (by kernel_rfl) (by simp) (zReady.cons (o := { dst := none, op := Op.store 24 (Operand.tmp 4) (Operand.tmp 51), type := 0, pos := "law.go:116", after := #[{ on := 11, ground := Ground.data }, { on := 3, ground := Ground.data }, { on := 13, ground := Ground.chain }, { on := 0, ground := Ground.phase }, { on := 1, ground := Ground.phase }, { on := 2, ground := Ground.phase }, { on := 3, ground := Ground.phase }, { on := 4, ground := Ground.textOnly Departure.lateStores }, { on := 5, ground := Ground.textOnly Departure.lateStores }, { on := 6, ground := Ground.textOnly Departure.lateStores }, { on := 7, ground := Ground.textOnly Departure.lateStores }, { on := 8, ground := Ground.textOnly Departure.lateStores }, { on := 9, ground := Ground.textOnly Departure.lateStores }, { on := 10, ground := Ground.phase }, { on := 11, ground := Ground.phase }, { on := 12, ground := Ground.phase }, { on := 13, ground := Ground.phase }], guard := none }) rfl (fun K hK => ?_) zReady.nil)
          have xc := k4.out.cell
          have xf := k4.out.free
          have xl := k4.out.lt
          go_simp
          refine hK.out _ _ (fun _ => (HS.out.far (c := b4) (by omega) 0 (.int .i64 N2)).far (c := b4) (by omega) 1 (.slice aB n2 cB)) (fun _ => ?_)
          clear hK K xc xf xl
          (try simp only [Act.put, List.setIfInBounds_toArray, List.set_cons_zero, List.set_cons_succ])
          replace HX : Hid (Below w1.heap.size w1 ((Y1.setCell ⟨b4, 0, none⟩ (.int .i64 N2)).setCell ⟨b4, 1, none⟩ (.slice aB n2 cB))) := hid (bset (bset HX.out _ _ _ q4) _ _ _ q4)
          replace HS : Hid (BK ((Y1.setCell ⟨b4, 0, none⟩ (.int .i64 N2)).setCell ⟨b4, 1, none⟩ (.slice aB n2 cB)) w.heap.size (gcs N1 N2 N3 aA aB aC n1 n2 n3 cA cB cC x y) 61) := hid ((HS.out.far (c := b4) (by omega) 0 (.int .i64 N2)).far (c := b4) (by omega) 1 (.slice aB n2 cB))
          replace k3 : Hid (BK ((Y1.setCell ⟨b4, 0, none⟩ (.int .i64 N2)).setCell ⟨b4, 1, none⟩ (.slice aB n2 cB)) b3 #[(.int .i64 N1), (.slice aA n1 cA)] 24) := hid ((k3.out.far (c := b4) (by omega) 0 (.int .i64 N2)).far (c := b4) (by omega) 1 (.slice aB n2 cB))
          replace k4 : Hid (BK ((Y1.setCell ⟨b4, 0, none⟩ (.int .i64 N2)).setCell ⟨b4, 1, none⟩ (.slice aB n2 cB)) b4 #[(.int .i64 N2), (.slice aB n2 cB)] 24) := hid ((k4.out.set 0 (.int .i64 N2)).set 1 (.slice aB n2 cB))
          replace k5 : Hid (BK ((Y1.setCell ⟨b4, 0, none⟩ (.int .i64 N2)).setCell ⟨b4, 1, none⟩ (.slice aB n2 cB)) b5 #[.int .i64 0, .slice none 0 0] 24) := hid ((k5.out.far (c := b4) (by omega) 0 (.int .i64 N2)).far (c := b4) (by omega) 1 (.slice aB n2 cB))
          generalize ((Y1.setCell ⟨b4, 0, none⟩ (.int .i64 N2)).setCell ⟨b4, 1, none⟩ (.slice aB n2 cB)) = Y2 at *
          refine zAny_ready (rs := [15]) (by kernel_rfl) (by simp) (zReady.cons (o := { dst := none, op := Op.store 24 (Operand.tmp 5) (Operand.tmp 53), type := 0, pos := "law.go:116", after := #[{ on := 12, ground := Ground.data }, { on := 5, ground := Ground.data }, { on := 14, ground := Ground.chain }, { on := 0, ground := Ground.phase }, { on := 1, ground := Ground.phase }, { on := 2, ground := Ground.phase }, { on := 3, ground := Ground.phase }, { on := 4, ground := Ground.phase }, { on := 5, ground := Ground.phase }, { on := 6, ground := Ground.textOnly Departure.lateStores }, { on := 7, ground := Ground.textOnly Departure.lateStores }, { on := 8, ground := Ground.textOnly Departure.lateStores }, { on := 9, ground := Ground.textOnly Departure.lateStores }, { on := 10, ground := Ground.phase }, { on := 11, ground := Ground.phase }, { on := 12, ground := Ground.phase }, { on := 13, ground := Ground.phase }, { on := 14, ground := Ground.phase }], guard := none }) rfl (fun K hK => ?_) zReady.nil)
          have xc := k5.out.cell
          have xf := k5.out.free
          have xl := k5.out.lt
          go_simp
          refine hK.out _ _ (fun _ => (HS.out.far (c := b5) (by omega) 0 (.int .i64 N3)).far (c := b5) (by omega) 1 (.slice aC n3 cC)) (fun _ => ?_)
          clear hK K xc xf xl
          (try simp only [Act.put, List.setIfInBounds_toArray, List.set_cons_zero, List.set_cons_succ])
          replace HX : Hid (Below w1.heap.size w1 ((Y2.setCell ⟨b5, 0, none⟩ (.int .i64 N3)).setCell ⟨b5, 1, none⟩ (.slice aC n3 cC))) := hid (bset (bset HX.out _ _ _ q5) _ _ _ q5)
          replace HS : Hid (BK ((Y2.setCell ⟨b5, 0, none⟩ (.int .i64 N3)).setCell ⟨b5, 1, none⟩ (.slice aC n3 cC)) w.heap.size (gcs N1 N2 N3 aA aB aC n1 n2 n3 cA cB cC x y) 61) := hid ((HS.out.far (c := b5) (by omega) 0 (.int .i64 N3)).far (c := b5) (by omega) 1 (.slice aC n3 cC))
          replace k3 : Hid (BK ((Y2.setCell ⟨b5, 0, none⟩ (.int .i64 N3)).setCell ⟨b5, 1, none⟩ (.slice aC n3 cC)) b3 #[(.int .i64 N1), (.slice aA n1 cA)] 24) := hid ((k3.out.far (c := b5) (by omega) 0 (.int .i64 N3)).far (c := b5) (by omega) 1 (.slice aC n3 cC))
          replace k4 : Hid (BK ((Y2.setCell ⟨b5, 0, none⟩ (.int .i64 N3)).setCell ⟨b5, 1, none⟩ (.slice aC n3 cC)) b4 #[(.int .i64 N2), (.slice aB n2 cB)] 24) := hid ((k4.out.far (c := b5) (by omega) 0 (.int .i64 N3)).far (c := b5) (by omega) 1 (.slice aC n3 cC))
          replace k5 : Hid (BK ((Y2.setCell ⟨b5, 0, none⟩ (.int .i64 N3)).setCell ⟨b5, 1, none⟩ (.slice aC n3 cC)) b5 #[(.int .i64 N3), (.slice aC n3 cC)] 24) := hid ((k5.out.set 0 (.int .i64 N3)).set 1 (.slice aC n3 cC))
          generalize ((Y2.setCell ⟨b5, 0, none⟩ (.int .i64 N3)).setCell ⟨b5, 1, none⟩ (.slice aC n3 cC)) = Y3 at *
          refine zAny_ready (rs := [16]) (by kernel_rfl) (by simp) (zReady.cons (o := { dst := some 6, op := Op.assign (Operand.tmp 55), type := 25, pos := "law.go:116", after := #[{ on := 7, ground := Ground.data }, { on := 15, ground := Ground.chain }, { on := 0, ground := Ground.phase }, { on := 1, ground := Ground.phase }, { on := 2, ground := Ground.phase }, { on := 3, ground := Ground.phase }, { on := 4, ground := Ground.phase }, { on := 5, ground := Ground.phase }, { on := 6, ground := Ground.phase }, { on := 7, ground := Ground.phase }, { on := 8, ground := Ground.textOnly Departure.lateStores }, { on := 9, ground := Ground.textOnly Departure.lateStores }, { on := 10, ground := Ground.phase }, { on := 11, ground := Ground.phase }, { on := 12, ground := Ground.phase }, { on := 13, ground := Ground.phase }, { on := 14, ground := Ground.phase }, { on := 15, ground := Ground.phase }], guard := none }) rfl (fun K hK => ?_) zReady.nil)
          go_simp
          refine hK.out _ _ (fun h => HS.out) (fun _ => ?_)
          clear hK K
          (try simp only [Act.put, List.setIfInBounds_toArray, List.set_cons_zero, List.set_cons_succ])
          refine zAny_ready (rs := [17]) (by kernel_rfl) (by simp) (zReady.cons (o := { dst := some 7, op := Op.assign (Operand.tmp 57), type := 25, pos := "law.go:116", after := #[{ on := 9, ground := Ground.data }, { on := 16, ground := Ground.chain }, { on := 0, ground := Ground.phase }, { on := 1, ground := Ground.phase }, { on := 2, ground := Ground.phase }, { on := 3, ground := Ground.phase }, { on := 4, ground := Ground.phase }, { on := 5, ground := Ground.phase }, { on := 6, ground := Ground.phase }, { on := 7, ground := Ground.phase }, { on := 8, ground := Ground.phase }, { on := 9, ground := Ground.phase }, { on := 10, ground := Ground.phase }, { on := 11, ground := Ground.phase }, { on := 12, ground := Ground.phase }, { on := 13, ground := Ground.phase }, { on := 14, ground := Ground.phase }, { on := 15, ground := Ground.phase }, { on := 16, ground := Ground.phase }], guard := none }) rfl (fun K hK => ?_) zReady.nil)
          go_simp
          refine hK.out _ _ (fun h => absurd rfl h) (fun _ => ?_)
          clear hK K
          (try simp only [Act.put, List.setIfInBounds_toArray, List.set_cons_zero, List.set_cons_succ])
          refine zAny_done (by kernel_rfl) ?_ _
          refine NoPanic.normal ?_
          go_wp2
          go_meet
          case rel => exact ⟨b3, b4, b5, HX.out, k3.out, k4.out, k5.out, rfl, rfl, rfl, rfl, rfl⟩
      · go_simp
        refine hK.out _ _ (fun _ => (HS.out.alloc _).alloc _) (fun _ => ?_)
        clear hK K
        (try simp only [Act.put, List.setIfInBounds_toArray, List.set_cons_zero, List.set_cons_succ])
        refine zAny_ready (rs := [11]) (by kernel_rfl) (by simp) (zReady.cons (o := { dst := some 4, op := Op.alloc 24, type := 0, pos := "law.go:116", after := #[], guard := none }) rfl (fun K hK => ?_) zReady.nil)
        · go_simp
          refine hK.out _ _ (fun _ => ((HS.out.alloc _).alloc _).alloc _) (fun _ => ?_)
          clear hK K
          (try simp only [Act.put, List.setIfInBounds_toArray, List.set_cons_zero, List.set_cons_succ])
          have k3 : Hid (BK (((X.alloc (.cells #[.int .i64 0, .slice none 0 0] 24)).alloc (.cells #[.int .i64 0, .slice none 0 0] 24)).alloc (.cells #[.int .i64 0, .slice none 0 0] 24)) X.heap.size #[.int .i64 0, .slice none 0 0] 24) := hid (boxes3 X #[.int .i64 0, .slice none 0 0] #[.int .i64 0, .slice none 0 0] #[.int .i64 0, .slice none 0 0]).2.1
          have k5 : Hid (BK (((X.alloc (.cells #[.int .i64 0, .slice none 0 0] 24)).alloc (.cells #[.int .i64 0, .slice none 0 0] 24)).alloc (.cells #[.int .i64 0, .slice none 0 0] 24)) (X.heap.size + 1) #[.int .i64 0, .slice none 0 0] 24) := hid (boxes3 X #[.int .i64 0, .slice none 0 0] #[.int .i64 0, .slice none 0 0] #[.int .i64 0, .slice none 0 0]).2.2.1
          have k4 : Hid (BK (((X.alloc (.cells #[.int .i64 0, .slice none 0 0] 24)).alloc (.cells #[.int .i64 0, .slice none 0 0] 24)).alloc (.cells #[.int .i64 0, .slice none 0 0] 24)) (X.heap.size + 1 + 1) #[.int .i64 0, .slice none 0 0] 24) := hid (boxes3 X #[.int .i64 0, .slice none 0 0] #[.int .i64 0, .slice none 0 0] #[.int .i64 0, .slice none 0 0]).2.2.2
          have n34 : X.heap.size ≠ (X.heap.size + 1 + 1) := by omega
          have n35 : X.heap.size ≠ (X.heap.size + 1) := by omega
          have n45 : (X.heap.size + 1 + 1) ≠ (X.heap.size + 1) := by omega
          have m3 : X.heap.size ≠ w.heap.size := by omega
          have m4 : (X.heap.size + 1 + 1) ≠ w.heap.size := by omega
          have m5 : (X.heap.size + 1) ≠ w.heap.size := by omega
          replace HX : Hid (Below w1.heap.size w1 (((X.alloc (.cells #[.int .i64 0, .slice none 0 0] 24)).alloc (.cells #[.int .i64 0, .slice none 0 0] 24)).alloc (.cells #[.int .i64 0, .slice none 0 0] 24))) := hid (bal (bal (bal HX.out _) _) _)
          replace HS : Hid (BK (((X.alloc (.cells #[.int .i64 0, .slice none 0 0] 24)).alloc (.cells #[.int .i64 0, .slice none 0 0] 24)).alloc (.cells #[.int .i64 0, .slice none 0 0] 24)) w.heap.size (gcs N1 N2 N3 aA aB aC n1 n2 n3 cA cB cC x y) 61) := hid (((HS.out.alloc _).alloc _).alloc _)
          have q3 : w1.heap.size ≤ X.heap.size := by omega
          have q4 : w1.heap.size ≤ (X.heap.size + 1 + 1) := by omega
          have q5 : w1.heap.size ≤ (X.heap.size + 1) := by omega
          clear hXz hwz
          generalize (((X.alloc (.cells #[.int .i64 0, .slice none 0 0] 24)).alloc (.cells #[.int .i64 0, .slice none 0 0] 24)).alloc (.cells #[.int .i64 0, .slice none 0 0] 24)) = Y at *
          generalize X.heap.size + 1 + 1 = b4 at *
          generalize X.heap.size + 1 = b5 at *
          generalize X.heap.size = b3 at *
          refine zAny_ready (rs := [13]) (by kernel_rfl) (by simp) (zReady.cons (o := { dst := none, op := Op.store 24 (Operand.tmp 3) (Operand.tmp 49), type := 0, pos := "law.go:116", after := #[{ on := 10, ground := Ground.data }, { on := 1, ground := Ground.data }, { on := 0, ground := Ground.phase }, { on := 1, ground := Ground.phase }, { on := 2, ground := Ground.textOnly Departure.lateStores }, { on := 3, ground := Ground.textOnly Departure.lateStores }, { on := 4, ground := Ground.textOnly Departure.lateStores }, { on := 5, ground := Ground.textOnly Departure.lateStores }, { on := 6, ground := Ground.textOnly Departure.lateStores }, { on := 7, ground := Ground.textOnly Departure.lateStores }, { on := 8, ground := Ground.textOnly Departure.lateStores }, { on := 9, ground := Ground.textOnly Departure.lateStores }, { on := 10, ground := Ground.phase }, { on := 11, ground := Ground.phase }, { on := 12, ground := Ground.phase }], guard := none }) rfl (fun K hK => ?_) zReady.nil)
          have xc := k3.out.cell
          have xf := k3.out.free
          have xl := k3.out.lt
          go_simp
          refine hK.out _ _ (fun _ => (HS.out.far (c := b3) (by omega) 0 (.int .i64 N1)).far (c := b3) (by omega) 1 (.slice aA n1 cA)) (fun _ => ?_)
          clear hK K xc xf xl
          (try simp only [Act.put, List.setIfInBounds_toArray, List.set_cons_zero, List.set_cons_succ])
          replace HX : Hid (Below w1.heap.size w1 ((Y.setCell ⟨b3, 0, none⟩ (.int .i64 N1)).setCell ⟨b3, 1, none⟩ (.slice aA n1 cA))) := hid (bset (bset HX.out _ _ _ q3) _ _ _ q3)
          replace HS : Hid (BK ((Y.setCell ⟨b3, 0, none⟩ (.int .i64 N1)).setCell ⟨b3, 1, none⟩ (.slice aA n1 cA)) w.heap.size (gcs N1 N2 N3 aA aB aC n1 n2 n3 cA cB cC x y) 61) := hid ((HS.out.far (c := b3) (by omega) 0 (.int .i64 N1)).far (c := b3) (by omega) 1 (.slice aA n1 cA))
          replace k3 : Hid (BK ((Y.setCell ⟨b3, 0, none⟩ (.int .i64 N1)).setCell ⟨b3, 1, none⟩ (.slice aA n1 cA)) b3 #[(.int .i64 N1), (.slice aA n1 cA)] 24) := hid ((k3.out.set 0 (.int .i64 N1)).set 1 (.slice aA n1 cA))
          replace k4 : Hid (BK ((Y.setCell ⟨b3, 0, none⟩ (.int .i64 N1)).setCell ⟨b3, 1, none⟩ (.slice aA n1 cA)) b4 #[.int .i64 0, .slice none 0 0] 24) := hid ((k4.out.far (c := b3) (by omega) 0 (.int .i64 N1)).far (c := b3) (by omega) 1 (.slice aA n1 cA))
          replace k5 : Hid (BK ((Y.setCell ⟨b3, 0, none⟩ (.int .i64 N1)).setCell ⟨b3, 1, none⟩ (.slice aA n1 cA)) b5 #[.int .i64 0, .slice none 0 0] 24) := hid ((k5.out.far (c := b3) (by omega) 0 (.int .i64 N1)).far (c := b3) (by omega) 1 (.slice aA n1 cA))
          generalize ((Y.setCell ⟨b3, 0, none⟩ (.int .i64 N1)).setCell ⟨b3, 1, none⟩ (.slice aA n1 cA)) = Y1 at *
          refine zAny_ready (rs := [14]) (by kernel_rfl) (by simp) (zReady.cons (o := { dst := none, op := Op.store 24 (Operand.tmp 4) (Operand.tmp 51), type := 0, pos := "law.go:116", after := #[{ on := 11, ground := Ground.data }, { on := 3, ground := Ground.data }, { on := 13, ground := Ground.chain }, { on := 0, ground := Ground.phase }, { on := 1, ground := Ground.phase }, { on := 2, ground := Ground.phase }, { on := 3, ground := Ground.phase }, { on := 4, ground := Ground.textOnly Departure.lateStores }, { on := 5, ground := Ground.textOnly Departure.lateStores }, { on := 6, ground := Ground.textOnly Departure.lateStores }, { on := 7, ground := Ground.textOnly Departure.lateStores }, { on := 8, ground := Ground.textOnly Departure.lateStores }, { on := 9, ground := Ground.textOnly Departure.lateStores }, { on := 10, ground := Ground.phase }, { on := 11, ground := Ground.phase }, { on := 12, ground := Ground.phase }, { on := 13, ground := Ground.phase }], guard := none }) rfl (fun K hK => ?_) zReady.nil)
          have xc := k4.out.cell
          have xf := k4.out.free
          have xl := k4.out.lt
          go_simp
          refine hK.out _ _ (fun _ => (HS.out.far (c := b4) (by omega) 0 (.int .i64 N2)).far (c := b4) (by omega) 1 (.slice aB n2 cB)) (fun _ => ?_)
          clear hK K xc xf xl
          (try simp only [Act.put, List.setIfInBounds_toArray, List.set_cons_zero, List.set_cons_succ])
          replace HX : Hid (Below w1.heap.size w1 ((Y1.setCell ⟨b4, 0, none⟩ (.int .i64 N2)).setCell ⟨b4, 1, none⟩ (.slice aB n2 cB))) := hid (bset (bset HX.out _ _ _ q4) _ _ _ q4)
          replace HS : Hid (BK ((Y1.setCell ⟨b4, 0, none⟩ (.int .i64 N2)).setCell ⟨b4, 1, none⟩ (.slice aB n2 cB)) w.heap.size (gcs N1 N2 N3 aA aB aC n1 n2 n3 cA cB cC x y) 61) := hid ((HS.out.far (c := b4) (by omega) 0 (.int .i64 N2)).far (c := b4) (by omega) 1 (.slice aB n2 cB))
          replace k3 : Hid (BK ((Y1.setCell ⟨b4, 0, none⟩ (.int .i64 N2)).setCell ⟨b4, 1, none⟩ (.slice aB n2 cB)) b3 #[(.int .i64 N1), (.slice aA n1 cA)] 24) := hid ((k3.out.far (c := b4) (by omega) 0 (.int .i64 N2)).far (c := b4) (by omega) 1 (.slice aB n2 cB))
          replace k4 : Hid (BK ((Y1.setCell ⟨b4, 0, none⟩ (.int .i64 N2)).setCell ⟨b4, 1, none⟩ (.slice aB n2 cB)) b4 #[(.int .i64 N2), (.slice aB n2 cB)] 24) := hid ((k4.out.set 0 (.int .i64 N2)).set 1 (.slice aB n2 cB))
          replace k5 : Hid (BK ((Y1.setCell ⟨b4, 0, none⟩ (.int .i64 N2)).setCell ⟨b4, 1, none⟩ (.slice aB n2 cB)) b5 #[.int .i64 0, .slice none 0 0] 24) := hid ((k5.out.far (c := b4) (by omega) 0 (.int .i64 N2)).far (c := b4) (by omega) 1 (.slice aB n2 cB))
          generalize ((Y1.setCell ⟨b4, 0, none⟩ (.int .i64 N2)).setCell ⟨b4, 1, none⟩ (.slice aB n2 cB)) = Y2 at *
          refine zAny_ready (rs := [15]) (by kernel_rfl) (by simp) (zReady.cons (o := { dst := none, op := Op.store 24 (Operand.tmp 5) (Operand.tmp 53), type := 0, pos := "law.go:116", after := #[{ on := 12, ground := Ground.data }, { on := 5, ground := Ground.data }, { on := 14, ground := Ground.chain }, { on := 0, ground := Ground.phase }, { on := 1, ground := Ground.phase }, { on := 2, ground := Ground.phase }, { on := 3, ground := Ground.phase }, { on := 4, ground := Ground.phase }, { on := 5, ground := Ground.phase }, { on := 6, ground := Ground.textOnly Departure.lateStores }, { on := 7, ground := Ground.textOnly Departure.lateStores }, { on := 8, ground := Ground.textOnly Departure.lateStores }, { on := 9, ground := Ground.textOnly Departure.lateStores }, { on := 10, ground := Ground.phase }, { on := 11, ground := Ground.phase }, { on := 12, ground := Ground.phase }, { on := 13, ground := Ground.phase }, { on := 14, ground := Ground.phase }], guard := none }) rfl (fun K hK => ?_) zReady.nil)
          have xc := k5.out.cell
          have xf := k5.out.free
          have xl := k5.out.lt
          go_simp
          refine hK.out _ _ (fun _ => (HS.out.far (c := b5) (by omega) 0 (.int .i64 N3)).far (c := b5) (by omega) 1 (.slice aC n3 cC)) (fun _ => ?_)
          clear hK K xc xf xl
          (try simp only [Act.put, List.setIfInBounds_toArray, List.set_cons_zero, List.set_cons_succ])
          replace HX : Hid (Below w1.heap.size w1 ((Y2.setCell ⟨b5, 0, none⟩ (.int .i64 N3)).setCell ⟨b5, 1, none⟩ (.slice aC n3 cC))) := hid (bset (bset HX.out _ _ _ q5) _ _ _ q5)
          replace HS : Hid (BK ((Y2.setCell ⟨b5, 0, none⟩ (.int .i64 N3)).setCell ⟨b5, 1, none⟩ (.slice aC n3 cC)) w.heap.size (gcs N1 N2 N3 aA aB aC n1 n2 n3 cA cB cC x y) 61) := hid ((HS.out.far (c := b5) (by omega) 0 (.int .i64 N3)).far (c := b5) (by omega) 1 (.slice aC n3 cC))
          replace k3 : Hid (BK ((Y2.setCell ⟨b5, 0, none⟩ (.int .i64 N3)).setCell ⟨b5, 1, none⟩ (.slice aC n3 cC)) b3 #[(.int .i64 N1), (.slice aA n1 cA)] 24) := hid ((k3.out.far (c := b5) (by omega) 0 (.int .i64 N3)).far (c := b5) (by omega) 1 (.slice aC n3 cC))
          replace k4 : Hid (BK ((Y2.setCell ⟨b5, 0, none⟩ (.int .i64 N3)).setCell ⟨b5, 1, none⟩ (.slice aC n3 cC)) b4 #[(.int .i64 N2), (.slice aB n2 cB)] 24) := hid ((k4.out.far (c := b5) (by omega) 0 (.int .i64 N3)).far (c := b5) (by omega) 1 (.slice aC n3 cC))
          replace k5 : Hid (BK ((Y2.setCell ⟨b5, 0, none⟩ (.int .i64 N3)).setCell ⟨b5, 1, none⟩ (.slice aC n3 cC)) b5 #[(.int .i64 N3), (.slice aC n3 cC)] 24) := hid ((k5.out.set 0 (.int .i64 N3)).set 1 (.slice aC n3 cC))
          generalize ((Y2.setCell ⟨b5, 0, none⟩ (.int .i64 N3)).setCell ⟨b5, 1, none⟩ (.slice aC n3 cC)) = Y3 at *
          refine zAny_ready (rs := [16]) (by kernel_rfl) (by simp) (zReady.cons (o := { dst := some 6, op := Op.assign (Operand.tmp 55), type := 25, pos := "law.go:116", after := #[{ on := 7, ground := Ground.data }, { on := 15, ground := Ground.chain }, { on := 0, ground := Ground.phase }, { on := 1, ground := Ground.phase }, { on := 2, ground := Ground.phase }, { on := 3, ground := Ground.phase }, { on := 4, ground := Ground.phase }, { on := 5, ground := Ground.phase }, { on := 6, ground := Ground.phase }, { on := 7, ground := Ground.phase }, { on := 8, ground := Ground.textOnly Departure.lateStores }, { on := 9, ground := Ground.textOnly Departure.lateStores }, { on := 10, ground := Ground.phase }, { on := 11, ground := Ground.phase }, { on := 12, ground := Ground.phase }, { on := 13, ground := Ground.phase }, { on := 14, ground := Ground.phase }, { on := 15, ground := Ground.phase }], guard := none }) rfl (fun K hK => ?_) zReady.nil)
          go_simp
          refine hK.out _ _ (fun h => HS.out) (fun _ => ?_)
          clear hK K
          (try simp only [Act.put, List.setIfInBounds_toArray, List.set_cons_zero, List.set_cons_succ])
          refine zAny_ready (rs := [17]) (by kernel_rfl) (by simp) (zReady.cons (o := { dst := some 7, op := Op.assign (Operand.tmp 57), type := 25, pos := "law.go:116", after := #[{ on := 9, ground := Ground.data }, { on := 16, ground := Ground.chain }, { on := 0, ground := Ground.phase }, { on := 1, ground := Ground.phase }, { on := 2, ground := Ground.phase }, { on := 3, ground := Ground.phase }, { on := 4, ground := Ground.phase }, { on := 5, ground := Ground.phase }, { on := 6, ground := Ground.phase }, { on := 7, ground := Ground.phase }, { on := 8, ground := Ground.phase }, { on := 9, ground := Ground.phase }, { on := 10, ground := Ground.phase }, { on := 11, ground := Ground.phase }, { on := 12, ground := Ground.phase }, { on := 13, ground := Ground.phase }, { on := 14, ground := Ground.phase }, { on := 15, ground := Ground.phase }, { on := 16, ground := Ground.phase }], guard := none }) rfl (fun K hK => ?_) zReady.nil)
          go_simp
          refine hK.out _ _ (fun h => absurd rfl h) (fun _ => ?_)
          clear hK K
          (try simp only [Act.put, List.setIfInBounds_toArray, List.set_cons_zero, List.set_cons_succ])
          refine zAny_done (by kernel_rfl) ?_ _
          refine NoPanic.normal ?_
          go_wp2
          go_meet
          case rel => exact ⟨b3, b4, b5, HX.out, k3.out, k4.out, k5.out, rfl, rfl, rfl, rfl, rfl⟩
    · go_simp
      refine hK.out _ _ (fun _ => HS.out.alloc _) (fun _ => ?_)
      clear hK K
      (try simp only [Act.put, List.setIfInBounds_toArray, List.set_cons_zero, List.set_cons_succ])
      refine zAny_ready (rs := [10, 12]) (by kernel_rfl) (by simp) (zReady.cons (o := { dst := some 3, op := Op.alloc 24, type := 0, pos := "law.go:116", after := #[], guard := none }) rfl (fun K hK => ?_) (zReady.cons (o := { dst := some 5, op := Op.alloc 24, type := 0, pos := "law.go:116", after := #[], guard := none }) rfl (fun K hK => ?_) zReady.nil))
      · go_simp
        refine hK.out _ _ (fun _ => (HS.out.alloc _).alloc _) (fun _ => ?_)
        clear hK K
        (try simp only [Act.put, List.setIfInBounds_toArray, List.set_cons_zero, List.set_cons_succ])
        refine zAny_ready (rs := [12]) (by kernel_rfl) (by simp) (zReady.cons (o := { dst := some 5, op := Op.alloc 24, type := 0, pos := "law.go:116", after := #[], guard := none }) rfl (fun K hK => ?_) zReady.nil)
        · go_simp
          refine hK.out _ _ (fun _ => ((HS.out.alloc _).alloc _).alloc _) (fun _ => ?_)
          clear hK K
          (try simp only [Act.put, List.setIfInBounds_toArray, List.set_cons_zero, List.set_cons_succ])
          have k4 : Hid (BK (((X.alloc (.cells #[.int .i64 0, .slice none 0 0] 24)).alloc (.cells #[.int .i64 0, .slice none 0 0] 24)).alloc (.cells #[.int .i64 0, .slice none 0 0] 24)) X.heap.size #[.int .i64 0, .slice none 0 0] 24) := hid (boxes3 X #[.int .i64 0, .slice none 0 0] #[.int .i64 0, .slice none 0 0] #[.int .i64 0, .slice none 0 0]).2.1
          have k3 : Hid (BK (((X.alloc (.cells #[.int .i64 0, .slice none 0 0] 24)).alloc (.cells #[.int .i64 0, .slice none 0 0] 24)).alloc (.cells #[.int .i64 0, .slice none 0 0] 24)) (X.heap.size + 1) #[.int .i64 0, .slice none 0 0] 24) := hid (boxes3 X #[.int .i64 0, .slice none 0 0] #[.int .i64 0, .slice none 0 0] #[.int .i64 0, .slice none 0 0]).2.2.1
          have k5 : Hid (BK (((X.alloc (.cells #[.int .i64 0, .slice none 0 0] 24)).alloc (.cells #[.int .i64 0, .slice none 0 0] 24)).alloc (.cells #[.int .i64 0, .slice none 0 0] 24)) (X.heap.size + 1 + 1) #[.int .i64 0, .slice none 0 0] 24) := hid (boxes3 X #[.int .i64 0, .slice none 0 0] #[.int .i64 0, .slice none 0 0] #[.int .i64 0, .slice none 0 0]).2.2.2
          have n34 : (X.heap.size + 1) ≠ X.heap.size := by omega
          have n35 : (X.heap.size + 1) ≠ (X.heap.size + 1 + 1) := by omega
          have n45 : X.heap.size ≠ (X.heap.size + 1 + 1) := by omega
          have m3 : (X.heap.size + 1) ≠ w.heap.size := by omega
          have m4 : X.heap.size ≠ w.heap.size := by omega
          have m5 : (X.heap.size + 1 + 1) ≠ w.heap.size := by omega
          replace HX : Hid (Below w1.heap.size w1 (((X.alloc (.cells #[.int .i64 0, .slice none 0 0] 24)).alloc (.cells #[.int .i64 0, .slice none 0 0] 24)).alloc (.cells #[.int .i64 0, .slice none 0 0] 24))) := hid (bal (bal (bal HX.out _) _) _)
          replace HS : Hid (BK (((X.alloc (.cells #[.int .i64 0, .slice none 0 0] 24)).alloc (.cells #[.int .i64 0, .slice none 0 0] 24)).alloc (.cells #[.int .i64 0, .slice none 0 0] 24)) w.heap.size (gcs N1 N2 N3 aA aB aC n1 n2 n3 cA cB cC x y) 61) := hid (((HS.out.alloc _).alloc _).alloc _)
          have q3 : w1.heap.size ≤ (X.heap.size + 1) := by omega
          have q4 : w1.heap.size ≤ X.heap.size := by omega
          have q5 : w1.heap.size ≤ (X.heap.size + 1 + 1) := by omega
          clear hXz hwz
          generalize (((X.alloc (.cells #[.int .i64 0, .slice none 0 0] 24)).alloc (.cells #[.int .i64 0, .slice none 0 0] 24)).alloc (.cells #[.int .i64 0, .slice none 0 0] 24)) = Y at *
          generalize X.heap.size + 1 + 1 = b5 at *
          generalize X.heap.size + 1 = b3 at *
          generalize X.heap.size = b4 at *
          refine zAny_ready (rs := [13]) (by kernel_rfl) (by simp) (zReady.cons (o := { dst := none, op := Op.store 24 (Operand.tmp 3) (Operand.tmp 49), type := 0, pos := "law.go:116", after := #[{ on := 10, ground := Ground.data }, { on := 1, ground := Ground.data }, { on := 0, ground := Ground.phase }, { on := 1, ground := Ground.phase }, { on := 2, ground := Ground.textOnly Departure.lateStores }, { on := 3, ground := Ground.textOnly Departure.lateStores }, { on := 4, ground := Ground.textOnly Departure.lateStores }, { on := 5, ground := Ground.textOnly Departure.lateStores }, { on := 6, ground := Ground.textOnly Departure.lateStores }, { on := 7, ground := Ground.textOnly Departure.lateStores }, { on := 8, ground := Ground.textOnly Departure.lateStores }, { on := 9, ground := Ground.textOnly Departure.lateStores }, { on := 10, ground := Ground.phase }, { on := 11, ground := Ground.phase }, { on := 12, ground := Ground.phase }], guard := none }) rfl (fun K hK => ?_) zReady.nil)
          have xc := k3.out.cell
          have xf := k3.out.free
          have xl := k3.out.lt
          go_simp
          refine hK.out _ _ (fun _ => (HS.out.far (c := b3) (by omega) 0 (.int .i64 N1)).far (c := b3) (by omega) 1 (.slice aA n1 cA)) (fun _ => ?_)
          clear hK K xc xf xl
          (try simp only [Act.put, List.setIfInBounds_toArray, List.set_cons_zero, List.set_cons_succ])
          replace HX : Hid (Below w1.heap.size w1 ((Y.setCell ⟨b3, 0, none⟩ (.int .i64 N1)).setCell ⟨b3, 1, none⟩ (.slice aA n1 cA))) := hid (bset (bset HX.out _ _ _ q3) _ _ _ q3)
          replace HS : Hid (BK ((Y.setCell ⟨b3, 0, none⟩ (.int .i64 N1)).setCell ⟨b3, 1, none⟩ (.slice aA n1 cA)) w.heap.size (gcs N1 N2 N3 aA aB aC n1 n2 n3 cA cB cC x y) 61) := hid ((HS.out.far (c := b3) (by omega) 0 (.int .i64 N1)).far (c := b3) (by omega) 1 (.slice aA n1 cA))
          replace k3 : Hid (BK ((Y.setCell ⟨b3, 0, none⟩ (.int .i64 N1)).setCell ⟨b3, 1, none⟩ (.slice aA n1 cA)) b3 #[(.int .i64 N1), (.slice aA n1 cA)] 24) := hid ((k3.out.set 0 (.int .i64 N1)).set 1 (.slice aA n1 cA))
          replace k4 : Hid (BK ((Y.setCell ⟨b3, 0, none⟩ (.int .i64 N1)).setCell ⟨b3, 1, none⟩ (.slice aA n1 cA)) b4 #[.int .i64 0, .slice none 0 0] 24) := hid ((k4.out.far (c := b3) (by omega) 0 (.int .i64 N1)).far (c := b3) (by omega) 1 (.slice aA n1 cA))
          replace k5 : Hid (BK ((Y.setCell ⟨b3, 0, none⟩ (.int .i64 N1)).setCell ⟨b3, 1, none⟩ (.slice aA n1 cA)) b5 #[.int .i64 0, .slice none 0 0] 24) := hid ((k5.out.far (c := b3) (by omega) 0 (.int .i64 N1)).far (c := b3) (by omega) 1 (.slice aA n1 cA))
          generalize ((Y.setCell ⟨b3, 0, none⟩ (.int .i64 N1)).setCell ⟨b3, 1, none⟩ (.slice aA n1 cA)) = Y1 at *
          refine zAny_ready (rs := [14]) (by kernel_rfl) (by simp) (zReady.cons (o := { dst := none, op := Op.store 24 (Operand.tmp 4) (Operand.tmp 51), type := 0, pos := "law.go:116", after := #[{ on := 11, ground := Ground.data }, { on := 3, ground := Ground.data }, { on := 13, ground := Ground.chain }, { on := 0, ground := Ground.phase }, { on := 1, ground := Ground.phase }, { on := 2, ground := Ground.phase }, { on := 3, ground := Ground.phase }, { on := 4, ground := Ground.textOnly Departure.lateStores }, { on := 5, ground := Ground.textOnly Departure.lateStores }, { on := 6, ground := Ground.textOnly Departure.lateStores }, { on := 7, ground := Ground.textOnly Departure.lateStores }, { on := 8, ground := Ground.textOnly Departure.lateStores }, { on := 9, ground := Ground.textOnly Departure.lateStores }, { on := 10, ground := Ground.phase }, { on := 11, ground := Ground.phase }, { on := 12, ground := Ground.phase }, { on := 13, ground := Ground.phase }], guard := none }) rfl (fun K hK => ?_) zReady.nil)
          have xc := k4.out.cell
          have xf := k4.out.free
          have xl := k4.out.lt
          go_simp
          refine hK.out _ _ (fun _ => (HS.out.far (c := b4) (by omega) 0 (.int .i64 N2)).far (c := b4) (by omega) 1 (.slice aB n2 cB)) (fun _ => ?_)
          clear hK K xc xf xl
          (try simp only [Act.put, List.setIfInBounds_toArray, List.set_cons_zero, List.set_cons_succ])
          replace HX : Hid (Below w1.heap.size w1 ((Y1.setCell ⟨b4, 0, none⟩ (.int .i64 N2)).setCell ⟨b4, 1, none⟩ (.slice aB n2 cB))) := hid (bset (bset HX.out _ _ _ q4) _ _ _ q4)
          replace HS : Hid (BK ((Y1.setCell ⟨b4, 0, none⟩ (.int .i64 N2)).setCell ⟨b4, 1, none⟩ (.slice aB n2 cB)) w.heap.size (gcs N1 N2 N3 aA aB aC n1 n2 n3 cA cB cC x y) 61) := hid ((HS.out.far (c := b4) (by omega) 0 (.int .i64 N2)).far (c := b4) (by omega) 1 (.slice aB n2 cB))
          replace k3 : Hid (BK ((Y1.setCell ⟨b4, 0, none⟩ (.int .i64 N2)).setCell ⟨b4, 1, none⟩ (.slice aB n2 cB)) b3 #[(.int .i64 N1), (.slice aA n1 cA)] 24) := hid ((k3.out.far (c := b4) (by omega) 0 (.int .i64 N2)).far (c := b4) (by omega) 1 (.slice aB n2 cB))
          replace k4 : Hid (BK ((Y1.setCell ⟨b4, 0, none⟩ (.int .i64 N2)).setCell ⟨b4, 1, none⟩ (.slice aB n2 cB)) b4 #[(.int .i64 N2), (.slice aB n2 cB)] 24) := hid ((k4.out.set 0 (.int .i64 N2)).set 1 (.slice aB n2 cB))
          replace k5 : Hid (BK ((Y1.setCell ⟨b4, 0, none⟩ (.int .i64 N2)).setCell ⟨b4, 1, none⟩ (.slice aB n2 cB)) b5 #[.int .i64 0, .slice none 0 0] 24) := hid ((k5.out.far (c := b4) (by omega) 0 (.int .i64 N2)).far (c := b4) (by omega) 1 (.slice aB n2 cB))
          generalize ((Y1.setCell ⟨b4, 0, none⟩ (.int .i64 N2)).setCell ⟨b4, 1, none⟩ (.slice aB n2 cB)) = Y2 at *
          refine zAny_ready (rs := [15]) (by kernel_rfl) (by simp) (zReady.cons (o := { dst := none, op := Op.store 24 (Operand.tmp 5) (Operand.tmp 53), type := 0, pos := "law.go:116", after := #[{ on := 12, ground := Ground.data }, { on := 5, ground := Ground.data }, { on := 14, ground := Ground.chain }, { on := 0, ground := Ground.phase }, { on := 1, ground := Ground.phase }, { on := 2, ground := Ground.phase }, { on := 3, ground := Ground.phase }, { on := 4, ground := Ground.phase }, { on := 5, ground := Ground.phase }, { on := 6, ground := Ground.textOnly Departure.lateStores }, { on := 7, ground := Ground.textOnly Departure.lateStores }, { on := 8, ground := Ground.textOnly Departure.lateStores }, { on := 9, ground := Ground.textOnly Departure.lateStores }, { on := 10, ground := Ground.phase }, { on := 11, ground := Ground.phase }, { on := 12, ground := Ground.phase }, { on := 13, ground := Ground.phase }, { on := 14, ground := Ground.phase }], guard := none }) rfl (fun K hK => ?_) zReady.nil)
          have xc := k5.out.cell
          have xf := k5.out.free
          have xl := k5.out.lt
          go_simp
          refine hK.out _ _ (fun _ => (HS.out.far (c := b5) (by omega) 0 (.int .i64 N3)).far (c := b5) (by omega) 1 (.slice aC n3 cC)) (fun _ => ?_)
          clear hK K xc xf xl
          (try simp only [Act.put, List.setIfInBounds_toArray, List.set_cons_zero, List.set_cons_succ])
          replace HX : Hid (Below w1.heap.size w1 ((Y2.setCell ⟨b5, 0, none⟩ (.int .i64 N3)).setCell ⟨b5, 1, none⟩ (.slice aC n3 cC))) := hid (bset (bset HX.out _ _ _ q5) _ _ _ q5)
          replace HS : Hid (BK ((Y2.setCell ⟨b5, 0, none⟩ (.int .i64 N3)).setCell ⟨b5, 1, none⟩ (.slice aC n3 cC)) w.heap.size (gcs N1 N2 N3 aA aB aC n1 n2 n3 cA cB cC x y) 61) := hid ((HS.out.far (c := b5) (by omega) 0 (.int .i64 N3)).far (c := b5) (by omega) 1 (.slice aC n3 cC))
          replace k3 : Hid (BK ((Y2.setCell ⟨b5, 0, none⟩ (.int .i64 N3)).setCell ⟨b5, 1, none⟩ (.slice aC n3 cC)) b3 #[(.int .i64 N1), (.slice aA n1 cA)] 24) := hid ((k3.out.far (c := b5) (by omega) 0 (.int .i64 N3)).far (c := b5) (by omega) 1 (.slice aC n3 cC))
          replace k4 : Hid (BK ((Y2.setCell ⟨b5, 0, none⟩ (.int .i64 N3)).setCell ⟨b5, 1, none⟩ (.slice aC n3 cC)) b4 #[(.int .i64 N2), (.slice aB n2 cB)] 24) := hid ((k4.out.far (c := b5) (by omega) 0 (.int .i64 N3)).far (c := b5) (by omega) 1 (.slice aC n3 cC))
          replace k5 : Hid (BK ((Y2.setCell ⟨b5, 0, none⟩ (.int .i64 N3)).setCell ⟨b5, 1, none⟩ (.slice aC n3 cC)) b5 #[(.int .i64 N3), (.slice aC n3 cC)] 24) := hid ((k5.out.set 0 (.int .i64 N3)).set 1 (.slice aC n3 cC))
          generalize ((Y2.setCell ⟨b5, 0, none⟩ (.int .i64 N3)).setCell ⟨b5, 1, none⟩ (.slice aC n3 cC)) = Y3 at *
          refine zAny_ready (rs := [16]) (by kernel_rfl) (by simp) (zReady.cons (o := { dst := some 6, op := Op.assign (Operand.tmp 55), type := 25, pos := "law.go:116", after := #[{ on := 7, ground := Ground.data }, { on := 15, ground := Ground.chain }, { on := 0, ground := Ground.phase }, { on := 1, ground := Ground.phase }, { on := 2, ground := Ground.phase }, { on := 3, ground := Ground.phase }, { on := 4, ground := Ground.phase }, { on := 5, ground := Ground.phase }, { on := 6, ground := Ground.phase }, { on := 7, ground := Ground.phase }, { on := 8, ground := Ground.textOnly Departure.lateStores }, { on := 9, ground := Ground.textOnly Departure.lateStores }, { on := 10, ground := Ground.phase }, { on := 11, ground := Ground.phase }, { on := 12, ground := Ground.phase }, { on := 13, ground := Ground.phase }, { on := 14, ground := Ground.phase }, { on := 15, ground := Ground.phase }], guard := none }) rfl (fun K hK => ?_) zReady.nil)
          go_simp
          refine hK.out _ _ (fun h => HS.out) (fun _ => ?_)
          clear hK K
          (try simp only [Act.put, List.setIfInBounds_toArray, List.set_cons_zero, List.set_cons_succ])
          refine zAny_ready (rs := [17]) (by kernel_rfl) (by simp) (zReady.cons (o := { dst := some 7, op := Op.assign (Operand.tmp 57), type := 25, pos := "law.go:116", after := #[{ on := 9, ground := Ground.data }, { on := 16, ground := Ground.chain }, { on := 0, ground := Ground.phase }, { on := 1, ground := Ground.phase }, { on := 2, ground := Ground.phase }, { on := 3, ground := Ground.phase }, { on := 4, ground := Ground.phase }, { on := 5, ground := Ground.phase }, { on := 6, ground := Ground.phase }, { on := 7, ground := Ground.phase }, { on := 8, ground := Ground.phase }, { on := 9, ground := Ground.phase }, { on := 10, ground := Ground.phase }, { on := 11, ground := Ground.phase }, { on := 12, ground := Ground.phase }, { on := 13, ground := Ground.phase }, { on := 14, ground := Ground.phase }, { on := 15, ground := Ground.phase }, { on := 16, ground := Ground.phase }], guard := none }) rfl (fun K hK => ?_) zReady.nil)
          go_simp
          refine hK.out _ _ (fun h => absurd rfl h) (fun _ => ?_)
          clear hK K
          (try simp only [Act.put, List.setIfInBounds_toArray, List.set_cons_zero, List.set_cons_succ])
          refine zAny_done (by kernel_rfl) ?_ _
          refine NoPanic.normal ?_
          go_wp2
          go_meet
          case rel => exact ⟨b3, b4, b5, HX.out, k3.out, k4.out, k5.out, rfl, rfl, rfl, rfl, rfl⟩
      · go_simp
        refine hK.out _ _ (fun _ => (HS.out.alloc _).alloc _) (fun _ => ?_)
        clear hK K
        (try simp only [Act.put, List.setIfInBounds_toArray, List.set_cons_zero, List.set_cons_succ])
        refine zAny_ready (rs := [10]) (by kernel_rfl) (by simp) (zReady.cons (o := { dst := some 3, op := Op.alloc 24, type := 0, pos := "law.go:116", after := #[], guard := none }) rfl (fun K hK => ?_) zReady.nil)
        · go_simp
          refine hK.out _ _ (fun _ => ((HS.out.alloc _).alloc _).alloc _) (fun _ => ?_)
          clear hK K
          (try simp only [Act.put, List.setIfInBounds_toArray, List.set_cons_zero, List.set_cons_succ])
          have k4 : Hid (BK (((X.alloc (.cells #[.int .i64 0, .slice none 0 0] 24)).alloc (.cells #[.int .i64 0, .slice none 0 0] 24)).alloc (.cells #[.int .i64 0, .slice none 0 0] 24)) X.heap.size #[.int .i64 0, .slice none 0 0] 24) := hid (boxes3 X #[.int .i64 0, .slice none 0 0] #[.int .i64 0, .slice none 0 0] #[.int .i64 0, .slice none 0 0]).2.1
          have k5 : Hid (BK (((X.alloc (.cells #[.int .i64 0, .slice none 0 0] 24)).alloc (.cells #[.int .i64 0, .slice none 0 0] 24)).alloc (.cells #[.int .i64 0, .slice none 0 0] 24)) (X.heap.size + 1) #[.int .i64 0, .slice none 0 0] 24) := hid (boxes3 X #[.int .i64 0, .slice none 0 0] #[.int .i64 0, .slice none 0 0] #[.int .i64 0, .slice none 0 0]).2.2.1
          have k3 : Hid (BK (((X.alloc (.cells #[.int .i64 0, .slice none 0 0] 24)).alloc (.cells #[.int .i64 0, .slice none 0 0] 24)).alloc (.cells #[.int .i64 0, .slice none 0 0] 24)) (X.heap.size + 1 + 1) #[.int .i64 0, .slice none 0 0] 24) := hid (boxes3 X #[.int .i64 0, .slice none 0 0] #[.int .i64 0, .slice none 0 0] #[.int .i64 0, .slice none 0 0]).2.2.2
          have n34 : (X.heap.size + 1 + 1) ≠ X.heap.size := by omega
          have n35 : (X.heap.size + 1 + 1) ≠ (X.heap.size + 1) := by omega
          have n45 : X.heap.size ≠ (X.heap.size + 1) := by omega
          have m3 : (X.heap.size + 1 + 1) ≠ w.heap.size := by omega
          have m4 : X.heap.size ≠ w.heap.size := by omega
          have m5 : (X.heap.size + 1) ≠ w.heap.size := by omega
          replace HX : Hid (Below w1.heap.size w1 (((X.alloc (.cells #[.int .i64 0, .slice none 0 0] 24)).alloc (.cells #[.int .i64 0, .slice none 0 0] 24)).alloc (.cells #[.int .i64 0, .slice none 0 0] 24))) := hid (bal (bal (bal HX.out _) _) _)
          replace HS : Hid (BK (((X.alloc (.cells #[.int .i64 0, .slice none 0 0] 24)).alloc (.cells #[.int .i64 0, .slice none 0 0] 24)).alloc (.cells #[.int .i64 0, .slice none 0 0] 24)) w.heap.size (gcs N1 N2 N3 aA aB aC n1 n2 n3 cA cB cC x y) 61) := hid (((HS.out.alloc _).alloc _).alloc _)
          have q3 : w1.heap.size ≤ (X.heap.size + 1 + 1) := by omega
          have q4 : w1.heap.size ≤ X.heap.size := by omega
          have q5 : w1.heap.size ≤ (X.heap.size + 1) := by omega
          clear hXz hwz
          generalize (((X.alloc (.cells #[.int .i64 0, .slice none 0 0] 24)).alloc (.cells #[.int .i64 0, .slice none 0 0] 24)).alloc (.cells #[.int .i64 0, .slice none 0 0] 24)) = Y at *
          generalize X.heap.size + 1 + 1 = b3 at *
          generalize X.heap.size + 1 = b5 at *
          generalize X.heap.size = b4 at *
          refine zAny_ready (rs := [13]) (by kernel_rfl) (by simp) (zReady.cons (o := { dst := none, op := Op.store 24 (Operand.tmp 3) (Operand.tmp 49), type := 0, pos := "law.go:116", after := #[{ on := 10, ground := Ground.data }, { on := 1, ground := Ground.data }, { on := 0, ground := Ground.phase }, { on := 1, ground := Ground.phase }, { on := 2, ground := Ground.textOnly Departure.lateStores }, { on := 3, ground := Ground.textOnly Departure.lateStores }, { on := 4, ground := Ground.textOnly Departure.lateStores }, { on := 5, ground := Ground.textOnly Departure.lateStores }, { on := 6, ground := Ground.textOnly Departure.lateStores }, { on := 7, ground := Ground.textOnly Departure.lateStores }, { on := 8, ground := Ground.textOnly Departure.lateStores }, { on := 9, ground := Ground.textOnly Departure.lateStores }, { on := 10, ground := Ground.phase }, { on := 11, ground := Ground.phase }, { on := 12, ground := Ground.phase }], guard := none }) rfl (fun K hK => ?_) zReady.nil)
          have xc := k3.out.cell
          have xf := k3.out.free
          have xl := k3.out.lt
          go_simp
          refine hK.out _ _ (fun _ => (HS.out.far (c := b3) (by omega) 0 (.int .i64 N1)).far (c := b3) (by omega) 1 (.slice aA n1 cA)) (fun _ => ?_)
          clear hK K xc xf xl
          (try simp only [Act.put, List.setIfInBounds_toArray, List.set_cons_zero, List.set_cons_succ])
          replace HX : Hid (Below w1.heap.size w1 ((Y.setCell ⟨b3, 0, none⟩ (.int .i64 N1)).setCell ⟨b3, 1, none⟩ (.slice aA n1 cA))) := hid (bset (bset HX.out _ _ _ q3) _ _ _ q3)
          replace HS : Hid (BK ((Y.setCell ⟨b3, 0, none⟩ (.int .i64 N1)).setCell ⟨b3, 1, none⟩ (.slice aA n1 cA)) w.heap.size (gcs N1 N2 N3 aA aB aC n1 n2 n3 cA cB cC x y) 61) := hid ((HS.out.far (c := b3) (by omega) 0 (.int .i64 N1)).far (c := b3) (by omega) 1 (.slice aA n1 cA))
          replace k3 : Hid (BK ((Y.setCell ⟨b3, 0, none⟩ (.int .i64 N1)).setCell ⟨b3, 1, none⟩ (.slice aA n1 cA)) b3 #[(.int .i64 N1), (.slice aA n1 cA)] 24) := hid ((k3.out.set 0 (.int .i64 N1)).set 1 (.slice aA n1 cA))
          replace k4 : Hid (BK ((Y.setCell ⟨b3, 0, none⟩ (.int .i64 N1)).setCell ⟨b3, 1, none⟩ (.slice aA n1 cA)) b4 #[.int .i64 0, .slice none 0 0] 24) := hid ((k4.out.far (c := b3) (by omega) 0 (.int .i64 N1)).far (c := b3) (by omega) 1 (.slice aA n1 cA))
          replace k5 : Hid (BK ((Y.setCell ⟨b3, 0, none⟩ (.int .i64 N1)).setCell ⟨b3, 1, none⟩ (.slice aA n1 cA)) b5 #[.int .i64 0, .slice none 0 0] 24) := hid ((k5.out.far (c := b3) (by omega) 0 (.int .i64 N1)).far (c := b3) (by omega) 1 (.slice aA n1 cA))
          generalize ((Y.setCell ⟨b3, 0, none⟩ (.int .i64 N1)).setCell ⟨b3, 1, none⟩ (.slice aA n1 cA)) = Y1 at *
          refine zAny_ready (rs := [14]) (by kernel_rfl) (by simp) (zReady.cons (o := { dst := none, op := Op.store 24 (Operand.tmp 4) (Operand.tmp 51), type := 0, pos := "law.go:116", after := #[{ on := 11, ground := Ground.data }, { on := 3, ground := Ground.data }, { on := 13, ground := Ground.chain }, { on := 0, ground := Ground.phase }, { on := 1, ground := Ground.phase }, { on := 2, ground := Ground.phase }, { on := 3, ground := Ground.phase }, { on := 4, ground := Ground.textOnly Departure.lateStores }, { on := 5, ground := Ground.textOnly Departure.lateStores }, { on := 6, ground := Ground.textOnly Departure.lateStores }, { on := 7, ground := Ground.textOnly Departure.lateStores }, { on := 8, ground := Ground.textOnly Departure.lateStores }, { on := 9, ground := Ground.textOnly Departure.lateStores }, { on := 10, ground := Ground.phase }, { on := 11, ground := Ground.phase }, { on := 12, ground := Ground.phase }, { on := 13, ground := Ground.phase }], guard := none }) rfl (fun K hK => ?_) zReady.nil)
          have xc := k4.out.cell
          have xf := k4.out.free
          have xl := k4.out.lt
          go_simp
          refine hK.out _ _ (fun _ => (HS.out.far (c := b4) (by omega) 0 (.int .i64 N2)).far (c := b4) (by omega) 1 (.slice aB n2 cB)) (fun _ => ?_)
          clear hK K xc xf xl
          (try simp only [Act.put, List.setIfInBounds_toArray, List.set_cons_zero, List.set_cons_succ])
          replace HX : Hid (Below w1.heap.size w1 ((Y1.setCell ⟨b4, 0, none⟩ (.int .i64 N2)).setCell ⟨b4, 1, none⟩ (.slice aB n2 cB))) := hid (bset (bset HX.out _ _ _ q4) _ _ _ q4)
          replace HS : Hid (BK ((Y1.setCell ⟨b4, 0, none⟩ (.int .i64 N2)).setCell ⟨b4, 1, none⟩ (.slice aB n2 cB)) w.heap.size (gcs N1 N2 N3 aA aB aC n1 n2 n3 cA cB cC x y) 61) := hid ((HS.out.far (c := b4) (by omega) 0 (.int .i64 N2)).far (c := b4) (by omega) 1 (.slice aB n2 cB))
          replace k3 : Hid (BK ((Y1.setCell ⟨b4, 0, none⟩ (.int .i64 N2)).setCell ⟨b4, 1, none⟩ (.slice aB n2 cB)) b3 #[(.int .i64 N1), (.slice aA n1 cA)] 24) := hid ((k3.out.far (c := b4) (by omega) 0 (.int .i64 N2)).far (c := b4) (by omega) 1 (.slice aB n2 cB))
          replace k4 : Hid (BK ((Y1.setCell ⟨b4, 0, none⟩ (.int .i64 N2)).setCell ⟨b4, 1, none⟩ (.slice aB n2 cB)) b4 #[(.int .i64 N2), (.slice aB n2 cB)] 24) := hid ((k4.out.set 0 (.int .i64 N2)).set 1 (.slice aB n2 cB))
          replace k5 : Hid (BK ((Y1.setCell ⟨b4, 0, none⟩ (.int .i64 N2)).setCell ⟨b4, 1, none⟩ (.slice aB n2 cB)) b5 #[.int .i64 0, .slice none 0 0] 24) := hid ((k5.out.far (c := b4) (by omega) 0 (.int .i64 N2)).far (c := b4) (by omega) 1 (.slice aB n2 cB))
          generalize ((Y1.setCell ⟨b4, 0, none⟩ (.int .i64 N2)).setCell ⟨b4, 1, none⟩ (.slice aB n2 cB)) = Y2 at *
          refine zAny_ready (rs := [15]) (by kernel_rfl) (by simp) (zReady.cons (o := { dst := none, op := Op.store 24 (Operand.tmp 5) (Operand.tmp 53), type := 0, pos := "law.go:116", after := #[{ on := 12, ground := Ground.data }, { on := 5, ground := Ground.data }, { on := 14, ground := Ground.chain }, { on := 0, ground := Ground.phase }, { on := 1, ground := Ground.phase }, { on := 2, ground := Ground.phase }, { on := 3, ground := Ground.phase }, { on := 4, ground := Ground.phase }, { on := 5, ground := Ground.phase }, { on := 6, ground := Ground.textOnly Departure.lateStores }, { on := 7, ground := Ground.textOnly Departure.lateStores }, { on := 8, ground := Ground.textOnly Departure.lateStores }, { on := 9, ground := Ground.textOnly Departure.lateStores }, { on := 10, ground := Ground.phase }, { on := 11, ground := Ground.phase }, { on := 12, ground := Ground.phase }, { on := 13, ground := Ground.phase }, { on := 14, ground := Ground.phase }], guard := none }) rfl (fun K hK => ?_) zReady.nil)
          have xc := k5.out.cell
          have xf := k5.out.free
          have xl := k5.out.lt
          go_simp
          refine hK.out _ _ (fun _ => (HS.out.far (c := b5) (by omega) 0 (.int .i64 N3)).far (c := b5) (by omega) 1 (.slice aC n3 cC)) (fun _ => ?_)
          clear hK K xc xf xl
          (try simp only [Act.put, List.setIfInBounds_toArray, List.set_cons_zero, List.set_cons_succ])
          replace HX : Hid (Below w1.heap.size w1 ((Y2.setCell ⟨b5, 0, none⟩ (.int .i64 N3)).setCell ⟨b5, 1, none⟩ (.slice aC n3 cC))) := hid (bset (bset HX.out _ _ _ q5) _ _ _ q5)
          replace HS : Hid (BK ((Y2.setCell ⟨b5, 0, none⟩ (.int .i64 N3)).setCell ⟨b5, 1, none⟩ (.slice aC n3 cC)) w.heap.size (gcs N1 N2 N3 aA aB aC n1 n2 n3 cA cB cC x y) 61) := hid ((HS.out.far (c := b5) (by omega) 0 (.int .i64 N3)).far (c := b5) (by omega) 1 (.slice aC n3 cC))
          replace k3 : Hid (BK ((Y2.setCell ⟨b5, 0, none⟩ (.int .i64 N3)).setCell ⟨b5, 1, none⟩ (.slice aC n3 cC)) b3 #[(.int .i64 N1), (.slice aA n1 cA)] 24) := hid ((k3.out.far (c := b5) (by omega) 0 (.int .i64 N3)).far (c := b5) (by omega) 1 (.slice aC n3 cC))
          replace k4 : Hid (BK ((Y2.setCell ⟨b5, 0, none⟩ (.int .i64 N3)).setCell ⟨b5, 1, none⟩ (.slice aC n3 cC)) b4 #[(.int .i64 N2), (.slice aB n2 cB)] 24) := hid ((k4.out.far (c := b5) (by omega) 0 (.int .i64 N3)).far (c := b5) (by omega) 1 (.slice aC n3 cC))
          replace k5 : Hid (BK ((Y2.setCell ⟨b5, 0, none⟩ (.int .i64 N3)).setCell ⟨b5, 1, none⟩ (.slice aC n3 cC)) b5 #[(.int .i64 N3), (.slice aC n3 cC)] 24) := hid ((k5.out.set 0 (.int .i64 N3)).set 1 (.slice aC n3 cC))
          generalize ((Y2.setCell ⟨b5, 0, none⟩ (.int .i64 N3)).setCell ⟨b5, 1, none⟩ (.slice aC n3 cC)) = Y3 at *
          refine zAny_ready (rs := [16]) (by kernel_rfl) (by simp) (zReady.cons (o := { dst := some 6, op := Op.assign (Operand.tmp 55), type := 25, pos := "law.go:116", after := #[{ on := 7, ground := Ground.data }, { on := 15, ground := Ground.chain }, { on := 0, ground := Ground.phase }, { on := 1, ground := Ground.phase }, { on := 2, ground := Ground.phase }, { on := 3, ground := Ground.phase }, { on := 4, ground := Ground.phase }, { on := 5, ground := Ground.phase }, { on := 6, ground := Ground.phase }, { on := 7, ground := Ground.phase }, { on := 8, ground := Ground.textOnly Departure.lateStores }, { on := 9, ground := Ground.textOnly Departure.lateStores }, { on := 10, ground := Ground.phase }, { on := 11, ground := Ground.phase }, { on := 12, ground := Ground.phase }, { on := 13, ground := Ground.phase }, { on := 14, ground := Ground.phase }, { on := 15, ground := Ground.phase }], guard := none }) rfl (fun K hK => ?_) zReady.nil)
          go_simp
          refine hK.out _ _ (fun h => HS.out) (fun _ => ?_)
          clear hK K
          (try simp only [Act.put, List.setIfInBounds_toArray, List.set_cons_zero, List.set_cons_succ])
          refine zAny_ready (rs := [17]) (by kernel_rfl) (by simp) (zReady.cons (o := { dst := some 7, op := Op.assign (Operand.tmp 57), type := 25, pos := "law.go:116", after := #[{ on := 9, ground := Ground.data }, { on := 16, ground := Ground.chain }, { on := 0, ground := Ground.phase }, { on := 1, ground := Ground.phase }, { on := 2, ground := Ground.phase }, { on := 3, ground := Ground.phase }, { on := 4, ground := Ground.phase }, { on := 5, ground := Ground.phase }, { on := 6, ground := Ground.phase }, { on := 7, ground := Ground.phase }, { on := 8, ground := Ground.phase }, { on := 9, ground := Ground.phase }, { on := 10, ground := Ground.phase }, { on := 11, ground := Ground.phase }, { on := 12, ground := Ground.phase }, { on := 13, ground := Ground.phase }, { on := 14, ground := Ground.phase }, { on := 15, ground := Ground.phase }, { on := 16, ground := Ground.phase }], guard := none }) rfl (fun K hK => ?_) zReady.nil)
          go_simp
          refine hK.out _ _ (fun h => absurd rfl h) (fun _ => ?_)
          clear hK K
          (try simp only [Act.put, List.setIfInBounds_toArray, List.set_cons_zero, List.set_cons_succ])
          refine zAny_done (by kernel_rfl) ?_ _
          refine NoPanic.normal ?_
          go_wp2
          go_meet
          case rel => exact ⟨b3, b4, b5, HX.out, k3.out, k4.out, k5.out, rfl, rfl, rfl, rfl, rfl⟩
    · go_simp
      refine hK.out _ _ (fun _ => HS.out.alloc _) (fun _ => ?_)
      clear hK K
      (try simp only [Act.put, List.setIfInBounds_toArray, List.set_cons_zero, List.set_cons_succ])
      refine zAny_ready (rs := [10, 11]) (by kernel_rfl) (by simp) (zReady.cons (o := { dst := some 3, op := Op.alloc 24, type := 0, pos := "law.go:116", after := #[], guard := none }) rfl (fun K hK => ?_) (zReady.cons (o := { dst := some 4, op := Op.alloc 24, type := 0, pos := "law.go:116", after := #[], guard := none }) rfl (fun K hK => ?_) zReady.nil))
      · go_simp
        refine hK.out _ _ (fun _ => (HS.out.alloc _).alloc _) (fun _ => ?_)
        clear hK K
        (try simp only [Act.put, List.setIfInBounds_toArray, List.set_cons_zero, List.set_cons_succ])
        refine zAny_ready (rs := [11]) (by kernel_rfl) (by simp) (zReady.cons (o := { dst := some 4, op := Op.alloc 24, type := 0, pos := "law.go:116", after := #[], guard := none }) rfl (fun K hK => ?_) zReady.nil)
        · go_simp
          refine hK.out _ _ (fun _ => ((HS.out.alloc _).alloc _).alloc _) (fun _ => ?_)
          clear hK K
          (try simp only [Act.put, List.setIfInBounds_toArray, List.set_cons_zero, List.set_cons_succ])
          have k5 : Hid (BK (((X.alloc (.cells #[.int .i64 0, .slice none 0 0] 24)).alloc (.cells #[.int .i64 0, .slice none 0 0] 24)).alloc (.cells #[.int .i64 0, .slice none 0 0] 24)) X.heap.size #[.int .i64 0, .slice none 0 0] 24) := hid (boxes3 X #[.int .i64 0, .slice none 0 0] #[.int .i64 0, .slice none 0 0] #[.int .i64 0, .slice none 0 0]).2.1
          have k3 : Hid (BK (((X.alloc (.cells #[.int .i64 0, .slice none 0 0] 24)).alloc (.cells #[.int .i64 0, .slice none 0 0] 24)).alloc (.cells #[.int .i64 0, .slice none 0 0] 24)) (X.heap.size + 1) #[.int .i64 0, .slice none 0 0] 24) := hid (boxes3 X #[.int .i64 0, .slice none 0 0] #[.int .i64 0, .slice none 0 0] #[.int .i64 0, .slice none 0 0]).2.2.1
          have k4 : Hid (BK (((X.alloc (.cells #[.int .i64 0, .slice none 0 0] 24)).alloc (.cells #[.int .i64 0, .slice none 0 0] 24)).alloc (.cells #[.int .i64 0, .slice none 0 0] 24)) (X.heap.size + 1 + 1) #[.int .i64 0, .slice none 0 0] 24) := hid (boxes3 X #[.int .i64 0, .slice none 0 0] #[.int .i64 0, .slice none 0 0] #[.int .i64 0, .slice none 0 0]).2.2.2
          have n34 : (X.heap.size + 1) ≠ (X.heap.size + 1 + 1) := by omega
          have n35 : (X.heap.size + 1) ≠ X.heap.size := by omega
          have n45 : (X.heap.size + 1 + 1) ≠ X.heap.size := by omega
          have m3 : (X.heap.size + 1) ≠ w.heap.size := by omega
          have m4 : (X.heap.size + 1 + 1) ≠ w.heap.size := by omega
          have m5 : X.heap.size ≠ w.heap.size := by omega
          replace HX : Hid (Below w1.heap.size w1 (((X.alloc (.cells #[.int .i64 0, .slice none 0 0] 24)).alloc (.cells #[.int .i64 0, .slice none 0 0] 24)).alloc (.cells #[.int .i64 0, .slice none 0 0] 24))) := hid (bal (bal (bal HX.out _) _) _)
          replace HS : Hid (BK (((X.alloc (.cells #[.int .i64 0, .slice none 0 0] 24)).alloc (.cells #[.int .i64 0, .slice none 0 0] 24)).alloc (.cells #[.int .i64 0, .slice none 0 0] 24)) w.heap.size (gcs N1 N2 N3 aA aB aC n1 n2 n3 cA cB cC x y) 61) := hid (((HS.out.alloc _).alloc _).alloc _)
          have q3 : w1.heap.size ≤ (X.heap.size + 1) := by omega
          have q4 : w1.heap.size ≤ (X.heap.size + 1 + 1) := by omega
          have q5 : w1.heap.size ≤ X.heap.size := by omega
          clear hXz hwz
          generalize (((X.alloc (.cells #[.int .i64 0, .slice none 0 0] 24)).alloc (.cells #[.int .i64 0, .slice none 0 0] 24)).alloc (.cells #[.int .i64 0, .slice none 0 0] 24)) = Y at *
          generalize X.heap.size + 1 + 1 = b4 at *
          generalize X.heap.size + 1 = b3 at *
          generalize X.heap.size = b5 at *
          refine zAny_ready (rs := [13]) (by kernel_rfl) (by simp) (zReady.cons (o := { dst := none, op := Op.store 24 (Operand.tmp 3) (Operand.tmp 49), type := 0, pos := "law.go:116", after := #[{ on := 10, ground := Ground.data }, { on := 1, ground := Ground.data }, { on := 0, ground := Ground.phase }, { on := 1, ground := Ground.phase }, { on := 2, ground := Ground.textOnly Departure.lateStores }, { on := 3, ground := Ground.textOnly Departure.lateStores }, { on := 4, ground := Ground.textOnly Departure.lateStores }, { on := 5, ground := Ground.textOnly Departure.lateStores }, { on := 6, ground := Ground.textOnly Departure.lateStores }, { on := 7, ground := Ground.textOnly Departure.lateStores }, { on := 8, ground := Ground.textOnly Departure.lateStores }, { on := 9, ground := Ground.textOnly Departure.lateStores }, { on := 10, ground := Ground.phase }, { on := 11, ground := Ground.phase }, { on := 12, ground := Ground.phase }], guard := none }) rfl (fun K hK => ?_) zReady.nil)
          have xc := k3.out.cell
          have xf := k3.out.free
          have xl := k3.out.lt
          go_simp
          refine hK.out _ _ (fun _ => (HS.out.far (c := b3) (by omega) 0 (.int .i64 N1)).far (c := b3) (by omega) 1 (.slice aA n1 cA)) (fun _ => ?_)
          clear hK K xc xf xl
          (try simp only [Act.put, List.setIfInBounds_toArray, List.set_cons_zero, List.set_cons_succ])
          replace HX : Hid (Below w1.heap.size w1 ((Y.setCell ⟨b3, 0, none⟩ (.int .i64 N1)).setCell ⟨b3, 1, none⟩ (.slice aA n1 cA))) := hid (bset (bset HX.out _ _ _ q3) _ _ _ q3)
          replace HS : Hid (BK ((Y.setCell ⟨b3, 0, none⟩ (.int .i64 N1)).setCell ⟨b3, 1, none⟩ (.slice aA n1 cA)) w.heap.size (gcs N1 N2 N3 aA aB aC n1 n2 n3 cA cB cC x y) 61) := hid ((HS.out.far (c := b3) (by omega) 0 (.int .i64 N1)).far (c := b3) (by omega) 1 (.slice aA n1 cA))
          replace k3 : Hid (BK ((Y.setCell ⟨b3, 0, none⟩ (.int .i64 N1)).setCell ⟨b3, 1, none⟩ (.slice aA n1 cA)) b3 #[(.int .i64 N1), (.slice aA n1 cA)] 24) := hid ((k3.out.set 0 (.int .i64 N1)).set 1 (.slice aA n1 cA))
          replace k4 : Hid (BK ((Y.setCell ⟨b3, 0, none⟩ (.int .i64 N1)).setCell ⟨b3, 1, none⟩ (.slice aA n1 cA)) b4 #[.int .i64 0, .slice none 0 0] 24) := hid ((k4.out.far (c := b3) (by omega) 0 (.int .i64 N1)).far (c := b3) (by omega) 1 (.slice aA n1 cA))
          replace k5 : Hid (BK ((Y.setCell ⟨b3, 0, none⟩ (.int .i64 N1)).setCell ⟨b3, 1, none⟩ (.slice aA n1 cA)) b5 #[.int .i64 0, .slice none 0 0] 24) := hid ((k5.out.far (c := b3) (by omega) 0 (.int .i64 N1)).far (c := b3) (by omega) 1 (.slice aA n1 cA))
          generalize ((Y.setCell ⟨b3, 0, none⟩ (.int .i64 N1)).setCell ⟨b3, 1, none⟩ (.slice aA n1 cA)) = Y1 at *
          refine zAny_ready (rs := [14]) (by kernel_rfl) (by simp) (zReady.cons (o := { dst := none, op := Op.store 24 (Operand.tmp 4) (Operand.tmp 51), type := 0, pos := "law.go:116", after := #[{ on := 11, ground := Ground.data }, { on := 3, ground := Ground.data }, { on := 13, ground := Ground.chain }, { on := 0, ground := Ground.phase }, { on := 1, ground := Ground.phase }, { on := 2, ground := Ground.phase }, { on := 3, ground := Ground.phase }, { on := 4, ground := Ground.textOnly Departure.lateStores }, { on := 5, ground := Ground.textOnly Departure.lateStores }, { on := 6, ground := Ground.textOnly Departure.lateStores }, { on := 7, ground := Ground.textOnly Departure.lateStores }, { on := 8, ground := Ground.textOnly Departure.lateStores }, { on := 9, ground := Ground.textOnly Departure.lateStores }, { on := 10, ground := Ground.phase }, { on := 11, ground := Ground.phase }, { on := 12, ground := Ground.phase }, { on := 13, ground := Ground.phase }], guard := none }) rfl (fun K hK => ?_) zReady.nil)
          have xc := k4.out.cell
          have xf := k4.out.free
          have xl := k4.out.lt
          go_simp
          refine hK.out _ _ (fun _ => (HS.out.far (c := b4) (by omega) 0 (.int .i64 N2)).far (c := b4) (by omega) 1 (.slice aB n2 cB)) (fun _ => ?_)
          clear hK K xc xf xl
          (try simp only [Act.put, List.setIfInBounds_toArray, List.set_cons_zero, List.set_cons_succ])
          replace HX : Hid (Below w1.heap.size w1 ((Y1.setCell ⟨b4, 0, none⟩ (.int .i64 N2)).setCell ⟨b4, 1, none⟩ (.slice aB n2 cB))) := hid (bset (bset HX.out _ _ _ q4) _ _ _ q4)
          replace HS : Hid (BK ((Y1.setCell ⟨b4, 0, none⟩ (.int .i64 N2)).setCell ⟨b4, 1, none⟩ (.slice aB n2 cB)) w.heap.size (gcs N1 N2 N3 aA aB aC n1 n2 n3 cA cB cC x y) 61) := hid ((HS.out.far (c := b4) (by omega) 0 (.int .i64 N2)).far (c := b4) (by omega) 1 (.slice aB n2 cB))
          replace k3 : Hid (BK ((Y1.setCell ⟨b4, 0, none⟩ (.int .i64 N2)).setCell ⟨b4, 1, none⟩ (.slice aB n2 cB)) b3 #[(.int .i64 N1), (.slice aA n1 cA)] 24) := hid ((k3.out.far (c := b4) (by omega) 0 (.int .i64 N2)).far (c := b4) (by omega) 1 (.slice aB n2 cB))
          replace k4 : Hid (BK ((Y1.setCell ⟨b4, 0, none⟩ (.int .i64 N2)).setCell ⟨b4, 1, none⟩ (.slice aB n2 cB)) b4 #[(.int .i64 N2), (.slice aB n2 cB)] 24) := hid ((k4.out.set 0 (.int .i64 N2)).set 1 (.slice aB n2 cB))
          replace k5 : Hid (BK ((Y1.setCell ⟨b4, 0, none⟩ (.int .i64 N2)).setCell ⟨b4, 1, none⟩ (.slice aB n2 cB)) b5 #[.int .i64 0, .slice none 0 0] 24) := hid ((k5.out.far (c := b4) (by omega) 0 (.int .i64 N2)).far (c := b4) (by omega) 1 (.slice aB n2 cB))
          generalize ((Y1.setCell ⟨b4, 0, none⟩ (.int .i64 N2)).setCell ⟨b4, 1, none⟩ (.slice aB n2 cB)) = Y2 at *
          refine zAny_ready (rs := [15]) (by kernel_rfl) (by simp) (zReady.cons (o := { dst := none, op := Op.store 24 (Operand.tmp 5) (Operand.tmp 53), type := 0, pos := "law.go:116", after := #[{ on := 12, ground := Ground.data }, { on := 5, ground := Ground.data }, { on := 14, ground := Ground.chain }, { on := 0, ground := Ground.phase }, { on := 1, ground := Ground.phase }, { on := 2, ground := Ground.phase }, { on := 3, ground := Ground.phase }, { on := 4, ground := Ground.phase }, { on := 5, ground := Ground.phase }, { on := 6, ground := Ground.textOnly Departure.lateStores }, { on := 7, ground := Ground.textOnly Departure.lateStores }, { on := 8, ground := Ground.textOnly Departure.lateStores }, { on := 9, ground := Ground.textOnly Departure.lateStores }, { on := 10, ground := Ground.phase }, { on := 11, ground := Ground.phase }, { on := 12, ground := Ground.phase }, { on := 13, ground := Ground.phase }, { on := 14, ground := Ground.phase }], guard := none }) rfl (fun K hK => ?_) zReady.nil)
          have xc := k5.out.cell
          have xf := k5.out.free
          have xl := k5.out.lt
          go_simp
          refine hK.out _ _ (fun _ => (HS.out.far (c := b5) (by omega) 0 (.int .i64 N3)).far (c := b5) (by omega) 1 (.slice aC n3 cC)) (fun _ => ?_)
          clear hK K xc xf xl
          (try simp only [Act.put, List.setIfInBounds_toArray, List.set_cons_zero, List.set_cons_succ])
          replace HX : Hid (Below w1.heap.size w1 ((Y2.setCell ⟨b5, 0, none⟩ (.int .i64 N3)).setCell ⟨b5, 1, none⟩ (.slice aC n3 cC))) := hid (bset (bset HX.out _ _ _ q5) _ _ _ q5)
          replace HS : Hid (BK ((Y2.setCell ⟨b5, 0, none⟩ (.int .i64 N3)).setCell ⟨b5, 1, none⟩ (.slice aC n3 cC)) w.heap.size (gcs N1 N2 N3 aA aB aC n1 n2 n3 cA cB cC x y) 61) := hid ((HS.out.far (c := b5) (by omega) 0 (.int .i64 N3)).far (c := b5) (by omega) 1 (.slice aC n3 cC))
          replace k3 : Hid (BK ((Y2.setCell ⟨b5, 0, none⟩ (.int .i64 N3)).setCell ⟨b5, 1, none⟩ (.slice aC n3 cC)) b3 #[(.int .i64 N1), (.slice aA n1 cA)] 24) := hid ((k3.out.far (c := b5) (by omega) 0 (.int .i64 N3)).far (c := b5) (by omega) 1 (.slice aC n3 cC))
          replace k4 : Hid (BK ((Y2.setCell ⟨b5, 0, none⟩ (.int .i64 N3)).setCell ⟨b5, 1, none⟩ (.slice aC n3 cC)) b4 #[(.int .i64 N2), (.slice aB n2 cB)] 24) := hid ((k4.out.far (c := b5) (by omega) 0 (.int .i64 N3)).far (c := b5) (by omega) 1 (.slice aC n3 cC))
          replace k5 : Hid (BK ((Y2.setCell ⟨b5, 0, none⟩ (.int .i64 N3)).setCell ⟨b5, 1, none⟩ (.slice aC n3 cC)) b5 #[(.int .i64 N3), (.slice aC n3 cC)] 24) := hid ((k5.out.set 0 (.int .i64 N3)).set 1 (.slice aC n3 cC))
          generalize ((Y2.setCell ⟨b5, 0, none⟩ (.int .i64 N3)).setCell ⟨b5, 1, none⟩ (.slice aC n3 cC)) = Y3 at *
          refine zAny_ready (rs := [16]) (by kernel_rfl) (by simp) (zReady.cons (o := { dst := some 6, op := Op.assign (Operand.tmp 55), type := 25, pos := "law.go:116", after := #[{ on := 7, ground := Ground.data }, { on := 15, ground := Ground.chain }, { on := 0, ground := Ground.phase }, { on := 1, ground := Ground.phase }, { on := 2, ground := Ground.phase }, { on := 3, ground := Ground.phase }, { on := 4, ground := Ground.phase }, { on := 5, ground := Ground.phase }, { on := 6, ground := Ground.phase }, { on := 7, ground := Ground.phase }, { on := 8, ground := Ground.textOnly Departure.lateStores }, { on := 9, ground := Ground.textOnly Departure.lateStores }, { on := 10, ground := Ground.phase }, { on := 11, ground := Ground.phase }, { on := 12, ground := Ground.phase }, { on := 13, ground := Ground.phase }, { on := 14, ground := Ground.phase }, { on := 15, ground := Ground.phase }], guard := none }) rfl (fun K hK => ?_) zReady.nil)
          go_simp
          refine hK.out _ _ (fun h => HS.out) (fun _ => ?_)
          clear hK K
          (try simp only [Act.put, List.setIfInBounds_toArray, List.set_cons_zero, List.set_cons_succ])
          refine zAny_ready (rs := [17]) (by kernel_rfl) (by simp) (zReady.cons (o := { dst := some 7, op := Op.assign (Operand.tmp 57), type := 25, pos := "law.go:116", after := #[{ on := 9, ground := Ground.data }, { on := 16, ground := Ground.chain }, { on := 0, ground := Ground.phase }, { on := 1, ground := Ground.phase }, { on := 2, ground := Ground.phase }, { on := 3, ground := Ground.phase }, { on := 4, ground := Ground.phase }, { on := 5, ground := Ground.phase }, { on := 6, ground := Ground.phase }, { on := 7, ground := Ground.phase }, { on := 8, ground := Ground.phase }, { on := 9, ground := Ground.phase }, { on := 10, ground := Ground.phase }, { on := 11, ground := Ground.phase }, { on := 12, ground := Ground.phase }, { on := 13, ground := Ground.phase }, { on := 14, ground := Ground.phase }, { on := 15, ground := Ground.phase }, { on := 16, ground := Ground.phase }], guard := none }) rfl (fun K hK => ?_) zReady.nil)
          go_simp
          refine hK.out _ _ (fun h => absurd rfl h) (fun _ => ?_)
          clear hK K
          (try simp only [Act.put, List.setIfInBounds_toArray, List.set_cons_zero, List.set_cons_succ])
          refine zAny_done (by kernel_rfl) ?_ _
          refine NoPanic.normal ?_
          go_wp2
          go_meet
          case rel => exact ⟨b3, b4, b5, HX.out, k3.out, k4.out, k5.out, rfl, rfl, rfl, rfl, rfl⟩
      · go_simp
        refine hK.out _ _ (fun _ => (HS.out.alloc _).alloc _) (fun _ => ?_)
        clear hK K
        (try simp only [Act.put, List.setIfInBounds_toArray, List.set_cons_zero, List.set_cons_succ])
        refine zAny_ready (rs := [10]) (by kernel_rfl) (by simp) (zReady.cons (o := { dst := some 3, op := Op.alloc 24, type := 0, pos := "law.go:116", after := #[], guard := none }) rfl (fun K hK => ?_) zReady.nil)
        · go_simp
          refine hK.out _ _ (fun _ => ((HS.out.alloc _).alloc _).alloc _) (fun _ => ?_)
          clear hK K
          (try simp only [Act.put, List.setIfInBounds_toArray, List.set_cons_zero, List.set_cons_succ])
          have k5 : Hid (BK (((X.alloc (.cells #[.int .i64 0, .slice none 0 0] 24)).alloc (.cells #[.int .i64 0, .slice none 0 0] 24)).alloc (.cells #[.int .i64 0, .slice none 0 0] 24)) X.heap.size #[.int .i64 0, .slice none 0 0] 24) := hid (boxes3 X #[.int .i64 0, .slice none 0 0] #[.int .i64 0, .slice none 0 0] #[.int .i64 0, .slice none 0 0]).2.1
          have k4 : Hid (BK (((X.alloc (.cells #[.int .i64 0, .slice none 0 0] 24)).alloc (.cells #[.int .i64 0, .slice none 0 0] 24)).alloc (.cells #[.int .i64 0, .slice none 0 0] 24)) (X.heap.size + 1) #[.int .i64 0, .slice none 0 0] 24) := hid (boxes3 X #[.int .i64 0, .slice none 0 0] #[.int .i64 0, .slice none 0 0] #[.int .i64 0, .slice none 0 0]).2.2.1
          have k3 : Hid (BK (((X.alloc (.cells #[.int .i64 0, .slice none 0 0] 24)).alloc (.cells #[.int .i64 0, .slice none 0 0] 24)).alloc (.cells #[.int .i64 0, .slice none 0 0] 24)) (X.heap.size + 1 + 1) #[.int .i64 0, .slice none 0 0] 24) := hid (boxes3 X #[.int .i64 0, .slice none 0 0] #[.int .i64 0, .slice none 0 0] #[.int .i64 0, .slice none 0 0]).2.2.2
          have n34 : (X.heap.size + 1 + 1) ≠ (X.heap.size + 1) := by omega
          have n35 : (X.heap.size + 1 + 1) ≠ X.heap.size := by omega
          have n45 : (X.heap.size + 1) ≠ X.heap.size := by omega
          have m3 : (X.heap.size + 1 + 1) ≠ w.heap.size := by omega
          have m4 : (X.heap.size + 1) ≠ w.heap.size := by omega
          have m5 : X.heap.size ≠ w.heap.size := by omega
          replace HX : Hid (Below w1.heap.size w1 (((X.alloc (.cells #[.int .i64 0, .slice none 0 0] 24)).alloc (.cells #[.int .i64 0, .slice none 0 0] 24)).alloc (.cells #[.int .i64 0, .slice none 0 0] 24))) := hid (bal (bal (bal HX.out _) _) _)
          replace HS : Hid (BK (((X.alloc (.cells #[.int .i64 0, .slice none 0 0] 24)).alloc (.cells #[.int .i64 0, .slice none 0 0] 24)).alloc (.cells #[.int .i64 0, .slice none 0 0] 24)) w.heap.size (gcs N1 N2 N3 aA aB aC n1 n2 n3 cA cB cC x y) 61) := hid (((HS.out.alloc _).alloc _).alloc _)
          have q3 : w1.heap.size ≤ (X.heap.size + 1 + 1) := by omega
          have q4 : w1.heap.size ≤ (X.heap.size + 1) := by omega
          have q5 : w1.heap.size ≤ X.heap.size := by omega
          clear hXz hwz
          generalize (((X.alloc (.cells #[.int .i64 0, .slice none 0 0] 24)).alloc (.cells #[.int .i64 0, .slice none 0 0] 24)).alloc (.cells #[.int .i64 0, .slice none 0 0] 24)) = Y at *
          generalize X.heap.size + 1 + 1 = b3 at *
          generalize X.heap.size + 1 = b4 at *
          generalize X.heap.size = b5 at *
          refine zAny_ready (rs := [13]) (by kernel_rfl) (by simp) (zReady.cons (o := { dst := none, op := Op.store 24 (Operand.tmp 3) (Operand.tmp 49), type := 0, pos := "law.go:116", after := #[{ on := 10, ground := Ground.data }, { on := 1, ground := Ground.data }, { on := 0, ground := Ground.phase }, { on := 1, ground := Ground.phase }, { on := 2, ground := Ground.textOnly Departure.lateStores }, { on := 3, ground := Ground.textOnly Departure.lateStores }, { on := 4, ground := Ground.textOnly Departure.lateStores }, { on := 5, ground := Ground.textOnly Departure.lateStores }, { on := 6, ground := Ground.textOnly Departure.lateStores }, { on := 7, ground := Ground.textOnly Departure.lateStores }, { on := 8, ground := Ground.textOnly Departure.lateStores }, { on := 9, ground := Ground.textOnly Departure.lateStores }, { on := 10, ground := Ground.phase }, { on := 11, ground := Ground.phase }, { on := 12, ground := Ground.phase }], guard := none }) rfl (fun K hK => ?_) zReady.nil)
          have xc := k3.out.cell
          have xf := k3.out.free
          have xl := k3.out.lt
          go_simp
          refine hK.out _ _ (fun _ => (HS.out.far (c := b3) (by omega) 0 (.int .i64 N1)).far (c := b3) (by omega) 1 (.slice aA n1 cA)) (fun _ => ?_)
          clear hK K xc xf xl
          (try simp only [Act.put, List.setIfInBounds_toArray, List.set_cons_zero, List.set_cons_succ])
          replace HX : Hid (Below w1.heap.size w1 ((Y.setCell ⟨b3, 0, none⟩ (.int .i64 N1)).setCell ⟨b3, 1, none⟩ (.slice aA n1 cA))) := hid (bset (bset HX.out _ _ _ q3) _ _ _ q3)
          replace HS : Hid (BK ((Y.setCell ⟨b3, 0, none⟩ (.int .i64 N1)).setCell ⟨b3, 1, none⟩ (.slice aA n1 cA)) w.heap.size (gcs N1 N2 N3 aA aB aC n1 n2 n3 cA cB cC x y) 61) := hid ((HS.out.far (c := b3) (by omega) 0 (.int .i64 N1)).far (c := b3) (by omega) 1 (.slice aA n1 cA))
          replace k3 : Hid (BK ((Y.setCell ⟨b3, 0, none⟩ (.int .i64 N1)).setCell ⟨b3, 1, none⟩ (.slice aA n1 cA)) b3 #[(.int .i64 N1), (.slice aA n1 cA)] 24) := hid ((k3.out.set 0 (.int .i64 N1)).set 1 (.slice aA n1 cA))
          replace k4 : Hid (BK ((Y.setCell ⟨b3, 0, none⟩ (.int .i64 N1)).setCell ⟨b3, 1, none⟩ (.slice aA n1 cA)) b4 #[.int .i64 0, .slice none 0 0] 24) := hid ((k4.out.far (c := b3) (by omega) 0 (.int .i64 N1)).far (c := b3) (by omega) 1 (.slice aA n1 cA))
          replace k5 : Hid (BK ((Y.setCell ⟨b3, 0, none⟩ (.int .i64 N1)).setCell ⟨b3, 1, none⟩ (.slice aA n1 cA)) b5 #[.int .i64 0, .slice none 0 0] 24) := hid ((k5.out.far (c := b3) (by omega) 0 (.int .i64 N1)).far (c := b3) (by omega) 1 (.slice aA n1 cA))
          generalize ((Y.setCell ⟨b3, 0, none⟩ (.int .i64 N1)).setCell ⟨b3, 1, none⟩ (.slice aA n1 cA)) = Y1 at *
          refine zAny_ready (rs := [14]) (by kernel_rfl) (by simp) (zReady.cons (o := { dst := none, op := Op.store 24 (Operand.tmp 4) (Operand.tmp 51), type := 0, pos := "law.go:116", after := #[{ on := 11, ground := Ground.data }, { on := 3, ground := Ground.data }, { on := 13, ground := Ground.chain }, { on := 0, ground := Ground.phase }, { on := 1, ground := Ground.phase }, { on := 2, ground := Ground.phase }, { on := 3, ground := Ground.phase }, { on := 4, ground := Ground.textOnly Departure.lateStores }, { on := 5, ground := Ground.textOnly Departure.lateStores }, { on := 6, ground := Ground.textOnly Departure.lateStores }, { on := 7, ground := Ground.textOnly Departure.lateStores }, { on := 8, ground := Ground.textOnly Departure.lateStores }, { on := 9, ground := Ground.textOnly Departure.lateStores }, { on := 10, ground := Ground.phase }, { on := 11, ground := Ground.phase }, { on := 12, ground := Ground.phase }, { on := 13, ground := Ground.phase }], guard := none }) rfl (fun K hK => ?_) zReady.nil)
          have xc := k4.out.cell
          have xf := k4.out.free
          have xl := k4.out.lt
          go_simp
          refine hK.out _ _ (fun _ => (HS.out.far (c := b4) (by omega) 0 (.int .i64 N2)).far (c := b4) (by omega) 1 (.slice aB n2 cB)) (fun _ => ?_)
          clear hK K xc xf xl
          (try simp only [Act.put, List.setIfInBounds_toArray, List.set_cons_zero, List.set_cons_succ])
          replace HX : Hid (Below w1.heap.size w1 ((Y1.setCell ⟨b4, 0, none⟩ (.int .i64 N2)).setCell ⟨b4, 1, none⟩ (.slice aB n2 cB))) := hid (bset (bset HX.out _ _ _ q4) _ _ _ q4)
          replace HS : Hid (BK ((Y1.setCell ⟨b4, 0, none⟩ (.int .i64 N2)).setCell ⟨b4, 1, none⟩ (.slice aB n2 cB)) w.heap.size (gcs N1 N2 N3 aA aB aC n1 n2 n3 cA cB cC x y) 61) := hid ((HS.out.far (c := b4) (by omega) 0 (.int .i64 N2)).far (c := b4) (by omega) 1 (.slice aB n2 cB))
          replace k3 : Hid (BK ((Y1.setCell ⟨b4, 0, none⟩ (.int .i64 N2)).setCell ⟨b4, 1, none⟩ (.slice aB n2 cB)) b3 #[(.int .i64 N1), (.slice aA n1 cA)] 24) := hid ((k3.out.far (c := b4) (by omega) 0 (.int .i64 N2)).far (c := b4) (by omega) 1 (.slice aB n2 cB))
          replace k4 : Hid (BK ((Y1.setCell ⟨b4, 0, none⟩ (.int .i64 N2)).setCell ⟨b4, 1, none⟩ (.slice aB n2 cB)) b4 #[(.int .i64 N2), (.slice aB n2 cB)] 24) := hid ((k4.out.set 0 (.int .i64 N2)).set 1 (.slice aB n2 cB))
          replace k5 : Hid (BK ((Y1.setCell ⟨b4, 0, none⟩ (.int .i64 N2)).setCell ⟨b4, 1, none⟩ (.slice aB n2 cB)) b5 #[.int .i64 0, .slice none 0 0] 24) := hid ((k5.out.far (c := b4) (by omega) 0 (.int .i64 N2)).far (c := b4) (by omega) 1 (.slice aB n2 cB))
          generalize ((Y1.setCell ⟨b4, 0, none⟩ (.int .i64 N2)).setCell ⟨b4, 1, none⟩ (.slice aB n2 cB)) = Y2 at *
          refine zAny_ready (rs := [15]) (by kernel_rfl) (by simp) (zReady.cons (o := { dst := none, op := Op.store 24 (Operand.tmp 5) (Operand.tmp 53), type := 0, pos := "law.go:116", after := #[{ on := 12, ground := Ground.data }, { on := 5, ground := Ground.data }, { on := 14, ground := Ground.chain }, { on := 0, ground := Ground.phase }, { on := 1, ground := Ground.phase }, { on := 2, ground := Ground.phase }, { on := 3, ground := Ground.phase }, { on := 4, ground := Ground.phase }, { on := 5, ground := Ground.phase }, { on := 6, ground := Ground.textOnly Departure.lateStores }, { on := 7, ground := Ground.textOnly Departure.lateStores }, { on := 8, ground := Ground.textOnly Departure.lateStores }, { on := 9, ground := Ground.textOnly Departure.lateStores }, { on := 10, ground := Ground.phase }, { on := 11, ground := Ground.phase }, { on := 12, ground := Ground.phase }, { on := 13, ground := Ground.phase }, { on := 14, ground := Ground.phase }], guard := none }) rfl (fun K hK => ?_) zReady.nil)
          have xc := k5.out.cell
          have xf := k5.out.free
          have xl := k5.out.lt
          go_simp
          refine hK.out _ _ (fun _ => (HS.out.far (c := b5) (by omega) 0 (.int .i64 N3)).far (c := b5) (by omega) 1 (.slice aC n3 cC)) (fun _ => ?_)
          clear hK K xc xf xl
          (try simp only [Act.put, List.setIfInBounds_toArray, List.set_cons_zero, List.set_cons_succ])
          replace HX : Hid (Below w1.heap.size w1 ((Y2.setCell ⟨b5, 0, none⟩ (.int .i64 N3)).setCell ⟨b5, 1, none⟩ (.slice aC n3 cC))) := hid (bset (bset HX.out _ _ _ q5) _ _ _ q5)
          replace HS : Hid (BK ((Y2.setCell ⟨b5, 0, none⟩ (.int .i64 N3)).setCell ⟨b5, 1, none⟩ (.slice aC n3 cC)) w.heap.size (gcs N1 N2 N3 aA aB aC n1 n2 n3 cA cB cC x y) 61) := hid ((HS.out.far (c := b5) (by omega) 0 (.int .i64 N3)).far (c := b5) (by omega) 1 (.slice aC n3 cC))
          replace k3 : Hid (BK ((Y2.setCell ⟨b5, 0, none⟩ (.int .i64 N3)).setCell ⟨b5, 1, none⟩ (.slice aC n3 cC)) b3 #[(.int .i64 N1), (.slice aA n1 cA)] 24) := hid ((k3.out.far (c := b5) (by omega) 0 (.int .i64 N3)).far (c := b5) (by omega) 1 (.slice aC n3 cC))
          replace k4 : Hid (BK ((Y2.setCell ⟨b5, 0, none⟩ (.int .i64 N3)).setCell ⟨b5, 1, none⟩ (.slice aC n3 cC)) b4 #[(.int .i64 N2), (.slice aB n2 cB)] 24) := hid ((k4.out.far (c := b5) (by omega) 0 (.int .i64 N3)).far (c := b5) (by omega) 1 (.slice aC n3 cC))
          replace k5 : Hid (BK ((Y2.setCell ⟨b5, 0, none⟩ (.int .i64 N3)).setCell ⟨b5, 1, none⟩ (.slice aC n3 cC)) b5 #[(.int .i64 N3), (.slice aC n3 cC)] 24) := hid ((k5.out.set 0 (.int .i64 N3)).set 1 (.slice aC n3 cC))
          generalize ((Y2.setCell ⟨b5, 0, none⟩ (.int .i64 N3)).setCell ⟨b5, 1, none⟩ (.slice aC n3 cC)) = Y3 at *
          refine zAny_ready (rs := [16]) (by kernel_rfl) (by simp) (zReady.cons (o := { dst := some 6, op := Op.assign (Operand.tmp 55), type := 25, pos := "law.go:116", after := #[{ on := 7, ground := Ground.data }, { on := 15, ground := Ground.chain }, { on := 0, ground := Ground.phase }, { on := 1, ground := Ground.phase }, { on := 2, ground := Ground.phase }, { on := 3, ground := Ground.phase }, { on := 4, ground := Ground.phase }, { on := 5, ground := Ground.phase }, { on := 6, ground := Ground.phase }, { on := 7, ground := Ground.phase }, { on := 8, ground := Ground.textOnly Departure.lateStores }, { on := 9, ground := Ground.textOnly Departure.lateStores }, { on := 10, ground := Ground.phase }, { on := 11, ground := Ground.phase }, { on := 12, ground := Ground.phase }, { on := 13, ground := Ground.phase }, { on := 14, ground := Ground.phase }, { on := 15, ground := Ground.phase }], guard := none }) rfl (fun K hK => ?_) zReady.nil)
          go_simp
          refine hK.out _ _ (fun h => HS.out) (fun _ => ?_)
          clear hK K
          (try simp only [Act.put, List.setIfInBounds_toArray, List.set_cons_zero, List.set_cons_succ])
          refine zAny_ready (rs := [17]) (by kernel_rfl) (by simp) (zReady.cons (o := { dst := some 7, op := Op.assign (Operand.tmp 57), type := 25, pos := "law.go:116", after := #[{ on := 9, ground := Ground.data }, { on := 16, ground := Ground.chain }, { on := 0, ground := Ground.phase }, { on := 1, ground := Ground.phase }, { on := 2, ground := Ground.phase }, { on := 3, ground := Ground.phase }, { on := 4, ground := Ground.phase }, { on := 5, ground := Ground.phase }, { on := 6, ground := Ground.phase }, { on := 7, ground := Ground.phase }, { on := 8, ground := Ground.phase }, { on := 9, ground := Ground.phase }, { on := 10, ground := Ground.phase }, { on := 11, ground := Ground.phase }, { on := 12, ground := Ground.phase }, { on := 13, ground := Ground.phase }, { on := 14, ground := Ground.phase }, { on := 15, ground := Ground.phase }, { on := 16, ground := Ground.phase }], guard := none }) rfl (fun K hK => ?_) zReady.nil)
          go_simp
          refine hK.out _ _ (fun h => absurd rfl h) (fun _ => ?_)
          clear hK K
          (try simp only [Act.put, List.setIfInBounds_toArray, List.set_cons_zero, List.set_cons_succ])
          refine zAny_done (by kernel_rfl) ?_ _
          refine NoPanic.normal ?_
          go_wp2
          go_meet
          case rel => exact ⟨b3, b4, b5, HX.out, k3.out, k4.out, k5.out, rfl, rfl, rfl, rfl, rfl⟩
  case rest =>
    clear g0 g1 g2 g3 g4 g5 g6 g7 h0 h1 h2 h3 h4 h5 h6 h7 lG KG
    obtain ⟨bA, bB, bC, hB, kA, kB, kC, rfl, rfl, rfl, rfl, rfl⟩ := hcut
    replace HB := hid (btr HB.out hB)
    replace RA := hid (RA.out.below hB)
    replace RB := hid (RB.out.below hB)
    replace RC := hid (RC.out.below hB)
    have KA := hid kA
    have KB := hid kB
    have KC := hid kC
    clear hB kA kB kC
    rcases hall with hbad | hgood
    · obtain ⟨M, M', m, m', F, F', E, E', P, P', hE⟩ := hbad.out
      clear hbad
      have HP := hid P
      have HP' := hid P'
      clear P P'
      have dA := KA.out.cell
      have lA := KA.out.lt
      have dB := KB.out.cell
      have lB := KB.out.lt
      go_upto_region 5 with (go_at_call 14; (with_reducible refine (HP.out _ HB.out).mono ?_); rintro e y1 hl; obtain ⟨au, cu, rfl, hN⟩ := lr_box hl)
      clear dA lA dB lB
      clear hl
      replace HB := hid (bal (btr HB.out hN) (.cells #[.int .i64 M, .slice au m cu] 24))
      replace KA := hid ((bk_on KA.out hN).alloc (.cells #[.int .i64 M, .slice au m cu] 24))
      replace RA := hid ((RA.out.below hN).below (bal (Below.refl y1.heap.size y1) (.cells #[.int .i64 M, .slice au m cu] 24)))
      replace KB := hid ((bk_on KB.out hN).alloc (.cells #[.int .i64 M, .slice au m cu] 24))
      replace RB := hid ((RB.out.below hN).below (bal (Below.refl y1.heap.size y1) (.cells #[.int .i64 M, .slice au m cu] 24)))
      replace KC := hid ((bk_on KC.out hN).alloc (.cells #[.int .i64 M, .slice au m cu] 24))
      replace RC := hid ((RC.out.below hN).below (bal (Below.refl y1.heap.size y1) (.cells #[.int .i64 M, .slice au m cu] 24)))
      clear hN
      generalize y1.alloc (.cells #[.int .i64 M, .slice au m cu] 24) = Xy1 at *
      have dB := KB.out.cell
      have lB := KB.out.lt
      have dC := KC.out.cell
      have lC := KC.out.lt
      go_upto_region 6 with (go_at_call 14; (with_reducible refine (HP'.out _ HB.out).mono ?_); rintro e y2 hl; obtain ⟨av, cv, rfl, hN⟩ := lr_box hl)
      clear dB lB dC lC
      clear hl
      replace HB := hid (bal (btr HB.out hN) (.cells #[.int .i64 M', .slice av m' cv] 24))
      replace KA := hid ((bk_on KA.out hN).alloc (.cells #[.int .i64 M', .slice av m' cv] 24))
      replace RA := hid ((RA.out.below hN).below (bal (Below.refl y2.heap.size y2) (.cells #[.int .i64 M', .slice av m' cv] 24)))
      replace KB := hid ((bk_on KB.out hN).alloc (.cells #[.int .i64 M', .slice av m' cv] 24))
      replace RB := hid ((RB.out.below hN).below (bal (Below.refl y2.heap.size y2) (.cells #[.int .i64 M', .slice av m' cv] 24)))
      replace KC := hid ((bk_on KC.out hN).alloc (.cells #[.int .i64 M', .slice av m' cv] 24))
      replace RC := hid ((RC.out.below hN).below (bal (Below.refl y2.heap.size y2) (.cells #[.int .i64 M', .slice av m' cv] 24)))
      clear hN
      generalize y2.alloc (.cells #[.int .i64 M', .slice av m' cv] 24) = Xy2 at *
      rcases hE with hE | hE
      · go_wp2
        go_ret
        exact ⟨rfl, HB.out⟩
      · by_cases hE2 : (E != 0) = true
        · go_wp2
          go_ret
          exact ⟨rfl, HB.out⟩
        · replace hE2 := Bool.eq_false_iff.2 hE2
          go_wp2
          go_ret
          exact ⟨rfl, HB.out⟩
    · obtain ⟨n, ⟨rfl, rfl, rfl, rfl, rfl, rfl⟩, ra, rb, rab, fAB, fBC, fL, fI', fT, G⟩ := hgood.out
      clear hgood
      obtain ⟨mAB, mBC, mL, mR, mE, mI, mJ, rA, rB, rAB, tA, rT, ht1, ht2, hinv, hxy⟩ := G
      have sL := sameC n fL
      have sA := sameC n fA
      have sE := sameC n eyF
      have dA := KA.out.cell
      have lA := KA.out.lt
      have dB := KB.out.cell
      have lB := KB.out.lt
      go_upto_region 5 with (go_at_call 14; (with_reducible refine (mAB.go RA.out RB.out).mono ?_); rintro e y3 ⟨aAB, cAB, rfl, hr, hN⟩)
      clear dA lA dB lB
      replace HB := hid (bal (btr HB.out hN) (.cells (lcs n aAB n cAB) 24))
      replace KA := hid ((bk_on KA.out hN).alloc (.cells (lcs n aAB n cAB) 24))
      replace RA := hid ((RA.out.below hN).below (bal (Below.refl y3.heap.size y3) (.cells (lcs n aAB n cAB) 24)))
      replace KB := hid ((bk_on KB.out hN).alloc (.cells (lcs n aAB n cAB) 24))
      replace RB := hid ((RB.out.below hN).below (bal (Below.refl y3.heap.size y3) (.cells (lcs n aAB n cAB) 24)))
      replace KC := hid ((bk_on KC.out hN).alloc (.cells (lcs n aAB n cAB) 24))
      replace RC := hid ((RC.out.below hN).below (bal (Below.refl y3.heap.size y3) (.cells (lcs n aAB n cAB) 24)))
      have KAB := hid (bk_new y3 (lcs n aAB n cAB) 24)
      have RAB := hid (hr.below (bal (Below.refl y3.heap.size y3) (.cells (lcs n aAB n cAB) 24)))
      clear hN hr
      generalize hV : y3.alloc (.cells (lcs n aAB n cAB) 24) = Xy3 at *
      clear hV
      generalize y3.heap.size = bAB at *
      have dB := KB.out.cell
      have lB := KB.out.lt
      have dC := KC.out.cell
      have lC := KC.out.lt
      go_upto_region 6 with (go_at_call 14; (with_reducible refine (mBC.go RB.out RC.out).mono ?_); rintro e y4 ⟨aBC, cBC, rfl, hr, hN⟩)
      clear dB lB dC lC
      replace HB := hid (bal (btr HB.out hN) (.cells (lcs n aBC n cBC) 24))
      replace KA := hid ((bk_on KA.out hN).alloc (.cells (lcs n aBC n cBC) 24))
      replace RA := hid ((RA.out.below hN).below (bal (Below.refl y4.heap.size y4) (.cells (lcs n aBC n cBC) 24)))
      replace KB := hid ((bk_on KB.out hN).alloc (.cells (lcs n aBC n cBC) 24))
      replace RB := hid ((RB.out.below hN).below (bal (Below.refl y4.heap.size y4) (.cells (lcs n aBC n cBC) 24)))
      replace KC := hid ((bk_on KC.out hN).alloc (.cells (lcs n aBC n cBC) 24))
      replace RC := hid ((RC.out.below hN).below (bal (Below.refl y4.heap.size y4) (.cells (lcs n aBC n cBC) 24)))
      replace KAB := hid ((bk_on KAB.out hN).alloc (.cells (lcs n aBC n cBC) 24))
      replace RAB := hid ((RAB.out.below hN).below (bal (Below.refl y4.heap.size y4) (.cells (lcs n aBC n cBC) 24)))
      have KBC := hid (bk_new y4 (lcs n aBC n cBC) 24)
      have RBC := hid (hr.below (bal (Below.refl y4.heap.size y4) (.cells (lcs n aBC n cBC) 24)))
      clear hN hr
      generalize hV : y4.alloc (.cells (lcs n aBC n cBC) 24) = Xy4 at *
      clear hV
      generalize y4.heap.size = bBC at *
      have dAB := KAB.out.cell
      have lAB := KAB.out.lt
      have dC := KC.out.cell
      have lC := KC.out.lt
      go_upto_region 9 with (go_at_call 14; (with_reducible refine (mL.go RAB.out RC.out).mono ?_); rintro e y5 ⟨aL, cL, rfl, hr, hN⟩)
      clear dAB lAB dC lC
      replace HB := hid (bal (btr HB.out hN) (.cells (lcs n aL n cL) 24))
      replace KA := hid ((bk_on KA.out hN).alloc (.cells (lcs n aL n cL) 24))
      replace RA := hid ((RA.out.below hN).below (bal (Below.refl y5.heap.size y5) (.cells (lcs n aL n cL) 24)))
      replace KB := hid ((bk_on KB.out hN).alloc (.cells (lcs n aL n cL) 24))
      replace RB := hid ((RB.out.below hN).below (bal (Below.refl y5.heap.size y5) (.cells (lcs n aL n cL) 24)))
      replace KC := hid ((bk_on KC.out hN).alloc (.cells (lcs n aL n cL) 24))
      replace RC := hid ((RC.out.below hN).below (bal (Below.refl y5.heap.size y5) (.cells (lcs n aL n cL) 24)))
      replace KAB := hid ((bk_on KAB.out hN).alloc (.cells (lcs n aL n cL) 24))
      replace RAB := hid ((RAB.out.below hN).below (bal (Below.refl y5.heap.size y5) (.cells (lcs n aL n cL) 24)))
      replace KBC := hid ((bk_on KBC.out hN).alloc (.cells (lcs n aL n cL) 24))
      replace RBC := hid ((RBC.out.below hN).below (bal (Below.refl y5.heap.size y5) (.cells (lcs n aL n cL) 24)))
      have KL := hid (bk_new y5 (lcs n aL n cL) 24)
      have RL := hid (hr.below (bal (Below.refl y5.heap.size y5) (.cells (lcs n aL n cL) 24)))
      clear hN hr
      generalize hV : y5.alloc (.cells (lcs n aL n cL) 24) = Xy5 at *
      clear hV
      generalize y5.heap.size = bL at *
      clear KC RC
      have dA := KA.out.cell
      have lA := KA.out.lt
      have dBC := KBC.out.cell
      have lBC := KBC.out.lt
      go_upto_region 10 with (go_at_call 14; (with_reducible refine (mR.go RA.out RBC.out).mono ?_); rintro e y6 ⟨aQ, cQ, rfl, hr, hN⟩)
      clear dA lA dBC lBC
      replace HB := hid (bal (btr HB.out hN) (.cells (lcs n aQ n cQ) 24))
      replace KA := hid ((bk_on KA.out hN).alloc (.cells (lcs n aQ n cQ) 24))
      replace RA := hid ((RA.out.below hN).below (bal (Below.refl y6.heap.size y6) (.cells (lcs n aQ n cQ) 24)))
      replace KB := hid ((bk_on KB.out hN).alloc (.cells (lcs n aQ n cQ) 24))
      replace RB := hid ((RB.out.below hN).below (bal (Below.refl y6.heap.size y6) (.cells (lcs n aQ n cQ) 24)))
      replace KAB := hid ((bk_on KAB.out hN).alloc (.cells (lcs n aQ n cQ) 24))
      replace RAB := hid ((RAB.out.below hN).below (bal (Below.refl y6.heap.size y6) (.cells (lcs n aQ n cQ) 24)))
      replace KBC := hid ((bk_on KBC.out hN).alloc (.cells (lcs n aQ n cQ) 24))
      replace RBC := hid ((RBC.out.below hN).below (bal (Below.refl y6.heap.size y6) (.cells (lcs n aQ n cQ) 24)))
      replace KL := hid ((bk_on KL.out hN).alloc (.cells (lcs n aQ n cQ) 24))
      replace RL := hid ((RL.out.below hN).below (bal (Below.refl y6.heap.size y6) (.cells (lcs n aQ n cQ) 24)))
      have KQ := hid (bk_new y6 (lcs n aQ n cQ) 24)
      have RQ := hid (hr.below (bal (Below.refl y6.heap.size y6) (.cells (lcs n aQ n cQ) 24)))
      clear hN hr
      generalize hV : y6.alloc (.cells (lcs n aQ n cQ) 24) = Xy6 at *
      clear hV
      generalize y6.heap.size = bQ at *
      clear KBC RBC
      have dA := KA.out.cell
      have lA := KA.out.lt
      go_upto_region 11 with (go_at_call 11; (with_reducible refine (mE.go _).mono ?_); rintro e y7 ⟨aE, cE, rfl, hr, hN⟩)
      clear dA lA
      replace HB := hid (bal (btr HB.out hN) (.cells (lcs n aE n cE) 24))
      replace KA := hid ((bk_on KA.out hN).alloc (.cells (lcs n aE n cE) 24))
      replace RA := hid ((RA.out.below hN).below (bal (Below.refl y7.heap.size y7) (.cells (lcs n aE n cE) 24)))
      replace KB := hid ((bk_on KB.out hN).alloc (.cells (lcs n aE n cE) 24))
      replace RB := hid ((RB.out.below hN).below (bal (Below.refl y7.heap.size y7) (.cells (lcs n aE n cE) 24)))
      replace KAB := hid ((bk_on KAB.out hN).alloc (.cells (lcs n aE n cE) 24))
      replace RAB := hid ((RAB.out.below hN).below (bal (Below.refl y7.heap.size y7) (.cells (lcs n aE n cE) 24)))
      replace KL := hid ((bk_on KL.out hN).alloc (.cells (lcs n aE n cE) 24))
      replace RL := hid ((RL.out.below hN).below (bal (Below.refl y7.heap.size y7) (.cells (lcs n aE n cE) 24)))
      replace KQ := hid ((bk_on KQ.out hN).alloc (.cells (lcs n aE n cE) 24))
      replace RQ := hid ((RQ.out.below hN).below (bal (Below.refl y7.heap.size y7) (.cells (lcs n aE n cE) 24)))
      have KE := hid (bk_new y7 (lcs n aE n cE) 24)
      have RE := hid (hr.below (bal (Below.refl y7.heap.size y7) (.cells (lcs n aE n cE) 24)))
      clear hN hr
      generalize hV : y7.alloc (.cells (lcs n aE n cE) 24) = Xy7 at *
      clear hV
      generalize y7.heap.size = bE at *
      have dA := KA.out.cell
      have lA := KA.out.lt
      have dE := KE.out.cell
      have lE := KE.out.lt
      go_upto_region 12 with (go_at_call 14; (with_reducible refine (mI.go RA.out RE.out).mono ?_); rintro e y8 ⟨aI, cI, rfl, hr, hN⟩)
      clear dA lA dE lE
      replace HB := hid (bal (btr HB.out hN) (.cells (lcs n aI n cI) 24))
      replace KA := hid ((bk_on KA.out hN).alloc (.cells (lcs n aI n cI) 24))
      replace RA := hid ((RA.out.below hN).below (bal (Below.refl y8.heap.size y8) (.cells (lcs n aI n cI) 24)))
      replace KB := hid ((bk_on KB.out hN).alloc (.cells (lcs n aI n cI) 24))
      replace RB := hid ((RB.out.below hN).below (bal (Below.refl y8.heap.size y8) (.cells (lcs n aI n cI) 24)))
      replace KAB := hid ((bk_on KAB.out hN).alloc (.cells (lcs n aI n cI) 24))
      replace RAB := hid ((RAB.out.below hN).below (bal (Below.refl y8.heap.size y8) (.cells (lcs n aI n cI) 24)))
      replace KL := hid ((bk_on KL.out hN).alloc (.cells (lcs n aI n cI) 24))
      replace RL := hid ((RL.out.below hN).below (bal (Below.refl y8.heap.size y8) (.cells (lcs n aI n cI) 24)))
      replace KQ := hid ((bk_on KQ.out hN).alloc (.cells (lcs n aI n cI) 24))
      replace RQ := hid ((RQ.out.below hN).below (bal (Below.refl y8.heap.size y8) (.cells (lcs n aI n cI) 24)))
      replace KE := hid ((bk_on KE.out hN).alloc (.cells (lcs n aI n cI) 24))
      replace RE := hid ((RE.out.below hN).below (bal (Below.refl y8.heap.size y8) (.cells (lcs n aI n cI) 24)))
      have KI := hid (bk_new y8 (lcs n aI n cI) 24)
      have RI := hid (hr.below (bal (Below.refl y8.heap.size y8) (.cells (lcs n aI n cI) 24)))
      clear hN hr
      generalize hV : y8.alloc (.cells (lcs n aI n cI) 24) = Xy8 at *
      clear hV
      generalize y8.heap.size = bI at *
      have dA := KA.out.cell
      have lA := KA.out.lt
      have dE := KE.out.cell
      have lE := KE.out.lt
      go_upto_region 13 with (go_at_call 14; (with_reducible refine (mJ.go RE.out RA.out).mono ?_); rintro e y9 ⟨aJ, cJ, rfl, hr, hN⟩)
      clear dA lA dE lE
      replace HB := hid (bal (btr HB.out hN) (.cells (lcs n aJ n cJ) 24))
      replace KA := hid ((bk_on KA.out hN).alloc (.cells (lcs n aJ n cJ) 24))
      replace RA := hid ((RA.out.below hN).below (bal (Below.refl y9.heap.size y9) (.cells (lcs n aJ n cJ) 24)))
      replace KB := hid ((bk_on KB.out hN).alloc (.cells (lcs n aJ n cJ) 24))
      replace RB := hid ((RB.out.below hN).below (bal (Below.refl y9.heap.size y9) (.cells (lcs n aJ n cJ) 24)))
      replace KAB := hid ((bk_on KAB.out hN).alloc (.cells (lcs n aJ n cJ) 24))
      replace RAB := hid ((RAB.out.below hN).below (bal (Below.refl y9.heap.size y9) (.cells (lcs n aJ n cJ) 24)))
      replace KL := hid ((bk_on KL.out hN).alloc (.cells (lcs n aJ n cJ) 24))
      replace RL := hid ((RL.out.below hN).below (bal (Below.refl y9.heap.size y9) (.cells (lcs n aJ n cJ) 24)))
      replace KQ := hid ((bk_on KQ.out hN).alloc (.cells (lcs n aJ n cJ) 24))
      replace RQ := hid ((RQ.out.below hN).below (bal (Below.refl y9.heap.size y9) (.cells (lcs n aJ n cJ) 24)))
      replace KE := hid ((bk_on KE.out hN).alloc (.cells (lcs n aJ n cJ) 24))
      replace RE := hid ((RE.out.below hN).below (bal (Below.refl y9.heap.size y9) (.cells (lcs n aJ n cJ) 24)))
      replace KI := hid ((bk_on KI.out hN).alloc (.cells (lcs n aJ n cJ) 24))
      replace RI := hid ((RI.out.below hN).below (bal (Below.refl y9.heap.size y9) (.cells (lcs n aJ n cJ) 24)))
      have KJ := hid (bk_new y9 (lcs n aJ n cJ) 24)
      have RJ := hid (hr.below (bal (Below.refl y9.heap.size y9) (.cells (lcs n aJ n cJ) 24)))
      clear hN hr
      generalize hV : y9.alloc (.cells (lcs n aJ n cJ) 24) = Xy9 at *
      clear hV
      generalize y9.heap.size = bJ at *
      have dL := KL.out.cell
      have lL := KL.out.lt
      have dQ := KQ.out.cell
      have lQ := KQ.out.lt
      go_upto_region 15 with (first
        | (go_at_call 13; (with_reducible refine (sL.go RL.out RQ.out).mono ?_); rintro e y10 ⟨rfl, hNy10⟩; (replace KA := hid (bk_on KA.out hNy10)); (replace RA := hid (RA.out.below hNy10)); (replace KB := hid (bk_on KB.out hNy10)); (replace RB := hid (RB.out.below hNy10)); (replace KAB := hid (bk_on KAB.out hNy10)); (replace RAB := hid (RAB.out.below hNy10)); (replace KE := hid (bk_on KE.out hNy10)); (replace RE := hid (RE.out.below hNy10)); (replace KI := hid (bk_on KI.out hNy10)); (replace RI := hid (RI.out.below hNy10)); (replace KJ := hid (bk_on KJ.out hNy10)); (replace RJ := hid (RJ.out.below hNy10)); (replace HB := hid (btr HB.out hNy10)); (have dI := KI.out.cell); (have lI := KI.out.lt); (have dA := KA.out.cell); (have lA := KA.out.lt))
        | (go_at_call 13; (with_reducible refine (sA.go RI.out RA.out).mono ?_); rintro e y11 ⟨rfl, hNy11⟩; (replace KA := hid (bk_on KA.out hNy11)); (replace RA := hid (RA.out.below hNy11)); (replace KB := hid (bk_on KB.out hNy11)); (replace RB := hid (RB.out.below hNy11)); (replace KAB := hid (bk_on KAB.out hNy11)); (replace RAB := hid (RAB.out.below hNy11)); (replace KE := hid (bk_on KE.out hNy11)); (replace RE := hid (RE.out.below hNy11)); (replace KI := hid (bk_on KI.out hNy11)); (replace RI := hid (RI.out.below hNy11)); (replace KJ := hid (bk_on KJ.out hNy11)); (replace RJ := hid (RJ.out.below hNy11)); (replace HB := hid (btr HB.out hNy11)); (have dJ := KJ.out.cell); (have lJ := KJ.out.lt); (have dA := KA.out.cell); (have lA := KA.out.lt))
        | (go_at_call 13; (with_reducible refine (sA.go RJ.out RA.out).mono ?_); rintro e y12 ⟨rfl, hNy12⟩; (replace KA := hid (bk_on KA.out hNy12)); (replace RA := hid (RA.out.below hNy12)); (replace KB := hid (bk_on KB.out hNy12)); (replace RB := hid (RB.out.below hNy12)); (replace KAB := hid (bk_on KAB.out hNy12)); (replace RAB := hid (RAB.out.below hNy12)); (replace KE := hid (bk_on KE.out hNy12)); (replace RE := hid (RE.out.below hNy12)); (replace KI := hid (bk_on KI.out hNy12)); (replace RI := hid (RI.out.below hNy12)); (replace KJ := hid (bk_on KJ.out hNy12)); (replace RJ := hid (RJ.out.below hNy12)); (replace HB := hid (btr HB.out hNy12)); (have dA := KA.out.cell); (have lA := KA.out.lt)))
      clear dL lL dQ lQ
      clear dA lA dI lI dJ lJ KL RL KQ RQ hNy10 hNy11 hNy12
      clear KI RI
      clear KJ RJ
      have dA := KA.out.cell
      have lA := KA.out.lt
      rcases hinv with hi | hi
      · obtain ⟨vI, mP, mQ, rfl⟩ := hi.out
        go_upto_region 16 with (go_at_call 20; (with_reducible refine (vI.go RA.out).mono ?_); rintro e y13 ⟨aK, cK, rfl, hr, hN⟩)
        clear dA lA
        replace HB := hid (bal (btr HB.out hN) (.cells (lcs n aK n cK) 24))
        replace KA := hid ((bk_on KA.out hN).alloc (.cells (lcs n aK n cK) 24))
        replace RA := hid ((RA.out.below hN).below (bal (Below.refl y13.heap.size y13) (.cells (lcs n aK n cK) 24)))
        replace KB := hid ((bk_on KB.out hN).alloc (.cells (lcs n aK n cK) 24))
        replace RB := hid ((RB.out.below hN).below (bal (Below.refl y13.heap.size y13) (.cells (lcs n aK n cK) 24)))
        replace KAB := hid ((bk_on KAB.out hN).alloc (.cells (lcs n aK n cK) 24))
        replace RAB := hid ((RAB.out.below hN).below (bal (Below.refl y13.heap.size y13) (.cells (lcs n aK n cK) 24)))
        replace KE := hid ((bk_on KE.out hN).alloc (.cells (lcs n aK n cK) 24))
        replace RE := hid ((RE.out.below hN).below (bal (Below.refl y13.heap.size y13) (.cells (lcs n aK n cK) 24)))
        have KK := hid (bk_new y13 (lcs n aK n cK) 24)
        have RK := hid (hr.below (bal (Below.refl y13.heap.size y13) (.cells (lcs n aK n cK) 24)))
        clear hN hr
        generalize hV : y13.alloc (.cells (lcs n aK n cK) 24) = Xy13 at *
        clear hV
        generalize y13.heap.size = bK at *
        have dA := KA.out.cell
        have lA := KA.out.lt
        go_upto_region 17 with (go_at_call 18; (with_reducible refine (rA.go RA.out).mono ?_); rintro e y14 ⟨rfl, hN⟩)
        clear dA lA
        replace HB := hid (btr HB.out hN)
        replace KA := hid (bk_on KA.out hN)
        replace RA := hid (RA.out.below hN)
        replace KB := hid (bk_on KB.out hN)
        replace RB := hid (RB.out.below hN)
        replace KAB := hid (bk_on KAB.out hN)
        replace RAB := hid (RAB.out.below hN)
        replace KE := hid (bk_on KE.out hN)
        replace RE := hid (RE.out.below hN)
        replace KK := hid (bk_on KK.out hN)
        replace RK := hid (RK.out.below hN)
        clear hN
        have dA := KA.out.cell
        have lA := KA.out.lt
        have dK := KK.out.cell
        have lK := KK.out.lt
        go_upto_region 21 with (go_at_call 14; (with_reducible refine (mP.go RA.out RK.out).mono ?_); rintro e y15 ⟨aP, cP, rfl, hr, hN⟩)
        clear dA lA dK lK
        replace HB := hid (bal (btr HB.out hN) (.cells (lcs n aP n cP) 24))
        replace KA := hid ((bk_on KA.out hN).alloc (.cells (lcs n aP n cP) 24))
        replace RA := hid ((RA.out.below hN).below (bal (Below.refl y15.heap.size y15) (.cells (lcs n aP n cP) 24)))
        replace KB := hid ((bk_on KB.out hN).alloc (.cells (lcs n aP n cP) 24))
        replace RB := hid ((RB.out.below hN).below (bal (Below.refl y15.heap.size y15) (.cells (lcs n aP n cP) 24)))
        replace KAB := hid ((bk_on KAB.out hN).alloc (.cells (lcs n aP n cP) 24))
        replace RAB := hid ((RAB.out.below hN).below (bal (Below.refl y15.heap.size y15) (.cells (lcs n aP n cP) 24)))
        replace KE := hid ((bk_on KE.out hN).alloc (.cells (lcs n aP n cP) 24))
        replace RE := hid ((RE.out.below hN).below (bal (Below.refl y15.heap.size y15) (.cells (lcs n aP n cP) 24)))
        replace KK := hid ((bk_on KK.out hN).alloc (.cells (lcs n aP n cP) 24))
        replace RK := hid ((RK.out.below hN).below (bal (Below.refl y15.heap.size y15) (.cells (lcs n aP n cP) 24)))
        have KP := hid (bk_new y15 (lcs n aP n cP) 24)
        have RP := hid (hr.below (bal (Below.refl y15.heap.size y15) (.cells (lcs n aP n cP) 24)))
        clear hN hr
        generalize hV : y15.alloc (.cells (lcs n aP n cP) 24) = Xy15 at *
        clear hV
        generalize y15.heap.size = bP at *
        have dA := KA.out.cell
        have lA := KA.out.lt
        have dK := KK.out.cell
        have lK := KK.out.lt
        go_upto_region 22 with (go_at_call 14; (with_reducible refine (mQ.go RK.out RA.out).mono ?_); rintro e y16 ⟨aS, cS, rfl, hr, hN⟩)
        clear dA lA dK lK
        replace HB := hid (bal (btr HB.out hN) (.cells (lcs n aS n cS) 24))
        replace KA := hid ((bk_on KA.out hN).alloc (.cells (lcs n aS n cS) 24))
        replace RA := hid ((RA.out.below hN).below (bal (Below.refl y16.heap.size y16) (.cells (lcs n aS n cS) 24)))
        replace KB := hid ((bk_on KB.out hN).alloc (.cells (lcs n aS n cS) 24))
        replace RB := hid ((RB.out.below hN).below (bal (Below.refl y16.heap.size y16) (.cells (lcs n aS n cS) 24)))
        replace KAB := hid ((bk_on KAB.out hN).alloc (.cells (lcs n aS n cS) 24))
        replace RAB := hid ((RAB.out.below hN).below (bal (Below.refl y16.heap.size y16) (.cells (lcs n aS n cS) 24)))
        replace KE := hid ((bk_on KE.out hN).alloc (.cells (lcs n aS n cS) 24))
        replace RE := hid ((RE.out.below hN).below (bal (Below.refl y16.heap.size y16) (.cells (lcs n aS n cS) 24)))
        replace KK := hid ((bk_on KK.out hN).alloc (.cells (lcs n aS n cS) 24))
        replace RK := hid ((RK.out.below hN).below (bal (Below.refl y16.heap.size y16) (.cells (lcs n aS n cS) 24)))
        replace KP := hid ((bk_on KP.out hN).alloc (.cells (lcs n aS n cS) 24))
        replace RP := hid ((RP.out.below hN).below (bal (Below.refl y16.heap.size y16) (.cells (lcs n aS n cS) 24)))
        have KS := hid (bk_new y16 (lcs n aS n cS) 24)
        have RS := hid (hr.below (bal (Below.refl y16.heap.size y16) (.cells (lcs n aS n cS) 24)))
        clear hN hr
        generalize hV : y16.alloc (.cells (lcs n aS n cS) 24) = Xy16 at *
        clear hV
        generalize y16.heap.size = bS at *
        have dP := KP.out.cell
        have lP := KP.out.lt
        have dE := KE.out.cell
        have lE := KE.out.lt
        go_upto_region 24 with (first
          | (go_at_call 13; (with_reducible refine (sE.go RP.out RE.out).mono ?_); rintro e y17 ⟨rfl, hNy17⟩; (replace KA := hid (bk_on KA.out hNy17)); (replace RA := hid (RA.out.below hNy17)); (replace KB := hid (bk_on KB.out hNy17)); (replace RB := hid (RB.out.below hNy17)); (replace KAB := hid (bk_on KAB.out hNy17)); (replace RAB := hid (RAB.out.below hNy17)); (replace KE := hid (bk_on KE.out hNy17)); (replace RE := hid (RE.out.below hNy17)); (replace KS := hid (bk_on KS.out hNy17)); (replace RS := hid (RS.out.below hNy17)); (replace HB := hid (btr HB.out hNy17)); (have dS := KS.out.cell); (have lS := KS.out.lt); (have dE := KE.out.cell); (have lE := KE.out.lt))
          | (go_at_call 13; (with_reducible refine (sE.go RS.out RE.out).mono ?_); rintro e y18 ⟨rfl, hNy18⟩; (replace KA := hid (bk_on KA.out hNy18)); (replace RA := hid (RA.out.below hNy18)); (replace KB := hid (bk_on KB.out hNy18)); (replace RB := hid (RB.out.below hNy18)); (replace KAB := hid (bk_on KAB.out hNy18)); (replace RAB := hid (RAB.out.below hNy18)); (replace KE := hid (bk_on KE.out hNy18)); (replace RE := hid (RE.out.below hNy18)); (replace KS := hid (bk_on KS.out hNy18)); (replace RS := hid (RS.out.below hNy18)); (replace HB := hid (btr HB.out hNy18)); (have dB := KB.out.cell); (have lB := KB.out.lt)))
        clear dP lP dE lE
        clear dS lS dE lE dB lB KP RP KK RK hNy17 hNy18
        clear KS RS
        clear KE RE
        have dB := KB.out.cell
        have lB := KB.out.lt
        go_upto_region 25 with (go_at_call 18; (with_reducible refine (rB.go RB.out).mono ?_); rintro e y19 ⟨rfl, hN⟩)
        clear dB lB
        replace HB := hid (btr HB.out hN)
        replace KA := hid (bk_on KA.out hN)
        replace RA := hid (RA.out.below hN)
        replace KB := hid (bk_on KB.out hN)
        replace RB := hid (RB.out.below hN)
        replace KAB := hid (bk_on KAB.out hN)
        replace RAB := hid (RAB.out.below hN)
        clear hN
        have dAB := KAB.out.cell
        have lAB := KAB.out.lt
        go_upto_region 26 with (go_at_call 18; (with_reducible refine (rAB.go RAB.out).mono ?_); rintro e y20 ⟨rfl, hN⟩)
        clear dAB lAB
        replace HB := hid (btr HB.out hN)
        replace KA := hid (bk_on KA.out hN)
        replace RA := hid (RA.out.below hN)
        replace KB := hid (bk_on KB.out hN)
        replace RB := hid (RB.out.below hN)
        replace KAB := hid (bk_on KAB.out hN)
        replace RAB := hid (RAB.out.below hN)
        clear hN
        have dA := KA.out.cell
        have lA := KA.out.lt
        go_upto_region 29 with (first | (go_at_call 25; (with_reducible refine (tA.go RA.out).mono ?_); rintro e y21 ⟨aT, cT, rfl, hr, hN⟩) | (go_at_call 18; (with_reducible refine (rT.go hr).mono ?_); rintro e y22 ⟨rfl, hM⟩))
        clear dA lA
        replace HB := hid (btr HB.out hN)
        replace KA := hid (bk_on KA.out hN)
        replace RA := hid (RA.out.below hN)
        replace KB := hid (bk_on KB.out hN)
        replace RB := hid (RB.out.below hN)
        replace KAB := hid (bk_on KAB.out hN)
        replace RAB := hid (RAB.out.below hN)
        replace HB := hid (btr HB.out hM)
        replace KA := hid (bk_on KA.out hM)
        replace RA := hid (RA.out.below hM)
        replace KB := hid (bk_on KB.out hM)
        replace RB := hid (RB.out.below hM)
        replace KAB := hid (bk_on KAB.out hM)
        replace RAB := hid (RAB.out.below hM)
        clear hN hM hr
        have dB := KB.out.cell
        have lB := KB.out.lt
        rcases hxy with hx | ⟨X, Z, aX, aAB, aA, ex, hy⟩
        · have aX := hx.out
          go_wp2_with (go_at_call 16; (with_reducible refine (aX.go RB.out).mono ?_); rintro e z1 ⟨rfl, hN⟩)
          go_ret
          exact ⟨rfl, btr HB.out hN⟩
        · replace aX := aX.out
          replace aAB := aAB.out
          replace aA := aA.out
          replace ex := ex.out
          go_upto_region 32 with (go_at_call 16; (with_reducible refine (aX.go RB.out).mono ?_); rintro e y23 ⟨rfl, hN⟩)
          clear dB lB
          replace HB := hid (btr HB.out hN)
          replace KA := hid (bk_on KA.out hN)
          replace RA := hid (RA.out.below hN)
          replace KB := hid (bk_on KB.out hN)
          replace RB := hid (RB.out.below hN)
          replace KAB := hid (bk_on KAB.out hN)
          replace RAB := hid (RAB.out.below hN)
          clear hN
          have dAB := KAB.out.cell
          have lAB := KAB.out.lt
          go_upto_region 33 with (go_at_call 16; (with_reducible refine (aAB.go RAB.out).mono ?_); rintro e y24 ⟨rfl, hN⟩)
          clear dAB lAB
          replace HB := hid (btr HB.out hN)
          replace KA := hid (bk_on KA.out hN)
          replace RA := hid (RA.out.below hN)
          replace KB := hid (bk_on KB.out hN)
          replace RB := hid (RB.out.below hN)
          replace KAB := hid (bk_on KAB.out hN)
          replace RAB := hid (RAB.out.below hN)
          clear hN
          have dA := KA.out.cell
          have lA := KA.out.lt
          go_upto_region 34 with (go_at_call 16; (with_reducible refine (aA.go RA.out).mono ?_); rintro e y25 ⟨rfl, hN⟩)
          clear dA lA
          replace HB := hid (btr HB.out hN)
          replace KA := hid (bk_on KA.out hN)
          replace RA := hid (RA.out.below hN)
          replace KB := hid (bk_on KB.out hN)
          replace RB := hid (RB.out.below hN)
          replace KAB := hid (bk_on KAB.out hN)
          replace RAB := hid (RAB.out.below hN)
          clear hN
          clear KA RA
          clear KAB RAB
          have dB := KB.out.cell
          have lB := KB.out.lt
          rcases hy with ⟨aY, Q, E, aXY⟩ | ⟨Y, Q, aY, aXY, eX⟩
          · replace aY := aY.out
            replace aXY := aXY.out
            go_upto_region 35 with (go_at_call 16; (with_reducible refine (aY.go RB.out).mono ?_); rintro e y26 ⟨rfl, hN⟩)
            clear dB lB
            replace HB := hid (btr HB.out hN)
            replace KB := hid (bk_on KB.out hN)
            replace RB := hid (RB.out.below hN)
            clear hN
            have dB := KB.out.cell
            have lB := KB.out.lt
            go_wp2_with (go_at_call 16; (with_reducible refine (aXY.go RB.out).mono ?_); rintro e z1 ⟨rfl, hN⟩)
            go_ret
            exact ⟨rfl, btr HB.out hN⟩
          · replace aY := aY.out
            replace aXY := aXY.out
            replace eX := eX.out
            go_upto_region 35 with (go_at_call 16; (with_reducible refine (aY.go RB.out).mono ?_); rintro e y27 ⟨rfl, hN⟩)
            clear dB lB
            replace HB := hid (btr HB.out hN)
            replace KB := hid (bk_on KB.out hN)
            replace RB := hid (RB.out.below hN)
            clear hN
            have dB := KB.out.cell
            have lB := KB.out.lt
            go_wp2_with (go_at_call 16; (with_reducible refine (aXY.go RB.out).mono ?_); rintro e z1 ⟨rfl, hN⟩)
            go_ret
            exact ⟨rfl, btr HB.out hN⟩
      · obtain ⟨vI, hra⟩ := hi.out
        go_upto_region 16 with (go_at_call 20; (with_reducible refine (vI.go RA.out).mono ?_); rintro e y28 ⟨aK, cK, rfl, hN⟩)
        clear dA lA
        replace HB := hid (bal (btr HB.out hN) (.cells #[.int .i64 0, .slice aK 0 cK] 24))
        replace KA := hid ((bk_on KA.out hN).alloc (.cells #[.int .i64 0, .slice aK 0 cK] 24))
        replace RA := hid ((RA.out.below hN).below (bal (Below.refl y28.heap.size y28) (.cells #[.int .i64 0, .slice aK 0 cK] 24)))
        replace KB := hid ((bk_on KB.out hN).alloc (.cells #[.int .i64 0, .slice aK 0 cK] 24))
        replace RB := hid ((RB.out.below hN).below (bal (Below.refl y28.heap.size y28) (.cells #[.int .i64 0, .slice aK 0 cK] 24)))
        replace KAB := hid ((bk_on KAB.out hN).alloc (.cells #[.int .i64 0, .slice aK 0 cK] 24))
        replace RAB := hid ((RAB.out.below hN).below (bal (Below.refl y28.heap.size y28) (.cells #[.int .i64 0, .slice aK 0 cK] 24)))
        replace KE := hid ((bk_on KE.out hN).alloc (.cells #[.int .i64 0, .slice aK 0 cK] 24))
        replace RE := hid ((RE.out.below hN).below (bal (Below.refl y28.heap.size y28) (.cells #[.int .i64 0, .slice aK 0 cK] 24)))
        clear hN
        generalize y28.alloc (.cells #[.int .i64 0, .slice aK 0 cK] 24) = Xy28 at *
        have dA := KA.out.cell
        have lA := KA.out.lt
        have hrb : ((ra : Int) == (n : Int)) = false := beq_eq_false_iff_ne.2 (by omega)
        clear hra
        go_upto_region 24 with (go_at_call 18; (with_reducible refine (rA.go RA.out).mono ?_); rintro e y29 ⟨rfl, hN⟩; (have dA2 := (bk_on KA.out hN).cell); (have lA2 := (bk_on KA.out hN).lt))
        clear dA lA
        clear dA2 lA2
        replace HB := hid (btr HB.out hN)
        replace KA := hid (bk_on KA.out hN)
        replace RA := hid (RA.out.below hN)
        replace KB := hid (bk_on KB.out hN)
        replace RB := hid (RB.out.below hN)
        replace KAB := hid (bk_on KAB.out hN)
        replace RAB := hid (RAB.out.below hN)
        replace KE := hid (bk_on KE.out hN)
        replace RE := hid (RE.out.below hN)
        clear hN
        clear KE RE
        have dB := KB.out.cell
        have lB := KB.out.lt
        go_upto_region 25 with (go_at_call 18; (with_reducible refine (rB.go RB.out).mono ?_); rintro e y30 ⟨rfl, hN⟩)
        clear dB lB
        replace HB := hid (btr HB.out hN)
        replace KA := hid (bk_on KA.out hN)
        replace RA := hid (RA.out.below hN)
        replace KB := hid (bk_on KB.out hN)
        replace RB := hid (RB.out.below hN)
        replace KAB := hid (bk_on KAB.out hN)
        replace RAB := hid (RAB.out.below hN)
        clear hN
        have dAB := KAB.out.cell
        have lAB := KAB.out.lt
        go_upto_region 26 with (go_at_call 18; (with_reducible refine (rAB.go RAB.out).mono ?_); rintro e y31 ⟨rfl, hN⟩)
        clear dAB lAB
        replace HB := hid (btr HB.out hN)
        replace KA := hid (bk_on KA.out hN)
        replace RA := hid (RA.out.below hN)
        replace KB := hid (bk_on KB.out hN)
        replace RB := hid (RB.out.below hN)
        replace KAB := hid (bk_on KAB.out hN)
        replace RAB := hid (RAB.out.below hN)
        clear hN
        have dA := KA.out.cell
        have lA := KA.out.lt
        go_upto_region 29 with (first | (go_at_call 25; (with_reducible refine (tA.go RA.out).mono ?_); rintro e y32 ⟨aT, cT, rfl, hr, hN⟩) | (go_at_call 18; (with_reducible refine (rT.go hr).mono ?_); rintro e y33 ⟨rfl, hM⟩))
        clear dA lA
        replace HB := hid (btr HB.out hN)
        replace KA := hid (bk_on KA.out hN)
        replace RA := hid (RA.out.below hN)
        replace KB := hid (bk_on KB.out hN)
        replace RB := hid (RB.out.below hN)
        replace KAB := hid (bk_on KAB.out hN)
        replace RAB := hid (RAB.out.below hN)
        replace HB := hid (btr HB.out hM)
        replace KA := hid (bk_on KA.out hM)
        replace RA := hid (RA.out.below hM)
        replace KB := hid (bk_on KB.out hM)
        replace RB := hid (RB.out.below hM)
        replace KAB := hid (bk_on KAB.out hM)
        replace RAB := hid (RAB.out.below hM)
        clear hN hM hr
        have dB := KB.out.cell
        have lB := KB.out.lt
        rcases hxy with hx | ⟨X, Z, aX, aAB, aA, ex, hy⟩
        · have aX := hx.out
          go_wp2_with (go_at_call 16; (with_reducible refine (aX.go RB.out).mono ?_); rintro e z1 ⟨rfl, hN⟩)
          go_ret
          exact ⟨rfl, btr HB.out hN⟩
        · replace aX := aX.out
          replace aAB := aAB.out
          replace aA := aA.out
          replace ex := ex.out
          go_upto_region 32 with (go_at_call 16; (with_reducible refine (aX.go RB.out).mono ?_); rintro e y34 ⟨rfl, hN⟩)
          clear dB lB
          replace HB := hid (btr HB.out hN)
          replace KA := hid (bk_on KA.out hN)
          replace RA := hid (RA.out.below hN)
          replace KB := hid (bk_on KB.out hN)
          replace RB := hid (RB.out.below hN)
          replace KAB := hid (bk_on KAB.out hN)
          replace RAB := hid (RAB.out.below hN)
          clear hN
          have dAB := KAB.out.cell
          have lAB := KAB.out.lt
          go_upto_region 33 with (go_at_call 16; (with_reducible refine (aAB.go RAB.out).mono ?_); rintro e y35 ⟨rfl, hN⟩)
          clear dAB lAB
          replace HB := hid (btr HB.out hN)
          replace KA := hid (bk_on KA.out hN)
          replace RA := hid (RA.out.below hN)
          replace KB := hid (bk_on KB.out hN)
          replace RB := hid (RB.out.below hN)
          replace KAB := hid (bk_on KAB.out hN)
          replace RAB := hid (RAB.out.below hN)
          clear hN
          have dA := KA.out.cell
          have lA := KA.out.lt
          go_upto_region 34 with (go_at_call 16; (with_reducible refine (aA.go RA.out).mono ?_); rintro e y36 ⟨rfl, hN⟩)
          clear dA lA
          replace HB := hid (btr HB.out hN)
          replace KA := hid (bk_on KA.out hN)
          replace RA := hid (RA.out.below hN)
          replace KB := hid (bk_on KB.out hN)
          replace RB := hid (RB.out.below hN)
          replace KAB := hid (bk_on KAB.out hN)
          replace RAB := hid (RAB.out.below hN)
          clear hN
          clear KA RA
          clear KAB RAB
          have dB := KB.out.cell
          have lB := KB.out.lt
          rcases hy with ⟨aY, Q, E, aXY⟩ | ⟨Y, Q, aY, aXY, eX⟩
          · replace aY := aY.out
            replace aXY := aXY.out
            go_upto_region 35 with (go_at_call 16; (with_reducible refine (aY.go RB.out).mono ?_); rintro e y37 ⟨rfl, hN⟩)
            clear dB lB
            replace HB := hid (btr HB.out hN)
            replace KB := hid (bk_on KB.out hN)
            replace RB := hid (RB.out.below hN)
            clear hN
            have dB := KB.out.cell
            have lB := KB.out.lt
            go_wp2_with (go_at_call 16; (with_reducible refine (aXY.go RB.out).mono ?_); rintro e z1 ⟨rfl, hN⟩)
            go_ret
            exact ⟨rfl, btr HB.out hN⟩
          · replace aY := aY.out
            replace aXY := aXY.out
            replace eX := eX.out
            go_upto_region 35 with (go_at_call 16; (with_reducible refine (aY.go RB.out).mono ?_); rintro e y38 ⟨rfl, hN⟩)
            clear dB lB
            replace HB := hid (btr HB.out hN)
            replace KB := hid (bk_on KB.out hN)
            replace RB := hid (RB.out.below hN)
            clear hN
            have dB := KB.out.cell
            have lB := KB.out.lt
            go_wp2_with (go_at_call 16; (with_reducible refine (aXY.go RB.out).mono ?_); rintro e z1 ⟨rfl, hN⟩)
            go_ret
            exact ⟨rfl, btr HB.out hN⟩
end Go.Proofs.Ytinkdonaedoojaa
