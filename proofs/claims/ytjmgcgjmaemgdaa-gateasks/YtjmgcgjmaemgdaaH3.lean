/-
  The reference's Column.
-/
import Derived.Test.YtjmgcgjmaemgdaaS3
import Derived.Test.YtjmgcgjmaemgdaaK5
namespace Go.Proofs.Ytjmgcgjmaemgdaa
open Go.RowKit Go.Sort

structure CJ (w W : World) (r h : Nat → Int) (m : Nat → Nat) (v9 v10 : Value) (i k : Nat) : Prop where
  below : Below w.heap.size w W
  o9 : W.ownsRow w.heap.size 3 1 v9 i (rowsL r i)
  o10 : W.ownsRow w.heap.size 46 3 v10 k (ampsL m h k)
  ap : ∀ g, v9.ownBlock = some g → v10.ownBlock ≠ some g
section
variable {w W W2 : World} {r h : Nat → Int} {m : Nat → Nat} {v9 v10 v' : Value} {i k : Nat}
theorem CJ.on (H : CJ w W r h m v9 v10 i k) (hb : Below W.heap.size W W2) : CJ w W2 r h m v9 v10 i k :=
  ⟨btr H.below hb, H.o9.kept (grown_of hb) (by cases v9.ownBlock <;> simp), H.o10.kept (grown_of hb) (by cases v10.ownBlock <;> simp), H.ap⟩
theorem CJ.alloc (H : CJ w W r h m v9 v10 i k) (o : Obj) : CJ w (W.alloc o) r h m v9 v10 i k := H.on (bal (Below.refl _ _) _)
theorem CJ.row (H : CJ w W r h m v9 v10 i k) (hg : W.grownBy W2 v9.ownBlock) {x : Int} (hx : r i = x) (hown : W2.ownsRow w.heap.size 3 1 v' (i + 1) (rowsL r i ++ [.int .i64 x])) (hloc : v'.ownBlock = v9.ownBlock ∨ v'.ownBlock = some W.heap.size) : CJ w W2 r h m v' v10 (i + 1) k where
  below := H.below.grown hg H.below.size (fun j e => (H.o9.lt j e).1)
  o9 := by rw [rowsL_succ, hx]; exact hown
  o10 := H.o10.kept hg (by
    cases e : v10.ownBlock with
    | none => exact .inl rfl
    | some g => exact .inr fun e' => H.ap g e'.symm e)
  ap := fun g hg' e => by
    rcases hloc with hl | hl
    · exact H.ap g (hl ▸ hg') e
    · rw [hl] at hg'
      injection hg' with hg'
      have := (H.o10.lt g e).2
      omega
theorem CJ.amp (H : CJ w W r h m v9 v10 i k) (hg : W.grownBy W2 v10.ownBlock) {a : Nat} {b : Int} (ha : m k = a) (hb : h k = b) (hown : W2.ownsRow w.heap.size 46 3 v' (k + 1) (ampsL m h k ++ unL a b)) (hloc : v'.ownBlock = v10.ownBlock ∨ v'.ownBlock = some W.heap.size) : CJ w W2 r h m v9 v' i (k + 1) where
  below := H.below.grown hg H.below.size (fun j e => (H.o10.lt j e).1)
  o9 := H.o9.kept hg (by
    cases e : v9.ownBlock with
    | none => exact .inl rfl
    | some g => exact .inr fun e' => H.ap g e e'.symm)
  o10 := by rw [ampsL_succ, ha, hb]; exact hown
  ap := fun g hg' e => by
    rcases hloc with hl | hl
    · exact H.ap g hg' (hl ▸ e)
    · rw [hl] at e
      injection e with e
      have := (H.o9.lt g hg').2
      omega
end
/-- What stands at row x of the column. -/
abbrev GXat (r hf : Nat → Int) (mm : Nat → Nat) (pe ph : Nat → Int) (at_ : Nat → Nat) (x : Nat) : Prop :=
  (∃ m' h' : Nat, pe x = m' ∧ ph x = h' ∧ m' < 8 ∧ h' ≤ 1 ∧ r (at_ x) = x ∧ mm (at_ x) = m' ∧ hf (at_ x) = h' ∧ at_ (x + 1) = at_ x + 1 ∧ at_ x ≤ 8) ∨ (pe x = -1 ∧ at_ (x + 1) = at_ x)
set_option maxRecDepth 100000 in
set_option maxHeartbeats 8000000 in
theorem rcolumn_1 {s : ByteArray} (y : Nat) (hy : y < 2) (n : Nat) (r hf : Nat → Int) (mm : Nat → Nat) (pe ph : Nat → Int) (at_ : Nat → Nat) (w : World)
    (A : ∀ w, Calls Try.prog 9 #[.string s] w fun e w' => e = .returned (.int .i64 1) ∧ w' = w)
    (EN : ∀ x, x < 2 → ∀ w, Calls Try.prog 34 #[.string s, .int .i64 (x : Nat), .int .i64 (y : Nat)] w fun e w' => e = .returned (.tuple #[.int .i64 (pe x), .int .i64 (ph x)]) ∧ w' = w)
    (GX : ∀ x, x < 2 → GXat r hf mm pe ph at_ x) (a0 : at_ 0 = 0) (fin : at_ 2 = n) :
    Calls Try.prog 22 #[.string s, .int .i64 (y : Nat)] w fun e w' => CR w w' n r hf mm e := by
  obtain ⟨i3, hi3, hz3, hs3, hb3⟩ := info_parts Try.info3
  obtain ⟨i4, hi4, hz4, hs4, hb4⟩ := info_parts Try.info46
  have HE := hidG EN
  have HG := hidG GX
  have HF := hidG fin
  have H0 := hidG a0
  clear EN GX fin a0
  have hy0 : ¬ (y : Int) < 0 := by omega
  have hy1 := hy
  go_enter Try.func22, Try.ntmps22
  go_upto_region 9 with (go_at_call 9; (with_reducible refine (A _).mono ?_); rintro e w1 ⟨rfl, rfl⟩)
  have hC : Hid (CJ w1 w1 r hf mm (.slice none 0 0) (.slice none 0 0) (at_ 0) (at_ 0)) := by
    rw [H0.out]
    exact ⟨Below.refl _ _, World.ownsRow_nil _ _ _ _, World.ownsRow_nil _ _ _ _, fun g e => by simp [Value.ownBlock] at e⟩
  go_loopw [8, 9, 10] (fun v9 v10 v wr => ∃ x : Nat, x ≤ 2 ∧ v = .int .i64 x ∧ Hid (CJ w1 wr r hf mm v9 v10 (at_ x) (at_ x))) (fun _ _ v _ => 2 - (intOf v).toNat)
  case atStart => exact ⟨0, by omega, rfl, hC⟩
  case round =>
    clear hC
    obtain ⟨x, hx, rfl, hH⟩ := hrel
    by_cases hlt : x < 2
    · have E := HE.out x hlt
      rcases HG.out x hlt with ⟨m', h', e1, e2, h8, h1, er, em, eh, ea, hk8⟩ | ⟨e1, ea⟩
      · rw [e1, e2] at E
        have PW := fun w => rpower m' h8 h' h1 w
        have hEA := hidG ea
        have hER := hidG er
        have hEM := hidG em
        have hEH := hidG eh
        clear e1 e2 h8 h1 er em eh ea
        generalize at_ x = k at *
        have hm0 : ¬ ((m' : Int) < 0) := by omega
        have hA : Hid (CJ w1 (wr.alloc (.cells #[.int .i64 (x : Nat)] 3)) r hf mm _ _ k k) := hH.out.alloc _
        have N1 : ∀ (w4 : World) j u, [Value.int .i64 ((x : Nat) : Int)][j]? = some u → (w4.alloc (.cells #[.int .i64 (x : Nat)] 3)).cell? ((⟨w4.heap.size, 0, none⟩ : Addr).add j) = some u := by
          simp [go_sem]
        have N2 : ∀ (w4 : World) j u, (unL m' (h' : Nat))[j]? = some u → (w4.alloc (.cells (unL m' (h' : Nat)).toArray 46)).cell? ((⟨w4.heap.size, 0, none⟩ : Addr).add j) = some u := fun w4 j u hj => by
          rw [WideShapes.add_plain, Nat.zero_add]
          exact (Bx.new w4 (unL m' (h' : Nat)) 46).c j u hj
        have O2 : ∀ u ∈ unL m' (h' : Nat), u.oneCell' = true := fun u hu => by
          simp at hu
          rcases hu with rfl | rfl | rfl <;> rfl
        go_wp2_with (first
          | (go_at_call 34; (with_reducible refine (E _).mono ?_); rintro e w2 ⟨rfl, rfl⟩)
          | (at_builtin; refine wpList_append_own_at _ rfl _ _ 36 rfl w1.heap.size 3 i3 (.int .i64 0) 1 8 Try.underlying36 hi3 hz3 hs3 hb3 rfl (by decide) _ k (rowsL r k) rfl hA.out.o9 ⟨_, 0, none⟩ 1 1 [.int .i64 (x : Nat)] rfl rfl (N1 _) (fun u hu => by simp at hu; rw [hu]; rfl) (by unfold maxLen; omega) (by omega) hA.out.below.size ?_; intro v3 w3 hown3 hgrow3 hnil3 hloc3; have hR : Hid (CJ w1 w3 r hf mm v3 _ (k + 1) k) := hA.out.row hgrow3 hER.out hown3 hloc3; clear hown3 hgrow3 hnil3 hloc3)
          | (go_at_call 35; (with_reducible refine (PW _).mono ?_); rintro e w4 ⟨rfl, hN4⟩; have hV : Hid (CJ w1 (w4.alloc (.cells (unL m' (h' : Nat)).toArray 46)) r hf mm v3 _ (k + 1) k) := (hR.out.on hN4).alloc _)
          | (at_builtin; refine wpList_append_own_at _ rfl _ _ 37 rfl w1.heap.size 46 i4 (.agg #[.complex .f64 0 0, .complex .f64 0 0, .int .i64 0]) 3 40 Try.underlying37 hi4 hz4 hs4 hb4 rfl (by decide) _ k (ampsL mm hf k) rfl hV.out.o10 ⟨w4.heap.size, 0, none⟩ 1 1 (unL m' (h' : Nat)) rfl rfl (N2 w4) O2 (by unfold maxLen; omega) (by omega) hV.out.below.size ?_; intro v5 w5 hown5 hgrow5 hnil5 hloc5; have hZ : Hid (CJ w1 w5 r hf mm v3 v5 (k + 1) (k + 1)) := hV.out.amp hgrow5 hEM.out hEH.out hown5 hloc5; clear hown5 hgrow5 hnil5 hloc5))
        go_roundw
        case rel => exact ⟨x + 1, by omega, by go_num, by rw [hEA.out]; exact hZ⟩
        case measure => simp [intOf]; omega
      · rw [e1] at E
        have hEA := hidG ea
        clear e1 ea
        go_wp2_with (go_at_call 34; (with_reducible refine (E _).mono ?_); rintro e w2 ⟨rfl, rfl⟩)
        go_roundw
        case rel => exact ⟨x + 1, by omega, by go_num, by rw [hEA.out]; exact hH⟩
        case measure => simp [intOf]; omega
    · obtain rfl : x = 2 := by omega
      rw [HF.out] at hH
      go_wp2
      go_ret3
      exact ⟨hH.out.below, _, _, rfl, hH.out.o9, hH.out.o10⟩
set_option maxRecDepth 100000 in
set_option maxHeartbeats 8000000 in
theorem rcolumn_2 {s : ByteArray} (y : Nat) (hy : y < 4) (n : Nat) (r hf : Nat → Int) (mm : Nat → Nat) (pe ph : Nat → Int) (at_ : Nat → Nat) (w : World)
    (A : ∀ w, Calls Try.prog 9 #[.string s] w fun e w' => e = .returned (.int .i64 2) ∧ w' = w)
    (EN : ∀ x, x < 4 → ∀ w, Calls Try.prog 34 #[.string s, .int .i64 (x : Nat), .int .i64 (y : Nat)] w fun e w' => e = .returned (.tuple #[.int .i64 (pe x), .int .i64 (ph x)]) ∧ w' = w)
    (GX : ∀ x, x < 4 → GXat r hf mm pe ph at_ x) (a0 : at_ 0 = 0) (fin : at_ 4 = n) :
    Calls Try.prog 22 #[.string s, .int .i64 (y : Nat)] w fun e w' => CR w w' n r hf mm e := by
  obtain ⟨i3, hi3, hz3, hs3, hb3⟩ := info_parts Try.info3
  obtain ⟨i4, hi4, hz4, hs4, hb4⟩ := info_parts Try.info46
  have HE := hidG EN
  have HG := hidG GX
  have HF := hidG fin
  have H0 := hidG a0
  clear EN GX fin a0
  have hy0 : ¬ (y : Int) < 0 := by omega
  have hy1 := hy
  go_enter Try.func22, Try.ntmps22
  go_upto_region 9 with (go_at_call 9; (with_reducible refine (A _).mono ?_); rintro e w1 ⟨rfl, rfl⟩)
  have hC : Hid (CJ w1 w1 r hf mm (.slice none 0 0) (.slice none 0 0) (at_ 0) (at_ 0)) := by
    rw [H0.out]
    exact ⟨Below.refl _ _, World.ownsRow_nil _ _ _ _, World.ownsRow_nil _ _ _ _, fun g e => by simp [Value.ownBlock] at e⟩
  go_loopw [8, 9, 10] (fun v9 v10 v wr => ∃ x : Nat, x ≤ 4 ∧ v = .int .i64 x ∧ Hid (CJ w1 wr r hf mm v9 v10 (at_ x) (at_ x))) (fun _ _ v _ => 4 - (intOf v).toNat)
  case atStart => exact ⟨0, by omega, rfl, hC⟩
  case round =>
    clear hC
    obtain ⟨x, hx, rfl, hH⟩ := hrel
    by_cases hlt : x < 4
    · have E := HE.out x hlt
      rcases HG.out x hlt with ⟨m', h', e1, e2, h8, h1, er, em, eh, ea, hk8⟩ | ⟨e1, ea⟩
      · rw [e1, e2] at E
        have PW := fun w => rpower m' h8 h' h1 w
        have hEA := hidG ea
        have hER := hidG er
        have hEM := hidG em
        have hEH := hidG eh
        clear e1 e2 h8 h1 er em eh ea
        generalize at_ x = k at *
        have hm0 : ¬ ((m' : Int) < 0) := by omega
        have hA : Hid (CJ w1 (wr.alloc (.cells #[.int .i64 (x : Nat)] 3)) r hf mm _ _ k k) := hH.out.alloc _
        have N1 : ∀ (w4 : World) j u, [Value.int .i64 ((x : Nat) : Int)][j]? = some u → (w4.alloc (.cells #[.int .i64 (x : Nat)] 3)).cell? ((⟨w4.heap.size, 0, none⟩ : Addr).add j) = some u := by
          simp [go_sem]
        have N2 : ∀ (w4 : World) j u, (unL m' (h' : Nat))[j]? = some u → (w4.alloc (.cells (unL m' (h' : Nat)).toArray 46)).cell? ((⟨w4.heap.size, 0, none⟩ : Addr).add j) = some u := fun w4 j u hj => by
          rw [WideShapes.add_plain, Nat.zero_add]
          exact (Bx.new w4 (unL m' (h' : Nat)) 46).c j u hj
        have O2 : ∀ u ∈ unL m' (h' : Nat), u.oneCell' = true := fun u hu => by
          simp at hu
          rcases hu with rfl | rfl | rfl <;> rfl
        go_wp2_with (first
          | (go_at_call 34; (with_reducible refine (E _).mono ?_); rintro e w2 ⟨rfl, rfl⟩)
          | (at_builtin; refine wpList_append_own_at _ rfl _ _ 36 rfl w1.heap.size 3 i3 (.int .i64 0) 1 8 Try.underlying36 hi3 hz3 hs3 hb3 rfl (by decide) _ k (rowsL r k) rfl hA.out.o9 ⟨_, 0, none⟩ 1 1 [.int .i64 (x : Nat)] rfl rfl (N1 _) (fun u hu => by simp at hu; rw [hu]; rfl) (by unfold maxLen; omega) (by omega) hA.out.below.size ?_; intro v3 w3 hown3 hgrow3 hnil3 hloc3; have hR : Hid (CJ w1 w3 r hf mm v3 _ (k + 1) k) := hA.out.row hgrow3 hER.out hown3 hloc3; clear hown3 hgrow3 hnil3 hloc3)
          | (go_at_call 35; (with_reducible refine (PW _).mono ?_); rintro e w4 ⟨rfl, hN4⟩; have hV : Hid (CJ w1 (w4.alloc (.cells (unL m' (h' : Nat)).toArray 46)) r hf mm v3 _ (k + 1) k) := (hR.out.on hN4).alloc _)
          | (at_builtin; refine wpList_append_own_at _ rfl _ _ 37 rfl w1.heap.size 46 i4 (.agg #[.complex .f64 0 0, .complex .f64 0 0, .int .i64 0]) 3 40 Try.underlying37 hi4 hz4 hs4 hb4 rfl (by decide) _ k (ampsL mm hf k) rfl hV.out.o10 ⟨w4.heap.size, 0, none⟩ 1 1 (unL m' (h' : Nat)) rfl rfl (N2 w4) O2 (by unfold maxLen; omega) (by omega) hV.out.below.size ?_; intro v5 w5 hown5 hgrow5 hnil5 hloc5; have hZ : Hid (CJ w1 w5 r hf mm v3 v5 (k + 1) (k + 1)) := hV.out.amp hgrow5 hEM.out hEH.out hown5 hloc5; clear hown5 hgrow5 hnil5 hloc5))
        go_roundw
        case rel => exact ⟨x + 1, by omega, by go_num, by rw [hEA.out]; exact hZ⟩
        case measure => simp [intOf]; omega
      · rw [e1] at E
        have hEA := hidG ea
        clear e1 ea
        go_wp2_with (go_at_call 34; (with_reducible refine (E _).mono ?_); rintro e w2 ⟨rfl, rfl⟩)
        go_roundw
        case rel => exact ⟨x + 1, by omega, by go_num, by rw [hEA.out]; exact hH⟩
        case measure => simp [intOf]; omega
    · obtain rfl : x = 4 := by omega
      rw [HF.out] at hH
      go_wp2
      go_ret3
      exact ⟨hH.out.below, _, _, rfl, hH.out.o9, hH.out.o10⟩
set_option maxRecDepth 100000 in
set_option maxHeartbeats 8000000 in
theorem rcolumn_3 {s : ByteArray} (y : Nat) (hy : y < 8) (n : Nat) (r hf : Nat → Int) (mm : Nat → Nat) (pe ph : Nat → Int) (at_ : Nat → Nat) (w : World)
    (A : ∀ w, Calls Try.prog 9 #[.string s] w fun e w' => e = .returned (.int .i64 3) ∧ w' = w)
    (EN : ∀ x, x < 8 → ∀ w, Calls Try.prog 34 #[.string s, .int .i64 (x : Nat), .int .i64 (y : Nat)] w fun e w' => e = .returned (.tuple #[.int .i64 (pe x), .int .i64 (ph x)]) ∧ w' = w)
    (GX : ∀ x, x < 8 → GXat r hf mm pe ph at_ x) (a0 : at_ 0 = 0) (fin : at_ 8 = n) :
    Calls Try.prog 22 #[.string s, .int .i64 (y : Nat)] w fun e w' => CR w w' n r hf mm e := by
  obtain ⟨i3, hi3, hz3, hs3, hb3⟩ := info_parts Try.info3
  obtain ⟨i4, hi4, hz4, hs4, hb4⟩ := info_parts Try.info46
  have HE := hidG EN
  have HG := hidG GX
  have HF := hidG fin
  have H0 := hidG a0
  clear EN GX fin a0
  have hy0 : ¬ (y : Int) < 0 := by omega
  have hy1 := hy
  go_enter Try.func22, Try.ntmps22
  go_upto_region 9 with (go_at_call 9; (with_reducible refine (A _).mono ?_); rintro e w1 ⟨rfl, rfl⟩)
  have hC : Hid (CJ w1 w1 r hf mm (.slice none 0 0) (.slice none 0 0) (at_ 0) (at_ 0)) := by
    rw [H0.out]
    exact ⟨Below.refl _ _, World.ownsRow_nil _ _ _ _, World.ownsRow_nil _ _ _ _, fun g e => by simp [Value.ownBlock] at e⟩
  go_loopw [8, 9, 10] (fun v9 v10 v wr => ∃ x : Nat, x ≤ 8 ∧ v = .int .i64 x ∧ Hid (CJ w1 wr r hf mm v9 v10 (at_ x) (at_ x))) (fun _ _ v _ => 8 - (intOf v).toNat)
  case atStart => exact ⟨0, by omega, rfl, hC⟩
  case round =>
    clear hC
    obtain ⟨x, hx, rfl, hH⟩ := hrel
    by_cases hlt : x < 8
    · have E := HE.out x hlt
      rcases HG.out x hlt with ⟨m', h', e1, e2, h8, h1, er, em, eh, ea, hk8⟩ | ⟨e1, ea⟩
      · rw [e1, e2] at E
        have PW := fun w => rpower m' h8 h' h1 w
        have hEA := hidG ea
        have hER := hidG er
        have hEM := hidG em
        have hEH := hidG eh
        clear e1 e2 h8 h1 er em eh ea
        generalize at_ x = k at *
        have hm0 : ¬ ((m' : Int) < 0) := by omega
        have hA : Hid (CJ w1 (wr.alloc (.cells #[.int .i64 (x : Nat)] 3)) r hf mm _ _ k k) := hH.out.alloc _
        have N1 : ∀ (w4 : World) j u, [Value.int .i64 ((x : Nat) : Int)][j]? = some u → (w4.alloc (.cells #[.int .i64 (x : Nat)] 3)).cell? ((⟨w4.heap.size, 0, none⟩ : Addr).add j) = some u := by
          simp [go_sem]
        have N2 : ∀ (w4 : World) j u, (unL m' (h' : Nat))[j]? = some u → (w4.alloc (.cells (unL m' (h' : Nat)).toArray 46)).cell? ((⟨w4.heap.size, 0, none⟩ : Addr).add j) = some u := fun w4 j u hj => by
          rw [WideShapes.add_plain, Nat.zero_add]
          exact (Bx.new w4 (unL m' (h' : Nat)) 46).c j u hj
        have O2 : ∀ u ∈ unL m' (h' : Nat), u.oneCell' = true := fun u hu => by
          simp at hu
          rcases hu with rfl | rfl | rfl <;> rfl
        go_wp2_with (first
          | (go_at_call 34; (with_reducible refine (E _).mono ?_); rintro e w2 ⟨rfl, rfl⟩)
          | (at_builtin; refine wpList_append_own_at _ rfl _ _ 36 rfl w1.heap.size 3 i3 (.int .i64 0) 1 8 Try.underlying36 hi3 hz3 hs3 hb3 rfl (by decide) _ k (rowsL r k) rfl hA.out.o9 ⟨_, 0, none⟩ 1 1 [.int .i64 (x : Nat)] rfl rfl (N1 _) (fun u hu => by simp at hu; rw [hu]; rfl) (by unfold maxLen; omega) (by omega) hA.out.below.size ?_; intro v3 w3 hown3 hgrow3 hnil3 hloc3; have hR : Hid (CJ w1 w3 r hf mm v3 _ (k + 1) k) := hA.out.row hgrow3 hER.out hown3 hloc3; clear hown3 hgrow3 hnil3 hloc3)
          | (go_at_call 35; (with_reducible refine (PW _).mono ?_); rintro e w4 ⟨rfl, hN4⟩; have hV : Hid (CJ w1 (w4.alloc (.cells (unL m' (h' : Nat)).toArray 46)) r hf mm v3 _ (k + 1) k) := (hR.out.on hN4).alloc _)
          | (at_builtin; refine wpList_append_own_at _ rfl _ _ 37 rfl w1.heap.size 46 i4 (.agg #[.complex .f64 0 0, .complex .f64 0 0, .int .i64 0]) 3 40 Try.underlying37 hi4 hz4 hs4 hb4 rfl (by decide) _ k (ampsL mm hf k) rfl hV.out.o10 ⟨w4.heap.size, 0, none⟩ 1 1 (unL m' (h' : Nat)) rfl rfl (N2 w4) O2 (by unfold maxLen; omega) (by omega) hV.out.below.size ?_; intro v5 w5 hown5 hgrow5 hnil5 hloc5; have hZ : Hid (CJ w1 w5 r hf mm v3 v5 (k + 1) (k + 1)) := hV.out.amp hgrow5 hEM.out hEH.out hown5 hloc5; clear hown5 hgrow5 hnil5 hloc5))
        go_roundw
        case rel => exact ⟨x + 1, by omega, by go_num, by rw [hEA.out]; exact hZ⟩
        case measure => simp [intOf]; omega
      · rw [e1] at E
        have hEA := hidG ea
        clear e1 ea
        go_wp2_with (go_at_call 34; (with_reducible refine (E _).mono ?_); rintro e w2 ⟨rfl, rfl⟩)
        go_roundw
        case rel => exact ⟨x + 1, by omega, by go_num, by rw [hEA.out]; exact hH⟩
        case measure => simp [intOf]; omega
    · obtain rfl : x = 8 := by omega
      rw [HF.out] at hH
      go_wp2
      go_ret3
      exact ⟨hH.out.below, _, _, rfl, hH.out.o9, hH.out.o10⟩
end Go.Proofs.Ytjmgcgjmaemgdaa
