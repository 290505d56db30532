/-
  Each column of each gate; Halves, Clifford, Diagonal.
-/
import Derived.Test.YtjmgcgjmaemgdaaL5
import Derived.Test.YtjmgcgjmaemgdaaN1
namespace Go.Proofs.Ytjmgcgjmaemgdaa
open Go.RowKit Go.Sort

set_option maxRecDepth 100000 in
set_option maxHeartbeats 4000000 in
theorem column_1 {s : ByteArray} {i : Nat} {c : Int} {f : Nat} {p h : Int} {cl di : Bool} {inv : ByteArray} (H : Hit s i 1 c f p h cl di inv) (y : Int) (n : Nat) (r pw hf : Nat → Int) (m : Nat → Nat) (w : World) (hy : 0 ≤ y) (hy2 : y < 2) (hn : n ≤ 8)
    (EN : ∀ w, Calls Try.prog 32 #[kd 1 c f p h cl di inv, .int .i64 y] w fun e w' => ∃ b, e = .returned (.slice (some ⟨b, 0, none⟩) n n) ∧ EB w' b n r pw hf ∧ Below w.heap.size w w')
    (VA : ∀ j, j < n → 0 ≤ hf j ∧ hf j ≤ 60 ∧ bits .and .i64 (pw j) 7 = (m j : Int) ∧ m j < 8) :
    Calls Try.prog 21 #[.string s, .int .i64 y] w fun e w' => CR w w' n r hf m e := by
  have K := kinds_any w
  have L := run_look s i _ H true
  have hW := below_map w
  clear H
  generalize KA 25 = ka at *
  have y1 : ¬ y < 0 := by omega
  have y2 : ¬ 2 ≤ y := by omega
  have HV : Hid (∀ j, j < n → 0 ≤ hf j ∧ hf j ≤ 60 ∧ bits .and .i64 (pw j) 7 = (m j : Int) ∧ m j < 8) := VA
  clear VA hy hy2
  obtain ⟨i3, hi3, hz3, hs3, hb3⟩ := info_parts Try.info3
  obtain ⟨i4, hi4, hz4, hs4, hb4⟩ := info_parts Try.info46
  go_enter Try.func21, Try.ntmps21
  go_upto_region 9 with (first
    | (go_at_call 30; (with_reducible refine K.mono ?_); rintro e w1 ⟨rfl, rfl⟩)
    | (go_at_call 32; (with_reducible refine (EN _).mono ?_); rintro e w2 ⟨b, rfl, hE, hN⟩))
  clear K L EN
  have hC : Hid (CI w w2 b n r pw hf m (.slice none 0 0) (.slice none 0 0) 0 0) := ⟨btr (bal hW _) hN, hE, World.ownsRow_nil _ _ _ _, World.ownsRow_nil _ _ _ _, fun g e => by simp [Value.ownBlock] at e, by simp [Value.ownBlock], by simp [Value.ownBlock]⟩
  clear hW hN hE
  go_loopw [9, 10, 34] (fun v9 v10 v wr => ∃ k : Nat, k ≤ n ∧ v = .int .i64 k ∧ Hid (CI w wr b n r pw hf m v9 v10 k k)) (fun _ _ v _ => n - (intOf v).toNat)
  case atStart => exact ⟨0, by omega, rfl, hC⟩
  case round =>
    clear hC
    obtain ⟨k, hk, rfl, hH⟩ := hrel
    by_cases hlt : k < n
    · have c0 := hH.out.ent.c0 k hlt
      have c1 := hH.out.ent.c1 k hlt
      have c2 := hH.out.ent.c2 k hlt
      obtain ⟨h0, h6, hm, h8⟩ := HV.out k hlt
      have VL := fun w => value_any (r k) (pw k) (hf k) (m k) w h0 h6 hm h8
      clear h0 h6 hm h8
      have hA : Hid (CI w ((wr.alloc (.cells #[.int .i64 (r k), .int .i64 (pw k), .int .i64 (hf k)] 67)).alloc (.cells #[.int .i64 (r k)] 3)) b n r pw hf m _ _ k k) := (hH.out.alloc _).alloc _
      have hB := ((Bx.new wr [.int .i64 (r k), .int .i64 (pw k), .int .i64 (hf k)] 67).alloc (.cells #[.int .i64 (r k)] 3))
      have hne := hH.out.ne9
      have N1 : ∀ j u, [Value.int .i64 (r k)][j]? = some u → ((wr.alloc (.cells #[.int .i64 (r k), .int .i64 (pw k), .int .i64 (hf k)] 67)).alloc (.cells #[.int .i64 (r k)] 3)).cell? ((⟨wr.heap.size + 1, 0, none⟩ : Addr).add j) = some u := by
        simp [go_sem]
      have N2 : ∀ (w4 : World) j u, (unL (m k) (hf k))[j]? = some u → (w4.alloc (.cells (unL (m k) (hf k)).toArray 46)).cell? ((⟨w4.heap.size, 0, none⟩ : Addr).add j) = some u := fun w4 j u hj => by
        rw [WideShapes.add_plain, Nat.zero_add]
        exact (Bx.new w4 (unL (m k) (hf k)) 46).c j u hj
      have O2 : ∀ u ∈ unL (m k) (hf k), u.oneCell' = true := fun u hu => by
        simp at hu
        rcases hu with rfl | rfl | rfl <;> rfl
      go_wp2_with (first
        | (at_builtin; refine wpList_append_own_at _ rfl _ _ 36 rfl w.heap.size 3 i3 (.int .i64 0) 1 8 Try.underlying36 hi3 hz3 hs3 hb3 rfl (by decide) _ k (rowsL r k) rfl hA.out.o9 ⟨wr.heap.size + 1, 0, none⟩ 1 1 [.int .i64 (r k)] rfl rfl N1 (fun u hu => by simp at hu; rw [hu]; rfl) (by unfold maxLen; omega) (by omega) hA.out.below.size ?_; intro v3 w3 hown3 hgrow3 hnil3 hloc3; have d0 := hgrow3.cell (hB.c 0 _ rfl) hne; have d1 := hgrow3.cell (hB.c 1 _ rfl) hne; have d2 := hgrow3.cell (hB.c 2 _ rfl) hne; have hR : Hid (CI w w3 b n r pw hf m v3 _ (k + 1) k) := hA.out.row hgrow3 hown3 hloc3; clear hown3 hgrow3 hnil3 hloc3)
        | (go_at_call 33; (with_reducible refine (VL _).mono ?_); rintro e w4 ⟨rfl, hN4⟩; have hV : Hid (CI w (w4.alloc (.cells (unL (m k) (hf k)).toArray 46)) b n r pw hf m v3 _ (k + 1) k) := (hR.out.on hN4).alloc _)
        | (at_builtin; refine wpList_append_own_at _ rfl _ _ 37 rfl w.heap.size 46 i4 (.agg #[.complex .f64 0 0, .complex .f64 0 0, .int .i64 0]) 3 40 Try.underlying37 hi4 hz4 hs4 hb4 rfl (by decide) _ k (ampsL m hf k) rfl hV.out.o10 ⟨w4.heap.size, 0, none⟩ 1 1 (unL (m k) (hf k)) rfl rfl (N2 w4) O2 (by unfold maxLen; omega) (by omega) hV.out.below.size ?_; intro v5 w5 hown5 hgrow5 hnil5 hloc5; have hZ : Hid (CI w w5 b n r pw hf m v3 v5 (k + 1) (k + 1)) := hV.out.amp hgrow5 hown5 hloc5; clear hown5 hgrow5 hnil5 hloc5))
      go_roundw
      case rel => exact ⟨k + 1, by omega, by go_num, hZ⟩
      case measure => simp [intOf]; omega
    · obtain rfl : k = n := by omega
      go_wp2
      go_ret3
      exact ⟨hH.out.below, _, _, rfl, hH.out.o9, hH.out.o10⟩

set_option maxRecDepth 100000 in
set_option maxHeartbeats 4000000 in
theorem column_3 {s : ByteArray} {i : Nat} {c : Int} {f : Nat} {p h : Int} {cl di : Bool} {inv : ByteArray} (H : Hit s i 3 c f p h cl di inv) (y : Int) (n : Nat) (r pw hf : Nat → Int) (m : Nat → Nat) (w : World) (hy : 0 ≤ y) (hy2 : y < 8) (hn : n ≤ 8)
    (EN : ∀ w, Calls Try.prog 32 #[kd 3 c f p h cl di inv, .int .i64 y] w fun e w' => ∃ b, e = .returned (.slice (some ⟨b, 0, none⟩) n n) ∧ EB w' b n r pw hf ∧ Below w.heap.size w w')
    (VA : ∀ j, j < n → 0 ≤ hf j ∧ hf j ≤ 60 ∧ bits .and .i64 (pw j) 7 = (m j : Int) ∧ m j < 8) :
    Calls Try.prog 21 #[.string s, .int .i64 y] w fun e w' => CR w w' n r hf m e := by
  have K := kinds_any w
  have L := run_look s i _ H true
  have hW := below_map w
  clear H
  generalize KA 25 = ka at *
  have y1 : ¬ y < 0 := by omega
  have y2 : ¬ 8 ≤ y := by omega
  have HV : Hid (∀ j, j < n → 0 ≤ hf j ∧ hf j ≤ 60 ∧ bits .and .i64 (pw j) 7 = (m j : Int) ∧ m j < 8) := VA
  clear VA hy hy2
  obtain ⟨i3, hi3, hz3, hs3, hb3⟩ := info_parts Try.info3
  obtain ⟨i4, hi4, hz4, hs4, hb4⟩ := info_parts Try.info46
  go_enter Try.func21, Try.ntmps21
  go_upto_region 9 with (first
    | (go_at_call 30; (with_reducible refine K.mono ?_); rintro e w1 ⟨rfl, rfl⟩)
    | (go_at_call 32; (with_reducible refine (EN _).mono ?_); rintro e w2 ⟨b, rfl, hE, hN⟩))
  clear K L EN
  have hC : Hid (CI w w2 b n r pw hf m (.slice none 0 0) (.slice none 0 0) 0 0) := ⟨btr (bal hW _) hN, hE, World.ownsRow_nil _ _ _ _, World.ownsRow_nil _ _ _ _, fun g e => by simp [Value.ownBlock] at e, by simp [Value.ownBlock], by simp [Value.ownBlock]⟩
  clear hW hN hE
  go_loopw [9, 10, 34] (fun v9 v10 v wr => ∃ k : Nat, k ≤ n ∧ v = .int .i64 k ∧ Hid (CI w wr b n r pw hf m v9 v10 k k)) (fun _ _ v _ => n - (intOf v).toNat)
  case atStart => exact ⟨0, by omega, rfl, hC⟩
  case round =>
    clear hC
    obtain ⟨k, hk, rfl, hH⟩ := hrel
    by_cases hlt : k < n
    · have c0 := hH.out.ent.c0 k hlt
      have c1 := hH.out.ent.c1 k hlt
      have c2 := hH.out.ent.c2 k hlt
      obtain ⟨h0, h6, hm, h8⟩ := HV.out k hlt
      have VL := fun w => value_any (r k) (pw k) (hf k) (m k) w h0 h6 hm h8
      clear h0 h6 hm h8
      have hA : Hid (CI w ((wr.alloc (.cells #[.int .i64 (r k), .int .i64 (pw k), .int .i64 (hf k)] 67)).alloc (.cells #[.int .i64 (r k)] 3)) b n r pw hf m _ _ k k) := (hH.out.alloc _).alloc _
      have hB := ((Bx.new wr [.int .i64 (r k), .int .i64 (pw k), .int .i64 (hf k)] 67).alloc (.cells #[.int .i64 (r k)] 3))
      have hne := hH.out.ne9
      have N1 : ∀ j u, [Value.int .i64 (r k)][j]? = some u → ((wr.alloc (.cells #[.int .i64 (r k), .int .i64 (pw k), .int .i64 (hf k)] 67)).alloc (.cells #[.int .i64 (r k)] 3)).cell? ((⟨wr.heap.size + 1, 0, none⟩ : Addr).add j) = some u := by
        simp [go_sem]
      have N2 : ∀ (w4 : World) j u, (unL (m k) (hf k))[j]? = some u → (w4.alloc (.cells (unL (m k) (hf k)).toArray 46)).cell? ((⟨w4.heap.size, 0, none⟩ : Addr).add j) = some u := fun w4 j u hj => by
        rw [WideShapes.add_plain, Nat.zero_add]
        exact (Bx.new w4 (unL (m k) (hf k)) 46).c j u hj
      have O2 : ∀ u ∈ unL (m k) (hf k), u.oneCell' = true := fun u hu => by
        simp at hu
        rcases hu with rfl | rfl | rfl <;> rfl
      go_wp2_with (first
        | (at_builtin; refine wpList_append_own_at _ rfl _ _ 36 rfl w.heap.size 3 i3 (.int .i64 0) 1 8 Try.underlying36 hi3 hz3 hs3 hb3 rfl (by decide) _ k (rowsL r k) rfl hA.out.o9 ⟨wr.heap.size + 1, 0, none⟩ 1 1 [.int .i64 (r k)] rfl rfl N1 (fun u hu => by simp at hu; rw [hu]; rfl) (by unfold maxLen; omega) (by omega) hA.out.below.size ?_; intro v3 w3 hown3 hgrow3 hnil3 hloc3; have d0 := hgrow3.cell (hB.c 0 _ rfl) hne; have d1 := hgrow3.cell (hB.c 1 _ rfl) hne; have d2 := hgrow3.cell (hB.c 2 _ rfl) hne; have hR : Hid (CI w w3 b n r pw hf m v3 _ (k + 1) k) := hA.out.row hgrow3 hown3 hloc3; clear hown3 hgrow3 hnil3 hloc3)
        | (go_at_call 33; (with_reducible refine (VL _).mono ?_); rintro e w4 ⟨rfl, hN4⟩; have hV : Hid (CI w (w4.alloc (.cells (unL (m k) (hf k)).toArray 46)) b n r pw hf m v3 _ (k + 1) k) := (hR.out.on hN4).alloc _)
        | (at_builtin; refine wpList_append_own_at _ rfl _ _ 37 rfl w.heap.size 46 i4 (.agg #[.complex .f64 0 0, .complex .f64 0 0, .int .i64 0]) 3 40 Try.underlying37 hi4 hz4 hs4 hb4 rfl (by decide) _ k (ampsL m hf k) rfl hV.out.o10 ⟨w4.heap.size, 0, none⟩ 1 1 (unL (m k) (hf k)) rfl rfl (N2 w4) O2 (by unfold maxLen; omega) (by omega) hV.out.below.size ?_; intro v5 w5 hown5 hgrow5 hnil5 hloc5; have hZ : Hid (CI w w5 b n r pw hf m v3 v5 (k + 1) (k + 1)) := hV.out.amp hgrow5 hown5 hloc5; clear hown5 hgrow5 hnil5 hloc5))
      go_roundw
      case rel => exact ⟨k + 1, by omega, by go_num, hZ⟩
      case measure => simp [intOf]; omega
    · obtain rfl : k = n := by omega
      go_wp2
      go_ret3
      exact ⟨hH.out.below, _, _, rfl, hH.out.o9, hH.out.o10⟩

/-- w to the p is w to the mo p. -/
def mo (p : Int) : Nat := (p % 8).toNat
set_option maxRecDepth 100000 in
theorem ens_ok : ∀ i : Fin 25, ∀ y : Fin 8, ∀ j : Fin 2, 0 ≤ enH (ens i y) j ∧ enH (ens i y) j ≤ 60 ∧ bits .and .i64 (enP (ens i y) j) 7 = (mo (enP (ens i y) j) : Int) ∧ mo (enP (ens i y) j) < 8 := by decide +kernel
theorem ens_len : ∀ i : Fin 25, ∀ y : Fin 8, (ens i y).length ≤ 2 := by decide +kernel
theorem q_le : ∀ i : Fin 25, 2 ^ qOf i ≤ 8 := by decide +kernel
theorem ens_va (i y : Nat) (hi : i < 25) (hy : y < 2 ^ qOf i) : ∀ j, j < (ens i y).length → 0 ≤ enH (ens i y) j ∧ enH (ens i y) j ≤ 60 ∧ bits .and .i64 (enP (ens i y) j) 7 = (mo (enP (ens i y) j) : Int) ∧ mo (enP (ens i y) j) < 8 := fun j hj => by
  have h8 : y < 8 := Nat.lt_of_lt_of_le hy (q_le ⟨i, hi⟩)
  have h2 := ens_len ⟨i, hi⟩ ⟨y, h8⟩
  exact ens_ok ⟨i, hi⟩ ⟨y, h8⟩ ⟨j, Nat.lt_of_lt_of_le hj h2⟩

set_option maxRecDepth 100000 in
theorem hit_0 : Hit ⟨#[105]⟩ 0 1 0 42 0 0 true true ⟨#[105]⟩ := by unfold Hit; kernel_rfl
set_option maxRecDepth 100000 in
theorem hit_1 : Hit ⟨#[120]⟩ 1 1 0 43 0 0 true false ⟨#[120]⟩ := by unfold Hit; kernel_rfl
set_option maxRecDepth 100000 in
theorem hit_2 : Hit ⟨#[121]⟩ 2 1 0 43 2 0 true false ⟨#[121]⟩ := by unfold Hit; kernel_rfl
set_option maxRecDepth 100000 in
theorem hit_3 : Hit ⟨#[122]⟩ 3 1 0 42 4 0 true true ⟨#[122]⟩ := by unfold Hit; kernel_rfl
set_option maxRecDepth 100000 in
theorem hit_4 : Hit ⟨#[104]⟩ 4 1 0 44 0 1 true false ⟨#[104]⟩ := by unfold Hit; kernel_rfl
set_option maxRecDepth 100000 in
theorem hit_5 : Hit ⟨#[115]⟩ 5 1 0 42 2 0 true true ⟨#[115, 100, 103]⟩ := by unfold Hit; kernel_rfl
set_option maxRecDepth 100000 in
theorem hit_6 : Hit ⟨#[115, 100, 103]⟩ 6 1 0 42 (-2) 0 true true ⟨#[115]⟩ := by unfold Hit; kernel_rfl
set_option maxRecDepth 100000 in
theorem hit_7 : Hit ⟨#[116]⟩ 7 1 0 42 1 0 false true ⟨#[116, 100, 103]⟩ := by unfold Hit; kernel_rfl
set_option maxRecDepth 100000 in
theorem hit_8 : Hit ⟨#[116, 100, 103]⟩ 8 1 0 42 (-1) 0 false true ⟨#[116]⟩ := by unfold Hit; kernel_rfl
set_option maxRecDepth 100000 in
theorem hit_9 : Hit ⟨#[118]⟩ 9 1 0 45 1 1 true false ⟨#[118, 100, 103]⟩ := by unfold Hit; kernel_rfl
set_option maxRecDepth 100000 in
theorem hit_10 : Hit ⟨#[118, 100, 103]⟩ 10 1 0 45 (-1) 1 true false ⟨#[118]⟩ := by unfold Hit; kernel_rfl
set_option maxRecDepth 100000 in
theorem hit_11 : Hit ⟨#[119]⟩ 11 1 0 46 1 0 true true ⟨#[119, 100, 103]⟩ := by unfold Hit; kernel_rfl
set_option maxRecDepth 100000 in
theorem hit_12 : Hit ⟨#[119, 100, 103]⟩ 12 1 0 46 (-1) 0 true true ⟨#[119]⟩ := by unfold Hit; kernel_rfl
set_option maxRecDepth 100000 in
theorem hit_13 : Hit ⟨#[99, 120]⟩ 13 2 1 43 0 0 true false ⟨#[99, 120]⟩ := by unfold Hit; kernel_rfl
set_option maxRecDepth 100000 in
theorem hit_14 : Hit ⟨#[99, 121]⟩ 14 2 1 43 2 0 true false ⟨#[99, 121]⟩ := by unfold Hit; kernel_rfl
set_option maxRecDepth 100000 in
theorem hit_15 : Hit ⟨#[99, 122]⟩ 15 2 1 42 4 0 true true ⟨#[99, 122]⟩ := by unfold Hit; kernel_rfl
set_option maxRecDepth 100000 in
theorem hit_16 : Hit ⟨#[99, 104]⟩ 16 2 1 44 0 1 false false ⟨#[99, 104]⟩ := by unfold Hit; kernel_rfl
set_option maxRecDepth 100000 in
theorem hit_17 : Hit ⟨#[99, 115]⟩ 17 2 1 42 2 0 false true ⟨#[99, 115, 100, 103]⟩ := by unfold Hit; kernel_rfl
set_option maxRecDepth 100000 in
theorem hit_18 : Hit ⟨#[99, 115, 100, 103]⟩ 18 2 1 42 (-2) 0 false true ⟨#[99, 115]⟩ := by unfold Hit; kernel_rfl
set_option maxRecDepth 100000 in
theorem hit_19 : Hit ⟨#[115, 119, 97, 112]⟩ 19 2 0 47 0 0 true false ⟨#[115, 119, 97, 112]⟩ := by unfold Hit; kernel_rfl
set_option maxRecDepth 100000 in
theorem hit_20 : Hit ⟨#[105, 115, 119, 97, 112]⟩ 20 2 0 47 2 0 true false ⟨#[105, 115, 119, 97, 112, 100, 103]⟩ := by unfold Hit; kernel_rfl
set_option maxRecDepth 100000 in
theorem hit_21 : Hit ⟨#[105, 115, 119, 97, 112, 100, 103]⟩ 21 2 0 47 (-2) 0 true false ⟨#[105, 115, 119, 97, 112]⟩ := by unfold Hit; kernel_rfl
set_option maxRecDepth 100000 in
theorem hit_22 : Hit ⟨#[99, 99, 120]⟩ 22 3 2 43 0 0 false false ⟨#[99, 99, 120]⟩ := by unfold Hit; kernel_rfl
set_option maxRecDepth 100000 in
theorem hit_23 : Hit ⟨#[99, 99, 122]⟩ 23 3 2 42 4 0 false true ⟨#[99, 99, 122]⟩ := by unfold Hit; kernel_rfl
set_option maxRecDepth 100000 in
theorem hit_24 : Hit ⟨#[99, 115, 119, 97, 112]⟩ 24 3 1 47 0 0 false false ⟨#[99, 115, 119, 97, 112]⟩ := by unfold Hit; kernel_rfl
theorem nm_0 : nm 0 = ⟨#[105]⟩ := by kernel_rfl
theorem kvOf_0 : kvOf 0 = kd 1 0 42 0 0 true true ⟨#[105]⟩ := by kernel_rfl
theorem qOf_0 : qOf 0 = 1 := by kernel_rfl
theorem nm_1 : nm 1 = ⟨#[120]⟩ := by kernel_rfl
theorem kvOf_1 : kvOf 1 = kd 1 0 43 0 0 true false ⟨#[120]⟩ := by kernel_rfl
theorem qOf_1 : qOf 1 = 1 := by kernel_rfl
theorem nm_2 : nm 2 = ⟨#[121]⟩ := by kernel_rfl
theorem kvOf_2 : kvOf 2 = kd 1 0 43 2 0 true false ⟨#[121]⟩ := by kernel_rfl
theorem qOf_2 : qOf 2 = 1 := by kernel_rfl
theorem nm_3 : nm 3 = ⟨#[122]⟩ := by kernel_rfl
theorem kvOf_3 : kvOf 3 = kd 1 0 42 4 0 true true ⟨#[122]⟩ := by kernel_rfl
theorem qOf_3 : qOf 3 = 1 := by kernel_rfl
theorem nm_4 : nm 4 = ⟨#[104]⟩ := by kernel_rfl
theorem kvOf_4 : kvOf 4 = kd 1 0 44 0 1 true false ⟨#[104]⟩ := by kernel_rfl
theorem qOf_4 : qOf 4 = 1 := by kernel_rfl
theorem nm_5 : nm 5 = ⟨#[115]⟩ := by kernel_rfl
theorem kvOf_5 : kvOf 5 = kd 1 0 42 2 0 true true ⟨#[115, 100, 103]⟩ := by kernel_rfl
theorem qOf_5 : qOf 5 = 1 := by kernel_rfl
theorem nm_6 : nm 6 = ⟨#[115, 100, 103]⟩ := by kernel_rfl
theorem kvOf_6 : kvOf 6 = kd 1 0 42 (-2) 0 true true ⟨#[115]⟩ := by kernel_rfl
theorem qOf_6 : qOf 6 = 1 := by kernel_rfl
theorem nm_7 : nm 7 = ⟨#[116]⟩ := by kernel_rfl
theorem kvOf_7 : kvOf 7 = kd 1 0 42 1 0 false true ⟨#[116, 100, 103]⟩ := by kernel_rfl
theorem qOf_7 : qOf 7 = 1 := by kernel_rfl
theorem nm_8 : nm 8 = ⟨#[116, 100, 103]⟩ := by kernel_rfl
theorem kvOf_8 : kvOf 8 = kd 1 0 42 (-1) 0 false true ⟨#[116]⟩ := by kernel_rfl
theorem qOf_8 : qOf 8 = 1 := by kernel_rfl
theorem nm_9 : nm 9 = ⟨#[118]⟩ := by kernel_rfl
theorem kvOf_9 : kvOf 9 = kd 1 0 45 1 1 true false ⟨#[118, 100, 103]⟩ := by kernel_rfl
theorem qOf_9 : qOf 9 = 1 := by kernel_rfl
theorem nm_10 : nm 10 = ⟨#[118, 100, 103]⟩ := by kernel_rfl
theorem kvOf_10 : kvOf 10 = kd 1 0 45 (-1) 1 true false ⟨#[118]⟩ := by kernel_rfl
theorem qOf_10 : qOf 10 = 1 := by kernel_rfl
theorem nm_11 : nm 11 = ⟨#[119]⟩ := by kernel_rfl
theorem kvOf_11 : kvOf 11 = kd 1 0 46 1 0 true true ⟨#[119, 100, 103]⟩ := by kernel_rfl
theorem qOf_11 : qOf 11 = 1 := by kernel_rfl
theorem nm_12 : nm 12 = ⟨#[119, 100, 103]⟩ := by kernel_rfl
theorem kvOf_12 : kvOf 12 = kd 1 0 46 (-1) 0 true true ⟨#[119]⟩ := by kernel_rfl
theorem qOf_12 : qOf 12 = 1 := by kernel_rfl
theorem nm_13 : nm 13 = ⟨#[99, 120]⟩ := by kernel_rfl
theorem kvOf_13 : kvOf 13 = kd 2 1 43 0 0 true false ⟨#[99, 120]⟩ := by kernel_rfl
theorem qOf_13 : qOf 13 = 2 := by kernel_rfl
theorem nm_14 : nm 14 = ⟨#[99, 121]⟩ := by kernel_rfl
theorem kvOf_14 : kvOf 14 = kd 2 1 43 2 0 true false ⟨#[99, 121]⟩ := by kernel_rfl
theorem qOf_14 : qOf 14 = 2 := by kernel_rfl
theorem nm_15 : nm 15 = ⟨#[99, 122]⟩ := by kernel_rfl
theorem kvOf_15 : kvOf 15 = kd 2 1 42 4 0 true true ⟨#[99, 122]⟩ := by kernel_rfl
theorem qOf_15 : qOf 15 = 2 := by kernel_rfl
theorem nm_16 : nm 16 = ⟨#[99, 104]⟩ := by kernel_rfl
theorem kvOf_16 : kvOf 16 = kd 2 1 44 0 1 false false ⟨#[99, 104]⟩ := by kernel_rfl
theorem qOf_16 : qOf 16 = 2 := by kernel_rfl
theorem nm_17 : nm 17 = ⟨#[99, 115]⟩ := by kernel_rfl
theorem kvOf_17 : kvOf 17 = kd 2 1 42 2 0 false true ⟨#[99, 115, 100, 103]⟩ := by kernel_rfl
theorem qOf_17 : qOf 17 = 2 := by kernel_rfl
theorem nm_18 : nm 18 = ⟨#[99, 115, 100, 103]⟩ := by kernel_rfl
theorem kvOf_18 : kvOf 18 = kd 2 1 42 (-2) 0 false true ⟨#[99, 115]⟩ := by kernel_rfl
theorem qOf_18 : qOf 18 = 2 := by kernel_rfl
theorem nm_19 : nm 19 = ⟨#[115, 119, 97, 112]⟩ := by kernel_rfl
theorem kvOf_19 : kvOf 19 = kd 2 0 47 0 0 true false ⟨#[115, 119, 97, 112]⟩ := by kernel_rfl
theorem qOf_19 : qOf 19 = 2 := by kernel_rfl
theorem nm_20 : nm 20 = ⟨#[105, 115, 119, 97, 112]⟩ := by kernel_rfl
theorem kvOf_20 : kvOf 20 = kd 2 0 47 2 0 true false ⟨#[105, 115, 119, 97, 112, 100, 103]⟩ := by kernel_rfl
theorem qOf_20 : qOf 20 = 2 := by kernel_rfl
theorem nm_21 : nm 21 = ⟨#[105, 115, 119, 97, 112, 100, 103]⟩ := by kernel_rfl
theorem kvOf_21 : kvOf 21 = kd 2 0 47 (-2) 0 true false ⟨#[105, 115, 119, 97, 112]⟩ := by kernel_rfl
theorem qOf_21 : qOf 21 = 2 := by kernel_rfl
theorem nm_22 : nm 22 = ⟨#[99, 99, 120]⟩ := by kernel_rfl
theorem kvOf_22 : kvOf 22 = kd 3 2 43 0 0 false false ⟨#[99, 99, 120]⟩ := by kernel_rfl
theorem qOf_22 : qOf 22 = 3 := by kernel_rfl
theorem nm_23 : nm 23 = ⟨#[99, 99, 122]⟩ := by kernel_rfl
theorem kvOf_23 : kvOf 23 = kd 3 2 42 4 0 false true ⟨#[99, 99, 122]⟩ := by kernel_rfl
theorem qOf_23 : qOf 23 = 3 := by kernel_rfl
theorem nm_24 : nm 24 = ⟨#[99, 115, 119, 97, 112]⟩ := by kernel_rfl
theorem kvOf_24 : kvOf 24 = kd 3 1 47 0 0 false false ⟨#[99, 115, 119, 97, 112]⟩ := by kernel_rfl
theorem qOf_24 : qOf 24 = 3 := by kernel_rfl
set_option maxRecDepth 100000 in
theorem column_all (i y : Nat) (hi : i < 25) (hy : y < 2 ^ qOf i) (w : World) : Calls Try.prog 21 #[.string (nm i), .int .i64 y] w fun e w' => CR w w' (ens i y).length (enR (ens i y)) (enH (ens i y)) (fun j => mo (enP (ens i y) j)) e := by
  have h8 : y < 8 := Nat.lt_of_lt_of_le hy (q_le ⟨i, hi⟩)
  have EN : ∀ w, Calls Try.prog 32 #[kvOf i, .int .i64 y] w fun e w' => ∃ b, e = .returned (.slice (some ⟨b, 0, none⟩) (ens i y).length (ens i y).length) ∧ EB w' b (ens i y).length (enR (ens i y)) (enP (ens i y)) (enH (ens i y)) ∧ Below w.heap.size w w' := fun w => (en_all i y hi hy w).mono fun _ _ ⟨b, h1, h2, _, h4⟩ => ⟨b, h1, h2, h4⟩
  have VA := ens_va i y hi hy
  have h2 : (ens i y).length ≤ 8 := Nat.le_trans (ens_len ⟨i, hi⟩ ⟨y, h8⟩) (by decide)
  generalize ens i y = L at *
  have : i = 0 ∨ i = 1 ∨ i = 2 ∨ i = 3 ∨ i = 4 ∨ i = 5 ∨ i = 6 ∨ i = 7 ∨ i = 8 ∨ i = 9 ∨ i = 10 ∨ i = 11 ∨ i = 12 ∨ i = 13 ∨ i = 14 ∨ i = 15 ∨ i = 16 ∨ i = 17 ∨ i = 18 ∨ i = 19 ∨ i = 20 ∨ i = 21 ∨ i = 22 ∨ i = 23 ∨ i = 24 := by omega
  rcases this with rfl | rfl | rfl | rfl | rfl | rfl | rfl | rfl | rfl | rfl | rfl | rfl | rfl | rfl | rfl | rfl | rfl | rfl | rfl | rfl | rfl | rfl | rfl | rfl | rfl
  · rw [kvOf_0] at EN
    rw [qOf_0] at hy
    rw [nm_0]
    exact column_1 hit_0 y _ _ _ _ _ w (by omega) (by have : y < 2 := hy; omega) h2 EN VA
  · rw [kvOf_1] at EN
    rw [qOf_1] at hy
    rw [nm_1]
    exact column_1 hit_1 y _ _ _ _ _ w (by omega) (by have : y < 2 := hy; omega) h2 EN VA
  · rw [kvOf_2] at EN
    rw [qOf_2] at hy
    rw [nm_2]
    exact column_1 hit_2 y _ _ _ _ _ w (by omega) (by have : y < 2 := hy; omega) h2 EN VA
  · rw [kvOf_3] at EN
    rw [qOf_3] at hy
    rw [nm_3]
    exact column_1 hit_3 y _ _ _ _ _ w (by omega) (by have : y < 2 := hy; omega) h2 EN VA
  · rw [kvOf_4] at EN
    rw [qOf_4] at hy
    rw [nm_4]
    exact column_1 hit_4 y _ _ _ _ _ w (by omega) (by have : y < 2 := hy; omega) h2 EN VA
  · rw [kvOf_5] at EN
    rw [qOf_5] at hy
    rw [nm_5]
    exact column_1 hit_5 y _ _ _ _ _ w (by omega) (by have : y < 2 := hy; omega) h2 EN VA
  · rw [kvOf_6] at EN
    rw [qOf_6] at hy
    rw [nm_6]
    exact column_1 hit_6 y _ _ _ _ _ w (by omega) (by have : y < 2 := hy; omega) h2 EN VA
  · rw [kvOf_7] at EN
    rw [qOf_7] at hy
    rw [nm_7]
    exact column_1 hit_7 y _ _ _ _ _ w (by omega) (by have : y < 2 := hy; omega) h2 EN VA
  · rw [kvOf_8] at EN
    rw [qOf_8] at hy
    rw [nm_8]
    exact column_1 hit_8 y _ _ _ _ _ w (by omega) (by have : y < 2 := hy; omega) h2 EN VA
  · rw [kvOf_9] at EN
    rw [qOf_9] at hy
    rw [nm_9]
    exact column_1 hit_9 y _ _ _ _ _ w (by omega) (by have : y < 2 := hy; omega) h2 EN VA
  · rw [kvOf_10] at EN
    rw [qOf_10] at hy
    rw [nm_10]
    exact column_1 hit_10 y _ _ _ _ _ w (by omega) (by have : y < 2 := hy; omega) h2 EN VA
  · rw [kvOf_11] at EN
    rw [qOf_11] at hy
    rw [nm_11]
    exact column_1 hit_11 y _ _ _ _ _ w (by omega) (by have : y < 2 := hy; omega) h2 EN VA
  · rw [kvOf_12] at EN
    rw [qOf_12] at hy
    rw [nm_12]
    exact column_1 hit_12 y _ _ _ _ _ w (by omega) (by have : y < 2 := hy; omega) h2 EN VA
  · rw [kvOf_13] at EN
    rw [qOf_13] at hy
    rw [nm_13]
    exact column_2 hit_13 y _ _ _ _ _ w (by omega) (by have : y < 4 := hy; omega) h2 EN VA
  · rw [kvOf_14] at EN
    rw [qOf_14] at hy
    rw [nm_14]
    exact column_2 hit_14 y _ _ _ _ _ w (by omega) (by have : y < 4 := hy; omega) h2 EN VA
  · rw [kvOf_15] at EN
    rw [qOf_15] at hy
    rw [nm_15]
    exact column_2 hit_15 y _ _ _ _ _ w (by omega) (by have : y < 4 := hy; omega) h2 EN VA
  · rw [kvOf_16] at EN
    rw [qOf_16] at hy
    rw [nm_16]
    exact column_2 hit_16 y _ _ _ _ _ w (by omega) (by have : y < 4 := hy; omega) h2 EN VA
  · rw [kvOf_17] at EN
    rw [qOf_17] at hy
    rw [nm_17]
    exact column_2 hit_17 y _ _ _ _ _ w (by omega) (by have : y < 4 := hy; omega) h2 EN VA
  · rw [kvOf_18] at EN
    rw [qOf_18] at hy
    rw [nm_18]
    exact column_2 hit_18 y _ _ _ _ _ w (by omega) (by have : y < 4 := hy; omega) h2 EN VA
  · rw [kvOf_19] at EN
    rw [qOf_19] at hy
    rw [nm_19]
    exact column_2 hit_19 y _ _ _ _ _ w (by omega) (by have : y < 4 := hy; omega) h2 EN VA
  · rw [kvOf_20] at EN
    rw [qOf_20] at hy
    rw [nm_20]
    exact column_2 hit_20 y _ _ _ _ _ w (by omega) (by have : y < 4 := hy; omega) h2 EN VA
  · rw [kvOf_21] at EN
    rw [qOf_21] at hy
    rw [nm_21]
    exact column_2 hit_21 y _ _ _ _ _ w (by omega) (by have : y < 4 := hy; omega) h2 EN VA
  · rw [kvOf_22] at EN
    rw [qOf_22] at hy
    rw [nm_22]
    exact column_3 hit_22 y _ _ _ _ _ w (by omega) (by have : y < 8 := hy; omega) h2 EN VA
  · rw [kvOf_23] at EN
    rw [qOf_23] at hy
    rw [nm_23]
    exact column_3 hit_23 y _ _ _ _ _ w (by omega) (by have : y < 8 := hy; omega) h2 EN VA
  · rw [kvOf_24] at EN
    rw [qOf_24] at hy
    rw [nm_24]
    exact column_3 hit_24 y _ _ _ _ _ w (by omega) (by have : y < 8 := hy; omega) h2 EN VA
theorem field4 (q c : Int) (f : Nat) (p h : Int) (cl di : Bool) (inv : ByteArray) (w : World) : (Instr.field 59 (kd q c f p h cl di inv) 4).run Try.prog w = .ok (.int .i64 h) w := by kernel_rfl
set_option maxRecDepth 100000 in
set_option maxHeartbeats 400000 in
theorem halves_hit {s : ByteArray} {i : Nat} {q c : Int} {f : Nat} {p h : Int} {cl di : Bool} {inv : ByteArray} (H : Hit s i q c f p h cl di inv) (w : World) : Calls Try.prog 10 #[.string s] w fun e w' => e = .returned (.int .i64 h) ∧ Below w.heap.size w w' := by
  have K := kinds_any w
  have L := run_look s i _ H false
  have F := field4 q c f p h cl di inv
  have hW := below_map w
  clear H
  generalize KA 25 = ka at *
  go_enter Try.func10, Try.ntmps10
  go_wp2_with (go_at_call 30; (with_reducible refine K.mono ?_); rintro e w1 ⟨rfl, rfl⟩)
  go_ret
  exact ⟨rfl, hW⟩
theorem field5 (q c : Int) (f : Nat) (p h : Int) (cl di : Bool) (inv : ByteArray) (w : World) : (Instr.field 59 (kd q c f p h cl di inv) 5).run Try.prog w = .ok (.bool cl) w := by kernel_rfl
set_option maxRecDepth 100000 in
set_option maxHeartbeats 400000 in
theorem clifford_hit {s : ByteArray} {i : Nat} {q c : Int} {f : Nat} {p h : Int} {cl di : Bool} {inv : ByteArray} (H : Hit s i q c f p h cl di inv) (w : World) : Calls Try.prog 12 #[.string s] w fun e w' => e = .returned (.bool cl) ∧ Below w.heap.size w w' := by
  have K := kinds_any w
  have L := run_look s i _ H false
  have F := field5 q c f p h cl di inv
  have hW := below_map w
  clear H
  generalize KA 25 = ka at *
  go_enter Try.func12, Try.ntmps12
  go_wp2_with (go_at_call 30; (with_reducible refine K.mono ?_); rintro e w1 ⟨rfl, rfl⟩)
  go_ret
  exact ⟨rfl, hW⟩
theorem field6 (q c : Int) (f : Nat) (p h : Int) (cl di : Bool) (inv : ByteArray) (w : World) : (Instr.field 59 (kd q c f p h cl di inv) 6).run Try.prog w = .ok (.bool di) w := by kernel_rfl
set_option maxRecDepth 100000 in
set_option maxHeartbeats 400000 in
theorem diagonal_hit {s : ByteArray} {i : Nat} {q c : Int} {f : Nat} {p h : Int} {cl di : Bool} {inv : ByteArray} (H : Hit s i q c f p h cl di inv) (w : World) : Calls Try.prog 14 #[.string s] w fun e w' => e = .returned (.bool di) ∧ Below w.heap.size w w' := by
  have K := kinds_any w
  have L := run_look s i _ H false
  have F := field6 q c f p h cl di inv
  have hW := below_map w
  clear H
  generalize KA 25 = ka at *
  go_enter Try.func14, Try.ntmps14
  go_wp2_with (go_at_call 30; (with_reducible refine K.mono ?_); rintro e w1 ⟨rfl, rfl⟩)
  go_ret
  exact ⟨rfl, hW⟩
set_option maxRecDepth 100000 in
theorem halves_all (i : Nat) (hi : i < 25) (w : World) : Calls Try.prog 10 #[.string (nm i)] w fun e w' => e = .returned (.int .i64 (hOf i)) ∧ Below w.heap.size w w' := by
  have : i = 0 ∨ i = 1 ∨ i = 2 ∨ i = 3 ∨ i = 4 ∨ i = 5 ∨ i = 6 ∨ i = 7 ∨ i = 8 ∨ i = 9 ∨ i = 10 ∨ i = 11 ∨ i = 12 ∨ i = 13 ∨ i = 14 ∨ i = 15 ∨ i = 16 ∨ i = 17 ∨ i = 18 ∨ i = 19 ∨ i = 20 ∨ i = 21 ∨ i = 22 ∨ i = 23 ∨ i = 24 := by omega
  rcases this with rfl | rfl | rfl | rfl | rfl | rfl | rfl | rfl | rfl | rfl | rfl | rfl | rfl | rfl | rfl | rfl | rfl | rfl | rfl | rfl | rfl | rfl | rfl | rfl | rfl
  · rw [nm_0]; exact halves_hit hit_0 w
  · rw [nm_1]; exact halves_hit hit_1 w
  · rw [nm_2]; exact halves_hit hit_2 w
  · rw [nm_3]; exact halves_hit hit_3 w
  · rw [nm_4]; exact halves_hit hit_4 w
  · rw [nm_5]; exact halves_hit hit_5 w
  · rw [nm_6]; exact halves_hit hit_6 w
  · rw [nm_7]; exact halves_hit hit_7 w
  · rw [nm_8]; exact halves_hit hit_8 w
  · rw [nm_9]; exact halves_hit hit_9 w
  · rw [nm_10]; exact halves_hit hit_10 w
  · rw [nm_11]; exact halves_hit hit_11 w
  · rw [nm_12]; exact halves_hit hit_12 w
  · rw [nm_13]; exact halves_hit hit_13 w
  · rw [nm_14]; exact halves_hit hit_14 w
  · rw [nm_15]; exact halves_hit hit_15 w
  · rw [nm_16]; exact halves_hit hit_16 w
  · rw [nm_17]; exact halves_hit hit_17 w
  · rw [nm_18]; exact halves_hit hit_18 w
  · rw [nm_19]; exact halves_hit hit_19 w
  · rw [nm_20]; exact halves_hit hit_20 w
  · rw [nm_21]; exact halves_hit hit_21 w
  · rw [nm_22]; exact halves_hit hit_22 w
  · rw [nm_23]; exact halves_hit hit_23 w
  · rw [nm_24]; exact halves_hit hit_24 w
set_option maxRecDepth 100000 in
theorem diagonal_all (i : Nat) (hi : i < 25) (w : World) : Calls Try.prog 14 #[.string (nm i)] w fun e w' => e = .returned (.bool (dOf i)) ∧ Below w.heap.size w w' := by
  have : i = 0 ∨ i = 1 ∨ i = 2 ∨ i = 3 ∨ i = 4 ∨ i = 5 ∨ i = 6 ∨ i = 7 ∨ i = 8 ∨ i = 9 ∨ i = 10 ∨ i = 11 ∨ i = 12 ∨ i = 13 ∨ i = 14 ∨ i = 15 ∨ i = 16 ∨ i = 17 ∨ i = 18 ∨ i = 19 ∨ i = 20 ∨ i = 21 ∨ i = 22 ∨ i = 23 ∨ i = 24 := by omega
  rcases this with rfl | rfl | rfl | rfl | rfl | rfl | rfl | rfl | rfl | rfl | rfl | rfl | rfl | rfl | rfl | rfl | rfl | rfl | rfl | rfl | rfl | rfl | rfl | rfl | rfl
  · rw [nm_0]; exact diagonal_hit hit_0 w
  · rw [nm_1]; exact diagonal_hit hit_1 w
  · rw [nm_2]; exact diagonal_hit hit_2 w
  · rw [nm_3]; exact diagonal_hit hit_3 w
  · rw [nm_4]; exact diagonal_hit hit_4 w
  · rw [nm_5]; exact diagonal_hit hit_5 w
  · rw [nm_6]; exact diagonal_hit hit_6 w
  · rw [nm_7]; exact diagonal_hit hit_7 w
  · rw [nm_8]; exact diagonal_hit hit_8 w
  · rw [nm_9]; exact diagonal_hit hit_9 w
  · rw [nm_10]; exact diagonal_hit hit_10 w
  · rw [nm_11]; exact diagonal_hit hit_11 w
  · rw [nm_12]; exact diagonal_hit hit_12 w
  · rw [nm_13]; exact diagonal_hit hit_13 w
  · rw [nm_14]; exact diagonal_hit hit_14 w
  · rw [nm_15]; exact diagonal_hit hit_15 w
  · rw [nm_16]; exact diagonal_hit hit_16 w
  · rw [nm_17]; exact diagonal_hit hit_17 w
  · rw [nm_18]; exact diagonal_hit hit_18 w
  · rw [nm_19]; exact diagonal_hit hit_19 w
  · rw [nm_20]; exact diagonal_hit hit_20 w
  · rw [nm_21]; exact diagonal_hit hit_21 w
  · rw [nm_22]; exact diagonal_hit hit_22 w
  · rw [nm_23]; exact diagonal_hit hit_23 w
  · rw [nm_24]; exact diagonal_hit hit_24 w
set_option maxRecDepth 100000 in
theorem arity_all (i : Nat) (hi : i < 25) (w : World) : Calls Try.prog 8 #[.string (nm i)] w fun e w' => e = .returned (.int .i64 (qOf i)) ∧ Below w.heap.size w w' := by
  have : i = 0 ∨ i = 1 ∨ i = 2 ∨ i = 3 ∨ i = 4 ∨ i = 5 ∨ i = 6 ∨ i = 7 ∨ i = 8 ∨ i = 9 ∨ i = 10 ∨ i = 11 ∨ i = 12 ∨ i = 13 ∨ i = 14 ∨ i = 15 ∨ i = 16 ∨ i = 17 ∨ i = 18 ∨ i = 19 ∨ i = 20 ∨ i = 21 ∨ i = 22 ∨ i = 23 ∨ i = 24 := by omega
  rcases this with rfl | rfl | rfl | rfl | rfl | rfl | rfl | rfl | rfl | rfl | rfl | rfl | rfl | rfl | rfl | rfl | rfl | rfl | rfl | rfl | rfl | rfl | rfl | rfl | rfl
  · rw [nm_0]; exact arity_hit hit_0 w
  · rw [nm_1]; exact arity_hit hit_1 w
  · rw [nm_2]; exact arity_hit hit_2 w
  · rw [nm_3]; exact arity_hit hit_3 w
  · rw [nm_4]; exact arity_hit hit_4 w
  · rw [nm_5]; exact arity_hit hit_5 w
  · rw [nm_6]; exact arity_hit hit_6 w
  · rw [nm_7]; exact arity_hit hit_7 w
  · rw [nm_8]; exact arity_hit hit_8 w
  · rw [nm_9]; exact arity_hit hit_9 w
  · rw [nm_10]; exact arity_hit hit_10 w
  · rw [nm_11]; exact arity_hit hit_11 w
  · rw [nm_12]; exact arity_hit hit_12 w
  · rw [nm_13]; exact arity_hit hit_13 w
  · rw [nm_14]; exact arity_hit hit_14 w
  · rw [nm_15]; exact arity_hit hit_15 w
  · rw [nm_16]; exact arity_hit hit_16 w
  · rw [nm_17]; exact arity_hit hit_17 w
  · rw [nm_18]; exact arity_hit hit_18 w
  · rw [nm_19]; exact arity_hit hit_19 w
  · rw [nm_20]; exact arity_hit hit_20 w
  · rw [nm_21]; exact arity_hit hit_21 w
  · rw [nm_22]; exact arity_hit hit_22 w
  · rw [nm_23]; exact arity_hit hit_23 w
  · rw [nm_24]; exact arity_hit hit_24 w
end Go.Proofs.Ytjmgcgjmaemgdaa
