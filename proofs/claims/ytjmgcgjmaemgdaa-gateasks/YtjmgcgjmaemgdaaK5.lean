/-
  gate.Column answers the rows and the amplitudes of the column's entries.
-/
import Derived.Test.YtjmgcgjmaemgdaaK4
namespace Go.Proofs.Ytjmgcgjmaemgdaa
open Go.RowKit Go.Sort

theorem CI.ne9 {w W : World} {b n : Nat} {r p h : Nat → Int} {m : Nat → Nat} {v9 v10 : Value} {i k : Nat} (H : CI w W b n r p h m v9 v10 i k) : some W.heap.size ≠ v9.ownBlock := fun e => Nat.lt_irrefl _ (H.o9.lt _ e.symm).2
/-- What Column tells. -/
structure CR (w W : World) (n : Nat) (r h : Nat → Int) (m : Nat → Nat) (e : Ending) : Prop where
  below : Below w.heap.size w W
  it : ∃ v9 v10, e = .returned (.tuple #[v9, v10, .int .i64 0]) ∧ W.ownsRow w.heap.size 3 1 v9 n (rowsL r n) ∧ W.ownsRow w.heap.size 46 3 v10 n (ampsL m h n)
set_option maxRecDepth 100000 in
set_option maxHeartbeats 4000000 in
theorem column_2 {s : ByteArray} {i : Nat} {c : Int} {f : Nat} {p h : Int} {cl di : Bool} {inv : ByteArray} (H : Hit s i 2 c f p h cl di inv) (y : Int) (n : Nat) (r pw hf : Nat → Int) (m : Nat → Nat) (w : World) (hy : 0 ≤ y) (hy2 : y < 4) (hn : n ≤ 8)
    (EN : ∀ w, Calls Try.prog 32 #[kd 2 c f p h cl di inv, .int .i64 y] w fun e w' => ∃ b, e = .returned (.slice (some ⟨b, 0, none⟩) n n) ∧ EB w' b n r pw hf ∧ Below w.heap.size w w')
    (VA : ∀ j, j < n → 0 ≤ hf j ∧ hf j ≤ 60 ∧ bits .and .i64 (pw j) 7 = (m j : Int) ∧ m j < 8) :
    Calls Try.prog 21 #[.string s, .int .i64 y] w fun e w' => CR w w' n r hf m e := by
  have K := kinds_any w
  have L := run_look s i _ H true
  have hW := below_map w
  clear H
  generalize KA 25 = ka at *
  have y1 : ¬ y < 0 := by omega
  have y2 : ¬ 4 ≤ y := by omega
  have HV : Hid (∀ j, j < n → 0 ≤ hf j ∧ hf j ≤ 60 ∧ bits .and .i64 (pw j) 7 = (m j : Int) ∧ m j < 8) := VA
  clear VA hy hy2
  obtain ⟨i3, hi3, hz3, hs3, hb3⟩ := info_parts Try.info3
  obtain ⟨i4, hi4, hz4, hs4, hb4⟩ := info_parts Try.info46
  go_enter Try.func21, Try.ntmps21
  go_upto_region 9 with (first
    | (go_at_call 30; (with_reducible refine K.mono ?_); rintro e w1 ⟨rfl, rfl⟩)
    | (go_at_call 32; (with_reducible refine (EN _).mono ?_); rintro e w2 ⟨b, rfl, hE, hN⟩))
  clear K L EN
  have hC : Hid (CI w w2 b n r pw hf m (.slice none 0 0) (.slice none 0 0) 0 0) := ⟨btr (bal hW _) hN, hE, World.ownsRow_nil _ _ _ _, World.ownsRow_nil _ _ _ _, fun g e => by simp [Value.ownBlock] at e, by simp [Value.ownBlock], by simp [Value.ownBlock]⟩
  clear hW hN hE
  go_loopw [9, 10, 34] (fun v9 v10 v wr => ∃ k : Nat, k ≤ n ∧ v = .int .i64 k ∧ Hid (CI w wr b n r pw hf m v9 v10 k k)) (fun _ _ v _ => n - (intOf v).toNat)
  case atStart => exact ⟨0, by omega, rfl, hC⟩
  case round =>
    clear hC
    obtain ⟨k, hk, rfl, hH⟩ := hrel
    by_cases hlt : k < n
    · have c0 := hH.out.ent.c0 k hlt
      have c1 := hH.out.ent.c1 k hlt
      have c2 := hH.out.ent.c2 k hlt
      obtain ⟨h0, h6, hm, h8⟩ := HV.out k hlt
      have VL := fun w => value_any (r k) (pw k) (hf k) (m k) w h0 h6 hm h8
      clear h0 h6 hm h8
      have hA : Hid (CI w ((wr.alloc (.cells #[.int .i64 (r k), .int .i64 (pw k), .int .i64 (hf k)] 67)).alloc (.cells #[.int .i64 (r k)] 3)) b n r pw hf m _ _ k k) := (hH.out.alloc _).alloc _
      have hB := ((Bx.new wr [.int .i64 (r k), .int .i64 (pw k), .int .i64 (hf k)] 67).alloc (.cells #[.int .i64 (r k)] 3))
      have hne := hH.out.ne9
      have N1 : ∀ j u, [Value.int .i64 (r k)][j]? = some u → ((wr.alloc (.cells #[.int .i64 (r k), .int .i64 (pw k), .int .i64 (hf k)] 67)).alloc (.cells #[.int .i64 (r k)] 3)).cell? ((⟨wr.heap.size + 1, 0, none⟩ : Addr).add j) = some u := by
        simp [go_sem]
      have N2 : ∀ (w4 : World) j u, (unL (m k) (hf k))[j]? = some u → (w4.alloc (.cells (unL (m k) (hf k)).toArray 46)).cell? ((⟨w4.heap.size, 0, none⟩ : Addr).add j) = some u := fun w4 j u hj => by
        rw [WideShapes.add_plain, Nat.zero_add]
        exact (Bx.new w4 (unL (m k) (hf k)) 46).c j u hj
      have O2 : ∀ u ∈ unL (m k) (hf k), u.oneCell' = true := fun u hu => by
        simp at hu
        rcases hu with rfl | rfl | rfl <;> rfl
      go_wp2_with (first
        | (at_builtin; refine wpList_append_own_at _ rfl _ _ 36 rfl w.heap.size 3 i3 (.int .i64 0) 1 8 Try.underlying36 hi3 hz3 hs3 hb3 rfl (by decide) _ k (rowsL r k) rfl hA.out.o9 ⟨wr.heap.size + 1, 0, none⟩ 1 1 [.int .i64 (r k)] rfl rfl N1 (fun u hu => by simp at hu; rw [hu]; rfl) (by unfold maxLen; omega) (by omega) hA.out.below.size ?_; intro v3 w3 hown3 hgrow3 hnil3 hloc3; have d0 := hgrow3.cell (hB.c 0 _ rfl) hne; have d1 := hgrow3.cell (hB.c 1 _ rfl) hne; have d2 := hgrow3.cell (hB.c 2 _ rfl) hne; have hR : Hid (CI w w3 b n r pw hf m v3 _ (k + 1) k) := hA.out.row hgrow3 hown3 hloc3; clear hown3 hgrow3 hnil3 hloc3)
        | (go_at_call 33; (with_reducible refine (VL _).mono ?_); rintro e w4 ⟨rfl, hN4⟩; have hV : Hid (CI w (w4.alloc (.cells (unL (m k) (hf k)).toArray 46)) b n r pw hf m v3 _ (k + 1) k) := (hR.out.on hN4).alloc _)
        | (at_builtin; refine wpList_append_own_at _ rfl _ _ 37 rfl w.heap.size 46 i4 (.agg #[.complex .f64 0 0, .complex .f64 0 0, .int .i64 0]) 3 40 Try.underlying37 hi4 hz4 hs4 hb4 rfl (by decide) _ k (ampsL m hf k) rfl hV.out.o10 ⟨w4.heap.size, 0, none⟩ 1 1 (unL (m k) (hf k)) rfl rfl (N2 w4) O2 (by unfold maxLen; omega) (by omega) hV.out.below.size ?_; intro v5 w5 hown5 hgrow5 hnil5 hloc5; have hZ : Hid (CI w w5 b n r pw hf m v3 v5 (k + 1) (k + 1)) := hV.out.amp hgrow5 hown5 hloc5; clear hown5 hgrow5 hnil5 hloc5))
      go_roundw
      case rel => exact ⟨k + 1, by omega, by go_num, hZ⟩
      case measure => simp [intOf]; omega
    · obtain rfl : k = n := by omega
      go_wp2
      go_ret3
      exact ⟨hH.out.below, _, _, rfl, hH.out.o9, hH.out.o10⟩
end Go.Proofs.Ytjmgcgjmaemgdaa
