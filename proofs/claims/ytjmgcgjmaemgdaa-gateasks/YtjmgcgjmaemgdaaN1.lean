/-
  The law GateNames answers true.
-/
import Derived.Test.YtjmgcgjmaemgdaaK6
namespace Go.Proofs.Ytjmgcgjmaemgdaa
open Go.RowKit Go.Sort

theorem drewN_two (w : World) (n m : Nat) : (w.drewN n).drewN m = w.drewN (n + m) := World.drewN_drewN w n m
theorem hidG {p : Prop} (h : p) : Hid p := h
def nm (j : Nat) : ByteArray := nms.getD j ⟨#[]⟩
theorem nms_len : nms.length = 25 := rfl
theorem NA_at {j : Nat} (h : j < 25) : NA[j]? = some (.string (nm j)) := by
  have h' : j < nms.length := h
  unfold nm
  simp [NA, h', List.getD_eq_getElem?_getD]
theorem NA_size : NA.size = 25 := rfl
/-- The three lists: want, a (written up to k), b. -/
structure GN (w W : World) (B : Nat) (k : Nat) : Prop where
  below : Below w.heap.size w W
  ge : w.heap.size ≤ B
  want : W.heap[B]? = some (.cells NA 9 (0, 0))
  aa : ∃ cur, W.heap[B + 1]? = some (.cells cur 9 (0, 0)) ∧ cur.size = 25 ∧ ∀ j, k ≤ j → j < 25 → cur[j]? = some (.string (nm j))
  bb : W.heap[B + 1 + 1]? = some (.cells NA 9 (0, 0))
theorem cell_of {W : World} {B : Nat} {cur : Array Value} {t : TypeId} {j : Nat} {v : Value} (h : W.heap[B]? = some (.cells cur t (0, 0))) (hj : cur[j]? = some v) : W.cell? ⟨B, j, none⟩ = some v := by simp [World.cell?, h, hj]
theorem frozen_of {W : World} {B : Nat} {cur : Array Value} {t : TypeId} (h : W.heap[B]? = some (.cells cur t (0, 0))) (j : Nat) : W.frozen? ⟨B, j, none⟩ = false := by simp [World.frozen?, h]
theorem GN.drew {w W : World} {B k : Nat} (h : GN w W B k) : GN w W.drew B k := ⟨below_drew h.below, h.ge, h.want, h.aa, h.bb⟩
theorem GN.drewN {w W : World} {B k : Nat} (h : GN w W B k) (n : Nat) : GN w (W.drewN n) B k := ⟨below_drewN h.below n, h.ge, h.want, h.aa, h.bb⟩
theorem GN.put {w W : World} {B k : Nat} (h : GN w W B k) (s : ByteArray) : GN w (W.setCell ⟨B + 1, k, none⟩ (.string s)) B (k + 1) where
  below := h.below.setCell (by have := h.ge; show w.heap.size ≤ B + 1; omega) _
  ge := h.ge
  want := (heap_setCell_other W ⟨B + 1, k, none⟩ B _ (by show B ≠ B + 1; omega)).trans h.want
  aa := by
    obtain ⟨cur, h1, h2, h3⟩ := h.aa
    refine ⟨cur.setIfInBounds k (.string s), heap_setCell_same W (B + 1) k cur 9 _ h1, by simp [h2], fun j hj hj2 => ?_⟩
    rw [Array.getElem?_setIfInBounds_ne (by omega)]
    exact h3 j (by omega) hj2
  bb := (heap_setCell_other W ⟨B + 1, k, none⟩ (B + 1 + 1) _ (by show B + 1 + 1 ≠ B + 1; omega)).trans h.bb
theorem GN.start {w w1 : World} (h : Below w.heap.size w w1) : GN w (((w1.alloc (.cells NA 9)).alloc (.cells NA 9)).alloc (.cells NA 9)) w1.heap.size 0 := by
  have e1 := MapKept.heap_alloc w1 (.cells NA 9)
  have e2 := MapKept.heap_alloc (w1.alloc (.cells NA 9)) (.cells NA 9)
  have e3 := MapKept.heap_alloc ((w1.alloc (.cells NA 9)).alloc (.cells NA 9)) (.cells NA 9)
  have s1 : (w1.alloc (.cells NA 9)).heap.size = w1.heap.size + 1 := by simp [go_sem]
  have s2 : ((w1.alloc (.cells NA 9)).alloc (.cells NA 9)).heap.size = w1.heap.size + 1 + 1 := by simp [go_sem]
  rw [s1] at e2
  rw [s2] at e3
  exact ⟨bal (bal (bal h _) _) _, h.size, (e3.2 _ (by omega)).trans ((e2.2 _ (by omega)).trans e1.1), ⟨NA, (e3.2 _ (by omega)).trans e2.1, NA_size, fun j _ hj => NA_at hj⟩, e3.1⟩
/-- Behind the first loop: a grows. -/
structure GM (w W : World) (B : Nat) (v : Value) (k : Nat) : Prop where
  below : Below w.heap.size w W
  want : W.heap[B]? = some (.cells NA 9 (0, 0))
  bb : W.heap[B + 1 + 1]? = some (.cells NA 9 (0, 0))
  own : ∃ xs, W.ownsRow w.heap.size 9 1 v (25 + k) xs
  n1 : v.ownBlock ≠ some B
  n2 : v.ownBlock ≠ some (B + 1 + 1)
theorem heap_lt {W : World} {B : Nat} {o : Obj} (h : W.heap[B]? = some o) : B < W.heap.size := (Array.getElem?_eq_some_iff.1 h).1
theorem GN.end_ {w W : World} {B : Nat} (h : GN w W B 25) : GM w W B (.slice (some ⟨B + 1, 0, none⟩) 25 25) 0 := by
  obtain ⟨cur, h1, h2, _⟩ := h.aa
  refine ⟨h.below, h.want, h.bb, ⟨cur.toList, by simp [h2], .inr ⟨B + 1, 25, cur, rfl, by have := h.ge; omega, h1, by omega, by unfold maxLen; omega, by omega, ?_⟩⟩, by simp [Value.ownBlock], by simp [Value.ownBlock]⟩
  rw [List.take_of_length_le]
  simp [h2]
theorem GM.alloc {w W : World} {B : Nat} {v : Value} {k : Nat} (h : GM w W B v k) (o : Obj) : GM w (W.alloc o) B v k := by
  have e := (MapKept.heap_alloc W o).2
  obtain ⟨xs, hx⟩ := h.own
  exact ⟨bal h.below _, (e _ (heap_lt h.want)).trans h.want, (e _ (heap_lt h.bb)).trans h.bb, ⟨xs, hx.alloc o⟩, h.n1, h.n2⟩
theorem GM.grow {w W W2 : World} {B : Nat} {v v' : Value} {k : Nat} {xs : List Value} (h : GM w W B v k) (hg : W.grownBy W2 v.ownBlock) (ho : W2.ownsRow w.heap.size 9 1 v' (25 + k + 1) xs) (hloc : v'.ownBlock = v.ownBlock ∨ v'.ownBlock = some W.heap.size) : GM w W2 B v' (k + 1) := by
  obtain ⟨ys, hy⟩ := h.own
  have l1 := heap_lt h.want
  have l2 := heap_lt h.bb
  refine ⟨h.below.grown hg h.below.size (fun j e => (hy.lt j e).1), (hg.block _ l1 (fun e => h.n1 e.symm)).trans h.want, (hg.block _ l2 (fun e => h.n2 e.symm)).trans h.bb, ⟨xs, ho⟩, ?_, ?_⟩
  · rcases hloc with hl | hl
    · rw [hl]; exact h.n1
    · rw [hl]; intro e; injection e with e; omega
  · rcases hloc with hl | hl
    · rw [hl]; exact h.n2
    · rw [hl]; intro e; injection e with e; omega
theorem GM.shape {w W : World} {B : Nat} {v : Value} {k : Nat} (h : GM w W B v k) : ∃ a c, v = .slice a (25 + k) c := by
  obtain ⟨xs, hx⟩ := h.own
  rcases hx.2 with ⟨_, e⟩ | ⟨g, cap, cur, rfl, _⟩
  · omega
  · exact ⟨_, _, rfl⟩
theorem Try.info9 : (Try.prog.info? 9).map (fun i => (i.zero, i.size, i.bytes)) = some (some (.string ⟨#[]⟩), 1, 16) := by kernel_rfl
set_option maxRecDepth 100000 in
set_option maxHeartbeats 4000000 in
theorem names_law (w : World) : Calls Try.prog 4 #[] w fun e w' => e = .returned (.bool true) ∧ Below w.heap.size w w' := by
  have AL := alive_any w
  have NR := fun w => rnames_any w
  have NC := fun w => names_any w
  have ST := fun w1 (h : Below w.heap.size w w1) => GN.start h
  have CN : ∀ wr : World, Hid (∀ j, j < 25 → (wr.alloc (.cells NA 9)).cell? ⟨wr.heap.size, j, none⟩ = some (.string (nm j))) := fun wr j hj => cell_of (MapKept.heap_alloc wr (.cells NA 9)).1 (NA_at hj)
  generalize NA = na at NR NC ST CN
  obtain ⟨i9, hi9, hz9, hs9, hb9⟩ := info_parts Try.info9
  go_enter Try.func4, Try.ntmps4
  go_upto_region 8 with (first
    | (go_at_call 7; (with_reducible refine AL.mono ?_); rintro e w1 ⟨rfl, hN1⟩)
    | (go_at_call 23; (with_reducible refine (NR _).mono ?_); rintro e w2 ⟨rfl, rfl⟩)
    | (go_at_call 24; (with_reducible refine (NC _).mono ?_); rintro e w3 ⟨rfl, rfl⟩))
  have hG := hidG (ST w1 hN1)
  clear ST AL NR hN1
  generalize w1.heap.size = B at hG
  go_loopw [4] (fun v wr => ∃ k : Nat, k ≤ 25 ∧ v = .int .i64 k ∧ Hid (GN w wr B k)) (fun v _ => 25 - (intOf v).toNat)
  case atStart => exact ⟨0, by omega, rfl, hG⟩
  case round =>
    clear hG
    obtain ⟨k, hk, rfl, hH⟩ := hrel
    by_cases hlt : k < 25
    · obtain ⟨cur, a1, a2, a3⟩ := hH.out.aa
      have c0 := cell_of hH.out.want (NA_at hlt)
      have c1 := cell_of a1 (a3 k (Nat.le_refl k) hlt)
      have f1 := frozen_of a1 k
      clear a1 a2 a3
      generalize nm k = s at c0 c1
      go_wp2
      go_quiet (fail)
      go_wp2
      go_roundw
      case rel => exact ⟨k + 1, by omega, by go_num, (hH.out.drewN _).put _⟩
      case measure => simp [intOf]; omega
    · obtain rfl : k = 25 := by omega
      have hM := hidG hH.out.end_
      clear hH
      rw [show ((25 : Nat) : Int) = 25 from rfl]
      go_upto_region 14 with (fail)
      go_loopw [2, 5] (fun v2 v wr => ∃ k : Nat, k ≤ 10 ∧ v = .int .i64 k ∧ Hid (GM w wr B v2 k)) (fun _ v _ => 10 - (intOf v).toNat)
      case atStart => exact ⟨0, by omega, rfl, hM⟩
      case round =>
        clear hM
        obtain ⟨k, hk, rfl, hH⟩ := hrel
        by_cases hlt : k < 10
        · have hA := hidG (hH.out.alloc (.cells #[.string ⟨#[43]⟩] 9))
          obtain ⟨xs, hx⟩ := hA.out.own
          have N1 := cell_one_new wr (.string ⟨#[43]⟩) 9
          go_wp2_with (at_builtin; refine wpList_append_own_at _ rfl _ _ 48 rfl w.heap.size 9 i9 (.string ⟨#[]⟩) 1 16 Try.underlying48 hi9 hz9 hs9 hb9 rfl (by decide) _ (25 + k) xs rfl hx ⟨wr.heap.size, 0, none⟩ 1 1 [.string ⟨#[43]⟩] rfl rfl N1 (fun u hu => by simp at hu; rw [hu]; rfl) (by unfold maxLen; omega) (by omega) hA.out.below.size ?_; intro v3 w3 hown3 hgrow3 hnil3 hloc3; have hZ := hidG (hA.out.grow hgrow3 hown3 hloc3); clear hown3 hgrow3 hnil3 hloc3)
          go_roundw
          case rel => exact ⟨k + 1, by omega, by go_num, hZ⟩
          case measure => simp [intOf]; omega
        · obtain rfl : k = 10 := by omega
          rw [show ((10 : Nat) : Int) = 10 from rfl]
          obtain ⟨a2, c2, hv2⟩ := hH.out.shape
          have b0 := hidG (hH.out.want)
          have b1 := hidG (hH.out.bb)
          have hW := hidG hH.out.below
          clear hH
          subst hv2
          go_upto_region 21 with (go_at_call 24; (with_reducible refine (NC _).mono ?_); rintro e w3 ⟨rfl, rfl⟩)
          have hC := CN wr
          have e0 : Hid (∀ j, j < 25 → (wr.alloc (.cells na 9)).cell? ⟨B, j, none⟩ = some (.string (nm j))) := fun j hj => cell_of (((MapKept.heap_alloc wr (.cells na 9)).2 _ (heap_lt b0.out)).trans b0.out) (NA_at hj)
          have e1 : Hid (∀ j, j < 25 → (wr.alloc (.cells na 9)).cell? ⟨B + 1 + 1, j, none⟩ = some (.string (nm j))) := fun j hj => cell_of (((MapKept.heap_alloc wr (.cells na 9)).2 _ (heap_lt b1.out)).trans b1.out) (NA_at hj)
          have hW2 : Hid (Below w.heap.size w (wr.alloc (.cells na 9))) := bal hW.out _
          clear b0 b1 hW CN NC
          generalize hWn : wr.alloc (.cells na 9) = Wn at *
          generalize wr.heap.size = C at *
          go_loopw [7] (fun v wq => ∃ k m : Nat, k ≤ 25 ∧ v = .int .i64 k ∧ Hid (wq = Wn.drewN m)) (fun v _ => 25 - (intOf v).toNat)
          case atStart => exact ⟨0, 0, by omega, rfl, rfl⟩
          case round =>
            obtain ⟨k, m, hk, rfl, hq⟩ := hrel
            by_cases hlt : k < 25
            · have d0 : wr.cell? ⟨B, k, none⟩ = some (.string (nm k)) := by rw [hq.out]; exact e0.out k hlt
              have d1 : wr.cell? ⟨B + 1 + 1, k, none⟩ = some (.string (nm k)) := by rw [hq.out]; exact e1.out k hlt
              have d2 : wr.cell? ⟨C, k, none⟩ = some (.string (nm k)) := by rw [hq.out]; exact hC.out k hlt
              generalize nm k = s at d0 d1 d2
              go_wp2
              go_quiet (fail)
              go_wp2
              go_roundw
              case rel => exact ⟨k + 1, m + nq, by omega, by go_num, by show _ = _; rw [hq.out]; exact drewN_two _ _ _⟩
              case measure => simp [intOf]; omega
            · go_wp2
              go_ret
              exact ⟨by simp, by rw [hq.out]; exact below_drewN hW2.out m⟩
end Go.Proofs.Ytjmgcgjmaemgdaa
