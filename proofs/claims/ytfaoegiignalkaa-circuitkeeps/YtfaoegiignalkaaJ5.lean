/-
  slices.Grow of nothing, slices.Concat of two lists of operations.
-/
import Derived.Test.YtfaoegiignalkaaJ4
import Derived.Lib.AppendZerosOnto
import Derived.Lib.SliceRun
import Derived.Lib.Walk
namespace Go.Proofs.Ytfaoegiignalkaa
open Go.RowKit Go.Shelf

theorem append_nought (a b : Option Addr) (n c d : Nat) (h : n ≤ c) (ty : TypeId) (w : World) : (Builtin.append_ #[22, 22] ty #[.slice a n c, .slice b 0 d]).run Try.prog w = .ok (.slice a n c) w := by
  unfold Builtin.append_
  simp [go_sem]
  rw [if_pos h]
  cases a <;> cases b <;> simp [go_sem]
theorem own_cap {W : World} {B T c n : Nat} {v : Value} {xs : List Value} (h : W.ownsRow B T c v n xs) : ∃ a k, v = .slice a n k ∧ n ≤ k := by
  rcases h.2 with ⟨rfl, e⟩ | ⟨g, cap, cur, rfl, _, _, h1, _⟩
  · exact ⟨_, _, by rw [e], by omega⟩
  · exact ⟨_, _, rfl, h1⟩
set_option maxHeartbeats 2000000 in
set_option maxRecDepth 100000 in
theorem grow_any (n : Nat) (hn : n ≤ 8192) (w : World) : Calls Try.prog 57 #[.slice none 0 0, .int .i64 (n : Nat)] w fun e w' => ∃ v, e = .returned v ∧ w'.ownsRow w.heap.size 57 7 v 0 [] ∧ Below w.heap.size w w' := by
  have h1 : ¬ ((n : Int) < 0) := by omega
  by_cases h0 : n = 0
  case pos =>
    subst h0
    go_enter Try.func57, Try.ntmps57
    go_wp2
    go_ret
    exact ⟨_, rfl, World.ownsRow_nil _ _ _ _, Below.refl _ _⟩
  have h4 : (n : Int) > 0 := by omega
  obtain ⟨i0, hi0, hz0, hz1, hz2⟩ := info_parts Try.info57
  have hrz : ∀ ty, (Builtin.append_ #[22, 3] ty #[.slice none 0 0, .int .i64 (n : Int)]).run Try.prog w = _ := fun ty => Lib.run_append_grow_zeros w 22 3 ty 57 i0 _ .i64 .i64 Try.underlying22 Try.underlying3 hi0 hz0 none 0 0 [] (by rw [hz1]; exact run_firstCells_none w.drew 7 0 0 0) n (by omega) (by omega) (by omega) (by omega) (by rw [hz2]; omega) (by rw [hz2]; exact growslice_fits (by omega) (by omega))
  have hGn : 0 + n ≤ grownCap w (0 + n) 0 57 := grownCap_ge w _ _ _
  have hG63 := grownCap_le_maxLen w (0 + n) 0 57 (by unfold maxLen; omega)
  obtain ⟨G, hG⟩ : ∃ G, G = grownCap w (0 + n) 0 57 := ⟨_, rfl⟩
  rw [← hG] at hrz hGn hG63
  obtain ⟨Z, hZ⟩ : ∃ Z, Z = #[] ++ Builtin.zeroCells (Value.agg #[.int .i64 0, .string ⟨#[]⟩, .slice none 0 0, .int .i64 0, .bool false, .int .u64 0, .int .u64 0]).cells n ++ Builtin.zeroCells (Value.agg #[.int .i64 0, .string ⟨#[]⟩, .slice none 0 0, .int .i64 0, .bool false, .int .u64 0, .int .u64 0]).cells (G - (0 + n)) := ⟨_, rfl⟩
  have hZs : Z.size = G * 7 := by
    rw [hZ, Array.size_append, Array.size_append, size_zeroCells, size_zeroCells, show (Value.agg #[.int .i64 0, .string ⟨#[]⟩, .slice none 0 0, .int .i64 0, .bool false, .int .u64 0, .int .u64 0]).cells.size = 7 from rfl, show (#[] : Array Value).size = 0 from rfl]
    omega
  have HR : Hid (∀ ty, (Builtin.append_ #[22, 3] ty #[.slice none 0 0, .int .i64 (n : Int)]).run Try.prog w = .ok (.slice (some ⟨w.heap.size, 0, none⟩) (0 + n) G) (w.drew.alloc (.cells Z 57))) := by rw [hZ]; exact hrz
  have HZ := hid hZs
  clear hrz hZ hG hZs
  go_enter Try.func57, Try.ntmps57
  go_wp2_with (at_builtin; refine Lib.wpList_append_run _ rfl _ _ _ _ rfl _ _ rfl rfl _ _ (HR.out _) ?_)
  all_goals (go_ret; refine ⟨_, rfl, ⟨rfl, .inr ⟨w.heap.size, G, Z, rfl, Nat.le_refl _, heap_alloc_new _ _, Nat.zero_le _, hG63, HZ.out, rfl⟩⟩, bal (below_drew (Below.refl _ _)) _⟩)
/-- Where the operations' qubits lie, as a list. -/
def pvs (n : Nat) (A : Nat → Option Addr) (C : Nat → Nat) : List (Option Addr × Nat) := (List.range n).map fun k => (A k, C k)
theorem pvs_len (n : Nat) (A : Nat → Option Addr) (C : Nat → Nat) : (pvs n A C).length = n := by simp [pvs]
theorem OS.cells {W : World} {a : Option Addr} {c : Nat} {os : List Oq} {A : Nat → Option Addr} {C : Nat → Nat} (h : OS W a c os A C) (h0 : 0 < os.length) :
    ∃ b o, a = some ⟨b, o, none⟩ ∧ ∀ j u, (opw os (pvs os.length A C))[j]? = some u → W.cell? ((⟨b, o, none⟩ : Addr).add j) = some u := by
  obtain ⟨b, o, e, r⟩ := h.at_ 0 h0
  refine ⟨b, o, e, fun j u hu => ?_⟩
  have hpl := pvs_len os.length A C
  have hj : j < os.length * 7 := by
    have := (List.getElem?_eq_some_iff.1 hu).1
    rwa [opw_length _ _ hpl.symm] at this
  obtain ⟨i, d, hd, rfl⟩ : ∃ i d, d < 7 ∧ j = i * 7 + d := ⟨j / 7, j % 7, Nat.mod_lt _ (by omega), by omega⟩
  have hi : i < os.length := by omega
  have hv : (pvs os.length A C)[i]'(by omega) = (A i, C i) := by simp [pvs]
  obtain ⟨e0, e1, e2, e3, e4, e5, e6⟩ := opw_at os (pvs os.length A C) hpl.symm i hi (by omega)
  rw [hv] at e2
  rw [WideShapes.add_plain]
  match d, hd, hu with
  | 0, _, hu => rw [Nat.add_zero] at hu ⊢; rw [e0] at hu; rw [r.c0 i hi]; exact hu
  | 1, _, hu => rw [e1] at hu; rw [← Nat.add_assoc, r.c1 i hi]; exact hu
  | 2, _, hu => rw [e2] at hu; rw [← Nat.add_assoc, r.c2 i hi]; exact hu
  | 3, _, hu => rw [e3] at hu; rw [← Nat.add_assoc, r.c3 i hi]; exact hu
  | 4, _, hu => rw [e4] at hu; rw [← Nat.add_assoc, r.c4 i hi]; exact hu
  | 5, _, hu => rw [e5] at hu; rw [← Nat.add_assoc, r.c5 i hi]; exact hu
  | 6, _, hu => rw [e6] at hu; rw [← Nat.add_assoc, r.c6 i hi]; exact hu
set_option maxHeartbeats 4000000 in
set_option maxRecDepth 100000 in
theorem concat_any (os1 os2 : List Oq) (a1 a2 : Option Addr) (c1 c2 : Nat) (A1 A2 : Nat → Option Addr) (C1 C2 : Nat → Nat) (x : Nat) (w : World) (H1 : OS w a1 c1 os1 A1 C1) (H2 : OS w a2 c2 os2 A2 C2)
    (hn1 : os1.length ≤ 4096) (hn2 : os2.length ≤ 4096) (hx : BK w x #[.slice a1 os1.length c1, .slice a2 os2.length c2] 22) :
    Calls Try.prog 41 #[.slice (some ⟨x, 0, none⟩) 2 2] w fun e w' => ∃ v, e = .returned v ∧ w'.ownsRow w.heap.size 57 7 v (os1.length + os2.length) (opw os1 (pvs os1.length A1 C1) ++ opw os2 (pvs os2.length A2 C2)) ∧ Below w.heap.size w w' := by
  have GR : ∀ w : World, Calls Try.prog 57 #[.slice none 0 0, .int .i64 ((os1.length : Int) + (os2.length : Int))] w fun e w' => ∃ v, e = .returned v ∧ w'.ownsRow w.heap.size 57 7 v 0 [] ∧ Below w.heap.size w w' := fun w => by
    have := grow_any (os1.length + os2.length) (by omega) w
    rw [Int.natCast_add] at this
    exact this
  have HX := hid hx
  have HO1 := hid H1
  have HO2 := hid H2
  have xc : ∀ j, w.cell? ⟨x, j, none⟩ = _ := hx.cell
  have xl := hx.lt
  obtain ⟨i0, hi0, hz0, hz1, hz2⟩ := info_parts Try.info57
  have HI0 := hid hi0
  have HI1 := hid hz0
  have HI2 := hid hz1
  have HI4 := hid hz2
  clear hi0 hz0 hz1 hz2 H1 H2 hx
  go_enter Try.func41, Try.ntmps41
  go_wp2
  go_loopw [3, 11] (fun s t wr => wr = w ∧ ((s = .int .i64 0 ∧ t = .int .i64 0) ∨ (s = .int .i64 (os1.length : Nat) ∧ t = .int .i64 1) ∨ (s = .int .i64 ((os1.length + os2.length : Nat) : Int) ∧ t = .int .i64 2))) (fun _ t _ => 2 - (intOf t).toNat)
  case atStart => exact ⟨rfl, .inl ⟨rfl, rfl⟩⟩
  case round =>
    obtain ⟨hw, hrel⟩ := hrel
    replace hw := hw.symm
    subst hw
    obtain ⟨rfl, rfl⟩ | ⟨rfl, rfl⟩ | ⟨rfl, rfl⟩ := hrel
    · go_wp2
      go_roundw
      case rel => exact ⟨trivial, .inr (.inl ⟨by simp, rfl⟩)⟩
      case measure => simp [intOf]
    · go_wp2
      go_roundw
      case rel => exact ⟨trivial, .inr (.inr ⟨by simp, rfl⟩)⟩
      case measure => simp [intOf]
    · go_wp2_with (go_at_call 57; (with_reducible refine (GR _).mono ?_); rintro e w1 ⟨v1, rfl, ho1, hB1⟩)
      have HR1 := hid ho1
      have HB1 := hid hB1
      clear ho1 hB1 xc GR
      go_loopw [6, 27] (fun s t wr => Below w.heap.size w wr ∧ ((wr.ownsRow w.heap.size 57 7 s 0 [] ∧ t = .int .i64 0) ∨ (wr.ownsRow w.heap.size 57 7 s os1.length (opw os1 (pvs os1.length A1 C1)) ∧ t = .int .i64 1) ∨ (wr.ownsRow w.heap.size 57 7 s (os1.length + os2.length) (opw os1 (pvs os1.length A1 C1) ++ opw os2 (pvs os2.length A2 C2)) ∧ t = .int .i64 2))) (fun _ t _ => 2 - (intOf t).toNat)
      case atStart => exact ⟨HB1.out, .inl ⟨HR1.out, rfl⟩⟩
      case round =>
        obtain ⟨hB, hrel⟩ := hrel
        have bx : BK wr x _ 22 := (hB.block _ xl).trans HX.out
        obtain ⟨ho, rfl⟩ | ⟨ho, rfl⟩ | ⟨ho, rfl⟩ := hrel
        · obtain ⟨av, cv, rfl, hcv⟩ := own_cap ho
          have xc : ∀ j, wr.cell? ⟨x, j, none⟩ = _ := bx.cell
          have HB := hid hB
          have HR := hid ho
          have hS := HO1.out.below hB
          by_cases h0 : os1.length = 0
          · have HE : Hid (os1 = []) := List.length_eq_zero_iff.1 h0
            have AP : ∀ ty, (Builtin.append_ #[22, 22] ty #[.slice av 0 cv, .slice a1 os1.length c1]).run Try.prog wr = .ok (.slice av 0 cv) wr := fun ty => by rw [h0]; exact append_nought av a1 0 cv c1 hcv ty wr
            have HAP := hid AP
            clear hB ho hS h0 AP
            go_wp2_with (at_builtin; refine Lib.wpList_append_run _ rfl _ _ _ _ rfl _ _ rfl rfl _ _ (HAP.out _) ?_)
            go_roundw
            case rel => exact ⟨HB.out, .inr (.inl ⟨by rw [HE.out]; simpa [opw] using HR.out, rfl⟩)⟩
            case measure => simp [intOf]
          · obtain ⟨b', o', rfl, hc⟩ := hS.cells (by omega)
            have HC := hid hc
            have hbl := hB.size
            clear hB ho hS hc
            go_wp2_with (at_builtin; refine wpList_append_own_at _ rfl _ _ 22 rfl w.heap.size 57 i0 _ 7 80 Try.underlying22 HI0.out HI1.out HI2.out HI4.out rfl (by decide) _ _ _ rfl HR.out ⟨b', o', none⟩ os1.length c1 (opw os1 (pvs os1.length A1 C1)) rfl (opw_length _ _ (pvs_len _ _ _).symm) HC.out (opw_one _ _) (by unfold maxLen; omega) (by omega) hbl ?_; intro v8 w8 hown8 hgrow8 _ _; obtain ⟨a8, c8, rfl⟩ := own_shape hown8)
            go_roundw
            case rel => exact ⟨HB.out.grown hgrow8 hbl (fun g e => (HR.out.lt g e).1), .inr (.inl ⟨by simpa using hown8, rfl⟩)⟩
            case measure => simp [intOf]
        · obtain ⟨av, cv, rfl, hcv⟩ := own_cap ho
          have xc : ∀ j, wr.cell? ⟨x, j, none⟩ = _ := bx.cell
          have HB := hid hB
          have HR := hid ho
          have hS := HO2.out.below hB
          by_cases h0 : os2.length = 0
          · have HE : Hid (os2 = []) := List.length_eq_zero_iff.1 h0
            have AP : ∀ ty, (Builtin.append_ #[22, 22] ty #[.slice av os1.length cv, .slice a2 os2.length c2]).run Try.prog wr = .ok (.slice av os1.length cv) wr := fun ty => by rw [h0]; exact append_nought av a2 os1.length cv c2 hcv ty wr
            have HAP := hid AP
            clear hB ho hS h0 AP
            go_wp2_with (at_builtin; refine Lib.wpList_append_run _ rfl _ _ _ _ rfl _ _ rfl rfl _ _ (HAP.out _) ?_)
            go_roundw
            case rel => exact ⟨HB.out, .inr (.inr ⟨by rw [HE.out]; simpa [opw] using HR.out, rfl⟩)⟩
            case measure => simp [intOf]
          · obtain ⟨b', o', rfl, hc⟩ := hS.cells (by omega)
            have HC := hid hc
            have hbl := hB.size
            clear hB ho hS hc
            go_wp2_with (at_builtin; refine wpList_append_own_at _ rfl _ _ 22 rfl w.heap.size 57 i0 _ 7 80 Try.underlying22 HI0.out HI1.out HI2.out HI4.out rfl (by decide) _ _ _ rfl HR.out ⟨b', o', none⟩ os2.length c2 (opw os2 (pvs os2.length A2 C2)) rfl (opw_length _ _ (pvs_len _ _ _).symm) HC.out (opw_one _ _) (by unfold maxLen; omega) (by omega) hbl ?_; intro v8 w8 hown8 hgrow8 _ _; obtain ⟨a8, c8, rfl⟩ := own_shape hown8)
            go_roundw
            case rel => exact ⟨HB.out.grown hgrow8 hbl (fun g e => (HR.out.lt g e).1), .inr (.inr ⟨by simpa using hown8, rfl⟩)⟩
            case measure => simp [intOf]
        · obtain ⟨av, cv, rfl, hcv⟩ := own_cap ho
          have HB := hid hB
          have HR := hid ho
          clear hB ho
          go_wp2
          go_ret
          exact ⟨_, rfl, HR.out, HB.out⟩
end Go.Proofs.Ytfaoegiignalkaa
