/-
  The gates put in the opposite order.
-/
import Derived.Test.YtinkdonaedoojaaS2
import Derived.Test.YtinkdonaedoojaaSR
namespace Go.Proofs.Ytinkdonaedoojaa
open Go.RowKit Go.Lib Go.Sort

/-- A gate's cells. -/
abbrev enc7 (x : (Nat × Nat) × (Option Addr × Nat)) : List Value := CL.opc (cxo x.1) x.2.1 x.2.2
theorem opw_get (rs : List CL.Oq) (vs : List (Option Addr × Nat)) (hl : rs.length = vs.length) (j c : Nat) (h : j < rs.length) (h' : j < vs.length) (hc : c < 7) : (CL.opw rs vs)[j * 7 + c]? = (CL.opc rs[j] vs[j].1 vs[j].2)[c]? := by
  have H := CL.opw_at rs vs hl j h h'
  rcases (show c = 0 ∨ c = 1 ∨ c = 2 ∨ c = 3 ∨ c = 4 ∨ c = 5 ∨ c = 6 by omega) with rfl | rfl | rfl | rfl | rfl | rfl | rfl
  · exact H.1
  · exact H.2.1
  · exact H.2.2.1
  · exact H.2.2.2.1
  · exact H.2.2.2.2.1
  · exact H.2.2.2.2.2.1
  · exact H.2.2.2.2.2.2
/-- Gates cx that can be read, in memory of one's own. -/
structure OZ (W : World) (B : Nat) (v : Value) (l : List (Nat × Nat)) : Prop where
  ex : ∃ (a : Option Addr) (c : Nat) (A : Nat → Option Addr) (C : Nat → Nat), v = .slice a l.length c ∧ l.length ≤ c ∧ c ≤ 9223372036854775807 ∧
    (∀ i (h : i < l.length), ∃ g, a = some ⟨g, 0, none⟩ ∧ B ≤ g ∧ (∃ cs, BK W g cs 58) ∧ ∀ t u, (CL.opc (cxo l[i]) (A i) (C i))[t]? = some u → W.cell? ⟨g, i * 7 + t, none⟩ = some u) ∧
    (∀ i (h : i < l.length), 2 ≤ C i ∧ ∃ b, A i = some ⟨b, 0, none⟩ ∧ B ≤ b ∧ (∃ cs, BK W b cs 3) ∧ W.cell? ⟨b, 0, none⟩ = some (.int .i64 l[i].1) ∧ W.cell? ⟨b, 1, none⟩ = some (.int .i64 l[i].2) ∧ ∀ k, W.frozen? ⟨b, k, none⟩ = false)
theorem OZ.on {W W' : World} {B : Nat} {v : Value} {l : List (Nat × Nat)} (h : OZ W B v l) (hb : Below W.heap.size W W') : OZ W' B v l := by
  obtain ⟨a, c, A, C, e, h1, h2, h3, h4⟩ := h.ex
  refine ⟨a, c, A, C, e, h1, h2, fun i hi => ?_, fun i hi => ?_⟩
  · obtain ⟨g, e, hB, ⟨cs, hk⟩, hc⟩ := h3 i hi
    have hg := hk.lt
    exact ⟨g, e, hB, ⟨cs, bk_on hk hb⟩, fun t u hu => (hb.cell (p := ⟨g, _, none⟩) hg).trans (hc t u hu)⟩
  · obtain ⟨hC, b, e, hB, ⟨cs, hk⟩, c0, c1, hf⟩ := h4 i hi
    have hg := hk.lt
    exact ⟨hC, b, e, hB, ⟨cs, bk_on hk hb⟩, (hb.cell (p := ⟨b, _, none⟩) hg).trans c0, (hb.cell (p := ⟨b, _, none⟩) hg).trans c1, fun k => (hb.frozen (p := ⟨b, k, none⟩) hg).trans (hf k)⟩
theorem OZ.read {W : World} {B : Nat} {v : Value} {l : List (Nat × Nat)} (h : OZ W B v l) : ∃ a c A C, v = .slice a l.length c ∧ CL.OS W a c (l.map cxo) A C := by
  obtain ⟨a, c, A, C, e, h1, h2, h3, h4⟩ := h.ex
  have hl : (l.map cxo).length = l.length := List.length_map _
  refine ⟨a, c, A, C, e, by omega, fun k hk => ?_, fun k hk => ?_, fun k hk => ?_, by omega⟩
  · rw [List.getElem_map]
    obtain ⟨hC, b, e, hB, ⟨cs, hk⟩, c0, c1, hf⟩ := h4 k (by omega)
    refine ⟨hC, fun j hj => ⟨b, 0, e, fun j hj => ?_, hk.lt⟩⟩
    rw [Nat.zero_add]
    have hj : j < 2 := hj
    rcases (show j = 0 ∨ j = 1 by omega) with rfl | rfl
    · exact c0
    · exact c1
  · have hk' : k < l.length := by omega
    obtain ⟨g, e, hB, ⟨cs, hgk⟩, _⟩ := h3 k hk'
    have hg := hgk.lt
    have key : ∀ j (hj : j < l.length) t u, (CL.opc (cxo l[j]) (A j) (C j))[t]? = some u → W.cell? ⟨g, j * 7 + t, none⟩ = some u := fun j hj t u hu => by
      obtain ⟨g', e', _, _, hc⟩ := h3 j hj
      rw [e] at e'
      cases e'
      exact hc t u hu
    refine ⟨g, 0, e, ?_, ?_, ?_, ?_, ?_, ?_, ?_, hg⟩
    all_goals
      intro j hj
      rw [List.getElem_map, Nat.zero_add]
    · exact key j (by omega) 0 _ rfl
    · exact key j (by omega) 1 _ rfl
    · exact key j (by omega) 2 _ rfl
    · exact key j (by omega) 3 _ rfl
    · exact key j (by omega) 4 _ rfl
    · exact key j (by omega) 5 _ rfl
    · exact key j (by omega) 6 _ rfl
  · rw [List.getElem_map]
    exact cxo_fit _
theorem putRow_block (w : World) (g off : Nat) (d : Array Value) (k : Nat) (h : k ≠ g) : (putRow id w g off d).heap[k]? = w.heap[k]? := by
  unfold putRow mapBlock
  simp [Array.getElem?_modify, Ne.symm h]
theorem putRow_own {w : World} {g : Nat} {cs : Array Value} (K : BK w g cs 58) (off : Nat) (d : Array Value) : ∃ cs', BK (putRow id w g off d) g cs' 58 := by
  have K : w.heap[g]? = some (.cells cs 58 (0, 0)) := K
  refine ⟨putCells id off d cs, ?_⟩
  show (putRow id w g off d).heap[g]? = _
  unfold putRow mapBlock
  simp [Array.getElem?_modify, K, onCells]
theorem F3.put {B g off : Nat} {w : World} {cs : Array Value} (K : BK w g cs 58) (hb : B ≤ g) (d : Array Value) : F3 B w (putRow id w g off d) :=
  ⟨by simp, fun W hW h => ⟨h.os, h.tape, h.output, by simpa using h.size, fun k hk => (putRow_block w g off d k (by omega)).trans (h.block k hk)⟩, fun b cs' T _ _ h58 _ k => (putRow_block w g off d b (fun e => by
    subst e
    have k1 : w.heap[b]? = some (.cells cs 58 (0, 0)) := K
    have k2 : w.heap[b]? = some (.cells cs' T (0, 0)) := k
    rw [k1] at k2
    cases k2
    exact h58 rfl)).trans k⟩
theorem own_cap {W : World} {B T sz n c : Nat} {a : Option Addr} {xs : List Value} (h : W.ownsRow B T sz (.slice a n c) n xs) : c ≤ 9223372036854775807 := by
  rcases h.2 with ⟨e, _⟩ | ⟨g, cap, cur, e, _, _, _, hm, _⟩
  · injection e with _ _ e
    omega
  · injection e with _ _ e
    unfold maxLen at hm
    omega
set_option maxHeartbeats 1000000 in
theorem rev_any (B : Nat) (v : Value) (l : List (Nat × Nat)) (w : World) (H : OC w B v l) :
    Calls Try.prog 40 #[v] w fun e w' => e = .returned (.tuple #[]) ∧ OZ w' B v l.reverse ∧ F3 B w w' ∧ ∀ b cs, BK w b cs 79 → BK w' b cs 79 := by
  obtain ⟨vs, hO⟩ := H
  have hml : (l.map cxo).length = l.length := List.length_map _
  have hvl : l.length = vs.length := hml.symm.trans hO.len
  rcases Nat.eq_zero_or_pos l.length with h0 | h0
  · obtain rfl := List.eq_nil_of_length_eq_zero h0
    obtain ⟨a, c, rfl⟩ := own_shape hO.own
    have h := AnyQ.slices_Reverse_empty Try.reverseOp a c w
    refine Calls.mono (P := Try.prog) (f := 40) h ?_
    rintro e w' ⟨rfl, rfl⟩
    have hc : c ≤ 9223372036854775807 := own_cap hO.own
    exact ⟨rfl, ⟨a, c, fun _ => none, fun _ => 0, rfl, Nat.zero_le _, hc, fun i hi => absurd hi (Nat.not_lt_zero _), fun i hi => absurd hi (Nat.not_lt_zero _)⟩, F3.refl _ _, fun _ _ k => k⟩
  · obtain ⟨g, cap, rfl, hcap, hfz, hcell, hBg, hgl⟩ := own_at hO.own (by omega)
    rw [hml] at hcap
    have hcapl := own_cap hO.own
    obtain ⟨cs, hK⟩ := own_ty hO.own rfl
    have hK : BK w g cs 58 := hK
    have hwl : (CL.opw (l.map cxo) vs).length = l.length * 7 := by rw [CL.opw_length _ _ hO.len, hml]
    have hds : (l.zip vs).toArray.size = l.length := by simp [hvl]
    have hget : ∀ i (h : i < l.length), (l.zip vs).toArray[i]! = (l[i], vs[i]'(by omega)) := fun i h => by
      rw [getElem!_pos _ i (by omega)]
      simp
    have HK : HoldsK enc7 7 w g 0 (l.zip vs).toArray := fun t ht => by
      rw [size_flatK, hds] at ht
      rw [get_flatK _ _ _ t (by rw [hds]; exact ht), hget (t / 7) (by omega), Nat.zero_add]
      refine ⟨?_, hfz t⟩
      rw [hcell t (by omega)]
      have e := opw_get (l.map cxo) vs hO.len (t / 7) (t % 7) (by omega) (by omega) (by omega)
      rw [show t / 7 * 7 + t % 7 = t by omega, List.getElem?_eq_getElem (by omega)] at e
      rw [e, List.getElem_map]
      have hx : t % 7 < (enc7 (l[t / 7]'(by omega), vs[t / 7]'(by omega))).length := by show t % 7 < 7; omega
      rw [getElem!_pos _ (t % 7) hx]
      exact List.getElem?_eq_getElem hx
    have h := AnyQ.slices_Reverse Try.reverseOp 7 Try.isAgg58 Try.sizeOf58 enc7 (fun _ => rfl) (fun x u hu => CL.one_op _ _ _ u hu) g 0 cap (l.zip vs).toArray w HK (by rw [hds]; omega)
    rw [hds] at h
    rw [hml]
    refine Calls.mono (P := Try.prog) (f := 40) h ?_
    rintro e w' ⟨rfl, n, rfl⟩
    have HR : HoldsK enc7 7 (putRowK enc7 7 (Sort.ahead w n) g 0 (l.zip vs).toArray.reverse) g 0 (l.zip vs).toArray.reverse := holdsK_putRowK enc7 7 (Sort.ahead w n) g 0 (l.zip vs).toArray (l.zip vs).toArray.reverse (holdsK_ahead enc7 7 w n g 0 _ HK) (by simp)
    have hFr : F3 B w (putRowK enc7 7 (Sort.ahead w n) g 0 (l.zip vs).toArray.reverse) := (F3.of (below_drewN (Below.refl _ _) n)).trans (F3.put (w := Sort.ahead w n) hK hBg _)
    refine ⟨rfl, ⟨some ⟨g, 0, none⟩, cap, fun i => CL.vA vs (l.length - 1 - i), fun i => CL.vC vs (l.length - 1 - i), by rw [List.length_reverse], by rw [List.length_reverse]; exact hcap, hcapl, fun i hi => ?_, fun i hi => ?_⟩, hFr, fun b cs' k => (putRow_block (Sort.ahead w n) g 0 _ b (fun e => by
      subst e
      have k1 : w.heap[b]? = some (.cells cs 58 (0, 0)) := hK
      have k2 : w.heap[b]? = some (.cells cs' 79 (0, 0)) := k
      rw [k1] at k2
      cases k2)).trans k⟩
    · rw [List.length_reverse] at hi
      refine ⟨g, rfl, hBg, putRow_own (w := Sort.ahead w n) hK _ _, fun t u hu => ?_⟩
      have ht : t < 7 := by
        have := (List.getElem?_eq_some_iff.1 hu).1
        exact this
      have hc := (HR.cell (i := i) (c := t) (by simp [hvl]; omega) ht).1
      rw [Nat.zero_add] at hc
      rw [hc]
      have e1 : (l.zip vs).toArray.reverse[i]! = (l[l.length - 1 - i]'(by omega), vs[l.length - 1 - i]'(by omega)) := by
        rw [getElem!_pos _ i (by simp [hvl]; omega)]
        simp [hvl]
      rw [e1]
      rw [List.getElem_reverse] at hu
      rw [← hu]
      have e2 := CL.vs_at vs (l.length - 1 - i) (by omega)
      have hx : t < (enc7 (l[l.length - 1 - i]'(by omega), vs[l.length - 1 - i]'(by omega))).length := ht
      rw [getElem!_pos _ t hx, ← List.getElem?_eq_getElem hx, e2]
    · rw [List.length_reverse] at hi
      have hq := hO.qs (l.length - 1 - i) (by omega) (by omega)
      rw [CL.vs_at vs (l.length - 1 - i) (by omega)] at hq
      obtain ⟨b, cp, e, hC, hf, hcl, hBb, hbl⟩ := own_at hq (by rw [List.getElem_map]; show 0 < 2; omega)
      have hne : b ≠ g := fun e => by
        subst e
        obtain ⟨cs2, h2⟩ := own_ty hq (g := b) (by rw [e]; rfl)
        have k1 : w.heap[b]? = some (.cells cs 58 (0, 0)) := hK
        rw [k1] at h2
        cases h2
      have e0 := e
      rw [List.getElem_map] at e hC
      injection e with ea _ ec
      have hcl2 : ∀ k (hk : k < 2), w.cell? ⟨b, k, none⟩ = some (([Value.int .i64 ((l[l.length - 1 - i]'(by omega)).1 : Int), Value.int .i64 ((l[l.length - 1 - i]'(by omega)).2 : Int)])[k]'hk) := fun k hk => by
        have hk2 : k < (CL.zl ((l.map cxo)[l.length - 1 - i]'(by omega)).qs).length := by rw [List.getElem_map]; exact hk
        rw [hcl k hk2]
        congr 1
        simp only [List.getElem_map]
        rfl
      have ho : ∀ k, (putRowK enc7 7 (Sort.ahead w n) g 0 (l.zip vs).toArray.reverse).cell? ⟨b, k, none⟩ = w.cell? ⟨b, k, none⟩ := fun k => cell?_putRowK_other enc7 7 (Sort.ahead w n) g 0 _ ⟨b, k, none⟩ hne
      have hof : ∀ k, (putRowK enc7 7 (Sort.ahead w n) g 0 (l.zip vs).toArray.reverse).frozen? ⟨b, k, none⟩ = w.frozen? ⟨b, k, none⟩ := fun k => frozen?_putRow id (Sort.ahead w n) g 0 _ ⟨b, k, none⟩
      have hb3 : ∃ cs, BK (putRowK enc7 7 (Sort.ahead w n) g 0 (l.zip vs).toArray.reverse) b cs 3 := by
        obtain ⟨cs2, h2⟩ := own_ty hq (g := b) (by rw [e0]; rfl)
        exact ⟨cs2, (putRow_block (Sort.ahead w n) g 0 _ b hne).trans h2⟩
      refine ⟨?_, b, ea, hBb, hb3, ?_, ?_, fun k => (hof k).trans (hf k)⟩
      · have hC : 2 ≤ cp := hC
        have ec : CL.vC vs (l.length - 1 - i) = cp := ec
        show 2 ≤ CL.vC vs (l.length - 1 - i)
        rw [ec]; exact hC
      · rw [ho, List.getElem_reverse]; exact hcl2 0 (by omega)
      · rw [ho, List.getElem_reverse]; exact hcl2 1 (by omega)
end Go.Proofs.Ytinkdonaedoojaa
