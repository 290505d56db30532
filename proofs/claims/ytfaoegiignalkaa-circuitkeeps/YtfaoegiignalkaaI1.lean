/-
  An operation in memory of its own.
-/
import Derived.Test.YtfaoegiignalkaaE4
import Derived.Test.YtfaoegiignalkaaSh
namespace Go.Proofs.Ytfaoegiignalkaa
open Go.RowKit Go.Sort

theorem clone_any (s : ByteArray) (w : World) (hs : s.size ≤ 281474976710656) : Calls Try.prog 55 #[.string s] w fun e w' => e = .returned (.string s) ∧ Below w.heap.size w w' := by
  go_enter Try.func55, Try.ntmps55
  go_wp2_with (go_at_call 73; (with_reducible refine (Try.stringslite_Clone s w hs).mono ?_); rintro e w1 ⟨rfl, hN⟩)
  go_ret
  exact ⟨rfl, hN⟩
def zl (l : List Int) : List Value := l.map fun n => .int .i64 n
theorem QS.cells {W : World} {a : Option Addr} {c : Nat} {l : List Int} (h : QS W a c l) (h0 : 0 < l.length) : ∃ b o, a = some ⟨b, o, none⟩ ∧ ∀ j u, (zl l)[j]? = some u → W.cell? ((⟨b, o, none⟩ : Addr).add j) = some u := by
  obtain ⟨b, o, e, r⟩ := h.at_ 0 h0
  refine ⟨b, o, e, fun j u hu => ?_⟩
  have hj : j < l.length := by
    have := (List.getElem?_eq_some_iff.1 hu).1
    simpa [zl] using this
  rw [WideShapes.add_plain, r.c j hj]
  unfold zl at hu
  rw [List.getElem?_map, List.getElem?_eq_getElem hj] at hu
  exact hu
theorem zl_one (l : List Int) : ∀ u ∈ zl l, u.oneCell' = true := fun u hu => by
  unfold zl at hu
  obtain ⟨x, _, rfl⟩ := List.mem_map.1 hu
  rfl
theorem own_qs {W : World} {B : Nat} {v : Value} {l : List Int} (h : W.ownsRow B 3 1 v l.length (zl l)) : ∃ a c, v = .slice a l.length c ∧ QS W a c l := by
  rcases Nat.eq_zero_or_pos l.length with h0 | h0
  · obtain ⟨a, c, rfl⟩ := own_shape h
    exact ⟨a, c, rfl, by omega, fun k hk => by omega⟩
  · obtain ⟨g, cap, rfl, hc, _, hcell, _, hl⟩ := own_at h h0
    refine ⟨_, cap, rfl, hc, fun _ _ => ⟨g, 0, rfl, fun j hj => ?_, hl⟩⟩
    have hz : j < (zl l).length := by simpa [zl] using hj
    rw [Nat.zero_add, hcell j hz]
    simp [zl]
theorem own_empty (w : World) : (w.alloc (.cells #[] 3)).ownsRow w.heap.size 3 1 (.slice (some ⟨w.heap.size, 0, none⟩) 0 0) 0 [] :=
  ⟨rfl, .inr ⟨w.heap.size, 0, #[], rfl, Nat.le_refl _, heap_alloc_new w _, Nat.le_refl _, by unfold maxLen; omega, rfl, rfl⟩⟩
set_option maxHeartbeats 1000000 in
set_option maxRecDepth 100000 in
theorem sclone_any (l : List Int) (a : Option Addr) (c : Nat) (w : World) (hq : QS w a c l) (h0 : 0 < l.length) (hl : l.length ≤ 100) : Calls Try.prog 56 #[.slice a l.length c] w fun e w' => ∃ v, e = .returned v ∧ w'.ownsRow w.heap.size 3 1 v l.length (zl l) ∧ Below w.heap.size w w' := by
  obtain ⟨i3, hi3, hz3, hs3, hb3⟩ := info_parts Try.info3
  have HI3 : Hid (Try.prog.info? 3 = some i3 ∧ i3.zero = some (.int .i64 0) ∧ i3.size = 1 ∧ i3.bytes = 8) := ⟨hi3, hz3, hs3, hb3⟩
  clear hi3 hz3 hs3 hb3
  have HQ : Hid (QS w a c l) := hq
  obtain ⟨b, o, rfl, hc⟩ := hq.cells h0
  clear hc
  have EQ : ∀ w : World, (binOp .eql 43 (.slice (some ⟨b, o, none⟩) l.length c) (.slice none 0 0)).run Try.prog w = .ok (.bool false) w := fun w => by kernel_rfl
  have hc2 : Hid (∀ x j u, (zl l)[j]? = some u → (w.alloc x).cell? ((⟨b, o, none⟩ : Addr).add j) = some u) := fun x j u hu => by
    obtain ⟨b1, o1, e1, h1⟩ := (HQ.out.below (bal (Below.refl _ _) x)).cells h0
    cases e1
    exact h1 j u hu
  go_enter Try.func56, Try.ntmps56
  go_wp2_with (at_builtin; refine wpList_append_own_at _ rfl _ _ 43 rfl w.heap.size 3 i3 (.int .i64 0) 1 8 Try.underlying43 HI3.out.1 HI3.out.2.1 HI3.out.2.2.1 HI3.out.2.2.2 rfl (by decide) _ 0 [] rfl (own_empty w) ⟨b, o, none⟩ l.length c (zl l) rfl (by simp [zl]) (hc2.out _) (zl_one l) (by unfold maxLen; omega) (by omega) (by simp) ?_; intro v6 w6 hown6 hgrow6 hnil6 hloc6)
  go_ret
  rw [Nat.zero_add, List.nil_append] at hown6
  exact ⟨v6, rfl, hown6, (bal (Below.refl _ _) _).grown hgrow6 (by simp) (fun k e => ((own_empty w).lt k e).1)⟩
theorem own_sf {W : World} {B T c n b k : Nat} {v u : Value} {xs : List Value} (h : W.ownsRow B T c v n xs) (hb : b < B) : (W.setCell ⟨b, k, none⟩ u).ownsRow B T c v n xs :=
  own_kept h (gb_set (gb_refl W b) b k u (.inl rfl)) (fun g hg e => by have := (h.lt g hg).1; cases e; omega)
set_option maxHeartbeats 1000000 in
set_option maxRecDepth 100000 in
theorem own_any (o : Oq) (a : Option Addr) (c : Nat) (w : World) (hq : QS w a c o.qs) (h0 : 0 < o.qs.length) (hl : o.qs.length ≤ 100) (hn : o.n.size ≤ 281474976710656) :
    Calls Try.prog 39 #[opv o a c] w fun e w' => ∃ a' c', e = .returned (opv o a' c') ∧ w'.ownsRow w.heap.size 3 1 (.slice a' o.qs.length c') o.qs.length (zl o.qs) ∧ Below w.heap.size w w' := by
  have CL := fun w => clone_any o.n w hn
  have SC := fun w1 h => sclone_any o.qs a c w1 h h0 hl
  have HQ : Hid (QS w a c o.qs) := hq
  clear hq
  go_enter Try.func39, Try.ntmps39
  go_wp2_with (first
    | (go_at_call 55; (with_reducible refine (CL _).mono ?_); rintro e w1 ⟨rfl, hB1⟩; obtain ⟨k1, k2⟩ := two_box hB1; have q1 : ∀ j, w1.cell? ⟨w.heap.size, j, none⟩ = _ := k1.cell; have q2 : ∀ j, w1.cell? ⟨w.heap.size + 1, j, none⟩ = _ := k2.cell; have z1 := k2.lt; have f1 : ∀ j, w1.frozen? ⟨w.heap.size, j, none⟩ = false := k1.free; have f2 : ∀ j, w1.frozen? ⟨w.heap.size + 1, j, none⟩ = false := k2.free)
    | (go_at_call 56; (with_reducible refine (SC _ (HQ.out.below (bset (btr (bal (bal (Below.refl _ _) _) _) hB1) _ _ _ (Nat.le_refl _)))).mono ?_); rintro e w2 ⟨v2, rfl, hO2, hB2⟩; obtain ⟨a2, c2, rfl⟩ := own_shape hO2; have e1 : BK w2 w.heap.size _ 57 := (hB2.block _ (k1.set 1 (.string o.n)).lt).trans (k1.set 1 (.string o.n)); have e2 : BK w2 (w.heap.size + 1) _ 57 := (hB2.block _ (k2.far (c := w.heap.size) (by omega) 1 (.string o.n)).lt).trans (k2.far (c := w.heap.size) (by omega) 1 (.string o.n)); have r1 : ∀ j, w2.cell? ⟨w.heap.size, j, none⟩ = _ := e1.cell; have r2 : ∀ j, w2.cell? ⟨w.heap.size + 1, j, none⟩ = _ := e2.cell; have z2 := e2.lt; have g1 : ∀ j, w2.frozen? ⟨w.heap.size, j, none⟩ = false := e1.free; have g2 : ∀ j, w2.frozen? ⟨w.heap.size + 1, j, none⟩ = false := e2.free))
  have hz : w.heap.size + 1 < (w1.setCell ⟨w.heap.size, 1, none⟩ (.string o.n)).heap.size := by simp [World.setCell]; exact z1
  refine bodyPost_ret (v := opv o a2 c2) (by simp [results, Try.results39, go_sem, *]) rfl ⟨a2, c2, rfl, ?_, ?_⟩
  · refine own_mono (B := (w1.setCell ⟨w.heap.size, 1, none⟩ (.string o.n)).heap.size) ?_ (by omega)
    repeat (refine own_sf ?_ (by omega))
    exact hO2
  · have hX : Below w.heap.size w w2 := btr (bset (btr (bal (bal (Below.refl _ _) _) _) hB1) _ _ _ (Nat.le_refl _)) hB2
    repeat (refine bset ?_ _ _ _ (by omega))
    exact hX
end Go.Proofs.Ytfaoegiignalkaa
