/-
  Parts of rows; isPlain, isNumber, fits.
-/
import Derived.Test.YtiepbfeliehjnaaDoorQ1
import Derived.Test.YtiepbfeliehjnaaDoorB0
namespace Go.Proofs.YtiepbfeliehjnaaDoor
open Go.RowKit Go.Sort

theorem ne_empty {s : ByteArray} (h : 0 < s.size) : (s.toList == []) = false := by
  rw [ByteArray.toList_eq]
  cases e : s.data.toList with
  | nil =>
    have : s.data.toList.length = s.size := rfl
    rw [e] at this
    simp at this
    omega
  | cons x r => rfl
theorem isName_any (s : ByteArray) (w : World) (hs : s.size ≤ 9223372036854775807) :
    Calls Tryd.prog 78 #[.string s] w fun e w' => e = .returned (.bool (nmB s)) ∧ w' = w := by
  by_cases h0 : 0 < s.size
  · have LA := fun w => letter2_any s[0].toNat w
    have EN : ∀ w, Calls Tryd.prog 30 #[.string s, .int .i64 0] w fun e w' => e = .returned (.int .i64 (run isN s 0 : Nat)) ∧ w' = w := fun w => nameEnd_any s 0 _ w hs (run_end isN6 (i := 0) (s := s) (by omega))
    have hz := ne_empty h0
    unfold nmB
    rw [cb_at h0]
    generalize run isN s 0 = j at *
    cases hL : isL s[0].toNat with
    | true =>
      rw [hL] at LA
      clear hL
      go_enter Tryd.func78, Tryd.ntmps78
      go_wp2_with (first | (go_at_call 29; (with_reducible refine (LA _).mono ?_); rintro e w1 ⟨rfl, rfl⟩) | (go_at_call 30; (with_reducible refine (EN _).mono ?_); rintro e w1 ⟨rfl, rfl⟩))
      go_ret
      exact ⟨ret_b (by simp; omega), rfl⟩
    | false =>
      rw [hL] at LA
      clear hL
      go_enter Tryd.func78, Tryd.ntmps78
      go_wp2_with (first | (go_at_call 29; (with_reducible refine (LA _).mono ?_); rintro e w1 ⟨rfl, rfl⟩) | (go_at_call 30; (with_reducible refine (EN _).mono ?_); rintro e w1 ⟨rfl, rfl⟩))
      go_ret
      exact ⟨rfl, rfl⟩
  · obtain rfl : s = ⟨#[]⟩ := by
      apply ByteArray.ext
      exact Array.eq_empty_of_size_eq_zero (by show s.size = 0; omega)
    go_enter Tryd.func78, Tryd.ntmps78
    go_wp2
    go_ret
    exact ⟨rfl, rfl⟩

theorem RR.drop {W : World} {b o : Nat} {rs : List Rw} {vs : List Value} (h : RR W b o rs vs) (k : Nat) : RR W b (o + k * 6) (rs.drop k) (vs.drop k) := by
  have e : ∀ j, o + k * 6 + j * 6 = o + (k + j) * 6 := fun j => by omega
  refine ⟨fun j hj => ?_, fun j hj => ?_, fun j hj hj' => ?_, fun j hj => ?_, fun j hj => ?_, fun j hj => ?_, h.lt⟩
  all_goals rw [e, List.getElem_drop]
  all_goals rw [List.length_drop] at hj
  · exact h.c0 _ _
  · exact h.c1 _ _
  · exact h.c2 _ (by omega) _
  · exact h.c3 _ _
  · exact h.c4 _ _
  · exact h.c5 _ _
theorem RR.take {W : World} {b o : Nat} {rs : List Rw} {vs : List Value} (h : RR W b o rs vs) (k : Nat) : RR W b o (rs.take k) (vs.take k) := by
  refine ⟨fun j hj => ?_, fun j hj => ?_, fun j hj hj' => ?_, fun j hj => ?_, fun j hj => ?_, fun j hj => ?_, h.lt⟩
  all_goals rw [List.getElem_take]
  all_goals rw [List.length_take] at hj
  · exact h.c0 _ _
  · exact h.c1 _ _
  · exact h.c2 _ (by omega) _
  · exact h.c3 _ _
  · exact h.c4 _ _
  · exact h.c5 _ _
theorem SR.drop {W : World} {a : Option Addr} {c : Nat} {rs : List Rw} (h : SR W (.slice a rs.length c) rs) (k : Nat) (hk : k ≤ rs.length) :
    ∃ a' c', (∀ w, (Instr.slice 23 (.slice a rs.length c) (some (.int .i64 (k : Int))) none none).run Tryd.prog w = .ok (.slice a' (rs.drop k).length c') w) ∧ SR W (.slice a' (rs.drop k).length c') (rs.drop k) := by
  obtain ⟨a0, c0, vs, e, hc, hv, ha, hr⟩ := h
  cases e
  refine ⟨if c = k then a else a.map (·.add (k * 6)), c - k, fun w => ?_, ?_⟩
  · rw [run_slice_l w 23 a rs.length c (by kernel_rfl) .i64 (k : Int) (by omega) (by omega)]
    rw [show Tryd.prog.elem 23 = 45 by kernel_rfl, Tryd.sizeOf45]
    simp only [Result.andThen, sliced, Int.toNat_natCast, List.length_drop]
  · refine ⟨_, _, vs.drop k, rfl, by rw [List.length_drop]; omega, by rw [List.length_drop, List.length_drop, hv], fun j h h' => ?_, fun j hj => ?_⟩
    · rw [List.getElem_drop, List.getElem_drop]
      rw [List.length_drop] at h h'
      exact ha _ (by omega) (by omega)
    · rw [List.length_drop] at hj
      obtain ⟨b, o, rfl, r⟩ := hr (k + j) (by omega)
      rw [if_neg (by omega)]
      exact ⟨b, o + k * 6, by rw [Option.map_some, WideShapes.add_plain], r.drop k⟩
theorem SR.take {W : World} {a : Option Addr} {c : Nat} {rs : List Rw} (h : SR W (.slice a rs.length c) rs) (k : Nat) (hk : k ≤ rs.length) :
    ∃ a' c', (∀ w, (Instr.slice 23 (.slice a rs.length c) none (some (.int .i64 (k : Int))) none).run Tryd.prog w = .ok (.slice a' (rs.take k).length c') w) ∧ SR W (.slice a' (rs.take k).length c') (rs.take k) := by
  obtain ⟨a0, c0, vs, e, hc, hv, ha, hr⟩ := h
  cases e
  have hl : (rs.take k).length = k := by rw [List.length_take]; omega
  refine ⟨a, c, fun w => ?_, ?_⟩
  · rw [run_slice_h w 23 a rs.length c (by kernel_rfl) .i64 (k : Int) (by omega) (by omega)]
    rw [show Tryd.prog.elem 23 = 45 by kernel_rfl, Tryd.sizeOf45]
    simp only [Result.andThen, sliced, Int.toNat_natCast, hl, Nat.zero_mul, Nat.sub_zero]
    congr 2
    cases a with
    | none => simp
    | some x => simp [Addr.add]
  · refine ⟨_, _, vs.take k, rfl, by rw [hl]; omega, by rw [List.length_take, List.length_take, hv], fun j h h' => ?_, fun j hj => ?_⟩
    · rw [List.getElem_take, List.getElem_take]
      rw [List.length_take] at h h'
      exact ha _ (by omega) (by omega)
    · rw [hl] at hj
      obtain ⟨b, o, rfl, r⟩ := hr j (by omega)
      exact ⟨b, o, rfl, r.take k⟩
/-- Rows whose texts and lists are no longer than an int can tell. -/
def Szs (rs : List Rw) : Prop := ∀ r ∈ rs, r.name.size ≤ 9223372036854775807 ∧ r.args.length ≤ 9223372036854775807 ∧ ∀ a ∈ r.args, a.n.size ≤ 9223372036854775807
theorem Szs.drop {rs : List Rw} (h : Szs rs) (k : Nat) : Szs (rs.drop k) := fun r hr => h r (List.mem_of_mem_drop hr)
theorem Szs.take {rs : List Rw} (h : Szs rs) (k : Nat) : Szs (rs.take k) := fun r hr => h r (List.mem_of_mem_take hr)

set_option maxHeartbeats 1000000 in
theorem plain_any (s : ByteArray) (w : World) (hs : s.size ≤ 9223372036854775807) :
    Calls Tryd.prog 71 #[.string s] w fun e w' => e = .returned (.bool (plnN s)) ∧ Below w.heap.size w w' := by
  have NA := fun w => isName_any s w hs
  have OA := fun w => isOwn_any s w
  unfold plnN
  cases hn : nmB s with
  | true =>
    rw [hn] at NA
    clear hn
    cases ho : ownB s with
    | true =>
      rw [ho] at OA
      clear ho
      go_enter Tryd.func71, Tryd.ntmps71
      go_wp2_with (first | (go_at_call 78; (with_reducible refine (NA _).mono ?_); rintro e w1 ⟨rfl, rfl⟩) | (go_at_call 60; (with_reducible refine (OA _).mono ?_); rintro e w2 ⟨rfl, hB⟩))
      go_ret
      exact ⟨rfl, hB⟩
    | false =>
      rw [ho] at OA
      clear ho
      go_enter Tryd.func71, Tryd.ntmps71
      go_wp2_with (first | (go_at_call 78; (with_reducible refine (NA _).mono ?_); rintro e w1 ⟨rfl, rfl⟩) | (go_at_call 60; (with_reducible refine (OA _).mono ?_); rintro e w2 ⟨rfl, hB⟩))
      go_ret
      exact ⟨rfl, hB⟩
  | false =>
    rw [hn] at NA
    clear hn
    go_enter Tryd.func71, Tryd.ntmps71
    go_wp2_with (first | (go_at_call 78; (with_reducible refine (NA _).mono ?_); rintro e w1 ⟨rfl, rfl⟩))
    go_ret
    exact ⟨rfl, Below.refl _ _⟩
theorem isnum_any (x : Int) (w : World) : Calls Tryd.prog 72 #[.int .i64 x] w fun e w' => e = .returned (.bool (numOk x)) ∧ w' = w := by
  unfold numOk
  by_cases h0 : 0 ≤ x
  · rw [decide_eq_true h0]
    by_cases h1 : x ≤ 9007199254740991
    · rw [decide_eq_true h1]
      go_enter Tryd.func72, Tryd.ntmps72
      go_wp2
      go_ret
      exact ⟨rfl, rfl⟩
    · rw [decide_eq_false h1]
      go_enter Tryd.func72, Tryd.ntmps72
      go_wp2
      go_ret
      exact ⟨rfl, rfl⟩
  · rw [decide_eq_false h0]
    go_enter Tryd.func72, Tryd.ntmps72
    go_wp2
    go_ret
    exact ⟨rfl, rfl⟩
theorem two_bk (W : World) (a c : Array Value) (A C : TypeId) {wr : World} (h : Below ((W.alloc (.cells a A)).alloc (.cells c C)).heap.size ((W.alloc (.cells a A)).alloc (.cells c C)) wr) : BK wr W.heap.size a A ∧ BK wr (W.heap.size + 1) c C := by
  have e1 : (W.alloc (.cells a A)).heap.size = W.heap.size + 1 := by simp
  have x0 := (bk_new W a A).alloc (.cells c C)
  have x1 := bk_new (W.alloc (.cells a A)) c C
  rw [e1] at x1
  exact ⟨(h.block _ x0.lt).trans x0, (h.block _ x1.lt).trans x1⟩
end Go.Proofs.YtiepbfeliehjnaaDoor
