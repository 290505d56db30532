/-
  The writer in memory; its calls put, token, begin, end.
-/
import Derived.Test.YtiepbfeliehjnaaDoorP5
import Derived.Test.YtiepbfeliehjnaaDoorB0
import Derived.Shelf.Strings.Builder1
import Derived.Lib.OthersKept
namespace Go.Proofs.YtiepbfeliehjnaaDoor
open Go.RowKit Go.Sort

/-- The writer: all bytes so far, the line's last token. -/
structure WS (w W : World) (b : Nat) (bs : List UInt8) (last : ByteArray) : Prop where
  below : Below w.heap.size w W
  ge : w.heap.size ≤ b
  ex : ∃ p v, BK W b #[p, v, .string last] 70 ∧ (p = .pointer none ∨ p = .pointer (some ⟨b, 0, none⟩)) ∧ W.ownsRow w.heap.size 5 1 v bs.length (Lib.byteCells bs)
/-- What a call tells that writes these bytes. -/
def WR (w W : World) (b : Nat) (bs add : List UInt8) (last : ByteArray) (e : Ending) (W' : World) : Prop :=
  Below w.heap.size w W' ∧ W.heap.size ≤ W'.heap.size ∧ Lib.OthersKept 5 (some b) W W' ∧ ((bs.length + add.length ≤ 65536 ∧ e = .returned (.tuple #[]) ∧ WS w W' b (bs ++ add) last) ∨ (65536 < bs.length + add.length ∧ e = .panicked [flt (0, 1)]))
theorem ok_bk {W W' : World} {b k : Nat} {cs : Array Value} {T : TypeId} (h : Lib.OthersKept 5 (some b) W W') (hb : BK W k cs T) (hne : k ≠ b) (hT : T ≠ 5) : BK W' k cs T :=
  h k _ hb (fun e => hne (Option.some.inj e)) (fun c fz e => by injection e with _ e2 _; exact hT e2)
theorem ok_below {W W' : World} (b : Option Nat) (h : Below W.heap.size W W') : Lib.OthersKept 5 b W W' := fun k _ hk _ _ => (h.block k (Array.getElem?_eq_some_iff.1 hk).1).trans hk
theorem WS.on {w W W' : World} {b : Nat} {bs : List UInt8} {last : ByteArray} (h : WS w W b bs last) (hb : Below W.heap.size W W') : WS w W' b bs last := by
  obtain ⟨p, v, h1, h2, h3⟩ := h.ex
  exact ⟨btr h.below hb, h.ge, p, v, (hb.block b h1.lt).trans h1, h2, own_below h3 hb⟩
theorem Tryd.infoB : (Tryd.prog.info? 68).map (·.size) = some 2 := by kernel_rfl
theorem Tryd.liesB : liesAt Tryd.prog Tryd.prog.depth 70 (3 / Tryd.prog.cellsOf 70) 0 68 1 = true := by kernel_rfl
theorem Tryd.info5 : (Tryd.prog.info? 5).map (fun i => (i.zero, i.size, i.bytes)) = some (some (.int .u8 0), 1, 1) := by kernel_rfl
theorem conv_to (w : World) (b : Nat) (hsh : w.shape? b = some (70, 3)) : (convert 65 114 (.pointer (some ⟨b, 0, none⟩))).run Tryd.prog w = .ok (.pointer (some ⟨b, 0, none⟩)) w := by
  obtain ⟨j, hj, hjs⟩ := Option.map_eq_some_iff.1 Tryd.infoB
  simp [convert, run_underlying Tryd.underlying65, run_underlying Tryd.underlying114, Conv.unsafePointer, Conv.seenAt, viewAt, cellsIn, hsh, Go.sizeOf, typeInfo, hj, hjs]
theorem conv_from (w : World) (b : Nat) (hsh : w.shape? b = some (70, 3)) : (convert 114 65 (.pointer (some ⟨b, 0, none⟩))).run Tryd.prog w = .ok (.pointer (some ⟨b, 0, none⟩)) w := by
  obtain ⟨j, hj, hjs⟩ := Option.map_eq_some_iff.1 Tryd.infoB
  have hl := Tryd.liesB
  simp [convert, run_underlying Tryd.underlying65, run_underlying Tryd.underlying114, Conv.unsafePointer, Conv.seenAt, viewAt, hsh, variablesAt, hl, Go.sizeOf, typeInfo, hj, hjs]
theorem ptr_same (w : World) (b : Nat) : (binOp .neq 65 (.pointer (some ⟨b, 0, none⟩)) (.pointer (some ⟨b, 0, none⟩))).run Tryd.prog w = .ok (.bool false) w := by
  obtain ⟨j, hj, _⟩ := Option.map_eq_some_iff.1 Tryd.infoB
  exact Lib.run_neq_ptr_same w _ Tryd.underlying65 hj
set_option maxHeartbeats 1000000 in
set_option maxRecDepth 100000 in
theorem cc_fresh (b : Nat) (w : World) (v u : Value) (h : BK w b #[.pointer none, v, u] 70) :
    Calls Tryd.prog 84 #[.pointer (some ⟨b, 0, none⟩)] w fun e w' => e = .returned (.tuple #[]) ∧ w' = w.setCell ⟨b, 0, none⟩ (.pointer (some ⟨b, 0, none⟩)) := by
  have h0 : w.cell? ⟨b, 0, none⟩ = some (.pointer none) := h.cell 0
  have hfz := h.free 0
  have hsh : w.shape? b = some (70, 3) := by simp [World.shape?, h]
  go_enter Tryd.func84, Tryd.ntmps84
  go_wp2
  rw [conv_to w b hsh]
  simp only [Result.andThen]
  rw [Oper.upon_value]
  go_wp2
  rw [run_callFunc_extern Tryd.func91 (by kernel_rfl) (by kernel_rfl) (by kernel_rfl) (e := Extern.AbiNoEscape.same) (by kernel_rfl)]
  rw [Lib.run_noEscape]
  simp only [Result.andThen]
  rw [Oper.upon_value]
  go_wp2
  rw [conv_from w b hsh]
  simp only [Result.andThen]
  rw [Oper.upon_value]
  go_wp2
  go_end0
  exact ⟨rfl, rfl⟩
set_option maxHeartbeats 1000000 in
set_option maxRecDepth 100000 in
theorem cc_used (b : Nat) (w : World) (v u : Value) (h : BK w b #[.pointer (some ⟨b, 0, none⟩), v, u] 70) :
    Calls Tryd.prog 84 #[.pointer (some ⟨b, 0, none⟩)] w fun e w' => e = .returned (.tuple #[]) ∧ w' = w := by
  have h0 : w.cell? ⟨b, 0, none⟩ = some (.pointer (some ⟨b, 0, none⟩)) := h.cell 0
  go_enter Tryd.func84, Tryd.ntmps84
  go_wp2
  rw [ptr_same w b]
  go_wp2
  go_end0
  exact ⟨rfl, rfl⟩
/-- Behind copyCheck. -/
theorem cc_any (w W : World) (b : Nat) (bs : List UInt8) (last : ByteArray) (H : WS w W b bs last) :
    Calls Tryd.prog 84 #[.pointer (some ⟨b, 0, none⟩)] W fun e W' => e = .returned (.tuple #[]) ∧ Below w.heap.size w W' ∧ W.heap.size ≤ W'.heap.size ∧ Lib.OthersKept 5 (some b) W W' ∧ ∃ v, BK W' b #[.pointer (some ⟨b, 0, none⟩), v, .string last] 70 ∧ W'.ownsRow w.heap.size 5 1 v bs.length (Lib.byteCells bs) := by
  obtain ⟨p, v, h1, h2, h3⟩ := H.ex
  rcases h2 with rfl | rfl
  · refine (cc_fresh b W _ _ h1).mono ?_
    rintro e w' ⟨rfl, rfl⟩
    exact ⟨rfl, bset H.below _ _ _ H.ge, by simp [World.setCell], (Lib.OthersKept.refl _ _ W).setCell ⟨b, 0, none⟩ rfl _, v, h1.set 0 _, own_kept h3 (grown_set W b 0 _) (own_ne h3 h1 (by decide))⟩
  · refine (cc_used b W _ _ h1).mono ?_
    rintro e w' ⟨rfl, rfl⟩
    exact ⟨rfl, H.below, Nat.le_refl _, Lib.OthersKept.refl _ _ _, v, h1, h3⟩
set_option maxHeartbeats 2000000 in
theorem wstr_any (w W : World) (b : Nat) (bs : List UInt8) (last s : ByteArray) (H : WS w W b bs last) (hlen : bs.length + s.size ≤ 65536) :
    Calls Tryd.prog 80 #[.pointer (some ⟨b, 0, none⟩), .string s] W fun e W' => e = .returned (.tuple #[.int .i64 s.size, .nilIface]) ∧ W.heap.size ≤ W'.heap.size ∧ Lib.OthersKept 5 (some b) W W' ∧ WS w W' b (bs ++ s.data.toList) last := by
  obtain ⟨i0, hi, hz0, hz1, hz2⟩ := info_parts Tryd.info5
  have CC := cc_any w W b bs last H
  have hge := H.ge
  have hl5 : (Lib.byteCells bs).length = bs.length := Lib.byteCells_length _
  clear H
  go_enter Tryd.func80, Tryd.ntmps80
  go_wp2_with (go_at_call 84; refine CC.mono ?_)
  rintro e w1 ⟨rfl, hb1, hsz1, hk1, v, hbk, hown⟩
  have c0 : w1.cell? ⟨b, 0, none⟩ = some (.pointer (some ⟨b, 0, none⟩)) := hbk.cell 0
  have c1 : w1.cell? ⟨b, 1, none⟩ = some v := hbk.cell 1
  have hne := own_ne hown hbk (by decide)
  go_wp2_with (at_builtin; refine Lib.wpList_append_own_string _ rfl _ _ 66 9 rfl w.heap.size 5 i0 Tryd.underlying66 Tryd.underlying9 hi hz0 hz1 hz2 _ _ _ rfl hown s rfl ?c3 ?c4 ?c5 ?_)
  case c3 => unfold maxLen; omega
  case c4 => omega
  case c5 => exact hb1.size
  intro v' w2 hown' hgrow _
  have hb2 : BK w2 b #[.pointer (some ⟨b, 0, none⟩), v, .string last] 70 := (hgrow.block b hbk.lt (fun e => hne b e.symm rfl)).trans hbk
  have d0 : w2.cell? ⟨b, 0, none⟩ = some (.pointer (some ⟨b, 0, none⟩)) := hb2.cell 0
  have d1 : w2.cell? ⟨b, 1, none⟩ = some v := hb2.cell 1
  have f1 : w2.frozen? ⟨b, 1, none⟩ = false := hb2.free 1
  obtain ⟨ao, n', cap, rfl⟩ : ∃ ao n' cap, v' = .slice ao n' cap := by
    rcases hown'.2 with ⟨hv, _⟩ | ⟨g, cap, cur, hv, _⟩
    · exact ⟨_, _, _, hv⟩
    · exact ⟨_, _, _, hv⟩
  go_wp2
  go_ret2
  have hg2 : Below w.heap.size w w2 := hb1.grown hgrow hb1.size (fun k hk => (hown.lt k hk).1)
  have hown2 : w2.ownsRow w.heap.size 5 1 (.slice ao n' cap) (bs ++ s.data.toList).length (Lib.byteCells (bs ++ s.data.toList)) := by
    rw [List.length_append, Lib.byteCells_append, ← Lib.strCells_eq]
    exact hown'
  refine ⟨rfl, ?_, (hk1.grown hgrow (fun g hg => by obtain ⟨cs, h⟩ := own_ty hown hg; exact ⟨cs, (0, 0), h⟩)).setCell ⟨b, 1, none⟩ rfl _, ⟨bset hg2 _ _ _ hge, hge, _, _, hb2.set 1 _, .inr rfl, own_kept hown2 (grown_set w2 b 1 _) (own_ne hown2 hb2 (by decide))⟩⟩
  have := hgrow.size
  simp [World.setCell]
  omega
set_option maxHeartbeats 1000000 in
theorem len_any (w W : World) (b : Nat) (bs : List UInt8) (last : ByteArray) (H : WS w W b bs last) :
    Calls Tryd.prog 79 #[.pointer (some ⟨b, 0, none⟩)] W fun e W' => e = .returned (.int .i64 bs.length) ∧ W' = W := by
  obtain ⟨p, v, h1, h2, h3⟩ := H.ex
  obtain ⟨a, k, rfl⟩ := own_shape h3
  have c1 : W.cell? ⟨b, 1, none⟩ = some (.slice a bs.length k) := h1.cell 1
  clear H h1 h2 h3
  go_enter Tryd.func79, Tryd.ntmps79
  go_wp2
  go_ret
  exact ⟨rfl, rfl⟩
set_option maxHeartbeats 1000000 in
theorem put_any (w W : World) (b : Nat) (bs : List UInt8) (last s : ByteArray) (H : WS w W b bs last) (hb : bs.length ≤ 65536) (_hs : s.size ≤ 9223372036854775807) :
    Calls Tryd.prog 73 #[.pointer (some ⟨b, 0, none⟩), .string s] W (WR w W b bs s.data.toList last) := by
  have hz : s.data.toList.length = s.size := rfl
  have LN := len_any w W b bs last H
  have HH : Hid (WS w W b bs last) := H
  by_cases h : bs.length + s.size ≤ 65536
  · have WSt := wstr_any w W b bs last s H h
    have hh : ¬ (65536 - (bs.length : Int) < (s.size : Int)) := by omega
    clear H
    go_enter Tryd.func73, Tryd.ntmps73
    go_wp2_with (first | (go_at_call 79; (with_reducible refine LN.mono ?_); rintro e w1 ⟨rfl, rfl⟩) | (go_at_call 80; (with_reducible refine WSt.mono ?_); rintro e w2 ⟨rfl, hz2, hk2, hw2⟩))
    go_end0
    exact ⟨hw2.below, hz2, hk2, .inl ⟨by rw [hz]; exact h, rfl, hw2⟩⟩
  · have hh : 65536 - (bs.length : Int) < (s.size : Int) := by omega
    clear H
    go_enter Tryd.func73, Tryd.ntmps73
    go_wp2_with (go_at_call 79; (with_reducible refine LN.mono ?_); rintro e w1 ⟨rfl, rfl⟩)
    exact ⟨rfl, HH.out.below, Nat.le_refl _, Lib.OthersKept.refl _ _ _, .inr ⟨by rw [hz]; omega, rfl⟩⟩
end Go.Proofs.YtiepbfeliehjnaaDoor
