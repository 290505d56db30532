/-
  The reference's whole numbers: how they lie in memory; trim, Of.
-/
import Derived.Test.YtalaacfoaelipaaDoorR0
import Derived.Test.YtalaacfoaelipaaDoorW1
import Derived.OwnWalk
import Derived.WalkSmall
import Derived.Maps.AppendAt
namespace Go.Proofs.YtalaacfoaelipaaDoor
open Go.RowKit Go.Sort

/-- The kind of a block's cells. -/
def bty (W : World) (B : Nat) : Option TypeId := (W.shape? B).map (·.1)
theorem bty_below {W W' : World} {B : Nat} (hb : Below W.heap.size W W') (h : B < W.heap.size) : bty W' B = bty W B := by
  unfold bty World.shape?
  rw [hb.block B h]
theorem bty_new (W : World) (cs : Array Value) (t : TypeId) : bty (W.alloc (.cells cs t)) W.heap.size = some t := by
  unfold bty World.shape?
  rw [show (W.alloc (.cells cs t)).heap[W.heap.size]? = some (.cells cs t) from by show (W.heap.push _)[W.heap.size]? = _; simp]
  rfl
theorem bty_set (W : World) (a : Addr) (v : Value) (B : Nat) : bty (W.setCell a v) B = bty W B := by
  unfold bty World.shape? World.setCell
  simp only [Array.getElem?_modify]
  by_cases h : a.block = B
  · subst h
    rw [if_pos rfl]
    cases hh : W.heap[a.block]? with
    | none => rfl
    | some o => cases o <;> rfl
  · rw [if_neg h]
theorem lt_of_bty {W : World} {B : Nat} {t : TypeId} (h : bty W B = some t) : B < W.heap.size := by
  unfold bty World.shape? at h
  by_cases hb : B < W.heap.size
  · exact hb
  · rw [show W.heap[B]? = none by simp; omega] at h
    simp at h
/-- The cells from the address on hold these digits. -/
structure Row (a : Option Addr) (l : List Nat) (W : World) : Prop where
  at_ : ∀ i, i < l.length → ∃ B, a = some ⟨B, 0, none⟩ ∧ W.cell? ⟨B, i, none⟩ = some (.int .i64 (gd l i : Nat)) ∧ bty W B = some 3
theorem Row.below {a : Option Addr} {l : List Nat} {W W' : World} (h : Row a l W) (hb : Below W.heap.size W W') : Row a l W' := ⟨fun i hi => by
  obtain ⟨B, e, hc, ht⟩ := h.at_ i hi
  exact ⟨B, e, (hb.cell (p := ⟨B, i, none⟩) (block_lt_of_cell hc)).trans hc, (bty_below hb (lt_of_bty ht)).trans ht⟩⟩
theorem Row.nil (a : Option Addr) (W : World) : Row a [] W := ⟨fun i hi => by simp at hi⟩
theorem Row.take {a : Option Addr} {l : List Nat} {W : World} (h : Row a l W) (k : Nat) : Row a (l.take k) W := ⟨fun i hi => by
  rw [List.length_take] at hi
  obtain ⟨B, e, hc⟩ := h.at_ i (by omega)
  exact ⟨B, e, by rw [getD_take (by omega)]; exact hc⟩⟩
/-- A store into a block of another kind. -/
theorem Row.put {a : Option Addr} {l : List Nat} {W : World} (h : Row a l W) {R : Nat} {t : TypeId} (hR : bty W R = some t) (ht : t ≠ 3) (o : Nat) (v : Value) : Row a l (W.setCell ⟨R, o, none⟩ v) := ⟨fun i hi => by
  obtain ⟨B, e, hc, hb⟩ := h.at_ i hi
  refine ⟨B, e, ?_, (bty_set _ _ _ _).trans hb⟩
  rw [World.cell?_setCell_far _ _ _ _ (fun e' => ht (by
    have e2 : R = B := e'
    rw [e2, hb] at hR
    exact (Option.some.inj hR).symm))]
  exact hc⟩
theorem Row.drewN {a : Option Addr} {l : List Nat} {W : World} (h : Row a l W) (n : Nat) : Row a l (W.drewN n) := ⟨h.at_⟩
/-- A whole number of the reference, its digits' slice. -/
structure II (W : World) (a : Option Addr) (n c : Nat) (z : Int) : Prop where
  ex : ∃ l : List Nat, n = l.length ∧ Row a l W ∧ Dg l ∧ Nm l ∧ nv l = z.natAbs ∧ n ≤ c ∧ c ≤ 9223372036854775807
theorem II.below {W W' : World} {a : Option Addr} {n c : Nat} {z : Int} (h : II W a n c z) (hb : Below W.heap.size W W') : II W' a n c z := by
  obtain ⟨l, h1, h2, h3⟩ := h.ex
  exact ⟨l, h1, h2.below hb, h3⟩
theorem II.put {W : World} {a : Option Addr} {n c : Nat} {z : Int} (h : II W a n c z) {R : Nat} (hR : bty W R = some 60) (o : Nat) (v : Value) : II (W.setCell ⟨R, o, none⟩ v) a n c z := by
  obtain ⟨l, h1, h2, h3⟩ := h.ex
  exact ⟨l, h1, h2.put hR (by decide) o v, h3⟩
theorem II.put2 {W : World} {a : Option Addr} {n c : Nat} {z : Int} (h : II W a n c z) {R : Nat} (hR : bty W R = some 60) (v v' : Value) : II ((W.setCell ⟨R, 0, none⟩ v).setCell ⟨R, 1, none⟩ v') a n c z :=
  (h.put hR _ _).put ((bty_set _ _ _ _).trans hR) _ _
theorem II.nought (W : World) : II W none 0 0 0 := ⟨[], rfl, Row.nil _ _, Dg.nil, fun h => absurd rfl h, rfl, by omega, by omega⟩
/-- What a call that tells a whole number tells. -/
def IRet (z : Int) (e : Ending) (W : World) : Prop := ∃ a n c, e = .returned (.agg #[.int .i64 (sgn z), .slice a n c]) ∧ II W a n c z

theorem Row.alloc {a : Option Addr} {l : List Nat} {W : World} (h : Row a l W) (o : Obj) : Row a l (W.alloc o) := h.below (bal (Below.refl _ _) _)
set_option maxHeartbeats 400000 in
theorem trim_any (sg z : Int) (a : Option Addr) (l : List Nat) (c : Nat) (w : World) (hl : l.length ≤ c) (hc : c ≤ 9223372036854775807) (hr : Row a l w) (hd : Dg l) (hz : nv l = z.natAbs) (hs : z ≠ 0 → sg = sgn z) :
    Calls Tryd.prog 59 #[.int .i64 sg, .slice a l.length c] w fun e w' => IRet z e w' ∧ Below w.heap.size w w' := by
  have HR : Hid (Row a l w) := hr
  have HD : Hid (Dg l) := hd
  have HZ : Hid (nv l = z.natAbs) := hz
  have HS : Hid (z ≠ 0 → sg = sgn z) := hs
  clear hr hd hz hs
  generalize hn : l.length = n at hl
  have HN : Hid (l.length = n) := hn
  clear hn
  go_enter Tryd.func59, Tryd.ntmps59
  go_wp2
  go_loop [5] (fun i => ∃ k : Nat, k ≤ n ∧ i = .int .i64 k ∧ Hid (∀ j, k ≤ j → j < l.length → gd l j = 0)) (fun i => (intOf i).toNat)
  case atStart => exact ⟨n, by omega, rfl, fun j h1 h2 => by have := HN.out; omega⟩
  case round =>
    obtain ⟨k, hk, rfl, hz⟩ := hrel
    by_cases h0 : k = 0
    · subst h0
      have e0 : nv l = 0 := by rw [← nv_trim (l := l) (k := 0) (by omega) hz.out]; simp [nv]
      have ez : z = 0 := by have := HZ.out; omega
      subst ez
      go_wp2
      exact bodyPost_ret (v := .agg #[.int .i64 0, .slice none 0 0]) (by simp [results, Tryd.results59, go_sem]) rfl ⟨⟨none, 0, 0, rfl, II.nought _⟩, bal (Below.refl w.heap.size w) _⟩
    · obtain ⟨m, rfl⟩ : ∃ m, k = m + 1 := ⟨k - 1, by omega⟩
      clear h0
      obtain ⟨B, rfl, hcell, _⟩ := HR.out.at_ m (by have := HN.out; omega)
      have hB : B < w.heap.size := block_lt_of_cell hcell
      by_cases hv : gd l m = 0
      · have HZ' : Hid (∀ j, m ≤ j → j < l.length → gd l j = 0) := fun j h1 h2 => if e : j = m then by rw [e]; exact hv else hz.out j (by omega) h2
        rw [hv] at hcell
        clear hv
        go_wp2
        go_round
        case rel => exact ⟨m, by omega, by go_num, HZ'⟩
        case measure => simp [intOf]
      · have hv' : ¬ ((gd l m : Nat) : Int) = 0 := by omega
        have HV : Hid (gd l m ≠ 0) := hv
        clear hv
        have key : Hid (∀ o, II (w.alloc o) (some ⟨B, 0, none⟩) (m + 1) c z) := fun o => by
          have hln : m + 1 ≤ l.length := by have := HN.out; omega
          refine ⟨l.take (m + 1), by rw [List.length_take]; omega, (HR.out.take _).alloc _, HD.out.take _, fun _ => ?_, ?_, by omega, hc⟩
          · rw [List.length_take, Nat.min_eq_left hln, getD_take (by omega)]; exact HV.out
          · rw [nv_trim hln hz.out]; exact HZ.out
        obtain rfl : sg = sgn z := HS.out fun h => by
          subst h
          obtain ⟨l', h1, _, _, h2, h3, _⟩ := (key.out (.cells #[] 60)).ex
          have := (nm_zero h2).1 h3
          rw [this] at h1; simp at h1
        clear hz HZ HD HS HN HR HV
        go_wp2
        exact bodyPost_ret (v := .agg #[.int .i64 (sgn z), .slice (some ⟨B, 0, none⟩) (m + 1) c]) (by simp [results, Tryd.results59, go_sem]) rfl ⟨⟨_, _, _, rfl, key.out _⟩, bal (Below.refl w.heap.size w) _⟩

theorem Tryd.info3 : (Tryd.prog.info? 3).map (fun i => (i.zero, i.size, i.bytes)) = some (some (.int .i64 0), 1, 8) := by kernel_rfl
def vals (l : List Nat) : List Value := l.map fun (x : Nat) => .int .i64 (x : Int)
/-- The slice v is new memory, behind W0, that holds these digits. -/
structure Told (l : List Nat) (v : Value) (W0 W : World) : Prop where
  below : Below W0.heap.size W0 W
  owns : W.ownsRow W0.heap.size 3 1 v l.length (vals l)
theorem Told.push {l : List Nat} {x : Nat} {v v' : Value} {w wr w3 : World} (h : Told l v w wr)
    (ho : w3.ownsRow w.heap.size 3 1 v' (l.length + 1) (vals l ++ [.int .i64 (x : Int)])) (hg : (wr.alloc (.cells #[.int .i64 (x : Int)] 3)).grownBy w3 v.ownBlock) : Told (l ++ [x]) v' w w3 := by
  refine ⟨(h.below.alloc h.below.size _).grown hg (by have := h.below.size; simp; omega) (fun k e => (h.owns.lt k e).1), ?_⟩
  rw [show vals (l ++ [x]) = vals l ++ [.int .i64 (x : Int)] by simp [vals], List.length_append]
  exact ho
theorem Told.shape {l : List Nat} {v : Value} {w w' : World} (h : Told l v w w') : ∃ ao cv, v = .slice ao l.length cv ∧ l.length ≤ cv ∧ cv ≤ 9223372036854775807 := by
  rcases h.owns.2 with ⟨e, e2⟩ | ⟨g, c, _, e, _, _, h1, h2, _⟩
  · exact ⟨none, 0, by rw [e, e2], by omega, by omega⟩
  · unfold maxLen at h2
    exact ⟨_, c, e, h1, by omega⟩
theorem Told.row {l : List Nat} {a : Option Addr} {n c : Nat} {w w' : World} (h : Told l (.slice a n c) w w') : Row a l w' := ⟨fun i hi => by
  rcases h.owns.2 with ⟨_, e⟩ | ⟨g, c', cur, e, hb, hh, _⟩
  · omega
  · have ho := h.owns
    simp only [Value.slice.injEq] at e
    obtain ⟨rfl, rfl, rfl⟩ := e
    have hc := ho.cellAt i (by omega)
    refine ⟨g, rfl, ?_, ?_⟩
    · rw [hc, getD_lt hi]; simp [vals, hi]
    · unfold bty World.shape?; rw [hh]; rfl⟩

/-- append(d, x), d new memory of one's own. -/
theorem app_told {ops : Array Oper} {rest : List Oper} {o : Oper} {act : Act} {Q : Exit → Act → World → Prop} (hgd : o.guard = none) (s x : Operand)
    (ho : o.op = .call { callee := .builtin .append, args := #[s, x], argTypes := #[58, 58] }) (l : List Nat) (v : Value) (W0 wr : World) (ht : Told l v W0 wr) (hs : act.eval s = v) (d : Nat) (dI : Int) (hd : dI = (d : Int))
    (hx : act.eval x = .slice (some ⟨wr.heap.size, 0, none⟩) 1 1) (hl : l.length ≤ 1000)
    (h : ∀ (a : Option Addr) (c : Nat) (w3 : World), Told (l ++ [d]) (.slice a (l.length + 1) c) W0 w3 → l.length + 1 ≤ c → c ≤ 9223372036854775807 → wpList Tryd.prog ops Q rest (act.put o.dst (.slice a (l.length + 1) c)) w3) :
    wpList Tryd.prog ops Q (o :: rest) act (wr.alloc (.cells #[.int .i64 dI] 3)) := by
  subst hd
  obtain ⟨i, hi, hz0, hz1, hz2⟩ := info_parts Tryd.info3
  have hsz := ht.below.size
  refine wpList_append_own _ hgd _ _ 58 ho W0.heap.size 3 i (.int .i64 0) 1 8 Tryd.underlying58 hi hz0 hz1 hz2 rfl (by decide) v l.length (vals l) hs (ht.owns.alloc _) ⟨wr.heap.size, 0, none⟩ 1 1 [.int .i64 (d : Int)] hx rfl (cell_one_new _ _ _) (fun x hx => by simp at hx; subst hx; rfl) (by unfold maxLen; omega) (by omega) (by simp; omega) ?_
  intro v' w3 hown' hgrow3 _
  have ht' := ht.push hown' hgrow3
  obtain ⟨a, c, rfl, h1, h2⟩ := ht'.shape
  have e : (l ++ [d]).length = l.length + 1 := by simp
  rw [e] at ht' h1
  rw [e]
  exact h a c w3 ht' h1 h2
theorem of_math (u x : Nat) (l : List Nat) (h : nv l + 65536 ^ l.length * u = x) : nv (l ++ [u % 65536]) + 65536 ^ (l ++ [u % 65536]).length * (u / 65536) = x := by
  rw [nv_snoc, List.length_append, List.length_singleton, Nat.pow_succ, Nat.mul_assoc, Nat.add_assoc, ← Nat.mul_add, Nat.mod_add_div]; exact h
theorem of_len (u x : Nat) (l : List Nat) (h : nv l + 65536 ^ l.length * u = x) (hu : 0 < u) (hx : x < 65536 ^ 4) : l.length < 4 := by
  have h1 : 65536 ^ l.length * 1 ≤ 65536 ^ l.length * u := Nat.mul_le_mul_left _ hu
  exact (Nat.pow_lt_pow_iff_right (show 1 < 65536 by decide)).1 (show 65536 ^ l.length < 65536 ^ 4 by omega)
set_option maxHeartbeats 1000000 in
theorem of_core (v : Int) (sg : Int) (x : Nat) (w : World) (hx : x < 18446744073709551616) (hz : x = v.natAbs) (hs : v ≠ 0 → sg = sgn v)
    (hc : (v < 0 ∧ sg = -1 ∧ IntKind.u64.wrap (-(IntKind.u64.wrap v)) = (x : Int)) ∨ (¬ v < 0 ∧ sg = 1 ∧ IntKind.u64.wrap v = (x : Int))) :
    Calls Tryd.prog 32 #[.int .i64 v] w fun e w' => IRet v e w' ∧ Below w.heap.size w w' := by
  have HZ : Hid (x = v.natAbs) := hz
  have HS : Hid (v ≠ 0 → sg = sgn v) := hs
  clear hz hs
  rcases hc with ⟨hv, rfl, hw⟩ | ⟨hv, rfl, hw⟩
  all_goals
    go_enter Tryd.func32, Tryd.ntmps32
    go_wp2
    clear hw
    go_loopw [5, 4] (fun v' u wr => ∃ (l : List Nat) (y : Nat) (ao : Option Addr) (cv : Nat), l.length ≤ 4 ∧ y < 18446744073709551616 ∧ u = .int .u64 y ∧ v' = .slice ao l.length cv ∧ l.length ≤ cv ∧ cv ≤ 9223372036854775807 ∧ Hid (nv l + 65536 ^ l.length * y = x) ∧ Hid (Dg l) ∧ Hid (Told l v' (w.alloc (.cells #[.int .i64 0, .slice none 0 0] 60)) wr)) (fun _ u _ => (intOf u).toNat)
    case atStart => exact ⟨[], x, none, 0, by simp, hx, rfl, rfl, by simp, by omega, by simp [Hid, nv], Dg.nil, Below.refl _ _, World.ownsRow_nil _ _ _ _⟩
    case round =>
      obtain ⟨l, y, ao, cv, hl4, hy, rfl, rfl, hcv, hcv', hval, hdg, ht⟩ := hrel
      have hB := ht.out.below
      by_cases hy0 : y = 0
      · subst hy0
        have TR := trim_any _ v ao l cv wr hcv hcv' ht.out.row hdg.out (by have := hval.out; have := HZ.out; omega) HS.out
        clear hval hdg HZ HS ht
        obtain ⟨hc, hf⟩ := bcell hB
        go_wp2_with (go_at_call 59; (with_reducible refine TR.mono ?_); rintro e w2 ⟨⟨a', n', c', rfl, hI⟩, hN⟩; replace hB := btr hB hN; obtain ⟨hc, hf⟩ := bcell hB)
        exact bodyPost_ret (v := .agg #[.int .i64 (sgn v), .slice a' n' c']) (by simp [results, Tryd.results32, go_sem, hc]) rfl ⟨⟨_, _, _, rfl, hI.put2 ((bty_below hB (by simp)).trans (bty_new _ _ _)) _ _⟩, ((btr (bal (Below.refl _ _) _) hB).setCell (by simp) _).setCell (by simp) _⟩
      · have hl := of_len y x l hval.out (by omega) hx
        have hval' : Hid _ := of_math y x l hval.out
        have hdg' : Hid (Dg (l ++ [y % 65536])) := hdg.out.snoc (Nat.mod_lt _ (by decide))
        have HL : Hid ((l ++ [y % 65536]).length ≤ 4) := by show _ ≤ _; simp; omega
        clear hval hdg
        go_wp2_with (at_builtin; refine app_told rfl _ _ rfl l _ _ wr ht.out rfl (y % 65536) _ (by omega) rfl (by omega) ?_; intro a3 c3 w3 ht3 hc3 hc3')
        have hlen : (l ++ [y % 65536]).length = l.length + 1 := by simp
        generalize l ++ [y % 65536] = l' at *
        go_roundw
        case rel => exact ⟨l', y / 65536, a3, c3, HL, by omega, by go_num, by rw [hlen], by omega, hc3', hval', hdg', ht3⟩
        case measure => simp [intOf]; omega
theorem of_any (v : Int) (w : World) (hlo : -9223372036854775808 ≤ v) (hhi : v ≤ 9223372036854775807) :
    Calls Tryd.prog 32 #[.int .i64 v] w fun e w' => IRet v e w' ∧ Below w.heap.size w w' := by
  by_cases h : v < 0
  · refine of_core v (-1) v.natAbs w (by omega) rfl (fun _ => by unfold sgn; rw [if_pos h]) (Or.inl ⟨h, rfl, ?_⟩)
    rw [IntKind.wrap_u64, IntKind.wrap_u64]; omega
  · refine of_core v 1 v.natAbs w (by omega) rfl (fun h0 => by unfold sgn; rw [if_neg h, if_neg h0]) (Or.inr ⟨h, rfl, ?_⟩)
    rw [IntKind.wrap_u64]; omega
end Go.Proofs.YtalaacfoaelipaaDoor
