/-
  Circuits put in another order: the reference's Order.
-/
import Derived.Test.YtfaoegiignalkaaO7
namespace Go.Proofs.Ytfaoegiignalkaa
open Go.RowKit Go.Shelf
attribute [local go_sem] Oper.semAt_some

/-- The circuit's box and the answer's, as they were. -/
structure RB (w W : World) (c : Ci) (a : Option Addr) (cp : Nat) : Prop where
  below : Below w.heap.size w W
  b1 : BK W w.heap.size #[.int .i64 c.q, .int .i64 c.b, .slice a c.ops.length cp] 24
  b2 : BK W (w.heap.size + 1) #[.int .i64 0, .int .i64 0, .slice none 0 0] 24
theorem RB.on {w W W' : World} {c : Ci} {a : Option Addr} {cp : Nat} (h : RB w W c a cp) (hb : Below W.heap.size W W') : RB w W' c a cp :=
  ⟨btr h.below hb, (hb.block _ h.b1.lt).trans h.b1, (hb.block _ h.b2.lt).trans h.b2⟩
/-- What the test for bound operations reads. -/
abbrev S21 (V W : World) (s b1 oj oi xj xi : Nat) (a : Option Addr) (cp n b o1 o2 : Nat) (p1 p2 : Oq) (ak1 ak2 : Option Addr) (ck1 ck2 : Nat) : Prop :=
  Below V.heap.size V W ∧ W.cell? ⟨b1, oj, none⟩ = some (.int .i64 (xj : Nat)) ∧ W.cell? ⟨b1, oi, none⟩ = some (.int .i64 (xi : Nat)) ∧ W.cell? ⟨s, 2, none⟩ = some (.slice a n cp) ∧ OP7 W b o1 p1 ak1 ck1 ∧ OP7 W b o2 p2 ak2 ck2 ∧ b1 < W.heap.size ∧ s < W.heap.size ∧ b < W.heap.size
theorem s21_keep {V W : World} {s b1 oj oi xj xi : Nat} {a : Option Addr} {cp n b o1 o2 : Nat} {p1 p2 : Oq} {ak1 ak2 : Option Addr} {ck1 ck2 : Nat} (h : S21 V V s b1 oj oi xj xi a cp n b o1 o2 p1 p2 ak1 ak2 ck1 ck2) (hb : Below V.heap.size V W) : S21 V W s b1 oj oi xj xi a cp n b o1 o2 p1 p2 ak1 ak2 ck1 ck2 := by
  obtain ⟨_, h1, h2, h3, h4, h5, h6, h7, h8⟩ := h
  exact ⟨hb, (hb.cell (p := ⟨b1, oj, none⟩) h6).trans h1, (hb.cell (p := ⟨b1, oi, none⟩) h6).trans h2, (hb.cell (p := ⟨s, 2, none⟩) h7).trans h3, op7_on h4 h8 hb, op7_on h5 h8 hb, Nat.lt_of_lt_of_le h6 hb.size, Nat.lt_of_lt_of_le h7 hb.size, Nat.lt_of_lt_of_le h8 hb.size⟩
/-- The circuit in the making: its box, its operations' row; their qubits lie in memory that was there. -/
structure RU (w V W : World) (X : Nat) (q b : Int) (v : Value) (os : List Oq) (vs : List (Option Addr × Nat)) : Prop where
  below : Below V.heap.size V W
  bx : BK W X #[.int .i64 q, .int .i64 b, v] 24
  hX : V.heap.size ≤ X
  len : os.length = vs.length
  row : W.ownsRow V.heap.size 57 7 v os.length (opw os vs)
  qs : ∀ k (h : k < os.length) (h' : k < vs.length), V.ownsRow w.heap.size 3 1 (.slice vs[k].1 os[k].qs.length vs[k].2) os[k].qs.length (zl os[k].qs)
  fit : ∀ k (h : k < os.length), Fit os[k]
section
variable {w V W W' : World} {X : Nat} {q b : Int} {v v' : Value} {os : List Oq} {vs : List (Option Addr × Nat)}
theorem RU.on (h : RU w V W X q b v os vs) (hb : Below W.heap.size W W') : RU w V W' X q b v os vs :=
  ⟨btr h.below hb, (hb.block _ h.bx.lt).trans h.bx, h.hX, h.len, own_below h.row hb, h.qs, h.fit⟩
theorem RU.next {o : Oq} {a2 : Option Addr} {c2 : Nat} (h : RU w V W X q b v os vs) (hq : V.ownsRow w.heap.size 3 1 (.slice a2 o.qs.length c2) o.qs.length (zl o.qs)) (hf : Fit o) (hg : W.grownBy W' v.ownBlock)
    (ho : W'.ownsRow V.heap.size 57 7 v' (os.length + 1) (opw os vs ++ opc o a2 c2)) : RU w V (W'.setCell ⟨X, 2, none⟩ v') X q b v' (os ++ [o]) (vs ++ [(a2, c2)]) ∧ BK W' X #[.int .i64 q, .int .i64 b, v] 24 ∧ Below V.heap.size V W' := by
  have hl := h.len
  have hb : Below V.heap.size V W' := h.below.grown hg h.below.size (fun g e => (h.row.lt g e).1)
  have bx : BK W' X #[.int .i64 q, .int .i64 b, v] 24 := (hg.block _ h.bx.lt (fun e => own_ne h.row h.bx (by decide) _ e.symm rfl)).trans h.bx
  refine ⟨⟨bset hb _ _ _ h.hX, bx.set 2 v', h.hX, by simp [hl], ?_, fun k hk hk' => ?_, fun k hk => ?_⟩, bx, hb⟩
  · rw [opw_put _ _ _ _ hl, List.length_append]
    exact own_kept ho (gb_set (gb_refl W' X) _ _ _ (.inl rfl)) (own_ne ho bx (by decide))
  · by_cases e : k < os.length
    · rw [List.getElem_append_left (by omega), List.getElem_append_left e]
      exact h.qs k e (by omega)
    · have e1 : k = os.length := by rw [List.length_append] at hk; simp at hk; omega
      subst e1
      have e2 : (os ++ [o])[os.length]'hk = o := by simp
      have e3 : (vs ++ [(a2, c2)])[os.length]'hk' = (a2, c2) := by simp [hl]
      rw [e2, e3]
      exact hq
  · by_cases e : k < os.length
    · rw [List.getElem_append_left e]; exact h.fit k e
    · have e1 : k = os.length := by rw [List.length_append] at hk; simp at hk; omega
      subst e1
      have e2 : (os ++ [o])[os.length]'hk = o := by simp
      rw [e2]
      exact hf
theorem RU.oo (h : RU w V W X q b v os vs) (hw : w.heap.size ≤ V.heap.size) : OO W w.heap.size v os vs :=
  ⟨h.len, own_mono h.row hw, fun k h1 h2 => own_below (h.qs k h1 h2) h.below, h.fit⟩
end
/-- What the putting of an operation reads. -/
abbrev S28 (V W : World) (b1 ok x Xo : Nat) (ao : Option Addr) (co n bo oo : Nat) (o : Oq) (ak : Option Addr) (ck : Nat) : Prop :=
  Below V.heap.size V W ∧ W.cell? ⟨b1, ok, none⟩ = some (.int .i64 (x : Nat)) ∧ W.cell? ⟨Xo, 2, none⟩ = some (.slice ao n co) ∧ OP7 W bo oo o ak ck ∧ b1 < W.heap.size ∧ Xo < W.heap.size ∧ bo < W.heap.size
theorem s28_keep {V W : World} {b1 ok x Xo : Nat} {ao : Option Addr} {co n bo oo : Nat} {o : Oq} {ak : Option Addr} {ck : Nat} (h : S28 V V b1 ok x Xo ao co n bo oo o ak ck) (hb : Below V.heap.size V W) : S28 V W b1 ok x Xo ao co n bo oo o ak ck := by
  obtain ⟨_, h1, h2, h3, h4, h5, h6⟩ := h
  exact ⟨hb, (hb.cell (p := ⟨b1, ok, none⟩) h4).trans h1, (hb.cell (p := ⟨Xo, 2, none⟩) h5).trans h2, op7_on h3 h6 hb, Nat.lt_of_lt_of_le h4 hb.size, Nat.lt_of_lt_of_le h5 hb.size, Nat.lt_of_lt_of_le h6 hb.size⟩
set_option maxHeartbeats 4000000 in
set_option maxRecDepth 100000 in
theorem rorder_any (c : Ci) (a : Option Addr) (cp : Nat) (A : Nat → Option Addr) (C : Nat → Nat) (l : List Int) (al : Option Addr) (cl : Nat) (w : World) (H : OS w a cp c.ops A C) (hq : QS w al cl l) (hl : l.length ≤ 9223372036854775807) :
    Calls Try.prog 24 #[civ c a cp, .slice al l.length cl] w fun e w' => OrR c l w e w' := by
  have L := fun w1 h => rcheck_any c a cp A C w1 h
  have HO := hid H
  have HQ := hid hq
  have HN : Hid (∀ E w', OrS c l noCi E → Below w.heap.size w w' → OrR c l w (.returned (.tuple #[civ noCi none 0, .int .i64 (E : Nat)])) w') := fun E w' h hB => orr_no h hB
  by_cases hE : (lk c).2.2 = 0
  case neg =>
    have HS : Hid (OrS c l noCi (lk c).2.2) := .inl ⟨hE, rfl, rfl⟩
    have hE1 : (((lk c).2.2 : Int) != 0) = true := bne_iff_ne.2 (by omega)
    clear hE H hq
    generalize OrR c l w = Q at *
    generalize OrS c l = T at *
    generalize (lk c).2.2 = E at *
    generalize (lk c).1 = P at *
    go_enter Try.func24, Try.ntmps24
    go_wp2_with (go_at_call 10; (with_reducible refine (L _ (HO.out.below (bal (bal (Below.refl _ _) _) _))).mono ?_); rintro e w1 ⟨rfl, hB⟩; obtain ⟨k1, k2⟩ := two_box hB; have x2 : ∀ j, w1.cell? ⟨w.heap.size + 1, j, none⟩ = _ := k2.cell; have f2 : ∀ j, w1.frozen? ⟨w.heap.size + 1, j, none⟩ = _ := k2.free; have l2 := k2.lt)
    refine bodyPost_ret (v := .tuple #[civ noCi none 0, .int .i64 (E : Nat)]) (by simp [results, Try.results24, go_sem, *]) rfl (HN.out E _ HS.out ?_)
    exact below_sets (btr (bal (bal (Below.refl _ _) _) _) hB) (by omega) _ _ _
  have hok := fun k hk => (lk_okay hE H.fit k hk)
  have hl4 := (lk_ok hE).2.1
  have HSZ := hid (ok_sizes hE H.fit)
  have HNO : Hid (¬ (Each l c.ops.length ∧ OrdOk c.ops l) → OrS c l noCi 2) := fun h => .inr (.inl ⟨hE, h, rfl, rfl⟩)
  have HYE : Hid (Each l c.ops.length ∧ OrdOk c.ops l → ∀ a' c' vs w', OO w' w.heap.size (.slice a' (l.map fun j => c.ops.getD j.toNat noOq).length c') (l.map fun j => c.ops.getD j.toNat noOq) vs → Below w.heap.size w w' → OrR c l w (.returned (.tuple #[.agg #[.int .i64 c.q, .int .i64 c.b, .slice a' (l.map fun j => c.ops.getD j.toNat noOq).length c'], .int .i64 0])) w') := fun h a' c' vs w' ho hB => ⟨_, 0, a', c', vs, .inr (.inr ⟨hE, h, rfl, rfl⟩), rfl, ho, hB⟩
  have CP := fun w1 g1 => copy_any c a cp A C w1 g1 hl4 (fun k hk => (ok_sizes hE H.fit k hk).1)
  obtain ⟨i0, hi0, hz0, hz1, hz2⟩ := info_parts Try.info57
  have HI0 := hid hi0
  have HI1 := hid hz0
  have HI2 := hid hz1
  have HI4 := hid hz2
  clear hi0 hz0 hz1 hz2
  have HOK := hid hok
  have hcap := hq.cap
  have hcapH := H.cap
  rw [hE] at L
  clear hE H hq hok
  by_cases hll : l.length = c.ops.length
  case neg =>
    have HS := hid (HNO.out (fun h => hll h.1.1))
    have h1 : ((l.length : Int) != (c.ops.length : Int)) = true := bne_iff_ne.2 (by omega)
    clear hll HNO HYE CP
    generalize OrR c l w = Q at *
    generalize OrS c l = T at *
    generalize (lk c).1 = P at *
    go_enter Try.func24, Try.ntmps24
    go_wp2_with (go_at_call 10; (with_reducible refine (L _ (HO.out.below (bal (bal (Below.refl _ _) _) _))).mono ?_); rintro e w1 ⟨rfl, hB⟩; obtain ⟨k1, k2⟩ := two_box hB; have x1 : ∀ j, w1.cell? ⟨w.heap.size, j, none⟩ = _ := k1.cell; have l1 := k1.lt; have x2 : ∀ j, w1.cell? ⟨w.heap.size + 1, j, none⟩ = _ := k2.cell; have f2 : ∀ j, w1.frozen? ⟨w.heap.size + 1, j, none⟩ = _ := k2.free; have l2 := k2.lt)
    refine bodyPost_ret (v := .tuple #[civ noCi none 0, .int .i64 2]) (by simp [results, Try.results24, go_sem, *]) rfl (HN.out 2 _ HS.out ?_)
    exact below_sets (btr (bal (bal (Below.refl _ _) _) _) hB) (by omega) _ _ _
  have mk := made_bools c.ops.length hl4
  have HLL := hid hll
  have h1 : ((l.length : Int) != (c.ops.length : Int)) = false := by rw [hll]; simp
  rw [← hll] at mk
  generalize OrR c l w = Q at *
  generalize OrS c l = T at *
  generalize (lk c).1 = P at *
  obtain ⟨q, b, os⟩ := c
  simp only at *
  have hll4 : l.length ≤ 4096 := by omega
  have mk2 : ∀ w : World, (Instr.makeSlice 53 (.int .i64 (os.length : Int)) (.int .i64 (os.length : Int))).run Try.prog w = .ok (.slice (some ⟨w.heap.size, 0, none⟩) os.length os.length) (w.alloc (.cells (madeCells #[.bool false] os.length) 4)) := made_bools os.length hl4
  clear hll mk
  go_enter Try.func24, Try.ntmps24
  go_wp2_with (go_at_call 10; (with_reducible refine (L _ (HO.out.below (bal (bal (Below.refl _ _) _) _))).mono ?_); rintro e w1 ⟨rfl, hB⟩; obtain ⟨k1, k2⟩ := two_box hB; have x1 : ∀ j, w1.cell? ⟨w.heap.size, j, none⟩ = _ := k1.cell; have l1 := k1.lt; have hW1 := btr (bal (bal (Below.refl _ _) _) _) hB)
  have hRB0 : RB w (w1.alloc (.cells (madeCells #[.bool false] os.length) 4)) ⟨q, b, os⟩ a cp := ⟨bal hW1 _, BK.alloc k1 _, BK.alloc k2 _⟩
  have hgs : w.heap.size + 1 < w1.heap.size := k2.lt
  clear k1 k2 x1 l1 hB
  have hrow0 : (w1.alloc (.cells (madeCells #[.bool false] os.length) 4)).rowIs w1.heap.size 4 os.length (seenF l 0) := (World.rowIs_made w1 (.bool false) os.length 4).congr fun i _ => by simp
  have hW1s := hW1.size
  clear hW1
  generalize w1.heap.size = gs at *
  generalize w1.alloc (.cells (madeCells #[.bool false] os.length) 4) = W0 at *
  have HR0 := hid hRB0
  have HW0 := hid hrow0
  clear hRB0 hrow0
  go_loopw [10] (fun s wr => ∃ k : Nat, k ≤ os.length ∧ s = .int .i64 (k : Nat) ∧ RB w wr ⟨q, b, os⟩ a cp ∧ wr.rowIs gs 4 os.length (seenF l k) ∧ ∀ j (h : j < l.length), j < k → (0 ≤ l[j] ∧ l[j] < (os.length : Int)) ∧ l[j] ∉ l.take j) (fun s _ => os.length - (intOf s).toNat)
  case atStart => exact ⟨0, Nat.zero_le _, rfl, HR0.out, HW0.out, fun j _ h => absurd h (Nat.not_lt_zero _)⟩
  case round =>
    clear HR0 HW0
    obtain ⟨k, hk, rfl, hRB, hR, hA⟩ := hrel
    have HRB := hid hRB
    have x1 : ∀ j, wr.cell? ⟨w.heap.size, j, none⟩ = _ := hRB.b1.cell
    have l1 := hRB.b1.lt
    have x2 : ∀ j, wr.cell? ⟨w.heap.size + 1, j, none⟩ = _ := hRB.b2.cell
    have f2 : ∀ j, wr.frozen? ⟨w.heap.size + 1, j, none⟩ = _ := hRB.b2.free
    have l2 := hRB.b2.lt
    by_cases hlt : k < os.length
    case pos =>
      have hltl : k < l.length := by have := HLL.out; omega
      obtain ⟨b', o', e', r⟩ := (HQ.out.below hRB.below).at_ k hltl
      have c0 := r.c k hltl
      have hbl := r.lt
      have HA := hid hA
      have HR := hid hR
      have hgl := hR.lt
      subst e'
      clear r hA hR hRB
      by_cases h1 : l[k] < 0
      · have HF : Hid (¬ (Each l os.length ∧ OrdOk os l)) := fun h => by have := (h.1.2 k hltl).1.1; omega
        generalize l[k] = x at *
        go_wp2
        refine bodyPost_ret (v := .tuple #[civ noCi none 0, .int .i64 2]) (by simp [results, Try.results24, go_sem, *]) rfl (HN.out 2 _ (HNO.out HF.out) ?_)
        exact below_sets HRB.out.below (by omega) _ _ _
      by_cases h2 : (os.length : Int) ≤ l[k]
      · have HF : Hid (¬ (Each l os.length ∧ OrdOk os l)) := fun h => by have := (h.1.2 k hltl).1.2; omega
        generalize l[k] = x at *
        go_wp2
        refine bodyPost_ret (v := .tuple #[civ noCi none 0, .int .i64 2]) (by simp [results, Try.results24, go_sem, *]) rfl (HN.out 2 _ (HNO.out HF.out) ?_)
        exact below_sets HRB.out.below (by omega) _ _ _
      obtain ⟨x, hx⟩ : ∃ x : Nat, l[k] = (x : Int) := ⟨l[k].toNat, by omega⟩
      have hxl : x < os.length := by omega
      have cx : wr.cell? ⟨gs, x, none⟩ = some (.bool (decide ((x : Int) ∈ l.take k))) := HR.out.cell hxl
      have fx := HR.out.frozen x
      rw [hx] at c0 h1 h2
      have HX := hid hx
      by_cases h3 : (x : Int) ∈ l.take k
      · have HF : Hid (¬ (Each l os.length ∧ OrdOk os l)) := fun h => (h.1.2 k hltl).2 (by rw [hx]; exact h3)
        rw [decide_eq_true h3] at cx
        clear hx
        go_wp2
        refine bodyPost_ret (v := .tuple #[civ noCi none 0, .int .i64 2]) (by simp [results, Try.results24, go_sem, *]) rfl (HN.out 2 _ (HNO.out HF.out) ?_)
        exact below_sets HRB.out.below (by omega) _ _ _
      · rw [decide_eq_false h3] at cx
        clear hx
        go_wp2
        go_roundw
        case rel =>
          refine ⟨k + 1, by omega, by go_num, ⟨bset HRB.out.below _ _ _ (by omega), HRB.out.b1.far (by omega) _ _, HRB.out.b2.far (by omega) _ _⟩, seen_next HR.out hltl HX.out, fun j hj h => ?_⟩
          by_cases e : j = k
          · subst e
            have := HX.out
            exact ⟨by omega, by rw [this]; exact h3⟩
          · exact HA.out j hj (by omega)
        case measure => simp [intOf]; omega
    obtain rfl : k = os.length := by omega
    have hEach : Each l os.length := ⟨HLL.out, fun j h => hA j h (by have := HLL.out; omega)⟩
    have HEA := hid hEach
    clear hA hR hRB hEach x1 l1 x2 f2 l2
    go_wp2
    go_loopw [12] (fun s wr => ∃ i : Nat, i ≤ os.length ∧ s = .int .i64 (i : Nat) ∧ RB w wr ⟨q, b, os⟩ a cp ∧ ∀ i' j (hi : i' < l.length) (_ : j < i'), i' < i → ¬ (l[i'] < l[j] ∧ bdB (os.getD l[j].toNat noOq) (os.getD l[i'].toNat noOq) = true)) (fun s _ => os.length - (intOf s).toNat)
    case atStart => exact ⟨0, Nat.zero_le _, rfl, HRB.out, fun i' j _ _ h => absurd h (Nat.not_lt_zero _)⟩
    case round =>
      clear HRB
      obtain ⟨i, hi, rfl, hRB, hNC⟩ := hrel
      have HRB := hid hRB
      have HNC := hid hNC
      by_cases hlti : i < os.length
      case pos =>
        have hltil : i < l.length := by have := HLL.out; omega
        have x1 : ∀ j, wr.cell? ⟨w.heap.size, j, none⟩ = _ := hRB.b1.cell
        clear hRB hNC
        go_wp2
        go_loopw [13] (fun s wr => ∃ j : Nat, j ≤ i ∧ s = .int .i64 (j : Nat) ∧ RB w wr ⟨q, b, os⟩ a cp ∧ ∀ j' (hj : j' < i), j' < j → ¬ (l[i] < l[j']'(by omega) ∧ bdB (os.getD (l[j']'(by omega)).toNat noOq) (os.getD l[i].toNat noOq) = true)) (fun s _ => i - (intOf s).toNat)
        case atStart => exact ⟨0, Nat.zero_le _, rfl, HRB.out, fun j' _ h => absurd h (Nat.not_lt_zero _)⟩
        case round =>
          clear HRB x1
          obtain ⟨j, hj, rfl, hRB, hND⟩ := hrel
          have HRB := hid hRB
          have HND := hid hND
          by_cases hltj : j < i
          case neg =>
            obtain rfl : j = i := by omega
            clear hRB hND
            go_wp2
            go_roundw
            case rel =>
              refine ⟨j + 1, by omega, by go_num, HRB.out, fun i' j' hi' hj' h => ?_⟩
              by_cases e : i' = j
              · subst e; exact HND.out j' hj' hj'
              · exact HNC.out i' j' hi' hj' (by omega)
            case measure => simp [intOf]; omega
          have hltjl : j < l.length := by omega
          obtain ⟨⟨hj0, hj1⟩, _⟩ := HEA.out.2 j hltjl
          obtain ⟨⟨hi0', hi1'⟩, _⟩ := HEA.out.2 i hltil
          obtain ⟨xj, hxj⟩ : ∃ x : Nat, l[j] = (x : Int) := ⟨l[j].toNat, by omega⟩
          obtain ⟨xi, hxi⟩ : ∃ x : Nat, l[i] = (x : Int) := ⟨l[i].toNat, by omega⟩
          have hxjl : xj < os.length := by omega
          have hxil : xi < os.length := by omega
          obtain ⟨b1, o1, e1, r1⟩ := (HQ.out.below hRB.below).at_ j hltjl
          subst e1
          obtain ⟨b', o', e2, r2⟩ := (HO.out.below hRB.below).at_ xj hxjl
          subst e2
          have cj := r1.c j hltjl
          have ci := r1.c i hltil
          rw [hxj] at cj
          rw [hxi] at ci
          have HSS : Hid (S21 wr wr w.heap.size b1 (o1 + j) (o1 + i) xj xi (some ⟨b', o', none⟩) cp os.length b' (o' + xj * 7) (o' + xi * 7) os[xj] os[xi] (A xj) (A xi) (C xj) (C xi)) :=
            ⟨Below.refl _ _, cj, ci, hRB.b1.cell 2, ⟨r2.c0 xj hxjl, r2.c1 xj hxjl, r2.c2 xj hxjl, r2.c3 xj hxjl, r2.c4 xj hxjl, r2.c5 xj hxjl, r2.c6 xj hxjl⟩, ⟨r2.c0 xi hxil, r2.c1 xi hxil, r2.c2 xi hxil, r2.c3 xi hxil, r2.c4 xi hxil, r2.c5 xi hxil, r2.c6 xi hxil⟩, r1.lt, hRB.b1.lt, r2.lt⟩
          have HQ1 := hid (HO.out.qs xj hxjl)
          have HQ2 := hid (HO.out.qs xi hxil)
          have ok1 := (HOK.out xj hxjl).1
          have ok2 := (HOK.out xi hxil).1
          have BD := fun w1 (g1 : QS w1 (A xj) (C xj) (os[xj]'hxjl).qs) (g2 : QS w1 (A xi) (C xi) (os[xi]'hxil).qs) => bound_any (os[xj]'hxjl) (os[xi]'hxil) (A xj) (A xi) (C xj) (C xi) w1 ok1 ok2 g1 g2
          have hgj : os.getD (l[j]'hltjl).toNat noOq = os[xj] := by rw [hxj, List.getD_eq_getElem?_getD]; show os[xj]?.getD noOq = _; rw [List.getElem?_eq_getElem hxjl]; rfl
          have hgi : os.getD (l[i]'hltil).toNat noOq = os[xi] := by rw [hxi, List.getD_eq_getElem?_getD]; show os[xi]?.getD noOq = _; rw [List.getElem?_eq_getElem hxil]; rfl
          have HCF : Hid ((l[i] < l[j]'hltjl ∧ bdB (os.getD (l[j]'hltjl).toNat noOq) (os.getD l[i].toNat noOq) = true) ↔ (xi < xj ∧ bdB os[xj] os[xi] = true)) := by
            show _ ↔ _
            rw [hgj, hgi, hxj, hxi]
            exact ⟨fun h => ⟨by omega, h.2⟩, fun h => ⟨by omega, h.2⟩⟩
          have hbl1 := r1.lt
          have hbl2 := r2.lt
          have hl1 := hRB.b1.lt
          clear r1 r2 cj ci hRB hND ok1 ok2 hgj hgi hxj hxi hj0 hj1 hi0' hi1'
          generalize bdB os[xj] os[xi] = B at *
          generalize os[xj] = p1 at *
          generalize os[xi] = p2 at *
          generalize A xj = ak1 at *
          generalize A xi = ak2 at *
          generalize C xj = ck1 at *
          generalize C xi = ck2 at *
          by_cases hge : xi < xj
          · have hge' : (xi : Int) < (xj : Int) := by omega
            cases B with
            | true =>
              have HF : Hid (¬ (Each l os.length ∧ OrdOk os l)) := fun h => h.2 i j hltil hltj (HCF.out.2 ⟨hge, rfl⟩)
              go_upto_region 21 with (fail)
              refine wp_region_noPanic ?_
              refine wp_region_held_drew (S := fun w' => S21 wr w' w.heap.size b1 (o1 + j) (o1 + i) xj xi (some ⟨b', o', none⟩) cp os.length b' (o' + xj * 7) (o' + xi * 7) p1 p2 ak1 ak2 ck1 ck2) (by kernel_rfl) (by exact s21_keep HSS.out (below_drew (Below.refl _ _))) (fun hHeld => ?_)
              refine wpAnyH_take (i := 0) (oi := { dst := some 72, op := Op.move (Operand.tmp 1), type := 43, pos := "ref.go:274", after := #[], guard := none }) (v := ?_) rfl (by kernel_rfl) (by kernel_rfl) (by kernel_rfl) (fun _ _ _ h => h) (Or.inl ⟨by rfl, ?_⟩) (by assumption) ?_
              rotate_left
              (intro w0 hSw; (try dsimp only at hSw); go_simp; try (with_reducible rfl))
              (try simp only [Act.put, List.setIfInBounds_toArray, List.set_cons_zero, List.set_cons_succ])
              refine wpAnyH_take (i := 1) (oi := { dst := some 73, op := Op.move (Operand.tmp 13), type := 3, pos := "ref.go:274", after := #[], guard := none }) (v := ?_) rfl (by kernel_rfl) (by kernel_rfl) (by kernel_rfl) (fun _ _ _ h => h) (Or.inl ⟨by rfl, ?_⟩) (by assumption) ?_
              rotate_left
              (intro w0 hSw; (try dsimp only at hSw); go_simp; try (with_reducible rfl))
              (try simp only [Act.put, List.setIfInBounds_toArray, List.set_cons_zero, List.set_cons_succ])
              refine wpAnyH_take (i := 2) (oi := { dst := some 74, op := Op.indexAddr 43 (Operand.tmp 72) (Operand.tmp 73), type := 0, pos := "ref.go:274", after := #[{ on := 0, ground := Ground.data }, { on := 1, ground := Ground.data }], guard := none }) (v := ?_) rfl (by kernel_rfl) (by kernel_rfl) (by kernel_rfl) (fun _ _ _ h => h) (Or.inl ⟨by rfl, ?_⟩) (by assumption) ?_
              rotate_left
              (intro w0 hSw; (try dsimp only at hSw); go_simp; try (with_reducible rfl))
              (try simp only [Act.put, List.setIfInBounds_toArray, List.set_cons_zero, List.set_cons_succ])
              refine wpAnyH_take (i := 3) (oi := { dst := some 75, op := Op.load 3 (Operand.tmp 74), type := 3, pos := "ref.go:274", after := #[{ on := 2, ground := Ground.data }], guard := none }) (v := ?_) rfl (by kernel_rfl) (by kernel_rfl) (by kernel_rfl) (fun _ _ _ h => h) (Or.inl ⟨by rfl, ?_⟩) (by assumption) ?_
              rotate_left
              (intro w0 hSw; (try dsimp only at hSw); go_simp; try (with_reducible rfl))
              (try simp only [Act.put, List.setIfInBounds_toArray, List.set_cons_zero, List.set_cons_succ])
              refine wpAnyH_take (i := 4) (oi := { dst := some 76, op := Op.move (Operand.tmp 1), type := 43, pos := "ref.go:274", after := #[], guard := none }) (v := ?_) rfl (by kernel_rfl) (by kernel_rfl) (by kernel_rfl) (fun _ _ _ h => h) (Or.inl ⟨by rfl, ?_⟩) (by assumption) ?_
              rotate_left
              (intro w0 hSw; (try dsimp only at hSw); go_simp; try (with_reducible rfl))
              (try simp only [Act.put, List.setIfInBounds_toArray, List.set_cons_zero, List.set_cons_succ])
              refine wpAnyH_take (i := 5) (oi := { dst := some 77, op := Op.move (Operand.tmp 12), type := 3, pos := "ref.go:274", after := #[], guard := none }) (v := ?_) rfl (by kernel_rfl) (by kernel_rfl) (by kernel_rfl) (fun _ _ _ h => h) (Or.inl ⟨by rfl, ?_⟩) (by assumption) ?_
              rotate_left
              (intro w0 hSw; (try dsimp only at hSw); go_simp; try (with_reducible rfl))
              (try simp only [Act.put, List.setIfInBounds_toArray, List.set_cons_zero, List.set_cons_succ])
              refine wpAnyH_take (i := 6) (oi := { dst := some 78, op := Op.indexAddr 43 (Operand.tmp 76) (Operand.tmp 77), type := 0, pos := "ref.go:274", after := #[{ on := 4, ground := Ground.data }, { on := 5, ground := Ground.data }], guard := none }) (v := ?_) rfl (by kernel_rfl) (by kernel_rfl) (by kernel_rfl) (fun _ _ _ h => h) (Or.inl ⟨by rfl, ?_⟩) (by assumption) ?_
              rotate_left
              (intro w0 hSw; (try dsimp only at hSw); go_simp; try (with_reducible rfl))
              (try simp only [Act.put, List.setIfInBounds_toArray, List.set_cons_zero, List.set_cons_succ])
              refine wpAnyH_take (i := 7) (oi := { dst := some 79, op := Op.load 3 (Operand.tmp 78), type := 3, pos := "ref.go:274", after := #[{ on := 6, ground := Ground.data }], guard := none }) (v := ?_) rfl (by kernel_rfl) (by kernel_rfl) (by kernel_rfl) (fun _ _ _ h => h) (Or.inl ⟨by rfl, ?_⟩) (by assumption) ?_
              rotate_left
              (intro w0 hSw; (try dsimp only at hSw); go_simp; try (with_reducible rfl))
              (try simp only [Act.put, List.setIfInBounds_toArray, List.set_cons_zero, List.set_cons_succ])
              refine wpAnyH_take (i := 8) (oi := { dst := some 80, op := Op.binOp BinOp.gtr 3 (Operand.tmp 75) (Operand.tmp 79) 3, type := 4, pos := "ref.go:274", after := #[{ on := 3, ground := Ground.data }, { on := 7, ground := Ground.data }], guard := none }) (v := ?_) rfl (by kernel_rfl) (by kernel_rfl) (by kernel_rfl) (fun _ _ _ h => h) (Or.inl ⟨by rfl, ?_⟩) (by assumption) ?_
              rotate_left
              (intro w0 hSw; (try dsimp only at hSw); go_simp; try (with_reducible rfl))
              (try simp only [Act.put, List.setIfInBounds_toArray, List.set_cons_zero, List.set_cons_succ])
              refine wpAnyH_take (i := 9) (oi := { dst := some 81, op := Op.move (Operand.tmp 80), type := 4, pos := "ref.go:274", after := #[{ on := 8, ground := Ground.data }], guard := none }) (v := ?_) rfl (by kernel_rfl) (by kernel_rfl) (by kernel_rfl) (fun _ _ _ h => h) (Or.inl ⟨by rfl, ?_⟩) (by assumption) ?_
              rotate_left
              (intro w0 hSw; (try dsimp only at hSw); go_simp; try (with_reducible rfl))
              (try simp only [Act.put, List.setIfInBounds_toArray, List.set_cons_zero, List.set_cons_succ])
              refine wpAnyH_take (i := 10) (oi := { dst := some 82, op := Op.fieldAddr 24 (Operand.tmp 2) 2, type := 0, pos := "ref.go:274", after := #[{ on := 9, ground := Ground.guard }], guard := some (9, true) }) (v := ?_) rfl (by kernel_rfl) (by kernel_rfl) (by kernel_rfl) (fun _ _ _ h => h) (Or.inl ⟨by rfl, ?_⟩) (by assumption) ?_
              rotate_left
              (intro w0 hSw; (try dsimp only at hSw); go_simp; try (with_reducible rfl))
              (try simp only [Act.put, List.setIfInBounds_toArray, List.set_cons_zero, List.set_cons_succ])
              refine wpAnyH_take (i := 11) (oi := { dst := some 83, op := Op.load 22 (Operand.tmp 82), type := 22, pos := "ref.go:274", after := #[{ on := 10, ground := Ground.data }, { on := 9, ground := Ground.guard }], guard := some (9, true) }) (v := ?_) rfl (by kernel_rfl) (by kernel_rfl) (by kernel_rfl) (fun _ _ _ h => h) (Or.inl ⟨by rfl, ?_⟩) (by assumption) ?_
              rotate_left
              (intro w0 hSw; (try dsimp only at hSw); go_simp; try (with_reducible rfl))
              (try simp only [Act.put, List.setIfInBounds_toArray, List.set_cons_zero, List.set_cons_succ])
              refine wpAnyH_take (i := 12) (oi := { dst := some 84, op := Op.move (Operand.tmp 1), type := 43, pos := "ref.go:274", after := #[{ on := 9, ground := Ground.guard }], guard := some (9, true) }) (v := ?_) rfl (by kernel_rfl) (by kernel_rfl) (by kernel_rfl) (fun _ _ _ h => h) (Or.inl ⟨by rfl, ?_⟩) (by assumption) ?_
              rotate_left
              (intro w0 hSw; (try dsimp only at hSw); go_simp; try (with_reducible rfl))
              (try simp only [Act.put, List.setIfInBounds_toArray, List.set_cons_zero, List.set_cons_succ])
              refine wpAnyH_take (i := 13) (oi := { dst := some 85, op := Op.move (Operand.tmp 13), type := 3, pos := "ref.go:274", after := #[{ on := 9, ground := Ground.guard }], guard := some (9, true) }) (v := ?_) rfl (by kernel_rfl) (by kernel_rfl) (by kernel_rfl) (fun _ _ _ h => h) (Or.inl ⟨by rfl, ?_⟩) (by assumption) ?_
              rotate_left
              (intro w0 hSw; (try dsimp only at hSw); go_simp; try (with_reducible rfl))
              (try simp only [Act.put, List.setIfInBounds_toArray, List.set_cons_zero, List.set_cons_succ])
              refine wpAnyH_take (i := 14) (oi := { dst := some 86, op := Op.indexAddr 43 (Operand.tmp 84) (Operand.tmp 85), type := 0, pos := "ref.go:274", after := #[{ on := 12, ground := Ground.data }, { on := 13, ground := Ground.data }, { on := 9, ground := Ground.guard }], guard := some (9, true) }) (v := ?_) rfl (by kernel_rfl) (by kernel_rfl) (by kernel_rfl) (fun _ _ _ h => h) (Or.inl ⟨by rfl, ?_⟩) (by assumption) ?_
              rotate_left
              (intro w0 hSw; (try dsimp only at hSw); go_simp; try (with_reducible rfl))
              (try simp only [Act.put, List.setIfInBounds_toArray, List.set_cons_zero, List.set_cons_succ])
              refine wpAnyH_take (i := 15) (oi := { dst := some 87, op := Op.load 3 (Operand.tmp 86), type := 3, pos := "ref.go:274", after := #[{ on := 14, ground := Ground.data }, { on := 9, ground := Ground.guard }], guard := some (9, true) }) (v := ?_) rfl (by kernel_rfl) (by kernel_rfl) (by kernel_rfl) (fun _ _ _ h => h) (Or.inl ⟨by rfl, ?_⟩) (by assumption) ?_
              rotate_left
              (intro w0 hSw; (try dsimp only at hSw); go_simp; try (with_reducible rfl))
              (try simp only [Act.put, List.setIfInBounds_toArray, List.set_cons_zero, List.set_cons_succ])
              refine wpAnyH_take (i := 16) (oi := { dst := some 88, op := Op.indexAddr 22 (Operand.tmp 83) (Operand.tmp 87), type := 0, pos := "ref.go:274", after := #[{ on := 11, ground := Ground.data }, { on := 15, ground := Ground.data }, { on := 9, ground := Ground.guard }], guard := some (9, true) }) (v := ?_) rfl (by kernel_rfl) (by kernel_rfl) (by kernel_rfl) (fun _ _ _ h => h) (Or.inl ⟨by rfl, ?_⟩) (by assumption) ?_
              rotate_left
              (intro w0 hSw; (try dsimp only at hSw); go_simp; try (with_reducible rfl))
              (try simp only [Act.put, List.setIfInBounds_toArray, List.set_cons_zero, List.set_cons_succ])
              refine wpAnyH_take (i := 17) (oi := { dst := some 89, op := Op.load 57 (Operand.tmp 88), type := 57, pos := "ref.go:274", after := #[{ on := 16, ground := Ground.data }, { on := 9, ground := Ground.guard }], guard := some (9, true) }) (v := ?_) rfl (by kernel_rfl) (by kernel_rfl) (by kernel_rfl) (fun _ _ _ h => h) (Or.inl ⟨by rfl, ?_⟩) (by assumption) ?_
              rotate_left
              (intro w0 hSw; (try dsimp only at hSw); go_simp; try (with_reducible rfl))
              (try simp only [Act.put, List.setIfInBounds_toArray, List.set_cons_zero, List.set_cons_succ])
              refine wpAnyH_take (i := 18) (oi := { dst := some 90, op := Op.fieldAddr 24 (Operand.tmp 2) 2, type := 0, pos := "ref.go:274", after := #[{ on := 9, ground := Ground.guard }], guard := some (9, true) }) (v := ?_) rfl (by kernel_rfl) (by kernel_rfl) (by kernel_rfl) (fun _ _ _ h => h) (Or.inl ⟨by rfl, ?_⟩) (by assumption) ?_
              rotate_left
              (intro w0 hSw; (try dsimp only at hSw); go_simp; try (with_reducible rfl))
              (try simp only [Act.put, List.setIfInBounds_toArray, List.set_cons_zero, List.set_cons_succ])
              refine wpAnyH_take (i := 19) (oi := { dst := some 91, op := Op.load 22 (Operand.tmp 90), type := 22, pos := "ref.go:274", after := #[{ on := 18, ground := Ground.data }, { on := 9, ground := Ground.guard }], guard := some (9, true) }) (v := ?_) rfl (by kernel_rfl) (by kernel_rfl) (by kernel_rfl) (fun _ _ _ h => h) (Or.inl ⟨by rfl, ?_⟩) (by assumption) ?_
              rotate_left
              (intro w0 hSw; (try dsimp only at hSw); go_simp; try (with_reducible rfl))
              (try simp only [Act.put, List.setIfInBounds_toArray, List.set_cons_zero, List.set_cons_succ])
              refine wpAnyH_take (i := 20) (oi := { dst := some 92, op := Op.move (Operand.tmp 1), type := 43, pos := "ref.go:274", after := #[{ on := 9, ground := Ground.guard }], guard := some (9, true) }) (v := ?_) rfl (by kernel_rfl) (by kernel_rfl) (by kernel_rfl) (fun _ _ _ h => h) (Or.inl ⟨by rfl, ?_⟩) (by assumption) ?_
              rotate_left
              (intro w0 hSw; (try dsimp only at hSw); go_simp; try (with_reducible rfl))
              (try simp only [Act.put, List.setIfInBounds_toArray, List.set_cons_zero, List.set_cons_succ])
              refine wpAnyH_take (i := 21) (oi := { dst := some 93, op := Op.move (Operand.tmp 12), type := 3, pos := "ref.go:274", after := #[{ on := 9, ground := Ground.guard }], guard := some (9, true) }) (v := ?_) rfl (by kernel_rfl) (by kernel_rfl) (by kernel_rfl) (fun _ _ _ h => h) (Or.inl ⟨by rfl, ?_⟩) (by assumption) ?_
              rotate_left
              (intro w0 hSw; (try dsimp only at hSw); go_simp; try (with_reducible rfl))
              (try simp only [Act.put, List.setIfInBounds_toArray, List.set_cons_zero, List.set_cons_succ])
              refine wpAnyH_take (i := 22) (oi := { dst := some 94, op := Op.indexAddr 43 (Operand.tmp 92) (Operand.tmp 93), type := 0, pos := "ref.go:274", after := #[{ on := 20, ground := Ground.data }, { on := 21, ground := Ground.data }, { on := 9, ground := Ground.guard }], guard := some (9, true) }) (v := ?_) rfl (by kernel_rfl) (by kernel_rfl) (by kernel_rfl) (fun _ _ _ h => h) (Or.inl ⟨by rfl, ?_⟩) (by assumption) ?_
              rotate_left
              (intro w0 hSw; (try dsimp only at hSw); go_simp; try (with_reducible rfl))
              (try simp only [Act.put, List.setIfInBounds_toArray, List.set_cons_zero, List.set_cons_succ])
              refine wpAnyH_take (i := 23) (oi := { dst := some 95, op := Op.load 3 (Operand.tmp 94), type := 3, pos := "ref.go:274", after := #[{ on := 22, ground := Ground.data }, { on := 9, ground := Ground.guard }], guard := some (9, true) }) (v := ?_) rfl (by kernel_rfl) (by kernel_rfl) (by kernel_rfl) (fun _ _ _ h => h) (Or.inl ⟨by rfl, ?_⟩) (by assumption) ?_
              rotate_left
              (intro w0 hSw; (try dsimp only at hSw); go_simp; try (with_reducible rfl))
              (try simp only [Act.put, List.setIfInBounds_toArray, List.set_cons_zero, List.set_cons_succ])
              refine wpAnyH_take (i := 24) (oi := { dst := some 96, op := Op.indexAddr 22 (Operand.tmp 91) (Operand.tmp 95), type := 0, pos := "ref.go:274", after := #[{ on := 19, ground := Ground.data }, { on := 23, ground := Ground.data }, { on := 9, ground := Ground.guard }], guard := some (9, true) }) (v := ?_) rfl (by kernel_rfl) (by kernel_rfl) (by kernel_rfl) (fun _ _ _ h => h) (Or.inl ⟨by rfl, ?_⟩) (by assumption) ?_
              rotate_left
              (intro w0 hSw; (try dsimp only at hSw); go_simp; try (with_reducible rfl))
              (try simp only [Act.put, List.setIfInBounds_toArray, List.set_cons_zero, List.set_cons_succ])
              refine wpAnyH_take (i := 25) (oi := { dst := some 97, op := Op.load 57 (Operand.tmp 96), type := 57, pos := "ref.go:274", after := #[{ on := 24, ground := Ground.data }, { on := 9, ground := Ground.guard }], guard := some (9, true) }) (v := ?_) rfl (by kernel_rfl) (by kernel_rfl) (by kernel_rfl) (fun _ _ _ h => h) (Or.inl ⟨by rfl, ?_⟩) (by assumption) ?_
              rotate_left
              (intro w0 hSw; (try dsimp only at hSw); go_simp; try (with_reducible rfl))
              (try simp only [Act.put, List.setIfInBounds_toArray, List.set_cons_zero, List.set_cons_succ])
              refine wpAnyH_ready (rs := [26]) (by kernel_rfl) (by simp) (AllReadyH.cons (o := { dst := some 98, op := Op.call { callee := Callee.value (Operand.func 28), args := #[Operand.tmp 89, Operand.tmp 97], argTypes := #[57, 57] }, type := 4, pos := "ref.go:274", after := #[{ on := 17, ground := Ground.data }, { on := 25, ground := Ground.data }, { on := 9, ground := Ground.chain }, { on := 9, ground := Ground.guard }], guard := some (9, true) }) rfl (fun K hK => ?_) AllReadyH.nil)
              go_simp
              ((with_reducible refine (BD _ (HQ1.out.below (btr HRB.out.below hHeld.1)) (HQ2.out.below (btr HRB.out.below hHeld.1))).mono ?_); rintro e w3 ⟨rfl, hB3⟩; have hL : Below wr.heap.size wr w3 := btr hHeld.1 hB3; clear hHeld)
              refine hK.out _ _ (by exact s21_keep HSS.out hL) (fun hHeld => ?_)
              clear hK K
              (try simp only [Act.put, List.setIfInBounds_toArray, List.set_cons_zero, List.set_cons_succ])
              refine wpAnyH_take (i := 27) (oi := { dst := some 99, op := Op.pick (Operand.tmp 81) (Operand.tmp 98) (Operand.const (Value.bool false)), type := 4, pos := "ref.go:274", after := #[{ on := 9, ground := Ground.data }, { on := 26, ground := Ground.data }], guard := none }) (v := ?_) rfl (by kernel_rfl) (by kernel_rfl) (by kernel_rfl) (fun _ _ _ h => h) (Or.inl ⟨by rfl, ?_⟩) (by assumption) ?_
              rotate_left
              (intro w0 hSw; (try dsimp only at hSw); go_simp; try (with_reducible rfl))
              (try simp only [Act.put, List.setIfInBounds_toArray, List.set_cons_zero, List.set_cons_succ])
              refine wpAnyH_done (by kernel_rfl) ?_ _
              refine NoPanic.normal ?_
              have p2' := HRB.out.on hL
              have x2 : ∀ j, w3.cell? ⟨w.heap.size + 1, j, none⟩ = _ := p2'.b2.cell
              have f2 : ∀ j, w3.frozen? ⟨w.heap.size + 1, j, none⟩ = _ := p2'.b2.free
              have l2 := p2'.b2.lt
              clear hHeld HSS BD
              go_wp2
              refine bodyPost_ret (v := .tuple #[civ noCi none 0, .int .i64 2]) (by simp [results, Try.results24, go_sem, *]) rfl (HN.out 2 _ (HNO.out HF.out) ?_)
              exact below_sets p2'.below (by omega) _ _ _
            | false =>
              go_upto_region 21 with (fail)
              refine wp_region_noPanic ?_
              refine wp_region_held_drew (S := fun w' => S21 wr w' w.heap.size b1 (o1 + j) (o1 + i) xj xi (some ⟨b', o', none⟩) cp os.length b' (o' + xj * 7) (o' + xi * 7) p1 p2 ak1 ak2 ck1 ck2) (by kernel_rfl) (by exact s21_keep HSS.out (below_drew (Below.refl _ _))) (fun hHeld => ?_)
              refine wpAnyH_take (i := 0) (oi := { dst := some 72, op := Op.move (Operand.tmp 1), type := 43, pos := "ref.go:274", after := #[], guard := none }) (v := ?_) rfl (by kernel_rfl) (by kernel_rfl) (by kernel_rfl) (fun _ _ _ h => h) (Or.inl ⟨by rfl, ?_⟩) (by assumption) ?_
              rotate_left
              (intro w0 hSw; (try dsimp only at hSw); go_simp; try (with_reducible rfl))
              (try simp only [Act.put, List.setIfInBounds_toArray, List.set_cons_zero, List.set_cons_succ])
              refine wpAnyH_take (i := 1) (oi := { dst := some 73, op := Op.move (Operand.tmp 13), type := 3, pos := "ref.go:274", after := #[], guard := none }) (v := ?_) rfl (by kernel_rfl) (by kernel_rfl) (by kernel_rfl) (fun _ _ _ h => h) (Or.inl ⟨by rfl, ?_⟩) (by assumption) ?_
              rotate_left
              (intro w0 hSw; (try dsimp only at hSw); go_simp; try (with_reducible rfl))
              (try simp only [Act.put, List.setIfInBounds_toArray, List.set_cons_zero, List.set_cons_succ])
              refine wpAnyH_take (i := 2) (oi := { dst := some 74, op := Op.indexAddr 43 (Operand.tmp 72) (Operand.tmp 73), type := 0, pos := "ref.go:274", after := #[{ on := 0, ground := Ground.data }, { on := 1, ground := Ground.data }], guard := none }) (v := ?_) rfl (by kernel_rfl) (by kernel_rfl) (by kernel_rfl) (fun _ _ _ h => h) (Or.inl ⟨by rfl, ?_⟩) (by assumption) ?_
              rotate_left
              (intro w0 hSw; (try dsimp only at hSw); go_simp; try (with_reducible rfl))
              (try simp only [Act.put, List.setIfInBounds_toArray, List.set_cons_zero, List.set_cons_succ])
              refine wpAnyH_take (i := 3) (oi := { dst := some 75, op := Op.load 3 (Operand.tmp 74), type := 3, pos := "ref.go:274", after := #[{ on := 2, ground := Ground.data }], guard := none }) (v := ?_) rfl (by kernel_rfl) (by kernel_rfl) (by kernel_rfl) (fun _ _ _ h => h) (Or.inl ⟨by rfl, ?_⟩) (by assumption) ?_
              rotate_left
              (intro w0 hSw; (try dsimp only at hSw); go_simp; try (with_reducible rfl))
              (try simp only [Act.put, List.setIfInBounds_toArray, List.set_cons_zero, List.set_cons_succ])
              refine wpAnyH_take (i := 4) (oi := { dst := some 76, op := Op.move (Operand.tmp 1), type := 43, pos := "ref.go:274", after := #[], guard := none }) (v := ?_) rfl (by kernel_rfl) (by kernel_rfl) (by kernel_rfl) (fun _ _ _ h => h) (Or.inl ⟨by rfl, ?_⟩) (by assumption) ?_
              rotate_left
              (intro w0 hSw; (try dsimp only at hSw); go_simp; try (with_reducible rfl))
              (try simp only [Act.put, List.setIfInBounds_toArray, List.set_cons_zero, List.set_cons_succ])
              refine wpAnyH_take (i := 5) (oi := { dst := some 77, op := Op.move (Operand.tmp 12), type := 3, pos := "ref.go:274", after := #[], guard := none }) (v := ?_) rfl (by kernel_rfl) (by kernel_rfl) (by kernel_rfl) (fun _ _ _ h => h) (Or.inl ⟨by rfl, ?_⟩) (by assumption) ?_
              rotate_left
              (intro w0 hSw; (try dsimp only at hSw); go_simp; try (with_reducible rfl))
              (try simp only [Act.put, List.setIfInBounds_toArray, List.set_cons_zero, List.set_cons_succ])
              refine wpAnyH_take (i := 6) (oi := { dst := some 78, op := Op.indexAddr 43 (Operand.tmp 76) (Operand.tmp 77), type := 0, pos := "ref.go:274", after := #[{ on := 4, ground := Ground.data }, { on := 5, ground := Ground.data }], guard := none }) (v := ?_) rfl (by kernel_rfl) (by kernel_rfl) (by kernel_rfl) (fun _ _ _ h => h) (Or.inl ⟨by rfl, ?_⟩) (by assumption) ?_
              rotate_left
              (intro w0 hSw; (try dsimp only at hSw); go_simp; try (with_reducible rfl))
              (try simp only [Act.put, List.setIfInBounds_toArray, List.set_cons_zero, List.set_cons_succ])
              refine wpAnyH_take (i := 7) (oi := { dst := some 79, op := Op.load 3 (Operand.tmp 78), type := 3, pos := "ref.go:274", after := #[{ on := 6, ground := Ground.data }], guard := none }) (v := ?_) rfl (by kernel_rfl) (by kernel_rfl) (by kernel_rfl) (fun _ _ _ h => h) (Or.inl ⟨by rfl, ?_⟩) (by assumption) ?_
              rotate_left
              (intro w0 hSw; (try dsimp only at hSw); go_simp; try (with_reducible rfl))
              (try simp only [Act.put, List.setIfInBounds_toArray, List.set_cons_zero, List.set_cons_succ])
              refine wpAnyH_take (i := 8) (oi := { dst := some 80, op := Op.binOp BinOp.gtr 3 (Operand.tmp 75) (Operand.tmp 79) 3, type := 4, pos := "ref.go:274", after := #[{ on := 3, ground := Ground.data }, { on := 7, ground := Ground.data }], guard := none }) (v := ?_) rfl (by kernel_rfl) (by kernel_rfl) (by kernel_rfl) (fun _ _ _ h => h) (Or.inl ⟨by rfl, ?_⟩) (by assumption) ?_
              rotate_left
              (intro w0 hSw; (try dsimp only at hSw); go_simp; try (with_reducible rfl))
              (try simp only [Act.put, List.setIfInBounds_toArray, List.set_cons_zero, List.set_cons_succ])
              refine wpAnyH_take (i := 9) (oi := { dst := some 81, op := Op.move (Operand.tmp 80), type := 4, pos := "ref.go:274", after := #[{ on := 8, ground := Ground.data }], guard := none }) (v := ?_) rfl (by kernel_rfl) (by kernel_rfl) (by kernel_rfl) (fun _ _ _ h => h) (Or.inl ⟨by rfl, ?_⟩) (by assumption) ?_
              rotate_left
              (intro w0 hSw; (try dsimp only at hSw); go_simp; try (with_reducible rfl))
              (try simp only [Act.put, List.setIfInBounds_toArray, List.set_cons_zero, List.set_cons_succ])
              refine wpAnyH_take (i := 10) (oi := { dst := some 82, op := Op.fieldAddr 24 (Operand.tmp 2) 2, type := 0, pos := "ref.go:274", after := #[{ on := 9, ground := Ground.guard }], guard := some (9, true) }) (v := ?_) rfl (by kernel_rfl) (by kernel_rfl) (by kernel_rfl) (fun _ _ _ h => h) (Or.inl ⟨by rfl, ?_⟩) (by assumption) ?_
              rotate_left
              (intro w0 hSw; (try dsimp only at hSw); go_simp; try (with_reducible rfl))
              (try simp only [Act.put, List.setIfInBounds_toArray, List.set_cons_zero, List.set_cons_succ])
              refine wpAnyH_take (i := 11) (oi := { dst := some 83, op := Op.load 22 (Operand.tmp 82), type := 22, pos := "ref.go:274", after := #[{ on := 10, ground := Ground.data }, { on := 9, ground := Ground.guard }], guard := some (9, true) }) (v := ?_) rfl (by kernel_rfl) (by kernel_rfl) (by kernel_rfl) (fun _ _ _ h => h) (Or.inl ⟨by rfl, ?_⟩) (by assumption) ?_
              rotate_left
              (intro w0 hSw; (try dsimp only at hSw); go_simp; try (with_reducible rfl))
              (try simp only [Act.put, List.setIfInBounds_toArray, List.set_cons_zero, List.set_cons_succ])
              refine wpAnyH_take (i := 12) (oi := { dst := some 84, op := Op.move (Operand.tmp 1), type := 43, pos := "ref.go:274", after := #[{ on := 9, ground := Ground.guard }], guard := some (9, true) }) (v := ?_) rfl (by kernel_rfl) (by kernel_rfl) (by kernel_rfl) (fun _ _ _ h => h) (Or.inl ⟨by rfl, ?_⟩) (by assumption) ?_
              rotate_left
              (intro w0 hSw; (try dsimp only at hSw); go_simp; try (with_reducible rfl))
              (try simp only [Act.put, List.setIfInBounds_toArray, List.set_cons_zero, List.set_cons_succ])
              refine wpAnyH_take (i := 13) (oi := { dst := some 85, op := Op.move (Operand.tmp 13), type := 3, pos := "ref.go:274", after := #[{ on := 9, ground := Ground.guard }], guard := some (9, true) }) (v := ?_) rfl (by kernel_rfl) (by kernel_rfl) (by kernel_rfl) (fun _ _ _ h => h) (Or.inl ⟨by rfl, ?_⟩) (by assumption) ?_
              rotate_left
              (intro w0 hSw; (try dsimp only at hSw); go_simp; try (with_reducible rfl))
              (try simp only [Act.put, List.setIfInBounds_toArray, List.set_cons_zero, List.set_cons_succ])
              refine wpAnyH_take (i := 14) (oi := { dst := some 86, op := Op.indexAddr 43 (Operand.tmp 84) (Operand.tmp 85), type := 0, pos := "ref.go:274", after := #[{ on := 12, ground := Ground.data }, { on := 13, ground := Ground.data }, { on := 9, ground := Ground.guard }], guard := some (9, true) }) (v := ?_) rfl (by kernel_rfl) (by kernel_rfl) (by kernel_rfl) (fun _ _ _ h => h) (Or.inl ⟨by rfl, ?_⟩) (by assumption) ?_
              rotate_left
              (intro w0 hSw; (try dsimp only at hSw); go_simp; try (with_reducible rfl))
              (try simp only [Act.put, List.setIfInBounds_toArray, List.set_cons_zero, List.set_cons_succ])
              refine wpAnyH_take (i := 15) (oi := { dst := some 87, op := Op.load 3 (Operand.tmp 86), type := 3, pos := "ref.go:274", after := #[{ on := 14, ground := Ground.data }, { on := 9, ground := Ground.guard }], guard := some (9, true) }) (v := ?_) rfl (by kernel_rfl) (by kernel_rfl) (by kernel_rfl) (fun _ _ _ h => h) (Or.inl ⟨by rfl, ?_⟩) (by assumption) ?_
              rotate_left
              (intro w0 hSw; (try dsimp only at hSw); go_simp; try (with_reducible rfl))
              (try simp only [Act.put, List.setIfInBounds_toArray, List.set_cons_zero, List.set_cons_succ])
              refine wpAnyH_take (i := 16) (oi := { dst := some 88, op := Op.indexAddr 22 (Operand.tmp 83) (Operand.tmp 87), type := 0, pos := "ref.go:274", after := #[{ on := 11, ground := Ground.data }, { on := 15, ground := Ground.data }, { on := 9, ground := Ground.guard }], guard := some (9, true) }) (v := ?_) rfl (by kernel_rfl) (by kernel_rfl) (by kernel_rfl) (fun _ _ _ h => h) (Or.inl ⟨by rfl, ?_⟩) (by assumption) ?_
              rotate_left
              (intro w0 hSw; (try dsimp only at hSw); go_simp; try (with_reducible rfl))
              (try simp only [Act.put, List.setIfInBounds_toArray, List.set_cons_zero, List.set_cons_succ])
              refine wpAnyH_take (i := 17) (oi := { dst := some 89, op := Op.load 57 (Operand.tmp 88), type := 57, pos := "ref.go:274", after := #[{ on := 16, ground := Ground.data }, { on := 9, ground := Ground.guard }], guard := some (9, true) }) (v := ?_) rfl (by kernel_rfl) (by kernel_rfl) (by kernel_rfl) (fun _ _ _ h => h) (Or.inl ⟨by rfl, ?_⟩) (by assumption) ?_
              rotate_left
              (intro w0 hSw; (try dsimp only at hSw); go_simp; try (with_reducible rfl))
              (try simp only [Act.put, List.setIfInBounds_toArray, List.set_cons_zero, List.set_cons_succ])
              refine wpAnyH_take (i := 18) (oi := { dst := some 90, op := Op.fieldAddr 24 (Operand.tmp 2) 2, type := 0, pos := "ref.go:274", after := #[{ on := 9, ground := Ground.guard }], guard := some (9, true) }) (v := ?_) rfl (by kernel_rfl) (by kernel_rfl) (by kernel_rfl) (fun _ _ _ h => h) (Or.inl ⟨by rfl, ?_⟩) (by assumption) ?_
              rotate_left
              (intro w0 hSw; (try dsimp only at hSw); go_simp; try (with_reducible rfl))
              (try simp only [Act.put, List.setIfInBounds_toArray, List.set_cons_zero, List.set_cons_succ])
              refine wpAnyH_take (i := 19) (oi := { dst := some 91, op := Op.load 22 (Operand.tmp 90), type := 22, pos := "ref.go:274", after := #[{ on := 18, ground := Ground.data }, { on := 9, ground := Ground.guard }], guard := some (9, true) }) (v := ?_) rfl (by kernel_rfl) (by kernel_rfl) (by kernel_rfl) (fun _ _ _ h => h) (Or.inl ⟨by rfl, ?_⟩) (by assumption) ?_
              rotate_left
              (intro w0 hSw; (try dsimp only at hSw); go_simp; try (with_reducible rfl))
              (try simp only [Act.put, List.setIfInBounds_toArray, List.set_cons_zero, List.set_cons_succ])
              refine wpAnyH_take (i := 20) (oi := { dst := some 92, op := Op.move (Operand.tmp 1), type := 43, pos := "ref.go:274", after := #[{ on := 9, ground := Ground.guard }], guard := some (9, true) }) (v := ?_) rfl (by kernel_rfl) (by kernel_rfl) (by kernel_rfl) (fun _ _ _ h => h) (Or.inl ⟨by rfl, ?_⟩) (by assumption) ?_
              rotate_left
              (intro w0 hSw; (try dsimp only at hSw); go_simp; try (with_reducible rfl))
              (try simp only [Act.put, List.setIfInBounds_toArray, List.set_cons_zero, List.set_cons_succ])
              refine wpAnyH_take (i := 21) (oi := { dst := some 93, op := Op.move (Operand.tmp 12), type := 3, pos := "ref.go:274", after := #[{ on := 9, ground := Ground.guard }], guard := some (9, true) }) (v := ?_) rfl (by kernel_rfl) (by kernel_rfl) (by kernel_rfl) (fun _ _ _ h => h) (Or.inl ⟨by rfl, ?_⟩) (by assumption) ?_
              rotate_left
              (intro w0 hSw; (try dsimp only at hSw); go_simp; try (with_reducible rfl))
              (try simp only [Act.put, List.setIfInBounds_toArray, List.set_cons_zero, List.set_cons_succ])
              refine wpAnyH_take (i := 22) (oi := { dst := some 94, op := Op.indexAddr 43 (Operand.tmp 92) (Operand.tmp 93), type := 0, pos := "ref.go:274", after := #[{ on := 20, ground := Ground.data }, { on := 21, ground := Ground.data }, { on := 9, ground := Ground.guard }], guard := some (9, true) }) (v := ?_) rfl (by kernel_rfl) (by kernel_rfl) (by kernel_rfl) (fun _ _ _ h => h) (Or.inl ⟨by rfl, ?_⟩) (by assumption) ?_
              rotate_left
              (intro w0 hSw; (try dsimp only at hSw); go_simp; try (with_reducible rfl))
              (try simp only [Act.put, List.setIfInBounds_toArray, List.set_cons_zero, List.set_cons_succ])
              refine wpAnyH_take (i := 23) (oi := { dst := some 95, op := Op.load 3 (Operand.tmp 94), type := 3, pos := "ref.go:274", after := #[{ on := 22, ground := Ground.data }, { on := 9, ground := Ground.guard }], guard := some (9, true) }) (v := ?_) rfl (by kernel_rfl) (by kernel_rfl) (by kernel_rfl) (fun _ _ _ h => h) (Or.inl ⟨by rfl, ?_⟩) (by assumption) ?_
              rotate_left
              (intro w0 hSw; (try dsimp only at hSw); go_simp; try (with_reducible rfl))
              (try simp only [Act.put, List.setIfInBounds_toArray, List.set_cons_zero, List.set_cons_succ])
              refine wpAnyH_take (i := 24) (oi := { dst := some 96, op := Op.indexAddr 22 (Operand.tmp 91) (Operand.tmp 95), type := 0, pos := "ref.go:274", after := #[{ on := 19, ground := Ground.data }, { on := 23, ground := Ground.data }, { on := 9, ground := Ground.guard }], guard := some (9, true) }) (v := ?_) rfl (by kernel_rfl) (by kernel_rfl) (by kernel_rfl) (fun _ _ _ h => h) (Or.inl ⟨by rfl, ?_⟩) (by assumption) ?_
              rotate_left
              (intro w0 hSw; (try dsimp only at hSw); go_simp; try (with_reducible rfl))
              (try simp only [Act.put, List.setIfInBounds_toArray, List.set_cons_zero, List.set_cons_succ])
              refine wpAnyH_take (i := 25) (oi := { dst := some 97, op := Op.load 57 (Operand.tmp 96), type := 57, pos := "ref.go:274", after := #[{ on := 24, ground := Ground.data }, { on := 9, ground := Ground.guard }], guard := some (9, true) }) (v := ?_) rfl (by kernel_rfl) (by kernel_rfl) (by kernel_rfl) (fun _ _ _ h => h) (Or.inl ⟨by rfl, ?_⟩) (by assumption) ?_
              rotate_left
              (intro w0 hSw; (try dsimp only at hSw); go_simp; try (with_reducible rfl))
              (try simp only [Act.put, List.setIfInBounds_toArray, List.set_cons_zero, List.set_cons_succ])
              refine wpAnyH_ready (rs := [26]) (by kernel_rfl) (by simp) (AllReadyH.cons (o := { dst := some 98, op := Op.call { callee := Callee.value (Operand.func 28), args := #[Operand.tmp 89, Operand.tmp 97], argTypes := #[57, 57] }, type := 4, pos := "ref.go:274", after := #[{ on := 17, ground := Ground.data }, { on := 25, ground := Ground.data }, { on := 9, ground := Ground.chain }, { on := 9, ground := Ground.guard }], guard := some (9, true) }) rfl (fun K hK => ?_) AllReadyH.nil)
              go_simp
              ((with_reducible refine (BD _ (HQ1.out.below (btr HRB.out.below hHeld.1)) (HQ2.out.below (btr HRB.out.below hHeld.1))).mono ?_); rintro e w3 ⟨rfl, hB3⟩; have hL : Below wr.heap.size wr w3 := btr hHeld.1 hB3; clear hHeld)
              refine hK.out _ _ (by exact s21_keep HSS.out hL) (fun hHeld => ?_)
              clear hK K
              (try simp only [Act.put, List.setIfInBounds_toArray, List.set_cons_zero, List.set_cons_succ])
              refine wpAnyH_take (i := 27) (oi := { dst := some 99, op := Op.pick (Operand.tmp 81) (Operand.tmp 98) (Operand.const (Value.bool false)), type := 4, pos := "ref.go:274", after := #[{ on := 9, ground := Ground.data }, { on := 26, ground := Ground.data }], guard := none }) (v := ?_) rfl (by kernel_rfl) (by kernel_rfl) (by kernel_rfl) (fun _ _ _ h => h) (Or.inl ⟨by rfl, ?_⟩) (by assumption) ?_
              rotate_left
              (intro w0 hSw; (try dsimp only at hSw); go_simp; try (with_reducible rfl))
              (try simp only [Act.put, List.setIfInBounds_toArray, List.set_cons_zero, List.set_cons_succ])
              refine wpAnyH_done (by kernel_rfl) ?_ _
              refine NoPanic.normal ?_
              have p2' := HRB.out.on hL
              clear hHeld HSS BD
              go_wp2
              go_roundw
              case rel =>
                refine ⟨j + 1, by omega, by go_num, p2', fun j' hj' h => ?_⟩
                by_cases e : j' = j
                · subst e; exact fun h => by cases (HCF.out.1 h).2
                · exact HND.out j' hj' (by omega)
              case measure => simp [intOf]; omega
          · have hge' : ¬ ((xi : Int) < (xj : Int)) := by omega
            go_upto_region 21 with (fail)
            refine wp_region_noPanic ?_
            refine wp_region_held_drew (S := fun w' => S21 wr w' w.heap.size b1 (o1 + j) (o1 + i) xj xi (some ⟨b', o', none⟩) cp os.length b' (o' + xj * 7) (o' + xi * 7) p1 p2 ak1 ak2 ck1 ck2) (by kernel_rfl) (by exact s21_keep HSS.out (below_drew (Below.refl _ _))) (fun hHeld => ?_)
            refine wpAnyH_take (i := 0) (oi := { dst := some 72, op := Op.move (Operand.tmp 1), type := 43, pos := "ref.go:274", after := #[], guard := none }) (v := ?_) rfl (by kernel_rfl) (by kernel_rfl) (by kernel_rfl) (fun _ _ _ h => h) (Or.inl ⟨by rfl, ?_⟩) (by assumption) ?_
            rotate_left
            (intro w0 hSw; (try dsimp only at hSw); go_simp; try (with_reducible rfl))
            (try simp only [Act.put, List.setIfInBounds_toArray, List.set_cons_zero, List.set_cons_succ])
            refine wpAnyH_take (i := 1) (oi := { dst := some 73, op := Op.move (Operand.tmp 13), type := 3, pos := "ref.go:274", after := #[], guard := none }) (v := ?_) rfl (by kernel_rfl) (by kernel_rfl) (by kernel_rfl) (fun _ _ _ h => h) (Or.inl ⟨by rfl, ?_⟩) (by assumption) ?_
            rotate_left
            (intro w0 hSw; (try dsimp only at hSw); go_simp; try (with_reducible rfl))
            (try simp only [Act.put, List.setIfInBounds_toArray, List.set_cons_zero, List.set_cons_succ])
            refine wpAnyH_take (i := 2) (oi := { dst := some 74, op := Op.indexAddr 43 (Operand.tmp 72) (Operand.tmp 73), type := 0, pos := "ref.go:274", after := #[{ on := 0, ground := Ground.data }, { on := 1, ground := Ground.data }], guard := none }) (v := ?_) rfl (by kernel_rfl) (by kernel_rfl) (by kernel_rfl) (fun _ _ _ h => h) (Or.inl ⟨by rfl, ?_⟩) (by assumption) ?_
            rotate_left
            (intro w0 hSw; (try dsimp only at hSw); go_simp; try (with_reducible rfl))
            (try simp only [Act.put, List.setIfInBounds_toArray, List.set_cons_zero, List.set_cons_succ])
            refine wpAnyH_take (i := 3) (oi := { dst := some 75, op := Op.load 3 (Operand.tmp 74), type := 3, pos := "ref.go:274", after := #[{ on := 2, ground := Ground.data }], guard := none }) (v := ?_) rfl (by kernel_rfl) (by kernel_rfl) (by kernel_rfl) (fun _ _ _ h => h) (Or.inl ⟨by rfl, ?_⟩) (by assumption) ?_
            rotate_left
            (intro w0 hSw; (try dsimp only at hSw); go_simp; try (with_reducible rfl))
            (try simp only [Act.put, List.setIfInBounds_toArray, List.set_cons_zero, List.set_cons_succ])
            refine wpAnyH_take (i := 4) (oi := { dst := some 76, op := Op.move (Operand.tmp 1), type := 43, pos := "ref.go:274", after := #[], guard := none }) (v := ?_) rfl (by kernel_rfl) (by kernel_rfl) (by kernel_rfl) (fun _ _ _ h => h) (Or.inl ⟨by rfl, ?_⟩) (by assumption) ?_
            rotate_left
            (intro w0 hSw; (try dsimp only at hSw); go_simp; try (with_reducible rfl))
            (try simp only [Act.put, List.setIfInBounds_toArray, List.set_cons_zero, List.set_cons_succ])
            refine wpAnyH_take (i := 5) (oi := { dst := some 77, op := Op.move (Operand.tmp 12), type := 3, pos := "ref.go:274", after := #[], guard := none }) (v := ?_) rfl (by kernel_rfl) (by kernel_rfl) (by kernel_rfl) (fun _ _ _ h => h) (Or.inl ⟨by rfl, ?_⟩) (by assumption) ?_
            rotate_left
            (intro w0 hSw; (try dsimp only at hSw); go_simp; try (with_reducible rfl))
            (try simp only [Act.put, List.setIfInBounds_toArray, List.set_cons_zero, List.set_cons_succ])
            refine wpAnyH_take (i := 6) (oi := { dst := some 78, op := Op.indexAddr 43 (Operand.tmp 76) (Operand.tmp 77), type := 0, pos := "ref.go:274", after := #[{ on := 4, ground := Ground.data }, { on := 5, ground := Ground.data }], guard := none }) (v := ?_) rfl (by kernel_rfl) (by kernel_rfl) (by kernel_rfl) (fun _ _ _ h => h) (Or.inl ⟨by rfl, ?_⟩) (by assumption) ?_
            rotate_left
            (intro w0 hSw; (try dsimp only at hSw); go_simp; try (with_reducible rfl))
            (try simp only [Act.put, List.setIfInBounds_toArray, List.set_cons_zero, List.set_cons_succ])
            refine wpAnyH_take (i := 7) (oi := { dst := some 79, op := Op.load 3 (Operand.tmp 78), type := 3, pos := "ref.go:274", after := #[{ on := 6, ground := Ground.data }], guard := none }) (v := ?_) rfl (by kernel_rfl) (by kernel_rfl) (by kernel_rfl) (fun _ _ _ h => h) (Or.inl ⟨by rfl, ?_⟩) (by assumption) ?_
            rotate_left
            (intro w0 hSw; (try dsimp only at hSw); go_simp; try (with_reducible rfl))
            (try simp only [Act.put, List.setIfInBounds_toArray, List.set_cons_zero, List.set_cons_succ])
            refine wpAnyH_take (i := 8) (oi := { dst := some 80, op := Op.binOp BinOp.gtr 3 (Operand.tmp 75) (Operand.tmp 79) 3, type := 4, pos := "ref.go:274", after := #[{ on := 3, ground := Ground.data }, { on := 7, ground := Ground.data }], guard := none }) (v := ?_) rfl (by kernel_rfl) (by kernel_rfl) (by kernel_rfl) (fun _ _ _ h => h) (Or.inl ⟨by rfl, ?_⟩) (by assumption) ?_
            rotate_left
            (intro w0 hSw; (try dsimp only at hSw); go_simp; try (with_reducible rfl))
            (try simp only [Act.put, List.setIfInBounds_toArray, List.set_cons_zero, List.set_cons_succ])
            refine wpAnyH_take (i := 9) (oi := { dst := some 81, op := Op.move (Operand.tmp 80), type := 4, pos := "ref.go:274", after := #[{ on := 8, ground := Ground.data }], guard := none }) (v := ?_) rfl (by kernel_rfl) (by kernel_rfl) (by kernel_rfl) (fun _ _ _ h => h) (Or.inl ⟨by rfl, ?_⟩) (by assumption) ?_
            rotate_left
            (intro w0 hSw; (try dsimp only at hSw); go_simp; try (with_reducible rfl))
            (try simp only [Act.put, List.setIfInBounds_toArray, List.set_cons_zero, List.set_cons_succ])
            refine wpAnyH_take (i := 10) (oi := { dst := some 82, op := Op.fieldAddr 24 (Operand.tmp 2) 2, type := 0, pos := "ref.go:274", after := #[{ on := 9, ground := Ground.guard }], guard := some (9, true) }) (v := undef) rfl (by kernel_rfl) (by kernel_rfl) (by kernel_rfl) (fun _ _ _ h => h) (Or.inr ⟨by rfl, rfl⟩) (by assumption) ?_
            (try simp only [Act.put, List.setIfInBounds_toArray, List.set_cons_zero, List.set_cons_succ])
            refine wpAnyH_take (i := 11) (oi := { dst := some 83, op := Op.load 22 (Operand.tmp 82), type := 22, pos := "ref.go:274", after := #[{ on := 10, ground := Ground.data }, { on := 9, ground := Ground.guard }], guard := some (9, true) }) (v := undef) rfl (by kernel_rfl) (by kernel_rfl) (by kernel_rfl) (fun _ _ _ h => h) (Or.inr ⟨by rfl, rfl⟩) (by assumption) ?_
            (try simp only [Act.put, List.setIfInBounds_toArray, List.set_cons_zero, List.set_cons_succ])
            refine wpAnyH_take (i := 12) (oi := { dst := some 84, op := Op.move (Operand.tmp 1), type := 43, pos := "ref.go:274", after := #[{ on := 9, ground := Ground.guard }], guard := some (9, true) }) (v := undef) rfl (by kernel_rfl) (by kernel_rfl) (by kernel_rfl) (fun _ _ _ h => h) (Or.inr ⟨by rfl, rfl⟩) (by assumption) ?_
            (try simp only [Act.put, List.setIfInBounds_toArray, List.set_cons_zero, List.set_cons_succ])
            refine wpAnyH_take (i := 13) (oi := { dst := some 85, op := Op.move (Operand.tmp 13), type := 3, pos := "ref.go:274", after := #[{ on := 9, ground := Ground.guard }], guard := some (9, true) }) (v := undef) rfl (by kernel_rfl) (by kernel_rfl) (by kernel_rfl) (fun _ _ _ h => h) (Or.inr ⟨by rfl, rfl⟩) (by assumption) ?_
            (try simp only [Act.put, List.setIfInBounds_toArray, List.set_cons_zero, List.set_cons_succ])
            refine wpAnyH_take (i := 14) (oi := { dst := some 86, op := Op.indexAddr 43 (Operand.tmp 84) (Operand.tmp 85), type := 0, pos := "ref.go:274", after := #[{ on := 12, ground := Ground.data }, { on := 13, ground := Ground.data }, { on := 9, ground := Ground.guard }], guard := some (9, true) }) (v := undef) rfl (by kernel_rfl) (by kernel_rfl) (by kernel_rfl) (fun _ _ _ h => h) (Or.inr ⟨by rfl, rfl⟩) (by assumption) ?_
            (try simp only [Act.put, List.setIfInBounds_toArray, List.set_cons_zero, List.set_cons_succ])
            refine wpAnyH_take (i := 15) (oi := { dst := some 87, op := Op.load 3 (Operand.tmp 86), type := 3, pos := "ref.go:274", after := #[{ on := 14, ground := Ground.data }, { on := 9, ground := Ground.guard }], guard := some (9, true) }) (v := undef) rfl (by kernel_rfl) (by kernel_rfl) (by kernel_rfl) (fun _ _ _ h => h) (Or.inr ⟨by rfl, rfl⟩) (by assumption) ?_
            (try simp only [Act.put, List.setIfInBounds_toArray, List.set_cons_zero, List.set_cons_succ])
            refine wpAnyH_take (i := 16) (oi := { dst := some 88, op := Op.indexAddr 22 (Operand.tmp 83) (Operand.tmp 87), type := 0, pos := "ref.go:274", after := #[{ on := 11, ground := Ground.data }, { on := 15, ground := Ground.data }, { on := 9, ground := Ground.guard }], guard := some (9, true) }) (v := undef) rfl (by kernel_rfl) (by kernel_rfl) (by kernel_rfl) (fun _ _ _ h => h) (Or.inr ⟨by rfl, rfl⟩) (by assumption) ?_
            (try simp only [Act.put, List.setIfInBounds_toArray, List.set_cons_zero, List.set_cons_succ])
            refine wpAnyH_take (i := 17) (oi := { dst := some 89, op := Op.load 57 (Operand.tmp 88), type := 57, pos := "ref.go:274", after := #[{ on := 16, ground := Ground.data }, { on := 9, ground := Ground.guard }], guard := some (9, true) }) (v := undef) rfl (by kernel_rfl) (by kernel_rfl) (by kernel_rfl) (fun _ _ _ h => h) (Or.inr ⟨by rfl, rfl⟩) (by assumption) ?_
            (try simp only [Act.put, List.setIfInBounds_toArray, List.set_cons_zero, List.set_cons_succ])
            refine wpAnyH_take (i := 18) (oi := { dst := some 90, op := Op.fieldAddr 24 (Operand.tmp 2) 2, type := 0, pos := "ref.go:274", after := #[{ on := 9, ground := Ground.guard }], guard := some (9, true) }) (v := undef) rfl (by kernel_rfl) (by kernel_rfl) (by kernel_rfl) (fun _ _ _ h => h) (Or.inr ⟨by rfl, rfl⟩) (by assumption) ?_
            (try simp only [Act.put, List.setIfInBounds_toArray, List.set_cons_zero, List.set_cons_succ])
            refine wpAnyH_take (i := 19) (oi := { dst := some 91, op := Op.load 22 (Operand.tmp 90), type := 22, pos := "ref.go:274", after := #[{ on := 18, ground := Ground.data }, { on := 9, ground := Ground.guard }], guard := some (9, true) }) (v := undef) rfl (by kernel_rfl) (by kernel_rfl) (by kernel_rfl) (fun _ _ _ h => h) (Or.inr ⟨by rfl, rfl⟩) (by assumption) ?_
            (try simp only [Act.put, List.setIfInBounds_toArray, List.set_cons_zero, List.set_cons_succ])
            refine wpAnyH_take (i := 20) (oi := { dst := some 92, op := Op.move (Operand.tmp 1), type := 43, pos := "ref.go:274", after := #[{ on := 9, ground := Ground.guard }], guard := some (9, true) }) (v := undef) rfl (by kernel_rfl) (by kernel_rfl) (by kernel_rfl) (fun _ _ _ h => h) (Or.inr ⟨by rfl, rfl⟩) (by assumption) ?_
            (try simp only [Act.put, List.setIfInBounds_toArray, List.set_cons_zero, List.set_cons_succ])
            refine wpAnyH_take (i := 21) (oi := { dst := some 93, op := Op.move (Operand.tmp 12), type := 3, pos := "ref.go:274", after := #[{ on := 9, ground := Ground.guard }], guard := some (9, true) }) (v := undef) rfl (by kernel_rfl) (by kernel_rfl) (by kernel_rfl) (fun _ _ _ h => h) (Or.inr ⟨by rfl, rfl⟩) (by assumption) ?_
            (try simp only [Act.put, List.setIfInBounds_toArray, List.set_cons_zero, List.set_cons_succ])
            refine wpAnyH_take (i := 22) (oi := { dst := some 94, op := Op.indexAddr 43 (Operand.tmp 92) (Operand.tmp 93), type := 0, pos := "ref.go:274", after := #[{ on := 20, ground := Ground.data }, { on := 21, ground := Ground.data }, { on := 9, ground := Ground.guard }], guard := some (9, true) }) (v := undef) rfl (by kernel_rfl) (by kernel_rfl) (by kernel_rfl) (fun _ _ _ h => h) (Or.inr ⟨by rfl, rfl⟩) (by assumption) ?_
            (try simp only [Act.put, List.setIfInBounds_toArray, List.set_cons_zero, List.set_cons_succ])
            refine wpAnyH_take (i := 23) (oi := { dst := some 95, op := Op.load 3 (Operand.tmp 94), type := 3, pos := "ref.go:274", after := #[{ on := 22, ground := Ground.data }, { on := 9, ground := Ground.guard }], guard := some (9, true) }) (v := undef) rfl (by kernel_rfl) (by kernel_rfl) (by kernel_rfl) (fun _ _ _ h => h) (Or.inr ⟨by rfl, rfl⟩) (by assumption) ?_
            (try simp only [Act.put, List.setIfInBounds_toArray, List.set_cons_zero, List.set_cons_succ])
            refine wpAnyH_take (i := 24) (oi := { dst := some 96, op := Op.indexAddr 22 (Operand.tmp 91) (Operand.tmp 95), type := 0, pos := "ref.go:274", after := #[{ on := 19, ground := Ground.data }, { on := 23, ground := Ground.data }, { on := 9, ground := Ground.guard }], guard := some (9, true) }) (v := undef) rfl (by kernel_rfl) (by kernel_rfl) (by kernel_rfl) (fun _ _ _ h => h) (Or.inr ⟨by rfl, rfl⟩) (by assumption) ?_
            (try simp only [Act.put, List.setIfInBounds_toArray, List.set_cons_zero, List.set_cons_succ])
            refine wpAnyH_take (i := 25) (oi := { dst := some 97, op := Op.load 57 (Operand.tmp 96), type := 57, pos := "ref.go:274", after := #[{ on := 24, ground := Ground.data }, { on := 9, ground := Ground.guard }], guard := some (9, true) }) (v := undef) rfl (by kernel_rfl) (by kernel_rfl) (by kernel_rfl) (fun _ _ _ h => h) (Or.inr ⟨by rfl, rfl⟩) (by assumption) ?_
            (try simp only [Act.put, List.setIfInBounds_toArray, List.set_cons_zero, List.set_cons_succ])
            refine wpAnyH_ready (rs := [26]) (by kernel_rfl) (by simp) (AllReadyH.cons (o := { dst := some 98, op := Op.call { callee := Callee.value (Operand.func 28), args := #[Operand.tmp 89, Operand.tmp 97], argTypes := #[57, 57] }, type := 4, pos := "ref.go:274", after := #[{ on := 17, ground := Ground.data }, { on := 25, ground := Ground.data }, { on := 9, ground := Ground.chain }, { on := 9, ground := Ground.guard }], guard := some (9, true) }) rfl (fun K hK => ?_) AllReadyH.nil)
            change K (Act.put _ _ undef) _
            refine hK.out _ _ hHeld (fun hHeld => ?_)
            clear hK K
            (try simp only [Act.put, List.setIfInBounds_toArray, List.set_cons_zero, List.set_cons_succ])
            refine wpAnyH_take (i := 27) (oi := { dst := some 99, op := Op.pick (Operand.tmp 81) (Operand.tmp 98) (Operand.const (Value.bool false)), type := 4, pos := "ref.go:274", after := #[{ on := 9, ground := Ground.data }, { on := 26, ground := Ground.data }], guard := none }) (v := ?_) rfl (by kernel_rfl) (by kernel_rfl) (by kernel_rfl) (fun _ _ _ h => h) (Or.inl ⟨by rfl, ?_⟩) (by assumption) ?_
            rotate_left
            (intro w0 hSw; (try dsimp only at hSw); go_simp; try (with_reducible rfl))
            (try simp only [Act.put, List.setIfInBounds_toArray, List.set_cons_zero, List.set_cons_succ])
            refine wpAnyH_done (by kernel_rfl) ?_ _
            refine NoPanic.normal ?_
            have p2' := HRB.out.on hHeld.1
            clear hHeld HSS BD
            go_wp2
            go_roundw
            case rel =>
              refine ⟨j + 1, by omega, by go_num, p2', fun j' hj' h => ?_⟩
              by_cases e : j' = j
              · subst e; exact fun h => hge (HCF.out.1 h).1
              · exact HND.out j' hj' (by omega)
            case measure => simp [intOf]; omega
      obtain rfl : i = os.length := by omega
      have hOrd : OrdOk os l := fun i' j hi' hj => hNC i' j hi' hj (by have := HLL.out; omega)
      have HEO : Hid (Each l os.length ∧ OrdOk os l) := ⟨HEA.out, hOrd⟩
      have x1 : ∀ j, wr.cell? ⟨w.heap.size, j, none⟩ = _ := hRB.b1.cell
      have l1 := hRB.b1.lt
      clear hNC hOrd HNC hRB
      go_wp2_with (go_at_call 29; (with_reducible refine (CP _ (HO.out.below HRB.out.below)).mono ?_); rintro e w3 ⟨ao, co, vso, rfl, hOo, hB3⟩; have p3 := HRB.out.on hB3; have x3 : ∀ j, w3.cell? ⟨w.heap.size, j, none⟩ = _ := p3.b1.cell; have l3 := p3.b1.lt)
      obtain ⟨V, hV⟩ : ∃ V, V = w3.alloc (.cells #[.int .i64 q, .int .i64 b, .slice ao os.length co] 24) := ⟨_, rfl⟩
      have hXs : V.heap.size = w3.heap.size + 1 := by rw [hV]; simp
      have pV : RB w V ⟨q, b, os⟩ a cp := by rw [hV]; exact p3.on (bal (Below.refl _ _) _)
      have hOV : OO V w.heap.size (.slice ao os.length co) os vso := by rw [hV]; exact (OO.mono hOo HRB.out.below.size).alloc _
      have hbo : BK V w3.heap.size #[.int .i64 q, .int .i64 b, .slice ao os.length co] 24 := by rw [hV]; exact bk_new _ _ _
      rw [← hV]
      obtain ⟨a', c', ea, hSV⟩ := hOV.read
      cases ea
      have HPV := hid pV
      have HOV := hid hOV
      have HSV := hid hSV
      have hwV := pV.below.size
      have HU0 : Hid (RU w V (V.alloc (.cells #[.int .i64 q, .int .i64 b, .slice none 0 0] 24)) (w3.heap.size + 1) q b (.slice none 0 0) [] []) :=
        ⟨bal (Below.refl _ _) _, bk_at _ _ hXs.symm, by omega, rfl, World.ownsRow_nil _ _ _ _, fun k h => absurd h (Nat.not_lt_zero _), fun k h => absurd h (Nat.not_lt_zero _)⟩
      have HBO := hid hbo
      clear hV p3 x3 l3 hOo hB3 pV hOV hSV hbo x1 l1 HRB CP hXs
      generalize w3.heap.size + 1 = X at *
      generalize w3.heap.size = Xo at *
      go_loopw [16] (fun s wr => ∃ k : Nat, k ≤ os.length ∧ s = .int .i64 (k : Nat) ∧ ∃ v vs, RU w V wr X q b v ((l.take k).map (gO os)) vs) (fun s _ => os.length - (intOf s).toNat)
      case atStart => exact ⟨0, Nat.zero_le _, rfl, _, _, HU0.out⟩
      case round =>
        clear HU0
        obtain ⟨k, hk, rfl, v, vs, hU⟩ := hrel
        have hlm : ((l.take k).map (gO os)).length = k := by rw [List.length_map, List.length_take]; have := HLL.out; omega
        obtain ⟨va, vc, rfl⟩ := own_shape hU.row
        rw [hlm] at hU
        have HRU := hid hU
        have xc : ∀ j, wr.cell? ⟨X, j, none⟩ = _ := hU.bx.cell
        have lX := hU.bx.lt
        by_cases hltk : k < os.length
        case neg =>
          obtain rfl : k = os.length := by omega
          have e1 : l.take os.length = l := by rw [← HLL.out]; exact List.take_length
          have hb2 : BK wr (w.heap.size + 1) _ 24 := (hU.below.block _ HPV.out.b2.lt).trans HPV.out.b2
          have hoo := hU.oo hwV
          rw [e1] at hoo
          have HOO := hid (hoo.sets hb2 (.int .i64 q) (.int .i64 b) (.slice va os.length vc))
          have HC2 := hid (bk_sets hb2 (.int .i64 q) (.int .i64 b) (.slice va os.length vc)).cell
          have HBB := hid (below_sets (btr HPV.out.below hU.below) (X := w.heap.size + 1) (by omega) (.int .i64 q) (.int .i64 b) (.slice va os.length vc))
          have x2 : ∀ j, wr.cell? ⟨w.heap.size + 1, j, none⟩ = _ := hb2.cell
          have f2 : ∀ j, wr.frozen? ⟨w.heap.size + 1, j, none⟩ = _ := hb2.free
          have l2 := hb2.lt
          clear hU hoo hb2 e1 hlm
          go_wp2
          have Y := HYE.out HEO.out va vc vs _ (by rw [List.length_map, HLL.out]; exact HOO.out) HBB.out
          rw [List.length_map, HLL.out] at Y
          exact bodyPost_ret (v := .tuple #[.agg #[.int .i64 q, .int .i64 b, .slice va os.length vc], .int .i64 0]) (by simp [results, Try.results24, go_sem, HC2.out]) rfl Y
        have hltl : k < l.length := by have := HLL.out; omega
        obtain ⟨⟨hx0, hx1⟩, _⟩ := HEO.out.1.2 k hltl
        obtain ⟨x, hx⟩ : ∃ x : Nat, l[k] = (x : Int) := ⟨l[k].toNat, by omega⟩
        have hxl : x < os.length := by omega
        have hgx : os.getD x noOq = os[x] := by rw [List.getD_eq_getElem?_getD, List.getElem?_eq_getElem hxl]; rfl
        obtain ⟨b1, o1, e1, r1⟩ := (HQ.out.below HPV.out.below).at_ k hltl
        subst e1
        obtain ⟨bo, oo, e2, r2⟩ := HSV.out.at_ x hxl
        subst e2
        have ck0 := r1.c k hltl
        rw [hx] at ck0
        have HS8 : Hid (S28 V V b1 (o1 + k) x Xo (some ⟨bo, oo, none⟩) co os.length bo (oo + x * 7) os[x] (vA vso x) (vC vso x)) :=
          ⟨Below.refl _ _, ck0, HBO.out.cell 2, ⟨r2.c0 x hxl, r2.c1 x hxl, r2.c2 x hxl, r2.c3 x hxl, r2.c4 x hxl, r2.c5 x hxl, r2.c6 x hxl⟩, r1.lt, HBO.out.lt, r2.lt⟩
        have hlv := HOV.out.len
        have hqv := HOV.out.qs x hxl (by omega)
        rw [vs_at vso x (by omega)] at hqv
        have HQV := hid hqv
        have HFT := hid ((HOK.out x hxl).1.fit)
        have HTK : Hid ((l.take (k + 1)).map (gO os) = (l.take k).map (gO os) ++ [os[x]]) := by show _ = _; rw [List.take_succ_eq_append_getElem hltl, List.map_append, hx]; show _ ++ [os.getD x noOq] = _; rw [hgx]
        have hrow := hU.row
        rw [hlm] at hrow
        have HROW := hid hrow
        have hcco := HSV.out.cap
        have hbl1 := r1.lt
        have hbl2 := r2.lt
        clear r1 r2 hqv hrow hU hgx hx ck0 hx0 hx1 hlv
        generalize os[x] = o at *
        generalize vA vso x = ak at *
        generalize vC vso x = ck at *
        go_upto_region 28 with (fail)
        refine wp_region_noPanic ?_
        refine wp_region_held_drew (S := fun w' => S28 V w' b1 (o1 + k) x Xo (some ⟨bo, oo, none⟩) co os.length bo (oo + x * 7) o ak ck) (by kernel_rfl) (by exact s28_keep HS8.out (below_drew HRU.out.below)) (fun hHeld => ?_)
        refine wpAnyH_take (i := 0) (oi := { dst := some 113, op := Op.fieldAddr 24 (Operand.tmp 15) 2, type := 0, pos := "ref.go:282", after := #[], guard := none }) (v := ?_) rfl (by kernel_rfl) (by kernel_rfl) (by kernel_rfl) (fun _ _ _ h => h) (Or.inl ⟨by rfl, ?_⟩) (by assumption) ?_
        rotate_left
        (intro w0 hSw; (try dsimp only at hSw); go_simp; try (with_reducible rfl))
        (try simp only [Act.put, List.setIfInBounds_toArray, List.set_cons_zero, List.set_cons_succ])
        refine wpAnyH_take (i := 2) (oi := { dst := some 115, op := Op.fieldAddr 24 (Operand.tmp 14) 2, type := 0, pos := "ref.go:282", after := #[], guard := none }) (v := ?_) rfl (by kernel_rfl) (by kernel_rfl) (by kernel_rfl) (fun _ _ _ h => h) (Or.inl ⟨by rfl, ?_⟩) (by assumption) ?_
        rotate_left
        (intro w0 hSw; (try dsimp only at hSw); go_simp; try (with_reducible rfl))
        (try simp only [Act.put, List.setIfInBounds_toArray, List.set_cons_zero, List.set_cons_succ])
        refine wpAnyH_take (i := 3) (oi := { dst := some 116, op := Op.load 22 (Operand.tmp 115), type := 22, pos := "ref.go:282", after := #[{ on := 2, ground := Ground.data }], guard := none }) (v := ?_) rfl (by kernel_rfl) (by kernel_rfl) (by kernel_rfl) (fun _ _ _ h => h) (Or.inl ⟨by rfl, ?_⟩) (by assumption) ?_
        rotate_left
        (intro w0 hSw; (try dsimp only at hSw); go_simp; try (with_reducible rfl))
        (try simp only [Act.put, List.setIfInBounds_toArray, List.set_cons_zero, List.set_cons_succ])
        refine wpAnyH_take (i := 4) (oi := { dst := some 117, op := Op.move (Operand.tmp 1), type := 43, pos := "ref.go:282", after := #[], guard := none }) (v := ?_) rfl (by kernel_rfl) (by kernel_rfl) (by kernel_rfl) (fun _ _ _ h => h) (Or.inl ⟨by rfl, ?_⟩) (by assumption) ?_
        rotate_left
        (intro w0 hSw; (try dsimp only at hSw); go_simp; try (with_reducible rfl))
        (try simp only [Act.put, List.setIfInBounds_toArray, List.set_cons_zero, List.set_cons_succ])
        refine wpAnyH_take (i := 5) (oi := { dst := some 118, op := Op.move (Operand.tmp 16), type := 3, pos := "ref.go:282", after := #[], guard := none }) (v := ?_) rfl (by kernel_rfl) (by kernel_rfl) (by kernel_rfl) (fun _ _ _ h => h) (Or.inl ⟨by rfl, ?_⟩) (by assumption) ?_
        rotate_left
        (intro w0 hSw; (try dsimp only at hSw); go_simp; try (with_reducible rfl))
        (try simp only [Act.put, List.setIfInBounds_toArray, List.set_cons_zero, List.set_cons_succ])
        refine wpAnyH_take (i := 6) (oi := { dst := some 119, op := Op.indexAddr 43 (Operand.tmp 117) (Operand.tmp 118), type := 0, pos := "ref.go:282", after := #[{ on := 4, ground := Ground.data }, { on := 5, ground := Ground.data }], guard := none }) (v := ?_) rfl (by kernel_rfl) (by kernel_rfl) (by kernel_rfl) (fun _ _ _ h => h) (Or.inl ⟨by rfl, ?_⟩) (by assumption) ?_
        rotate_left
        (intro w0 hSw; (try dsimp only at hSw); go_simp; try (with_reducible rfl))
        (try simp only [Act.put, List.setIfInBounds_toArray, List.set_cons_zero, List.set_cons_succ])
        refine wpAnyH_take (i := 7) (oi := { dst := some 120, op := Op.load 3 (Operand.tmp 119), type := 3, pos := "ref.go:282", after := #[{ on := 6, ground := Ground.data }], guard := none }) (v := ?_) rfl (by kernel_rfl) (by kernel_rfl) (by kernel_rfl) (fun _ _ _ h => h) (Or.inl ⟨by rfl, ?_⟩) (by assumption) ?_
        rotate_left
        (intro w0 hSw; (try dsimp only at hSw); go_simp; try (with_reducible rfl))
        (try simp only [Act.put, List.setIfInBounds_toArray, List.set_cons_zero, List.set_cons_succ])
        refine wpAnyH_take (i := 8) (oi := { dst := some 121, op := Op.indexAddr 22 (Operand.tmp 116) (Operand.tmp 120), type := 0, pos := "ref.go:282", after := #[{ on := 3, ground := Ground.data }, { on := 7, ground := Ground.data }], guard := none }) (v := ?_) rfl (by kernel_rfl) (by kernel_rfl) (by kernel_rfl) (fun _ _ _ h => h) (Or.inl ⟨by rfl, ?_⟩) (by assumption) ?_
        rotate_left
        (intro w0 hSw; (try dsimp only at hSw); go_simp; try (with_reducible rfl))
        (try simp only [Act.put, List.setIfInBounds_toArray, List.set_cons_zero, List.set_cons_succ])
        refine wpAnyH_take (i := 9) (oi := { dst := some 122, op := Op.load 57 (Operand.tmp 121), type := 57, pos := "ref.go:282", after := #[{ on := 8, ground := Ground.data }], guard := none }) (v := ?_) rfl (by kernel_rfl) (by kernel_rfl) (by kernel_rfl) (fun _ _ _ h => h) (Or.inl ⟨by rfl, ?_⟩) (by assumption) ?_
        rotate_left
        (intro w0 hSw; (try dsimp only at hSw); go_simp; try (with_reducible rfl))
        (try simp only [Act.put, List.setIfInBounds_toArray, List.set_cons_zero, List.set_cons_succ])
        refine wpAnyH_ready (rs := [1, 10]) (by kernel_rfl) (by simp) (AllReadyH.cons (o := { dst := some 114, op := Op.load 22 (Operand.tmp 113), type := 22, pos := "ref.go:282", after := #[{ on := 0, ground := Ground.data }], guard := none }) rfl (fun K hK => ?_) (AllReadyH.cons (o := { dst := some 123, op := Op.buildSlice 22 1 #[(0, Operand.tmp 122)], type := 22, pos := "ref.go:282", after := #[{ on := 9, ground := Ground.data }], guard := none }) rfl (fun K hK => ?_) AllReadyH.nil))
        · go_simp
          refine hK.out _ _ (by exact hHeld) (fun hHeld => ?_)
          clear hK K
          (try simp only [Act.put, List.setIfInBounds_toArray, List.set_cons_zero, List.set_cons_succ])
          refine wpAnyH_ready (rs := [10]) (by kernel_rfl) (by simp) (AllReadyH.cons (o := { dst := some 123, op := Op.buildSlice 22 1 #[(0, Operand.tmp 122)], type := 22, pos := "ref.go:282", after := #[{ on := 9, ground := Ground.data }], guard := none }) rfl (fun K hK => ?_) AllReadyH.nil)
          go_simp
          refine hK.out _ _ (by exact s28_keep HS8.out (bal hHeld.1 _)) (fun hHeld => ?_)
          clear hK K
          (try simp only [Act.put, List.setIfInBounds_toArray, List.set_cons_zero, List.set_cons_succ])
          refine wpAnyH_ready (rs := [11]) (by kernel_rfl) (by simp) (AllReadyH.cons (o := { dst := some 124, op := Op.call { callee := Callee.builtin Builtin.append, args := #[Operand.tmp 114, Operand.tmp 123], argTypes := #[22, 22] }, type := 22, pos := "ref.go:282", after := #[{ on := 1, ground := Ground.data }, { on := 10, ground := Ground.data }], guard := none }) rfl (fun K hK => ?_) AllReadyH.nil)
          (refine step_own rfl _ _ 22 rfl V.heap.size 57 i0 _ 7 80 Try.underlying22 HI0.out HI1.out HI2.out HI4.out rfl (by decide) _ k (opw ((l.take k).map (gO os)) vs) rfl (own_below HROW.out (bal (below_drew (Below.refl _ _)) _)) ⟨_, 0, none⟩ 1 1 (opc o ak ck) rfl rfl (new_op _ _ (by simp) o _ _) (one_op o _ _) (by unfold maxLen; omega) (by omega) hHeld.1.size ?_; intro v8 w8 hown8 hgrow8 _; obtain ⟨hU8, hx8, hb8⟩ := (HRU.out.on (bal (below_drew (Below.refl _ _)) (.cells (opc o ak ck).toArray 57))).next (o := o) HQV.out HFT.out hgrow8 (by rw [hlm]; exact hown8); obtain ⟨a9, c9, rfl⟩ := own_shape hown8; have xc8 : ∀ j, w8.cell? ⟨X, j, none⟩ = _ := hx8.cell; have xf8 : ∀ j, w8.frozen? ⟨X, j, none⟩ = _ := hx8.free; have xl8 := hx8.lt)
          refine hK.out _ _ (by exact s28_keep HS8.out (hb8)) (fun hHeld => ?_)
          clear hK K
          (try simp only [Act.put, List.setIfInBounds_toArray, List.set_cons_zero, List.set_cons_succ])
          refine wpAnyH_ready (rs := [12]) (by kernel_rfl) (by simp) (AllReadyH.cons (o := { dst := some 125, op := Op.fieldAddr 24 (Operand.tmp 15) 2, type := 0, pos := "ref.go:282", after := #[{ on := 0, ground := Ground.phase }, { on := 1, ground := Ground.phase }, { on := 2, ground := Ground.phase }, { on := 3, ground := Ground.phase }, { on := 4, ground := Ground.phase }, { on := 5, ground := Ground.phase }, { on := 6, ground := Ground.phase }, { on := 7, ground := Ground.phase }, { on := 8, ground := Ground.phase }, { on := 9, ground := Ground.phase }, { on := 10, ground := Ground.phase }, { on := 11, ground := Ground.phase }], guard := none }) rfl (fun K hK => ?_) AllReadyH.nil)
          go_simp
          refine hK.out _ _ (by exact hHeld) (fun hHeld => ?_)
          clear hK K
          (try simp only [Act.put, List.setIfInBounds_toArray, List.set_cons_zero, List.set_cons_succ])
          refine wpAnyH_ready (rs := [13]) (by kernel_rfl) (by simp) (AllReadyH.cons (o := { dst := none, op := Op.store 22 (Operand.tmp 125) (Operand.tmp 124), type := 0, pos := "ref.go:282", after := #[{ on := 12, ground := Ground.data }, { on := 11, ground := Ground.data }, { on := 11, ground := Ground.chain }, { on := 0, ground := Ground.phase }, { on := 1, ground := Ground.phase }, { on := 2, ground := Ground.phase }, { on := 3, ground := Ground.phase }, { on := 4, ground := Ground.phase }, { on := 5, ground := Ground.phase }, { on := 6, ground := Ground.phase }, { on := 7, ground := Ground.phase }, { on := 8, ground := Ground.phase }, { on := 9, ground := Ground.phase }, { on := 10, ground := Ground.phase }, { on := 11, ground := Ground.phase }], guard := none }) rfl (fun K hK => ?_) AllReadyH.nil)
          go_simp
          refine hK.out _ _ (by exact s28_keep HS8.out (hU8.below)) (fun hHeld => ?_)
          clear hK K
          (try simp only [Act.put, List.setIfInBounds_toArray, List.set_cons_zero, List.set_cons_succ])
          refine wpAnyH_done (by kernel_rfl) ?_ _
          refine NoPanic.normal ?_
          have HU8 := hid hU8
          clear hU8 hx8 hb8 xc8 xf8 xl8 hHeld hown8 hgrow8 xc lX
          go_wp2
          go_roundw
          case rel => exact ⟨k + 1, by omega, by go_num, _, _, by rw [HTK.out]; exact HU8.out⟩
          case measure => simp [intOf]; omega
        · go_simp
          refine hK.out _ _ (by exact s28_keep HS8.out (bal hHeld.1 _)) (fun hHeld => ?_)
          clear hK K
          (try simp only [Act.put, List.setIfInBounds_toArray, List.set_cons_zero, List.set_cons_succ])
          refine wpAnyH_ready (rs := [1]) (by kernel_rfl) (by simp) (AllReadyH.cons (o := { dst := some 114, op := Op.load 22 (Operand.tmp 113), type := 22, pos := "ref.go:282", after := #[{ on := 0, ground := Ground.data }], guard := none }) rfl (fun K hK => ?_) AllReadyH.nil)
          go_simp
          refine hK.out _ _ (by exact hHeld) (fun hHeld => ?_)
          clear hK K
          (try simp only [Act.put, List.setIfInBounds_toArray, List.set_cons_zero, List.set_cons_succ])
          refine wpAnyH_ready (rs := [11]) (by kernel_rfl) (by simp) (AllReadyH.cons (o := { dst := some 124, op := Op.call { callee := Callee.builtin Builtin.append, args := #[Operand.tmp 114, Operand.tmp 123], argTypes := #[22, 22] }, type := 22, pos := "ref.go:282", after := #[{ on := 1, ground := Ground.data }, { on := 10, ground := Ground.data }], guard := none }) rfl (fun K hK => ?_) AllReadyH.nil)
          (refine step_own rfl _ _ 22 rfl V.heap.size 57 i0 _ 7 80 Try.underlying22 HI0.out HI1.out HI2.out HI4.out rfl (by decide) _ k (opw ((l.take k).map (gO os)) vs) rfl (own_below HROW.out (bal (below_drew (Below.refl _ _)) _)) ⟨_, 0, none⟩ 1 1 (opc o ak ck) rfl rfl (new_op _ _ (by simp) o _ _) (one_op o _ _) (by unfold maxLen; omega) (by omega) hHeld.1.size ?_; intro v8 w8 hown8 hgrow8 _; obtain ⟨hU8, hx8, hb8⟩ := (HRU.out.on (bal (below_drew (Below.refl _ _)) (.cells (opc o ak ck).toArray 57))).next (o := o) HQV.out HFT.out hgrow8 (by rw [hlm]; exact hown8); obtain ⟨a9, c9, rfl⟩ := own_shape hown8; have xc8 : ∀ j, w8.cell? ⟨X, j, none⟩ = _ := hx8.cell; have xf8 : ∀ j, w8.frozen? ⟨X, j, none⟩ = _ := hx8.free; have xl8 := hx8.lt)
          refine hK.out _ _ (by exact s28_keep HS8.out (hb8)) (fun hHeld => ?_)
          clear hK K
          (try simp only [Act.put, List.setIfInBounds_toArray, List.set_cons_zero, List.set_cons_succ])
          refine wpAnyH_ready (rs := [12]) (by kernel_rfl) (by simp) (AllReadyH.cons (o := { dst := some 125, op := Op.fieldAddr 24 (Operand.tmp 15) 2, type := 0, pos := "ref.go:282", after := #[{ on := 0, ground := Ground.phase }, { on := 1, ground := Ground.phase }, { on := 2, ground := Ground.phase }, { on := 3, ground := Ground.phase }, { on := 4, ground := Ground.phase }, { on := 5, ground := Ground.phase }, { on := 6, ground := Ground.phase }, { on := 7, ground := Ground.phase }, { on := 8, ground := Ground.phase }, { on := 9, ground := Ground.phase }, { on := 10, ground := Ground.phase }, { on := 11, ground := Ground.phase }], guard := none }) rfl (fun K hK => ?_) AllReadyH.nil)
          go_simp
          refine hK.out _ _ (by exact hHeld) (fun hHeld => ?_)
          clear hK K
          (try simp only [Act.put, List.setIfInBounds_toArray, List.set_cons_zero, List.set_cons_succ])
          refine wpAnyH_ready (rs := [13]) (by kernel_rfl) (by simp) (AllReadyH.cons (o := { dst := none, op := Op.store 22 (Operand.tmp 125) (Operand.tmp 124), type := 0, pos := "ref.go:282", after := #[{ on := 12, ground := Ground.data }, { on := 11, ground := Ground.data }, { on := 11, ground := Ground.chain }, { on := 0, ground := Ground.phase }, { on := 1, ground := Ground.phase }, { on := 2, ground := Ground.phase }, { on := 3, ground := Ground.phase }, { on := 4, ground := Ground.phase }, { on := 5, ground := Ground.phase }, { on := 6, ground := Ground.phase }, { on := 7, ground := Ground.phase }, { on := 8, ground := Ground.phase }, { on := 9, ground := Ground.phase }, { on := 10, ground := Ground.phase }, { on := 11, ground := Ground.phase }], guard := none }) rfl (fun K hK => ?_) AllReadyH.nil)
          go_simp
          refine hK.out _ _ (by exact s28_keep HS8.out (hU8.below)) (fun hHeld => ?_)
          clear hK K
          (try simp only [Act.put, List.setIfInBounds_toArray, List.set_cons_zero, List.set_cons_succ])
          refine wpAnyH_done (by kernel_rfl) ?_ _
          refine NoPanic.normal ?_
          have HU8 := hid hU8
          clear hU8 hx8 hb8 xc8 xf8 xl8 hHeld hown8 hgrow8 xc lX
          go_wp2
          go_roundw
          case rel => exact ⟨k + 1, by omega, by go_num, _, _, by rw [HTK.out]; exact HU8.out⟩
          case measure => simp [intOf]; omega


end Go.Proofs.Ytfaoegiignalkaa
