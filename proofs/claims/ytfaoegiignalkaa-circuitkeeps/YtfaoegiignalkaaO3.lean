/-
  The reference's steps of operations.
-/
import Derived.Test.YtfaoegiignalkaaO2
import Derived.Test.YtfaoegiignalkaaJ5
namespace Go.Proofs.Ytfaoegiignalkaa
open Go.RowKit Go.Shelf

abbrev noOq : Oq := ⟨0, ⟨#[]⟩, [], 0, false, 0, 0⟩
/-- An operation's step, those ahead of it being known: as far as the first j. -/
def stI (os : List Oq) (ss : List Nat) (o : Oq) : Nat → Nat
  | 0 => 0
  | j + 1 => if stI os ss o j ≤ ss.getD j 0 ∧ bdB (os.getD j noOq) o = true then ss.getD j 0 + 1 else stI os ss o j
/-- The first k operations' steps. -/
def stps (os : List Oq) : Nat → List Nat
  | 0 => []
  | k + 1 => stps os k ++ [stI os (stps os k) (os.getD k noOq) k]
theorem stps_len (os : List Oq) : ∀ k, (stps os k).length = k
  | 0 => rfl
  | k + 1 => by unfold stps; rw [List.length_append, stps_len os k]; rfl
theorem stI_le {os : List Oq} {ss : List Nat} {o : Oq} (h : ∀ j, ss.getD j 0 ≤ j) : ∀ j, stI os ss o j ≤ j
  | 0 => Nat.le_refl _
  | j + 1 => by
    unfold stI
    have h1 := stI_le (os := os) (o := o) h j
    have h2 := h j
    split <;> omega
theorem stps_le (os : List Oq) : ∀ k j, (stps os k).getD j 0 ≤ j
  | 0, j => by simp [stps]
  | k + 1, j => by
    unfold stps
    rw [List.getD_eq_getElem?_getD]
    by_cases h : j < k
    · rw [List.getElem?_append_left (by rw [stps_len]; exact h), ← List.getD_eq_getElem?_getD]
      exact stps_le os k j
    · rw [List.getElem?_append_right (by rw [stps_len]; omega), stps_len]
      by_cases e : j = k
      · subst e
        rw [Nat.sub_self]
        exact stI_le (fun j => stps_le os _ j) _
      · rw [List.getElem?_eq_none (by simp; omega)]
        exact Nat.zero_le _
theorem stI_lt {os : List Oq} {ss : List Nat} {o : Oq} {x : Nat} : ∀ j, x < stI os ss o j ↔ ∃ i, i < j ∧ bdB (os.getD i noOq) o = true ∧ x < ss.getD i 0 + 1
  | 0 => by simp [stI]
  | j + 1 => by
    have key : (∃ i, i < j + 1 ∧ bdB (os.getD i noOq) o = true ∧ x < ss.getD i 0 + 1) ↔ (∃ i, i < j ∧ bdB (os.getD i noOq) o = true ∧ x < ss.getD i 0 + 1) ∨ (bdB (os.getD j noOq) o = true ∧ x < ss.getD j 0 + 1) := by
      constructor
      · rintro ⟨i, hi, h⟩
        by_cases e : i = j
        · subst e; exact .inr h
        · exact .inl ⟨i, by omega, h⟩
      · rintro (⟨i, hi, h⟩ | h)
        · exact ⟨i, by omega, h⟩
        · exact ⟨j, by omega, h⟩
    rw [key, ← stI_lt j, show stI os ss o (j + 1) = if stI os ss o j ≤ ss.getD j 0 ∧ bdB (os.getD j noOq) o = true then ss.getD j 0 + 1 else stI os ss o j from rfl]
    by_cases hb : bdB (os.getD j noOq) o = true
    · by_cases hs : stI os ss o j ≤ ss.getD j 0
      · rw [if_pos ⟨hs, hb⟩]
        constructor
        · intro h; exact .inr ⟨hb, h⟩
        · rintro (h | ⟨_, h⟩) <;> omega
      · rw [if_neg (fun h => hs h.1)]
        constructor
        · exact .inl
        · rintro (h | ⟨_, h⟩) <;> omega
    · rw [if_neg (fun h => hb h.2)]
      exact ⟨.inl, fun h => h.elim id (fun h => absurd h.1 hb)⟩
/-- What Steps keeps: the circuit's box, the steps so far. -/
structure SP (w W : World) (c : Ci) (a : Option Addr) (cp : Nat) (v : Value) (ss : List Nat) : Prop where
  below : Below w.heap.size w W
  box : BK W w.heap.size #[.int .i64 c.q, .int .i64 c.b, .slice a c.ops.length cp] 24
  row : W.ownsRow w.heap.size 3 1 v ss.length (il ss)
theorem SP.on {w W W' : World} {c : Ci} {a : Option Addr} {cp : Nat} {v : Value} {ss : List Nat} (h : SP w W c a cp v ss) (hb : Below W.heap.size W W') : SP w W' c a cp v ss :=
  ⟨btr h.below hb, (hb.block _ h.box.lt).trans h.box, own_below h.row hb⟩
abbrev OP7 (W : World) (b o : Nat) (p : Oq) (a : Option Addr) (c : Nat) : Prop :=
  W.cell? ⟨b, o, none⟩ = some (.int .i64 p.k) ∧ W.cell? ⟨b, o + 1, none⟩ = some (.string p.n) ∧ W.cell? ⟨b, o + 2, none⟩ = some (.slice a p.qs.length c) ∧ W.cell? ⟨b, o + 3, none⟩ = some (.int .i64 p.b) ∧ W.cell? ⟨b, o + 4, none⟩ = some (.bool p.f) ∧ W.cell? ⟨b, o + 5, none⟩ = some (.int .u64 p.m) ∧ W.cell? ⟨b, o + 6, none⟩ = some (.int .u64 p.v)
theorem op7_on {V W : World} {b o : Nat} {p : Oq} {a : Option Addr} {c : Nat} (h : OP7 V b o p a c) (hl : b < V.heap.size) (hb : Below V.heap.size V W) : OP7 W b o p a c := by
  have k : ∀ j, W.cell? ⟨b, j, none⟩ = V.cell? ⟨b, j, none⟩ := fun j => hb.cell (p := ⟨b, j, none⟩) hl
  unfold OP7
  simp only [k]
  exact h
/-- What the test in Steps reads. -/
abbrev SS (V W : World) (s g j x : Nat) (a : Option Addr) (cp n b o1 o2 : Nat) (p1 p2 : Oq) (ak1 ak2 : Option Addr) (ck1 ck2 : Nat) : Prop :=
  Below V.heap.size V W ∧ W.cell? ⟨g, j, none⟩ = some (.int .i64 (x : Nat)) ∧ W.cell? ⟨s, 2, none⟩ = some (.slice a n cp) ∧ OP7 W b o1 p1 ak1 ck1 ∧ OP7 W b o2 p2 ak2 ck2 ∧ g < W.heap.size ∧ s < W.heap.size ∧ b < W.heap.size
theorem ss_keep {V W : World} {s g j x : Nat} {a : Option Addr} {cp n b o1 o2 : Nat} {p1 p2 : Oq} {ak1 ak2 : Option Addr} {ck1 ck2 : Nat} (h : SS V V s g j x a cp n b o1 o2 p1 p2 ak1 ak2 ck1 ck2) (hb : Below V.heap.size V W) : SS V W s g j x a cp n b o1 o2 p1 p2 ak1 ak2 ck1 ck2 := by
  obtain ⟨_, h1, h2, h3, h4, h5, h6, h7⟩ := h
  exact ⟨hb, (hb.cell (p := ⟨g, j, none⟩) h5).trans h1, (hb.cell (p := ⟨s, 2, none⟩) h6).trans h2, op7_on h3 h7 hb, op7_on h4 h7 hb, Nat.lt_of_lt_of_le h5 hb.size, Nat.lt_of_lt_of_le h6 hb.size, Nat.lt_of_lt_of_le h7 hb.size⟩
set_option maxHeartbeats 4000000 in
set_option maxRecDepth 100000 in
theorem steps_any (c : Ci) (a : Option Addr) (cp : Nat) (A : Nat → Option Addr) (C : Nat → Nat) (w : World) (H : OS w a cp c.ops A C) (hl4 : c.ops.length ≤ 4096) (hok : ∀ k (h : k < c.ops.length), Okay c.ops[k]) :
    Calls Try.prog 42 #[civ c a cp] w fun e w' => ∃ v, e = .returned v ∧ w'.ownsRow w.heap.size 3 1 v c.ops.length (il (stps c.ops c.ops.length)) ∧ Below w.heap.size w w' := by
  obtain ⟨i3, hi3, hz3, hs3, hb3⟩ := info_parts Try.info3
  have HI3 : Hid (Try.prog.info? 3 = some i3 ∧ i3.zero = some (.int .i64 0) ∧ i3.size = 1 ∧ i3.bytes = 8) := ⟨hi3, hz3, hs3, hb3⟩
  clear hi3 hz3 hs3 hb3
  have HO := hid H
  have HOK := hid hok
  have hcap := H.cap
  have hb0 := H.fit
  clear H hok
  obtain ⟨q, b, os⟩ := c
  simp only at *
  go_enter Try.func42, Try.ntmps42
  go_wp2
  go_loopw [3, 4] (fun v3 v4 wr => ∃ k : Nat, k ≤ os.length ∧ v4 = .int .i64 (k : Nat) ∧ SP w wr ⟨q, b, os⟩ a cp v3 (stps os k)) (fun _ s _ => os.length - (intOf s).toNat)
  case atStart => exact ⟨0, Nat.zero_le _, rfl, bal (Below.refl _ _) _, bk_new _ _ _, World.ownsRow_nil _ _ _ _⟩
  case round =>
    obtain ⟨k, hk, rfl, hi⟩ := hrel
    have x1 : ∀ j, wr.cell? ⟨w.heap.size, j, none⟩ = _ := hi.box.cell
    have l1 := hi.box.lt
    have HI := hid hi
    obtain ⟨av, cv, rfl, hcv⟩ := own_cap hi.row
    rw [stps_len] at hcv
    by_cases hlt : k < os.length
    case neg =>
      obtain rfl : k = os.length := by omega
      clear hi
      go_wp2
      go_ret
      exact ⟨.slice av (stps os os.length).length cv, rfl, by have := HI.out.row; rwa [stps_len] at this ⊢, HI.out.below⟩
    have hgd : os.getD k noOq = os[k] := by rw [List.getD_eq_getElem?_getD, List.getElem?_eq_getElem hlt]; rfl
    have hst : stps os (k + 1) = stps os k ++ [stI os (stps os k) os[k] k] := by rw [← hgd]; rfl
    have HST := hid hst
    have hsl := stps_len os k
    have HLE : Hid (∀ j, (stps os k).getD j 0 ≤ j) := stps_le os k
    clear hi hgd hst
    generalize stps os k = ss at *
    rw [hsl]
    go_wp2
    go_loopw [5, 6] (fun v5 v6 wr2 => ∃ j : Nat, j ≤ k ∧ v6 = .int .i64 (j : Nat) ∧ v5 = .int .i64 (stI os ss os[k] j : Nat) ∧ SP w wr2 ⟨q, b, os⟩ a cp (.slice av k cv) ss) (fun _ s _ => k - (intOf s).toNat)
    case atStart => exact ⟨0, Nat.zero_le _, rfl, rfl, by have := HI.out; rwa [hsl] at this⟩
    case round =>
      clear HI x1 l1
      obtain ⟨j, hj, rfl, rfl, hi2⟩ := hrel
      have HI2 := hid hi2
      have x1 : ∀ j, wr.cell? ⟨w.heap.size, j, none⟩ = _ := hi2.box.cell
      have l1 := hi2.box.lt
      by_cases hlt2 : j < k
      case neg =>
        obtain rfl : j = k := by omega
        have hrow := hi2.row
        rw [hsl] at hrow
        have HROW := hid hrow
        have hsb := hi2.below.size
        clear hi2 hrow
        generalize stI os ss os[j] j = s at *
        go_wp2_with (at_builtin; refine Hid.out ?_)
        refine hid ?_
        refine wpList_append_own_at _ rfl _ _ 43 rfl w.heap.size 3 i3 (.int .i64 0) 1 8 Try.underlying43 HI3.out.1 HI3.out.2.1 HI3.out.2.2.1 HI3.out.2.2.2 rfl (by decide) _ j (il ss) rfl (own_below HROW.out (bal (Below.refl _ _) _)) ⟨_, 0, none⟩ 1 1 [.int .i64 (s : Nat)] rfl rfl (new_one _ _ (by simp) _ 3) (one_one _ rfl) (by unfold maxLen; omega) (by omega) (by simp; omega) ?_
        intro v6 w6 hown6 hgrow6 _ _
        have hN : SP w w6 ⟨q, b, os⟩ a cp v6 (stps os (j + 1)) := by
          rw [HST.out]
          have h1 := HI2.out.on (bal (Below.refl _ _) (.cells #[.int .i64 (s : Nat)] 3))
          refine ⟨h1.below.grown hgrow6 h1.below.size (fun g e => (HROW.out.lt g e).1), (hgrow6.block _ h1.box.lt (fun e => own_ne h1.row h1.box (by decide) _ e.symm rfl)).trans h1.box, ?_⟩
          rw [il_snoc, List.length_append, hsl]
          exact hown6
        obtain ⟨a6, c6, rfl⟩ := own_shape hown6
        have HN := hid hN
        clear hN hown6 hgrow6
        go_wp2
        go_roundw
        case rel => exact ⟨j + 1, by omega, by go_num, HN.out⟩
        case measure => simp [intOf]; omega
      have hltj : j < os.length := by omega
      have hrow := hi2.row
      rw [hsl] at hrow
      obtain ⟨g, cap, e, hcc, hfz, hcell, hBg, hgl⟩ := own_at hrow (by omega)
      cases e
      clear hrow
      obtain ⟨b', o', rfl, r⟩ := (HO.out.below hi2.below).at_ j hltj
      have hjs : j < ss.length := by omega
      have hx : wr.cell? ⟨g, j, none⟩ = some (.int .i64 (ss.getD j 0 : Nat)) := by
        rw [hcell j (by simp [il]; omega), List.getD_eq_getElem?_getD, List.getElem?_eq_getElem hjs]
        simp [il]
      have hstI : stI os ss os[k] (j + 1) = if stI os ss os[k] j ≤ ss.getD j 0 ∧ bdB os[j] os[k] = true then ss.getD j 0 + 1 else stI os ss os[k] j := by
        have hgd : os.getD j noOq = os[j] := by rw [List.getD_eq_getElem?_getD, List.getElem?_eq_getElem hltj]; rfl
        rw [← hgd]
        rfl
      have HSI := hid hstI
      have HSS : Hid (SS wr wr w.heap.size g j (ss.getD j 0) (some ⟨b', o', none⟩) cp os.length b' (o' + j * 7) (o' + k * 7) os[j] os[k] (A j) (A k) (C j) (C k)) :=
        ⟨Below.refl _ _, hx, hi2.box.cell 2, ⟨r.c0 j hltj, r.c1 j hltj, r.c2 j hltj, r.c3 j hltj, r.c4 j hltj, r.c5 j hltj, r.c6 j hltj⟩, ⟨r.c0 k hlt, r.c1 k hlt, r.c2 k hlt, r.c3 k hlt, r.c4 k hlt, r.c5 k hlt, r.c6 k hlt⟩, hgl, l1, r.lt⟩
      have HQ1 := hid (HO.out.qs j hltj)
      have HQ2 := hid (HO.out.qs k hlt)
      have ok1 := HOK.out j hltj
      have ok2 := HOK.out k hlt
      have BD := fun w1 (g1 : QS w1 (A j) (C j) (os[j]'hltj).qs) (g2 : QS w1 (A k) (C k) (os[k]'hlt).qs) => bound_any (os[j]'hltj) (os[k]'hlt) (A j) (A k) (C j) (C k) w1 ok1 ok2 g1 g2
      have hxj := HLE.out j
      have hsj := stI_le (os := os) (o := os[k]) HLE.out j
      have HBB : Hid (stI os ss os[k] (j + 1) ≤ k + 1) := by have := stI_le (os := os) (o := os[k]) HLE.out (j + 1); show _ ≤ _; omega
      clear hcell hfz hBg r hi2 hstI ok1 ok2 x1 HST
      generalize hx1 : stI os ss os[k] (j + 1) = s1 at *
      generalize stI os ss os[k] j = s at *
      generalize ss.getD j 0 = x at *
      generalize bdB os[j] os[k] = B at *
      generalize os[j] = p1 at *
      generalize hp2 : os[k] = p2 at *
      generalize A j = ak1 at *
      generalize A k = ak2 at *
      generalize C j = ck1 at *
      generalize C k = ck2 at *
      by_cases hge : s ≤ x
      · have hge' : (s : Int) ≤ (x : Int) := by omega
        cases B with
        | true =>
          have HS1 : Hid (s1 = x + 1) := by show _ = _; rw [HSI.out, if_pos ⟨hge, rfl⟩]
          go_upto_region 9 with (fail)
          refine wp_region_noPanic ?_
          refine wp_region_held_drew (S := fun w' => SS wr w' w.heap.size g j x (some ⟨b', o', none⟩) cp os.length b' (o' + j * 7) (o' + k * 7) p1 p2 ak1 ak2 ck1 ck2) (by kernel_rfl) (by exact ss_keep HSS.out (below_drew (Below.refl _ _))) (fun hHeld => ?_)
          refine wpAnyH_take (i := 0) (oi := { dst := some 19, op := Op.move (Operand.tmp 3), type := 43, pos := "ref.go:230", after := #[], guard := none }) (v := ?_) rfl (by kernel_rfl) (by kernel_rfl) (by kernel_rfl) (fun _ _ _ h => h) (Or.inl ⟨by rfl, ?_⟩) (by assumption) ?_
          rotate_left
          (intro w0 hSw; (try dsimp only at hSw); go_simp; try (with_reducible rfl))
          (try simp only [Act.put, List.setIfInBounds_toArray, List.set_cons_zero, List.set_cons_succ])
          refine wpAnyH_take (i := 1) (oi := { dst := some 20, op := Op.move (Operand.tmp 6), type := 3, pos := "ref.go:230", after := #[], guard := none }) (v := ?_) rfl (by kernel_rfl) (by kernel_rfl) (by kernel_rfl) (fun _ _ _ h => h) (Or.inl ⟨by rfl, ?_⟩) (by assumption) ?_
          rotate_left
          (intro w0 hSw; (try dsimp only at hSw); go_simp; try (with_reducible rfl))
          (try simp only [Act.put, List.setIfInBounds_toArray, List.set_cons_zero, List.set_cons_succ])
          refine wpAnyH_take (i := 2) (oi := { dst := some 21, op := Op.indexAddr 43 (Operand.tmp 19) (Operand.tmp 20), type := 0, pos := "ref.go:230", after := #[{ on := 0, ground := Ground.data }, { on := 1, ground := Ground.data }], guard := none }) (v := ?_) rfl (by kernel_rfl) (by kernel_rfl) (by kernel_rfl) (fun _ _ _ h => h) (Or.inl ⟨by rfl, ?_⟩) (by assumption) ?_
          rotate_left
          (intro w0 hSw; (try dsimp only at hSw); go_simp; try (with_reducible rfl))
          (try simp only [Act.put, List.setIfInBounds_toArray, List.set_cons_zero, List.set_cons_succ])
          refine wpAnyH_take (i := 3) (oi := { dst := some 22, op := Op.load 3 (Operand.tmp 21), type := 3, pos := "ref.go:230", after := #[{ on := 2, ground := Ground.data }], guard := none }) (v := ?_) rfl (by kernel_rfl) (by kernel_rfl) (by kernel_rfl) (fun _ _ _ h => h) (Or.inl ⟨by rfl, ?_⟩) (by assumption) ?_
          rotate_left
          (intro w0 hSw; (try dsimp only at hSw); go_simp; try (with_reducible rfl))
          (try simp only [Act.put, List.setIfInBounds_toArray, List.set_cons_zero, List.set_cons_succ])
          refine wpAnyH_take (i := 4) (oi := { dst := some 23, op := Op.move (Operand.tmp 5), type := 3, pos := "ref.go:230", after := #[], guard := none }) (v := ?_) rfl (by kernel_rfl) (by kernel_rfl) (by kernel_rfl) (fun _ _ _ h => h) (Or.inl ⟨by rfl, ?_⟩) (by assumption) ?_
          rotate_left
          (intro w0 hSw; (try dsimp only at hSw); go_simp; try (with_reducible rfl))
          (try simp only [Act.put, List.setIfInBounds_toArray, List.set_cons_zero, List.set_cons_succ])
          refine wpAnyH_take (i := 5) (oi := { dst := some 24, op := Op.binOp BinOp.geq 3 (Operand.tmp 22) (Operand.tmp 23) 3, type := 4, pos := "ref.go:230", after := #[{ on := 3, ground := Ground.data }, { on := 4, ground := Ground.data }], guard := none }) (v := ?_) rfl (by kernel_rfl) (by kernel_rfl) (by kernel_rfl) (fun _ _ _ h => h) (Or.inl ⟨by rfl, ?_⟩) (by assumption) ?_
          rotate_left
          (intro w0 hSw; (try dsimp only at hSw); go_simp; try (with_reducible rfl))
          (try simp only [Act.put, List.setIfInBounds_toArray, List.set_cons_zero, List.set_cons_succ])
          refine wpAnyH_take (i := 6) (oi := { dst := some 25, op := Op.move (Operand.tmp 24), type := 4, pos := "ref.go:230", after := #[{ on := 5, ground := Ground.data }], guard := none }) (v := ?_) rfl (by kernel_rfl) (by kernel_rfl) (by kernel_rfl) (fun _ _ _ h => h) (Or.inl ⟨by rfl, ?_⟩) (by assumption) ?_
          rotate_left
          (intro w0 hSw; (try dsimp only at hSw); go_simp; try (with_reducible rfl))
          (try simp only [Act.put, List.setIfInBounds_toArray, List.set_cons_zero, List.set_cons_succ])
          refine wpAnyH_take (i := 7) (oi := { dst := some 26, op := Op.fieldAddr 24 (Operand.tmp 1) 2, type := 0, pos := "ref.go:230", after := #[{ on := 6, ground := Ground.guard }], guard := some (6, true) }) (v := ?_) rfl (by kernel_rfl) (by kernel_rfl) (by kernel_rfl) (fun _ _ _ h => h) (Or.inl ⟨by rfl, ?_⟩) (by assumption) ?_
          rotate_left
          (intro w0 hSw; (try dsimp only at hSw); go_simp; try (with_reducible rfl))
          (try simp only [Act.put, List.setIfInBounds_toArray, List.set_cons_zero, List.set_cons_succ])
          refine wpAnyH_take (i := 8) (oi := { dst := some 27, op := Op.load 22 (Operand.tmp 26), type := 22, pos := "ref.go:230", after := #[{ on := 7, ground := Ground.data }, { on := 6, ground := Ground.guard }], guard := some (6, true) }) (v := ?_) rfl (by kernel_rfl) (by kernel_rfl) (by kernel_rfl) (fun _ _ _ h => h) (Or.inl ⟨by rfl, ?_⟩) (by assumption) ?_
          rotate_left
          (intro w0 hSw; (try dsimp only at hSw); go_simp; try (with_reducible rfl))
          (try simp only [Act.put, List.setIfInBounds_toArray, List.set_cons_zero, List.set_cons_succ])
          refine wpAnyH_take (i := 9) (oi := { dst := some 28, op := Op.move (Operand.tmp 6), type := 3, pos := "ref.go:230", after := #[{ on := 6, ground := Ground.guard }], guard := some (6, true) }) (v := ?_) rfl (by kernel_rfl) (by kernel_rfl) (by kernel_rfl) (fun _ _ _ h => h) (Or.inl ⟨by rfl, ?_⟩) (by assumption) ?_
          rotate_left
          (intro w0 hSw; (try dsimp only at hSw); go_simp; try (with_reducible rfl))
          (try simp only [Act.put, List.setIfInBounds_toArray, List.set_cons_zero, List.set_cons_succ])
          refine wpAnyH_take (i := 10) (oi := { dst := some 29, op := Op.indexAddr 22 (Operand.tmp 27) (Operand.tmp 28), type := 0, pos := "ref.go:230", after := #[{ on := 8, ground := Ground.data }, { on := 9, ground := Ground.data }, { on := 6, ground := Ground.guard }], guard := some (6, true) }) (v := ?_) rfl (by kernel_rfl) (by kernel_rfl) (by kernel_rfl) (fun _ _ _ h => h) (Or.inl ⟨by rfl, ?_⟩) (by assumption) ?_
          rotate_left
          (intro w0 hSw; (try dsimp only at hSw); go_simp; try (with_reducible rfl))
          (try simp only [Act.put, List.setIfInBounds_toArray, List.set_cons_zero, List.set_cons_succ])
          refine wpAnyH_take (i := 11) (oi := { dst := some 30, op := Op.load 57 (Operand.tmp 29), type := 57, pos := "ref.go:230", after := #[{ on := 10, ground := Ground.data }, { on := 6, ground := Ground.guard }], guard := some (6, true) }) (v := ?_) rfl (by kernel_rfl) (by kernel_rfl) (by kernel_rfl) (fun _ _ _ h => h) (Or.inl ⟨by rfl, ?_⟩) (by assumption) ?_
          rotate_left
          (intro w0 hSw; (try dsimp only at hSw); go_simp; try (with_reducible rfl))
          (try simp only [Act.put, List.setIfInBounds_toArray, List.set_cons_zero, List.set_cons_succ])
          refine wpAnyH_take (i := 12) (oi := { dst := some 31, op := Op.fieldAddr 24 (Operand.tmp 1) 2, type := 0, pos := "ref.go:230", after := #[{ on := 6, ground := Ground.guard }], guard := some (6, true) }) (v := ?_) rfl (by kernel_rfl) (by kernel_rfl) (by kernel_rfl) (fun _ _ _ h => h) (Or.inl ⟨by rfl, ?_⟩) (by assumption) ?_
          rotate_left
          (intro w0 hSw; (try dsimp only at hSw); go_simp; try (with_reducible rfl))
          (try simp only [Act.put, List.setIfInBounds_toArray, List.set_cons_zero, List.set_cons_succ])
          refine wpAnyH_take (i := 13) (oi := { dst := some 32, op := Op.load 22 (Operand.tmp 31), type := 22, pos := "ref.go:230", after := #[{ on := 12, ground := Ground.data }, { on := 6, ground := Ground.guard }], guard := some (6, true) }) (v := ?_) rfl (by kernel_rfl) (by kernel_rfl) (by kernel_rfl) (fun _ _ _ h => h) (Or.inl ⟨by rfl, ?_⟩) (by assumption) ?_
          rotate_left
          (intro w0 hSw; (try dsimp only at hSw); go_simp; try (with_reducible rfl))
          (try simp only [Act.put, List.setIfInBounds_toArray, List.set_cons_zero, List.set_cons_succ])
          refine wpAnyH_take (i := 14) (oi := { dst := some 33, op := Op.move (Operand.tmp 4), type := 3, pos := "ref.go:230", after := #[{ on := 6, ground := Ground.guard }], guard := some (6, true) }) (v := ?_) rfl (by kernel_rfl) (by kernel_rfl) (by kernel_rfl) (fun _ _ _ h => h) (Or.inl ⟨by rfl, ?_⟩) (by assumption) ?_
          rotate_left
          (intro w0 hSw; (try dsimp only at hSw); go_simp; try (with_reducible rfl))
          (try simp only [Act.put, List.setIfInBounds_toArray, List.set_cons_zero, List.set_cons_succ])
          refine wpAnyH_take (i := 15) (oi := { dst := some 34, op := Op.indexAddr 22 (Operand.tmp 32) (Operand.tmp 33), type := 0, pos := "ref.go:230", after := #[{ on := 13, ground := Ground.data }, { on := 14, ground := Ground.data }, { on := 6, ground := Ground.guard }], guard := some (6, true) }) (v := ?_) rfl (by kernel_rfl) (by kernel_rfl) (by kernel_rfl) (fun _ _ _ h => h) (Or.inl ⟨by rfl, ?_⟩) (by assumption) ?_
          rotate_left
          (intro w0 hSw; (try dsimp only at hSw); go_simp; try (with_reducible rfl))
          (try simp only [Act.put, List.setIfInBounds_toArray, List.set_cons_zero, List.set_cons_succ])
          refine wpAnyH_take (i := 16) (oi := { dst := some 35, op := Op.load 57 (Operand.tmp 34), type := 57, pos := "ref.go:230", after := #[{ on := 15, ground := Ground.data }, { on := 6, ground := Ground.guard }], guard := some (6, true) }) (v := ?_) rfl (by kernel_rfl) (by kernel_rfl) (by kernel_rfl) (fun _ _ _ h => h) (Or.inl ⟨by rfl, ?_⟩) (by assumption) ?_
          rotate_left
          (intro w0 hSw; (try dsimp only at hSw); go_simp; try (with_reducible rfl))
          (try simp only [Act.put, List.setIfInBounds_toArray, List.set_cons_zero, List.set_cons_succ])
          refine wpAnyH_ready (rs := [17]) (by kernel_rfl) (by simp) (AllReadyH.cons (o := { dst := some 36, op := Op.call { callee := Callee.value (Operand.func 28), args := #[Operand.tmp 30, Operand.tmp 35], argTypes := #[57, 57] }, type := 4, pos := "ref.go:230", after := #[{ on := 11, ground := Ground.data }, { on := 16, ground := Ground.data }, { on := 6, ground := Ground.chain }, { on := 6, ground := Ground.guard }], guard := some (6, true) }) rfl (fun K hK => ?_) AllReadyH.nil)
          go_simp
          ((with_reducible refine (BD _ (HQ1.out.below (btr HI2.out.below hHeld.1)) (HQ2.out.below (btr HI2.out.below hHeld.1))).mono ?_); rintro e w3 ⟨rfl, hB3⟩; have hL : Below wr.heap.size wr w3 := btr hHeld.1 hB3; clear hHeld)
          refine hK.out _ _ (by exact ss_keep HSS.out hL) (fun hHeld => ?_)
          clear hK K
          (try simp only [Act.put, List.setIfInBounds_toArray, List.set_cons_zero, List.set_cons_succ])
          refine wpAnyH_take (i := 18) (oi := { dst := some 37, op := Op.pick (Operand.tmp 25) (Operand.tmp 36) (Operand.const (Value.bool false)), type := 4, pos := "ref.go:230", after := #[{ on := 6, ground := Ground.data }, { on := 17, ground := Ground.data }], guard := none }) (v := ?_) rfl (by kernel_rfl) (by kernel_rfl) (by kernel_rfl) (fun _ _ _ h => h) (Or.inl ⟨by rfl, ?_⟩) (by assumption) ?_
          rotate_left
          (intro w0 hSw; (try dsimp only at hSw); go_simp; try (with_reducible rfl))
          (try simp only [Act.put, List.setIfInBounds_toArray, List.set_cons_zero, List.set_cons_succ])
          refine wpAnyH_done (by kernel_rfl) ?_ _
          refine NoPanic.normal ?_
          have HI3' := HI2.out.on hL
          have hx2 := hHeld.2.1
          have hgl2 := hHeld.2.2.2.2.2.1
          clear hHeld HSS BD hx
          go_wp2
          go_roundw
          case rel => exact ⟨j + 1, by omega, by go_num, by rw [hx1, HS1.out]; simp, HI3'⟩
          case measure => simp [intOf]; omega
        | false =>
          have HS1 : Hid (s1 = s) := by show _ = _; rw [HSI.out, if_neg (fun h => by cases h.2)]
          go_upto_region 9 with (fail)
          refine wp_region_noPanic ?_
          refine wp_region_held_drew (S := fun w' => SS wr w' w.heap.size g j x (some ⟨b', o', none⟩) cp os.length b' (o' + j * 7) (o' + k * 7) p1 p2 ak1 ak2 ck1 ck2) (by kernel_rfl) (by exact ss_keep HSS.out (below_drew (Below.refl _ _))) (fun hHeld => ?_)
          refine wpAnyH_take (i := 0) (oi := { dst := some 19, op := Op.move (Operand.tmp 3), type := 43, pos := "ref.go:230", after := #[], guard := none }) (v := ?_) rfl (by kernel_rfl) (by kernel_rfl) (by kernel_rfl) (fun _ _ _ h => h) (Or.inl ⟨by rfl, ?_⟩) (by assumption) ?_
          rotate_left
          (intro w0 hSw; (try dsimp only at hSw); go_simp; try (with_reducible rfl))
          (try simp only [Act.put, List.setIfInBounds_toArray, List.set_cons_zero, List.set_cons_succ])
          refine wpAnyH_take (i := 1) (oi := { dst := some 20, op := Op.move (Operand.tmp 6), type := 3, pos := "ref.go:230", after := #[], guard := none }) (v := ?_) rfl (by kernel_rfl) (by kernel_rfl) (by kernel_rfl) (fun _ _ _ h => h) (Or.inl ⟨by rfl, ?_⟩) (by assumption) ?_
          rotate_left
          (intro w0 hSw; (try dsimp only at hSw); go_simp; try (with_reducible rfl))
          (try simp only [Act.put, List.setIfInBounds_toArray, List.set_cons_zero, List.set_cons_succ])
          refine wpAnyH_take (i := 2) (oi := { dst := some 21, op := Op.indexAddr 43 (Operand.tmp 19) (Operand.tmp 20), type := 0, pos := "ref.go:230", after := #[{ on := 0, ground := Ground.data }, { on := 1, ground := Ground.data }], guard := none }) (v := ?_) rfl (by kernel_rfl) (by kernel_rfl) (by kernel_rfl) (fun _ _ _ h => h) (Or.inl ⟨by rfl, ?_⟩) (by assumption) ?_
          rotate_left
          (intro w0 hSw; (try dsimp only at hSw); go_simp; try (with_reducible rfl))
          (try simp only [Act.put, List.setIfInBounds_toArray, List.set_cons_zero, List.set_cons_succ])
          refine wpAnyH_take (i := 3) (oi := { dst := some 22, op := Op.load 3 (Operand.tmp 21), type := 3, pos := "ref.go:230", after := #[{ on := 2, ground := Ground.data }], guard := none }) (v := ?_) rfl (by kernel_rfl) (by kernel_rfl) (by kernel_rfl) (fun _ _ _ h => h) (Or.inl ⟨by rfl, ?_⟩) (by assumption) ?_
          rotate_left
          (intro w0 hSw; (try dsimp only at hSw); go_simp; try (with_reducible rfl))
          (try simp only [Act.put, List.setIfInBounds_toArray, List.set_cons_zero, List.set_cons_succ])
          refine wpAnyH_take (i := 4) (oi := { dst := some 23, op := Op.move (Operand.tmp 5), type := 3, pos := "ref.go:230", after := #[], guard := none }) (v := ?_) rfl (by kernel_rfl) (by kernel_rfl) (by kernel_rfl) (fun _ _ _ h => h) (Or.inl ⟨by rfl, ?_⟩) (by assumption) ?_
          rotate_left
          (intro w0 hSw; (try dsimp only at hSw); go_simp; try (with_reducible rfl))
          (try simp only [Act.put, List.setIfInBounds_toArray, List.set_cons_zero, List.set_cons_succ])
          refine wpAnyH_take (i := 5) (oi := { dst := some 24, op := Op.binOp BinOp.geq 3 (Operand.tmp 22) (Operand.tmp 23) 3, type := 4, pos := "ref.go:230", after := #[{ on := 3, ground := Ground.data }, { on := 4, ground := Ground.data }], guard := none }) (v := ?_) rfl (by kernel_rfl) (by kernel_rfl) (by kernel_rfl) (fun _ _ _ h => h) (Or.inl ⟨by rfl, ?_⟩) (by assumption) ?_
          rotate_left
          (intro w0 hSw; (try dsimp only at hSw); go_simp; try (with_reducible rfl))
          (try simp only [Act.put, List.setIfInBounds_toArray, List.set_cons_zero, List.set_cons_succ])
          refine wpAnyH_take (i := 6) (oi := { dst := some 25, op := Op.move (Operand.tmp 24), type := 4, pos := "ref.go:230", after := #[{ on := 5, ground := Ground.data }], guard := none }) (v := ?_) rfl (by kernel_rfl) (by kernel_rfl) (by kernel_rfl) (fun _ _ _ h => h) (Or.inl ⟨by rfl, ?_⟩) (by assumption) ?_
          rotate_left
          (intro w0 hSw; (try dsimp only at hSw); go_simp; try (with_reducible rfl))
          (try simp only [Act.put, List.setIfInBounds_toArray, List.set_cons_zero, List.set_cons_succ])
          refine wpAnyH_take (i := 7) (oi := { dst := some 26, op := Op.fieldAddr 24 (Operand.tmp 1) 2, type := 0, pos := "ref.go:230", after := #[{ on := 6, ground := Ground.guard }], guard := some (6, true) }) (v := ?_) rfl (by kernel_rfl) (by kernel_rfl) (by kernel_rfl) (fun _ _ _ h => h) (Or.inl ⟨by rfl, ?_⟩) (by assumption) ?_
          rotate_left
          (intro w0 hSw; (try dsimp only at hSw); go_simp; try (with_reducible rfl))
          (try simp only [Act.put, List.setIfInBounds_toArray, List.set_cons_zero, List.set_cons_succ])
          refine wpAnyH_take (i := 8) (oi := { dst := some 27, op := Op.load 22 (Operand.tmp 26), type := 22, pos := "ref.go:230", after := #[{ on := 7, ground := Ground.data }, { on := 6, ground := Ground.guard }], guard := some (6, true) }) (v := ?_) rfl (by kernel_rfl) (by kernel_rfl) (by kernel_rfl) (fun _ _ _ h => h) (Or.inl ⟨by rfl, ?_⟩) (by assumption) ?_
          rotate_left
          (intro w0 hSw; (try dsimp only at hSw); go_simp; try (with_reducible rfl))
          (try simp only [Act.put, List.setIfInBounds_toArray, List.set_cons_zero, List.set_cons_succ])
          refine wpAnyH_take (i := 9) (oi := { dst := some 28, op := Op.move (Operand.tmp 6), type := 3, pos := "ref.go:230", after := #[{ on := 6, ground := Ground.guard }], guard := some (6, true) }) (v := ?_) rfl (by kernel_rfl) (by kernel_rfl) (by kernel_rfl) (fun _ _ _ h => h) (Or.inl ⟨by rfl, ?_⟩) (by assumption) ?_
          rotate_left
          (intro w0 hSw; (try dsimp only at hSw); go_simp; try (with_reducible rfl))
          (try simp only [Act.put, List.setIfInBounds_toArray, List.set_cons_zero, List.set_cons_succ])
          refine wpAnyH_take (i := 10) (oi := { dst := some 29, op := Op.indexAddr 22 (Operand.tmp 27) (Operand.tmp 28), type := 0, pos := "ref.go:230", after := #[{ on := 8, ground := Ground.data }, { on := 9, ground := Ground.data }, { on := 6, ground := Ground.guard }], guard := some (6, true) }) (v := ?_) rfl (by kernel_rfl) (by kernel_rfl) (by kernel_rfl) (fun _ _ _ h => h) (Or.inl ⟨by rfl, ?_⟩) (by assumption) ?_
          rotate_left
          (intro w0 hSw; (try dsimp only at hSw); go_simp; try (with_reducible rfl))
          (try simp only [Act.put, List.setIfInBounds_toArray, List.set_cons_zero, List.set_cons_succ])
          refine wpAnyH_take (i := 11) (oi := { dst := some 30, op := Op.load 57 (Operand.tmp 29), type := 57, pos := "ref.go:230", after := #[{ on := 10, ground := Ground.data }, { on := 6, ground := Ground.guard }], guard := some (6, true) }) (v := ?_) rfl (by kernel_rfl) (by kernel_rfl) (by kernel_rfl) (fun _ _ _ h => h) (Or.inl ⟨by rfl, ?_⟩) (by assumption) ?_
          rotate_left
          (intro w0 hSw; (try dsimp only at hSw); go_simp; try (with_reducible rfl))
          (try simp only [Act.put, List.setIfInBounds_toArray, List.set_cons_zero, List.set_cons_succ])
          refine wpAnyH_take (i := 12) (oi := { dst := some 31, op := Op.fieldAddr 24 (Operand.tmp 1) 2, type := 0, pos := "ref.go:230", after := #[{ on := 6, ground := Ground.guard }], guard := some (6, true) }) (v := ?_) rfl (by kernel_rfl) (by kernel_rfl) (by kernel_rfl) (fun _ _ _ h => h) (Or.inl ⟨by rfl, ?_⟩) (by assumption) ?_
          rotate_left
          (intro w0 hSw; (try dsimp only at hSw); go_simp; try (with_reducible rfl))
          (try simp only [Act.put, List.setIfInBounds_toArray, List.set_cons_zero, List.set_cons_succ])
          refine wpAnyH_take (i := 13) (oi := { dst := some 32, op := Op.load 22 (Operand.tmp 31), type := 22, pos := "ref.go:230", after := #[{ on := 12, ground := Ground.data }, { on := 6, ground := Ground.guard }], guard := some (6, true) }) (v := ?_) rfl (by kernel_rfl) (by kernel_rfl) (by kernel_rfl) (fun _ _ _ h => h) (Or.inl ⟨by rfl, ?_⟩) (by assumption) ?_
          rotate_left
          (intro w0 hSw; (try dsimp only at hSw); go_simp; try (with_reducible rfl))
          (try simp only [Act.put, List.setIfInBounds_toArray, List.set_cons_zero, List.set_cons_succ])
          refine wpAnyH_take (i := 14) (oi := { dst := some 33, op := Op.move (Operand.tmp 4), type := 3, pos := "ref.go:230", after := #[{ on := 6, ground := Ground.guard }], guard := some (6, true) }) (v := ?_) rfl (by kernel_rfl) (by kernel_rfl) (by kernel_rfl) (fun _ _ _ h => h) (Or.inl ⟨by rfl, ?_⟩) (by assumption) ?_
          rotate_left
          (intro w0 hSw; (try dsimp only at hSw); go_simp; try (with_reducible rfl))
          (try simp only [Act.put, List.setIfInBounds_toArray, List.set_cons_zero, List.set_cons_succ])
          refine wpAnyH_take (i := 15) (oi := { dst := some 34, op := Op.indexAddr 22 (Operand.tmp 32) (Operand.tmp 33), type := 0, pos := "ref.go:230", after := #[{ on := 13, ground := Ground.data }, { on := 14, ground := Ground.data }, { on := 6, ground := Ground.guard }], guard := some (6, true) }) (v := ?_) rfl (by kernel_rfl) (by kernel_rfl) (by kernel_rfl) (fun _ _ _ h => h) (Or.inl ⟨by rfl, ?_⟩) (by assumption) ?_
          rotate_left
          (intro w0 hSw; (try dsimp only at hSw); go_simp; try (with_reducible rfl))
          (try simp only [Act.put, List.setIfInBounds_toArray, List.set_cons_zero, List.set_cons_succ])
          refine wpAnyH_take (i := 16) (oi := { dst := some 35, op := Op.load 57 (Operand.tmp 34), type := 57, pos := "ref.go:230", after := #[{ on := 15, ground := Ground.data }, { on := 6, ground := Ground.guard }], guard := some (6, true) }) (v := ?_) rfl (by kernel_rfl) (by kernel_rfl) (by kernel_rfl) (fun _ _ _ h => h) (Or.inl ⟨by rfl, ?_⟩) (by assumption) ?_
          rotate_left
          (intro w0 hSw; (try dsimp only at hSw); go_simp; try (with_reducible rfl))
          (try simp only [Act.put, List.setIfInBounds_toArray, List.set_cons_zero, List.set_cons_succ])
          refine wpAnyH_ready (rs := [17]) (by kernel_rfl) (by simp) (AllReadyH.cons (o := { dst := some 36, op := Op.call { callee := Callee.value (Operand.func 28), args := #[Operand.tmp 30, Operand.tmp 35], argTypes := #[57, 57] }, type := 4, pos := "ref.go:230", after := #[{ on := 11, ground := Ground.data }, { on := 16, ground := Ground.data }, { on := 6, ground := Ground.chain }, { on := 6, ground := Ground.guard }], guard := some (6, true) }) rfl (fun K hK => ?_) AllReadyH.nil)
          go_simp
          ((with_reducible refine (BD _ (HQ1.out.below (btr HI2.out.below hHeld.1)) (HQ2.out.below (btr HI2.out.below hHeld.1))).mono ?_); rintro e w3 ⟨rfl, hB3⟩; have hL : Below wr.heap.size wr w3 := btr hHeld.1 hB3; clear hHeld)
          refine hK.out _ _ (by exact ss_keep HSS.out hL) (fun hHeld => ?_)
          clear hK K
          (try simp only [Act.put, List.setIfInBounds_toArray, List.set_cons_zero, List.set_cons_succ])
          refine wpAnyH_take (i := 18) (oi := { dst := some 37, op := Op.pick (Operand.tmp 25) (Operand.tmp 36) (Operand.const (Value.bool false)), type := 4, pos := "ref.go:230", after := #[{ on := 6, ground := Ground.data }, { on := 17, ground := Ground.data }], guard := none }) (v := ?_) rfl (by kernel_rfl) (by kernel_rfl) (by kernel_rfl) (fun _ _ _ h => h) (Or.inl ⟨by rfl, ?_⟩) (by assumption) ?_
          rotate_left
          (intro w0 hSw; (try dsimp only at hSw); go_simp; try (with_reducible rfl))
          (try simp only [Act.put, List.setIfInBounds_toArray, List.set_cons_zero, List.set_cons_succ])
          refine wpAnyH_done (by kernel_rfl) ?_ _
          refine NoPanic.normal ?_
          have HI3' := HI2.out.on hL
          clear hHeld HSS BD hx
          go_wp2
          go_roundw
          case rel => exact ⟨j + 1, by omega, by go_num, by rw [hx1, HS1.out], HI3'⟩
          case measure => simp [intOf]; omega
      · have hge' : ¬ ((s : Int) ≤ (x : Int)) := by omega
        have HS1 : Hid (s1 = s) := by show _ = _; rw [HSI.out, if_neg (fun h => hge h.1)]
        go_upto_region 9 with (fail)
        refine wp_region_noPanic ?_
        refine wp_region_held_drew (S := fun w' => SS wr w' w.heap.size g j x (some ⟨b', o', none⟩) cp os.length b' (o' + j * 7) (o' + k * 7) p1 p2 ak1 ak2 ck1 ck2) (by kernel_rfl) (by exact ss_keep HSS.out (below_drew (Below.refl _ _))) (fun hHeld => ?_)
        refine wpAnyH_take (i := 0) (oi := { dst := some 19, op := Op.move (Operand.tmp 3), type := 43, pos := "ref.go:230", after := #[], guard := none }) (v := ?_) rfl (by kernel_rfl) (by kernel_rfl) (by kernel_rfl) (fun _ _ _ h => h) (Or.inl ⟨by rfl, ?_⟩) (by assumption) ?_
        rotate_left
        (intro w0 hSw; (try dsimp only at hSw); go_simp; try (with_reducible rfl))
        (try simp only [Act.put, List.setIfInBounds_toArray, List.set_cons_zero, List.set_cons_succ])
        refine wpAnyH_take (i := 1) (oi := { dst := some 20, op := Op.move (Operand.tmp 6), type := 3, pos := "ref.go:230", after := #[], guard := none }) (v := ?_) rfl (by kernel_rfl) (by kernel_rfl) (by kernel_rfl) (fun _ _ _ h => h) (Or.inl ⟨by rfl, ?_⟩) (by assumption) ?_
        rotate_left
        (intro w0 hSw; (try dsimp only at hSw); go_simp; try (with_reducible rfl))
        (try simp only [Act.put, List.setIfInBounds_toArray, List.set_cons_zero, List.set_cons_succ])
        refine wpAnyH_take (i := 2) (oi := { dst := some 21, op := Op.indexAddr 43 (Operand.tmp 19) (Operand.tmp 20), type := 0, pos := "ref.go:230", after := #[{ on := 0, ground := Ground.data }, { on := 1, ground := Ground.data }], guard := none }) (v := ?_) rfl (by kernel_rfl) (by kernel_rfl) (by kernel_rfl) (fun _ _ _ h => h) (Or.inl ⟨by rfl, ?_⟩) (by assumption) ?_
        rotate_left
        (intro w0 hSw; (try dsimp only at hSw); go_simp; try (with_reducible rfl))
        (try simp only [Act.put, List.setIfInBounds_toArray, List.set_cons_zero, List.set_cons_succ])
        refine wpAnyH_take (i := 3) (oi := { dst := some 22, op := Op.load 3 (Operand.tmp 21), type := 3, pos := "ref.go:230", after := #[{ on := 2, ground := Ground.data }], guard := none }) (v := ?_) rfl (by kernel_rfl) (by kernel_rfl) (by kernel_rfl) (fun _ _ _ h => h) (Or.inl ⟨by rfl, ?_⟩) (by assumption) ?_
        rotate_left
        (intro w0 hSw; (try dsimp only at hSw); go_simp; try (with_reducible rfl))
        (try simp only [Act.put, List.setIfInBounds_toArray, List.set_cons_zero, List.set_cons_succ])
        refine wpAnyH_take (i := 4) (oi := { dst := some 23, op := Op.move (Operand.tmp 5), type := 3, pos := "ref.go:230", after := #[], guard := none }) (v := ?_) rfl (by kernel_rfl) (by kernel_rfl) (by kernel_rfl) (fun _ _ _ h => h) (Or.inl ⟨by rfl, ?_⟩) (by assumption) ?_
        rotate_left
        (intro w0 hSw; (try dsimp only at hSw); go_simp; try (with_reducible rfl))
        (try simp only [Act.put, List.setIfInBounds_toArray, List.set_cons_zero, List.set_cons_succ])
        refine wpAnyH_take (i := 5) (oi := { dst := some 24, op := Op.binOp BinOp.geq 3 (Operand.tmp 22) (Operand.tmp 23) 3, type := 4, pos := "ref.go:230", after := #[{ on := 3, ground := Ground.data }, { on := 4, ground := Ground.data }], guard := none }) (v := ?_) rfl (by kernel_rfl) (by kernel_rfl) (by kernel_rfl) (fun _ _ _ h => h) (Or.inl ⟨by rfl, ?_⟩) (by assumption) ?_
        rotate_left
        (intro w0 hSw; (try dsimp only at hSw); go_simp; try (with_reducible rfl))
        (try simp only [Act.put, List.setIfInBounds_toArray, List.set_cons_zero, List.set_cons_succ])
        refine wpAnyH_take (i := 6) (oi := { dst := some 25, op := Op.move (Operand.tmp 24), type := 4, pos := "ref.go:230", after := #[{ on := 5, ground := Ground.data }], guard := none }) (v := ?_) rfl (by kernel_rfl) (by kernel_rfl) (by kernel_rfl) (fun _ _ _ h => h) (Or.inl ⟨by rfl, ?_⟩) (by assumption) ?_
        rotate_left
        (intro w0 hSw; (try dsimp only at hSw); go_simp; try (with_reducible rfl))
        (try simp only [Act.put, List.setIfInBounds_toArray, List.set_cons_zero, List.set_cons_succ])
        refine wpAnyH_take (i := 7) (oi := { dst := some 26, op := Op.fieldAddr 24 (Operand.tmp 1) 2, type := 0, pos := "ref.go:230", after := #[{ on := 6, ground := Ground.guard }], guard := some (6, true) }) (v := undef) rfl (by kernel_rfl) (by kernel_rfl) (by kernel_rfl) (fun _ _ _ h => h) (Or.inr ⟨by rfl, rfl⟩) (by assumption) ?_
        (try simp only [Act.put, List.setIfInBounds_toArray, List.set_cons_zero, List.set_cons_succ])
        refine wpAnyH_take (i := 8) (oi := { dst := some 27, op := Op.load 22 (Operand.tmp 26), type := 22, pos := "ref.go:230", after := #[{ on := 7, ground := Ground.data }, { on := 6, ground := Ground.guard }], guard := some (6, true) }) (v := undef) rfl (by kernel_rfl) (by kernel_rfl) (by kernel_rfl) (fun _ _ _ h => h) (Or.inr ⟨by rfl, rfl⟩) (by assumption) ?_
        (try simp only [Act.put, List.setIfInBounds_toArray, List.set_cons_zero, List.set_cons_succ])
        refine wpAnyH_take (i := 9) (oi := { dst := some 28, op := Op.move (Operand.tmp 6), type := 3, pos := "ref.go:230", after := #[{ on := 6, ground := Ground.guard }], guard := some (6, true) }) (v := undef) rfl (by kernel_rfl) (by kernel_rfl) (by kernel_rfl) (fun _ _ _ h => h) (Or.inr ⟨by rfl, rfl⟩) (by assumption) ?_
        (try simp only [Act.put, List.setIfInBounds_toArray, List.set_cons_zero, List.set_cons_succ])
        refine wpAnyH_take (i := 10) (oi := { dst := some 29, op := Op.indexAddr 22 (Operand.tmp 27) (Operand.tmp 28), type := 0, pos := "ref.go:230", after := #[{ on := 8, ground := Ground.data }, { on := 9, ground := Ground.data }, { on := 6, ground := Ground.guard }], guard := some (6, true) }) (v := undef) rfl (by kernel_rfl) (by kernel_rfl) (by kernel_rfl) (fun _ _ _ h => h) (Or.inr ⟨by rfl, rfl⟩) (by assumption) ?_
        (try simp only [Act.put, List.setIfInBounds_toArray, List.set_cons_zero, List.set_cons_succ])
        refine wpAnyH_take (i := 11) (oi := { dst := some 30, op := Op.load 57 (Operand.tmp 29), type := 57, pos := "ref.go:230", after := #[{ on := 10, ground := Ground.data }, { on := 6, ground := Ground.guard }], guard := some (6, true) }) (v := undef) rfl (by kernel_rfl) (by kernel_rfl) (by kernel_rfl) (fun _ _ _ h => h) (Or.inr ⟨by rfl, rfl⟩) (by assumption) ?_
        (try simp only [Act.put, List.setIfInBounds_toArray, List.set_cons_zero, List.set_cons_succ])
        refine wpAnyH_take (i := 12) (oi := { dst := some 31, op := Op.fieldAddr 24 (Operand.tmp 1) 2, type := 0, pos := "ref.go:230", after := #[{ on := 6, ground := Ground.guard }], guard := some (6, true) }) (v := undef) rfl (by kernel_rfl) (by kernel_rfl) (by kernel_rfl) (fun _ _ _ h => h) (Or.inr ⟨by rfl, rfl⟩) (by assumption) ?_
        (try simp only [Act.put, List.setIfInBounds_toArray, List.set_cons_zero, List.set_cons_succ])
        refine wpAnyH_take (i := 13) (oi := { dst := some 32, op := Op.load 22 (Operand.tmp 31), type := 22, pos := "ref.go:230", after := #[{ on := 12, ground := Ground.data }, { on := 6, ground := Ground.guard }], guard := some (6, true) }) (v := undef) rfl (by kernel_rfl) (by kernel_rfl) (by kernel_rfl) (fun _ _ _ h => h) (Or.inr ⟨by rfl, rfl⟩) (by assumption) ?_
        (try simp only [Act.put, List.setIfInBounds_toArray, List.set_cons_zero, List.set_cons_succ])
        refine wpAnyH_take (i := 14) (oi := { dst := some 33, op := Op.move (Operand.tmp 4), type := 3, pos := "ref.go:230", after := #[{ on := 6, ground := Ground.guard }], guard := some (6, true) }) (v := undef) rfl (by kernel_rfl) (by kernel_rfl) (by kernel_rfl) (fun _ _ _ h => h) (Or.inr ⟨by rfl, rfl⟩) (by assumption) ?_
        (try simp only [Act.put, List.setIfInBounds_toArray, List.set_cons_zero, List.set_cons_succ])
        refine wpAnyH_take (i := 15) (oi := { dst := some 34, op := Op.indexAddr 22 (Operand.tmp 32) (Operand.tmp 33), type := 0, pos := "ref.go:230", after := #[{ on := 13, ground := Ground.data }, { on := 14, ground := Ground.data }, { on := 6, ground := Ground.guard }], guard := some (6, true) }) (v := undef) rfl (by kernel_rfl) (by kernel_rfl) (by kernel_rfl) (fun _ _ _ h => h) (Or.inr ⟨by rfl, rfl⟩) (by assumption) ?_
        (try simp only [Act.put, List.setIfInBounds_toArray, List.set_cons_zero, List.set_cons_succ])
        refine wpAnyH_take (i := 16) (oi := { dst := some 35, op := Op.load 57 (Operand.tmp 34), type := 57, pos := "ref.go:230", after := #[{ on := 15, ground := Ground.data }, { on := 6, ground := Ground.guard }], guard := some (6, true) }) (v := undef) rfl (by kernel_rfl) (by kernel_rfl) (by kernel_rfl) (fun _ _ _ h => h) (Or.inr ⟨by rfl, rfl⟩) (by assumption) ?_
        (try simp only [Act.put, List.setIfInBounds_toArray, List.set_cons_zero, List.set_cons_succ])
        refine wpAnyH_ready (rs := [17]) (by kernel_rfl) (by simp) (AllReadyH.cons (o := { dst := some 36, op := Op.call { callee := Callee.value (Operand.func 28), args := #[Operand.tmp 30, Operand.tmp 35], argTypes := #[57, 57] }, type := 4, pos := "ref.go:230", after := #[{ on := 11, ground := Ground.data }, { on := 16, ground := Ground.data }, { on := 6, ground := Ground.chain }, { on := 6, ground := Ground.guard }], guard := some (6, true) }) rfl (fun K hK => ?_) AllReadyH.nil)
        change K (Act.put _ _ undef) _
        refine hK.out _ _ hHeld (fun hHeld => ?_)
        clear hK K
        (try simp only [Act.put, List.setIfInBounds_toArray, List.set_cons_zero, List.set_cons_succ])
        refine wpAnyH_take (i := 18) (oi := { dst := some 37, op := Op.pick (Operand.tmp 25) (Operand.tmp 36) (Operand.const (Value.bool false)), type := 4, pos := "ref.go:230", after := #[{ on := 6, ground := Ground.data }, { on := 17, ground := Ground.data }], guard := none }) (v := ?_) rfl (by kernel_rfl) (by kernel_rfl) (by kernel_rfl) (fun _ _ _ h => h) (Or.inl ⟨by rfl, ?_⟩) (by assumption) ?_
        rotate_left
        (intro w0 hSw; (try dsimp only at hSw); go_simp; try (with_reducible rfl))
        (try simp only [Act.put, List.setIfInBounds_toArray, List.set_cons_zero, List.set_cons_succ])
        refine wpAnyH_done (by kernel_rfl) ?_ _
        refine NoPanic.normal ?_
        have HI3' := HI2.out.on hHeld.1
        clear hHeld HSS BD hx
        go_wp2
        go_roundw
        case rel => exact ⟨j + 1, by omega, by go_num, by rw [hx1, HS1.out], HI3'⟩
        case measure => simp [intOf]; omega
end Go.Proofs.Ytfaoegiignalkaa
