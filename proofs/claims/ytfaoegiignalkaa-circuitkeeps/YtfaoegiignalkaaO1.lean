/-
  Which operations are bound to their order: the reference's Bound.
-/
import Derived.Test.YtfaoegiignalkaaM1
import Derived.Test.YtfaoegiignalkaaE4
namespace Go.Proofs.Ytfaoegiignalkaa
open Go.RowKit Go.Shelf

/-- The bit that an operation writes, as ones. -/
def wrI (o : Oq) : Int := if o.k = 2 then ((2 ^ o.b.toNat : Nat) : Int) else 0
theorem shl_one {q : Nat} (h : q < 64) : IntKind.u64.wrap (2 ^ q) = ((2 ^ q : Nat) : Int) := by
  have : ∀ q < 64, IntKind.u64.wrap (2 ^ q) = ((2 ^ q : Nat) : Int) := by decide +kernel
  exact this q h
set_option maxHeartbeats 1000000 in
set_option maxRecDepth 100000 in
theorem writes_any (o : Oq) (a : Option Addr) (c : Nat) (w : World) (ho : Okay o) : Calls Try.prog 46 #[opv o a c] w fun e w' => e = .returned (.int .u64 (wrI o)) ∧ Below w.heap.size w w' := by
  by_cases hk : o.k = 2
  · obtain ⟨q0, q1⟩ := ho.b0 hk
    obtain ⟨q, hq⟩ : ∃ q : Nat, o.b = (q : Int) := ⟨o.b.toNat, by omega⟩
    have e : wrI o = ((2 ^ q : Nat) : Int) := by unfold wrI; rw [if_pos hk, hq]; rfl
    have hk2 : (o.k == 2) = true := by simpa using hk
    have hq64 : q < 64 := by omega
    have hs := shl_one hq64
    rw [e]
    obtain ⟨k, n, qs, b, f, m, v⟩ := o
    simp only at *
    subst hq
    clear e hk ho
    go_enter Try.func46, Try.ntmps46
    go_wp2
    go_ret
    exact ⟨by rw [Int.natCast_pow]; rfl, bal (Below.refl _ _) _⟩
  · have e : wrI o = 0 := by unfold wrI; rw [if_neg hk]
    have hk2 : (o.k == 2) = false := by simpa using hk
    rw [e]
    clear e hk
    go_enter Try.func46, Try.ntmps46
    go_wp2
    go_ret
    exact ⟨rfl, bal (Below.refl _ _) _⟩
set_option maxHeartbeats 1000000 in
set_option maxRecDepth 100000 in
theorem rreads_any (o : Oq) (a : Option Addr) (c : Nat) (w : World) : Calls Try.prog 47 #[opv o a c] w fun e w' => e = .returned (.int .u64 o.m) ∧ Below w.heap.size w w' := by
  go_enter Try.func47, Try.ntmps47
  go_wp2
  go_ret
  exact ⟨rfl, bal (Below.refl _ _) _⟩
def bdB (a b : Oq) : Bool := (a.k != 1 && b.k != 1) || ((bits .and .u64 (wrI a) (bits .or .u64 b.m (wrI b)) != 0) || ((bits .and .u64 (wrI b) a.m != 0) || (a.qs.any fun x => decide (x ∈ b.qs))))
/-- The boxes of two operations. -/
structure TB (w W : World) (o p : Oq) (a b : Option Addr) (c d : Nat) : Prop where
  below : Below w.heap.size w W
  b1 : BK W w.heap.size (opc o a c).toArray 57
  b2 : BK W (w.heap.size + 1) (opc p b d).toArray 57
theorem TB.on {w W W' : World} {o p : Oq} {a b : Option Addr} {c d : Nat} (h : TB w W o p a b c d) (hb : Below W.heap.size W W') : TB w W' o p a b c d :=
  ⟨btr h.below hb, (hb.block _ h.b1.lt).trans h.b1, (hb.block _ h.b2.lt).trans h.b2⟩
theorem tb0 (w : World) (o p : Oq) (a b : Option Addr) (c d : Nat) : TB w ((w.alloc (.cells (opc o a c).toArray 57)).alloc (.cells (opc p b d).toArray 57)) o p a b c d :=
  ⟨bal (bal (Below.refl _ _) _) _, (bk_new _ _ _).alloc _, by have := bk_new (w.alloc (.cells (opc o a c).toArray 57)) (opc p b d).toArray 57; simpa using this⟩
abbrev TC (V W : World) (s : Nat) (o p : Oq) (a b : Option Addr) (c d : Nat) : Prop :=
  Below V.heap.size V W ∧ (∀ j, W.cell? ⟨s, j, none⟩ = #[Value.int .i64 o.k, .string o.n, .slice a o.qs.length c, .int .i64 o.b, .bool o.f, .int .u64 o.m, .int .u64 o.v][j]?) ∧ (∀ j, W.cell? ⟨s + 1, j, none⟩ = #[Value.int .i64 p.k, .string p.n, .slice b p.qs.length d, .int .i64 p.b, .bool p.f, .int .u64 p.m, .int .u64 p.v][j]?)
theorem tc_of {w V W : World} {o p : Oq} {a b : Option Addr} {c d : Nat} (H : TB w V o p a b c d) (hb : Below V.heap.size V W) : TC V W w.heap.size o p a b c d :=
  ⟨hb, (H.on hb).b1.cell, (H.on hb).b2.cell⟩
theorem below_d (w : World) (n : Nat) : Below w.heap.size w (w.drewN n) := below_drewN (Below.refl _ _) n
section
variable (o p : Oq) (a b : Option Addr) (c d : Nat) (w : World)
set_option maxHeartbeats 4000000 in
set_option maxRecDepth 100000 in
theorem bound_any (ho : Okay o) (hp : Okay p) (ha : QS w a c o.qs) (hb : QS w b d p.qs) : Calls Try.prog 28 #[opv o a c, opv p b d] w fun e w' => e = .returned (.bool (bdB o p)) ∧ Below w.heap.size w w' := by
  have W1 := fun w => writes_any o a c w ho
  have W2 := fun w => writes_any p b d w hp
  have R1 := fun w => rreads_any o a c w
  have R2 := fun w => rreads_any p b d w
  have HA := hid ha
  have HBQ := hid hb
  have hl1 := ho.fit.l
  have hl2 := hp.fit.l
  have hcap1 := ha.cap
  have hcap2 := hb.cap
  have HT := hid (tb0 w o p a b c d)
  have HD : Hid (bdB o p = ((o.k != 1 && p.k != 1) || ((bits .and .u64 (wrI o) (bits .or .u64 p.m (wrI p)) != 0) || ((bits .and .u64 (wrI p) o.m != 0) || (o.qs.any fun x => decide (x ∈ p.qs)))))) := rfl
  clear ho hp ha hb
  generalize wrI o = wo at *
  generalize wrI p = wp at *
  generalize bdB o p = R at *
  by_cases h1 : (o.k != 1 && p.k != 1) = true
  case pos =>
    rw [Bool.and_eq_true] at h1
    obtain ⟨h1, h2⟩ := h1
    have HR : Hid (R = true) := by show _ = _; rw [HD.out, h1, h2]; rfl
    clear HD
    go_enter Try.func28, Try.ntmps28
    go_wp2
    go_ret
    exact ⟨by rw [HR.out]; rfl, HT.out.below⟩
  have HD2 : Hid (R = ((bits .and .u64 wo (bits .or .u64 p.m wp) != 0) || ((bits .and .u64 wp o.m != 0) || (o.qs.any fun x => decide (x ∈ p.qs))))) := by show _ = _; rw [HD.out, Bool.not_eq_true _ |>.mp h1]; rfl
  clear HD
  have h1' : (o.k != 1) = false ∨ ((o.k != 1) = true ∧ (p.k != 1) = false) := by
    cases e1 : (o.k != 1) with
    | false => exact .inl rfl
    | true => rw [e1] at h1; exact .inr ⟨rfl, by simpa using h1⟩
  clear h1
  have k1 := HT.out.b1.lt
  have k2 := HT.out.b2.lt
  obtain ⟨V, hV⟩ : ∃ V, V = (w.alloc (.cells (opc o a c).toArray 57)).alloc (.cells (opc p b d).toArray 57) := ⟨_, rfl⟩
  have HV0 : Hid (V = (w.alloc (.cells (opc o a c).toArray 57)).alloc (.cells (opc p b d).toArray 57)) := hV
  rw [← hV] at HT k1 k2
  clear hV
  have hV := Below.refl V.heap.size V
  by_cases x1 : (bits .and .u64 wo (bits .or .u64 p.m wp) != 0) = true
  case pos =>
    have HR : Hid (R = true) := by show _ = _; rw [HD2.out, x1]; rfl
    clear HD2
    rcases h1' with h1 | ⟨h1, h2⟩
    all_goals (
      go_enter Try.func28, Try.ntmps28
      go_upto_region 3 with (fail)
      rw [show (w.alloc (.cells #[.int .i64 o.k, .string o.n, .slice a o.qs.length c, .int .i64 o.b, .bool o.f, .int .u64 o.m, .int .u64 o.v] 57)).alloc (.cells #[.int .i64 p.k, .string p.n, .slice b p.qs.length d, .int .i64 p.b, .bool p.f, .int .u64 p.m, .int .u64 p.v] 57) = V from HV0.out.symm]
      refine wp_region_noPanic ?_
      refine wp_region_held_drew (S := fun w' => TC V w' w.heap.size o p a b c d) (by kernel_rfl) (by exact tc_of HT.out (below_drew hV)) (fun hHeld => ?_)
      refine wpAnyH_take (i := 0) (oi := { dst := some 15, op := Op.load 57 (Operand.tmp 2), type := 57, pos := "ref.go:211", after := #[], guard := none }) (v := ?_) rfl (by kernel_rfl) (by kernel_rfl) (by kernel_rfl) (fun _ _ _ h => h) (Or.inl ⟨by rfl, ?_⟩) (by assumption) ?_
      rotate_left
      (intro w0 hSw; (try dsimp only at hSw); go_simp; try (with_reducible rfl))
      (try simp only [Act.put, List.setIfInBounds_toArray, List.set_cons_zero, List.set_cons_succ])
      refine wpAnyH_take (i := 2) (oi := { dst := some 17, op := Op.load 57 (Operand.tmp 3), type := 57, pos := "ref.go:211", after := #[], guard := none }) (v := ?_) rfl (by kernel_rfl) (by kernel_rfl) (by kernel_rfl) (fun _ _ _ h => h) (Or.inl ⟨by rfl, ?_⟩) (by assumption) ?_
      rotate_left
      (intro w0 hSw; (try dsimp only at hSw); go_simp; try (with_reducible rfl))
      (try simp only [Act.put, List.setIfInBounds_toArray, List.set_cons_zero, List.set_cons_succ])
      refine wpAnyH_take (i := 4) (oi := { dst := some 19, op := Op.load 57 (Operand.tmp 3), type := 57, pos := "ref.go:211", after := #[], guard := none }) (v := ?_) rfl (by kernel_rfl) (by kernel_rfl) (by kernel_rfl) (fun _ _ _ h => h) (Or.inl ⟨by rfl, ?_⟩) (by assumption) ?_
      rotate_left
      (intro w0 hSw; (try dsimp only at hSw); go_simp; try (with_reducible rfl))
      (try simp only [Act.put, List.setIfInBounds_toArray, List.set_cons_zero, List.set_cons_succ])
      refine wpAnyH_ready (rs := [1]) (by kernel_rfl) (by simp) (AllReadyH.cons (o := { dst := some 16, op := Op.call { callee := Callee.value (Operand.func 46), args := #[Operand.tmp 15], argTypes := #[57] }, type := 55, pos := "ref.go:211", after := #[{ on := 0, ground := Ground.data }], guard := none }) rfl (fun K hK => ?_) AllReadyH.nil)
      go_simp
      ((with_reducible refine (W1 _).mono ?_); rintro e w3 ⟨rfl, hB3⟩; have hL : Below V.heap.size V w3 := btr hHeld.1 hB3; clear hHeld)
      refine hK.out _ _ (by exact tc_of HT.out hL) (fun hHeld => ?_)
      clear hK K
      (try simp only [Act.put, List.setIfInBounds_toArray, List.set_cons_zero, List.set_cons_succ])
      refine wpAnyH_ready (rs := [3]) (by kernel_rfl) (by simp) (AllReadyH.cons (o := { dst := some 18, op := Op.call { callee := Callee.value (Operand.func 47), args := #[Operand.tmp 17], argTypes := #[57] }, type := 55, pos := "ref.go:211", after := #[{ on := 2, ground := Ground.data }, { on := 1, ground := Ground.chain }], guard := none }) rfl (fun K hK => ?_) AllReadyH.nil)
      go_simp
      ((with_reducible refine (R2 _).mono ?_); rintro e w3 ⟨rfl, hB3⟩; have hL : Below V.heap.size V w3 := btr hHeld.1 hB3; clear hHeld)
      refine hK.out _ _ (by exact tc_of HT.out hL) (fun hHeld => ?_)
      clear hK K
      (try simp only [Act.put, List.setIfInBounds_toArray, List.set_cons_zero, List.set_cons_succ])
      refine wpAnyH_ready (rs := [5]) (by kernel_rfl) (by simp) (AllReadyH.cons (o := { dst := some 20, op := Op.call { callee := Callee.value (Operand.func 46), args := #[Operand.tmp 19], argTypes := #[57] }, type := 55, pos := "ref.go:211", after := #[{ on := 4, ground := Ground.data }, { on := 3, ground := Ground.chain }], guard := none }) rfl (fun K hK => ?_) AllReadyH.nil)
      go_simp
      ((with_reducible refine (W2 _).mono ?_); rintro e w3 ⟨rfl, hB3⟩; have hL : Below V.heap.size V w3 := btr hHeld.1 hB3; clear hHeld)
      refine hK.out _ _ (by exact tc_of HT.out hL) (fun hHeld => ?_)
      clear hK K
      (try simp only [Act.put, List.setIfInBounds_toArray, List.set_cons_zero, List.set_cons_succ])
      refine wpAnyH_take (i := 6) (oi := { dst := some 21, op := Op.binOp BinOp.or 55 (Operand.tmp 18) (Operand.tmp 20) 55, type := 55, pos := "ref.go:211", after := #[{ on := 3, ground := Ground.data }, { on := 5, ground := Ground.data }], guard := none }) (v := ?_) rfl (by kernel_rfl) (by kernel_rfl) (by kernel_rfl) (fun _ _ _ h => h) (Or.inl ⟨by rfl, ?_⟩) (by assumption) ?_
      rotate_left
      (intro w0 hSw; (try dsimp only at hSw); go_simp; try (with_reducible rfl))
      (try simp only [Act.put, List.setIfInBounds_toArray, List.set_cons_zero, List.set_cons_succ])
      refine wpAnyH_take (i := 7) (oi := { dst := some 22, op := Op.binOp BinOp.and 55 (Operand.tmp 16) (Operand.tmp 21) 55, type := 55, pos := "ref.go:211", after := #[{ on := 1, ground := Ground.data }, { on := 6, ground := Ground.data }], guard := none }) (v := ?_) rfl (by kernel_rfl) (by kernel_rfl) (by kernel_rfl) (fun _ _ _ h => h) (Or.inl ⟨by rfl, ?_⟩) (by assumption) ?_
      rotate_left
      (intro w0 hSw; (try dsimp only at hSw); go_simp; try (with_reducible rfl))
      (try simp only [Act.put, List.setIfInBounds_toArray, List.set_cons_zero, List.set_cons_succ])
      refine wpAnyH_take (i := 8) (oi := { dst := some 23, op := Op.binOp BinOp.neq 55 (Operand.tmp 22) (Operand.const (Value.int IntKind.u64 0)) 55, type := 4, pos := "ref.go:211", after := #[{ on := 7, ground := Ground.data }], guard := none }) (v := ?_) rfl (by kernel_rfl) (by kernel_rfl) (by kernel_rfl) (fun _ _ _ h => h) (Or.inl ⟨by rfl, ?_⟩) (by assumption) ?_
      rotate_left
      (intro w0 hSw; (try dsimp only at hSw); go_simp; try (with_reducible rfl))
      (try simp only [Act.put, List.setIfInBounds_toArray, List.set_cons_zero, List.set_cons_succ])
      refine wpAnyH_take (i := 9) (oi := { dst := some 24, op := Op.move (Operand.tmp 23), type := 4, pos := "ref.go:211", after := #[{ on := 8, ground := Ground.data }, { on := 5, ground := Ground.chain }], guard := none }) (v := ?_) rfl (by kernel_rfl) (by kernel_rfl) (by kernel_rfl) (fun _ _ _ h => h) (Or.inl ⟨by rfl, ?_⟩) (by assumption) ?_
      rotate_left
      (intro w0 hSw; (try dsimp only at hSw); go_simp; try (with_reducible rfl))
      (try simp only [Act.put, List.setIfInBounds_toArray, List.set_cons_zero, List.set_cons_succ])
      refine wpAnyH_take (i := 10) (oi := { dst := some 25, op := Op.load 57 (Operand.tmp 3), type := 57, pos := "ref.go:211", after := #[{ on := 9, ground := Ground.guard }], guard := some (9, false) }) (v := undef) rfl (by kernel_rfl) (by kernel_rfl) (by kernel_rfl) (fun _ _ _ h => h) (Or.inr ⟨by rfl, rfl⟩) (by assumption) ?_
      (try simp only [Act.put, List.setIfInBounds_toArray, List.set_cons_zero, List.set_cons_succ])
      refine wpAnyH_take (i := 12) (oi := { dst := some 27, op := Op.load 57 (Operand.tmp 2), type := 57, pos := "ref.go:211", after := #[{ on := 9, ground := Ground.guard }], guard := some (9, false) }) (v := undef) rfl (by kernel_rfl) (by kernel_rfl) (by kernel_rfl) (fun _ _ _ h => h) (Or.inr ⟨by rfl, rfl⟩) (by assumption) ?_
      (try simp only [Act.put, List.setIfInBounds_toArray, List.set_cons_zero, List.set_cons_succ])
      refine wpAnyH_ready (rs := [11]) (by kernel_rfl) (by simp) (AllReadyH.cons (o := { dst := some 26, op := Op.call { callee := Callee.value (Operand.func 46), args := #[Operand.tmp 25], argTypes := #[57] }, type := 55, pos := "ref.go:211", after := #[{ on := 10, ground := Ground.data }, { on := 9, ground := Ground.chain }, { on := 9, ground := Ground.guard }], guard := some (9, false) }) rfl (fun K hK => ?_) AllReadyH.nil)
      change K (Act.put _ _ undef) _
      refine hK.out _ _ hHeld (fun hHeld => ?_)
      clear hK K
      (try simp only [Act.put, List.setIfInBounds_toArray, List.set_cons_zero, List.set_cons_succ])
      refine wpAnyH_ready (rs := [13]) (by kernel_rfl) (by simp) (AllReadyH.cons (o := { dst := some 28, op := Op.call { callee := Callee.value (Operand.func 47), args := #[Operand.tmp 27], argTypes := #[57] }, type := 55, pos := "ref.go:211", after := #[{ on := 12, ground := Ground.data }, { on := 11, ground := Ground.chain }, { on := 9, ground := Ground.guard }], guard := some (9, false) }) rfl (fun K hK => ?_) AllReadyH.nil)
      change K (Act.put _ _ undef) _
      refine hK.out _ _ hHeld (fun hHeld => ?_)
      clear hK K
      (try simp only [Act.put, List.setIfInBounds_toArray, List.set_cons_zero, List.set_cons_succ])
      refine wpAnyH_take (i := 14) (oi := { dst := some 29, op := Op.binOp BinOp.and 55 (Operand.tmp 26) (Operand.tmp 28) 55, type := 55, pos := "ref.go:211", after := #[{ on := 11, ground := Ground.data }, { on := 13, ground := Ground.data }, { on := 9, ground := Ground.guard }], guard := some (9, false) }) (v := undef) rfl (by kernel_rfl) (by kernel_rfl) (by kernel_rfl) (fun _ _ _ h => h) (Or.inr ⟨by rfl, rfl⟩) (by assumption) ?_
      (try simp only [Act.put, List.setIfInBounds_toArray, List.set_cons_zero, List.set_cons_succ])
      refine wpAnyH_take (i := 15) (oi := { dst := some 30, op := Op.binOp BinOp.neq 55 (Operand.tmp 29) (Operand.const (Value.int IntKind.u64 0)) 55, type := 4, pos := "ref.go:211", after := #[{ on := 14, ground := Ground.data }, { on := 9, ground := Ground.guard }], guard := some (9, false) }) (v := undef) rfl (by kernel_rfl) (by kernel_rfl) (by kernel_rfl) (fun _ _ _ h => h) (Or.inr ⟨by rfl, rfl⟩) (by assumption) ?_
      (try simp only [Act.put, List.setIfInBounds_toArray, List.set_cons_zero, List.set_cons_succ])
      refine wpAnyH_take (i := 16) (oi := { dst := some 31, op := Op.pick (Operand.tmp 24) (Operand.const (Value.bool true)) (Operand.tmp 30), type := 4, pos := "ref.go:211", after := #[{ on := 9, ground := Ground.data }, { on := 15, ground := Ground.data }], guard := none }) (v := ?_) rfl (by kernel_rfl) (by kernel_rfl) (by kernel_rfl) (fun _ _ _ h => h) (Or.inl ⟨by rfl, ?_⟩) (by assumption) ?_
      rotate_left
      (intro w0 hSw; (try dsimp only at hSw); go_simp; try (with_reducible rfl))
      (try simp only [Act.put, List.setIfInBounds_toArray, List.set_cons_zero, List.set_cons_succ])
      refine wpAnyH_done (by kernel_rfl) ?_ _
      refine NoPanic.normal ?_
      go_wp2
      go_ret
      exact ⟨by rw [HR.out]; rfl, btr HT.out.below hL⟩)
  have HD3 : Hid (R = ((bits .and .u64 wp o.m != 0) || (o.qs.any fun x => decide (x ∈ p.qs)))) := by show _ = _; rw [HD2.out, Bool.not_eq_true _ |>.mp x1]; rfl
  replace x1 := Bool.not_eq_true _ |>.mp x1
  clear HD2
  by_cases x2 : (bits .and .u64 wp o.m != 0) = true
  case pos =>
    have HR : Hid (R = true) := by show _ = _; rw [HD3.out, x2]; rfl
    clear HD3
    rcases h1' with h1 | ⟨h1, h2⟩
    all_goals (
      go_enter Try.func28, Try.ntmps28
      go_upto_region 3 with (fail)
      rw [show (w.alloc (.cells #[.int .i64 o.k, .string o.n, .slice a o.qs.length c, .int .i64 o.b, .bool o.f, .int .u64 o.m, .int .u64 o.v] 57)).alloc (.cells #[.int .i64 p.k, .string p.n, .slice b p.qs.length d, .int .i64 p.b, .bool p.f, .int .u64 p.m, .int .u64 p.v] 57) = V from HV0.out.symm]
      refine wp_region_noPanic ?_
      refine wp_region_held_drew (S := fun w' => TC V w' w.heap.size o p a b c d) (by kernel_rfl) (by exact tc_of HT.out (below_drew hV)) (fun hHeld => ?_)
      refine wpAnyH_take (i := 0) (oi := { dst := some 15, op := Op.load 57 (Operand.tmp 2), type := 57, pos := "ref.go:211", after := #[], guard := none }) (v := ?_) rfl (by kernel_rfl) (by kernel_rfl) (by kernel_rfl) (fun _ _ _ h => h) (Or.inl ⟨by rfl, ?_⟩) (by assumption) ?_
      rotate_left
      (intro w0 hSw; (try dsimp only at hSw); go_simp; try (with_reducible rfl))
      (try simp only [Act.put, List.setIfInBounds_toArray, List.set_cons_zero, List.set_cons_succ])
      refine wpAnyH_take (i := 2) (oi := { dst := some 17, op := Op.load 57 (Operand.tmp 3), type := 57, pos := "ref.go:211", after := #[], guard := none }) (v := ?_) rfl (by kernel_rfl) (by kernel_rfl) (by kernel_rfl) (fun _ _ _ h => h) (Or.inl ⟨by rfl, ?_⟩) (by assumption) ?_
      rotate_left
      (intro w0 hSw; (try dsimp only at hSw); go_simp; try (with_reducible rfl))
      (try simp only [Act.put, List.setIfInBounds_toArray, List.set_cons_zero, List.set_cons_succ])
      refine wpAnyH_take (i := 4) (oi := { dst := some 19, op := Op.load 57 (Operand.tmp 3), type := 57, pos := "ref.go:211", after := #[], guard := none }) (v := ?_) rfl (by kernel_rfl) (by kernel_rfl) (by kernel_rfl) (fun _ _ _ h => h) (Or.inl ⟨by rfl, ?_⟩) (by assumption) ?_
      rotate_left
      (intro w0 hSw; (try dsimp only at hSw); go_simp; try (with_reducible rfl))
      (try simp only [Act.put, List.setIfInBounds_toArray, List.set_cons_zero, List.set_cons_succ])
      refine wpAnyH_ready (rs := [1]) (by kernel_rfl) (by simp) (AllReadyH.cons (o := { dst := some 16, op := Op.call { callee := Callee.value (Operand.func 46), args := #[Operand.tmp 15], argTypes := #[57] }, type := 55, pos := "ref.go:211", after := #[{ on := 0, ground := Ground.data }], guard := none }) rfl (fun K hK => ?_) AllReadyH.nil)
      go_simp
      ((with_reducible refine (W1 _).mono ?_); rintro e w3 ⟨rfl, hB3⟩; have hL : Below V.heap.size V w3 := btr hHeld.1 hB3; clear hHeld)
      refine hK.out _ _ (by exact tc_of HT.out hL) (fun hHeld => ?_)
      clear hK K
      (try simp only [Act.put, List.setIfInBounds_toArray, List.set_cons_zero, List.set_cons_succ])
      refine wpAnyH_ready (rs := [3]) (by kernel_rfl) (by simp) (AllReadyH.cons (o := { dst := some 18, op := Op.call { callee := Callee.value (Operand.func 47), args := #[Operand.tmp 17], argTypes := #[57] }, type := 55, pos := "ref.go:211", after := #[{ on := 2, ground := Ground.data }, { on := 1, ground := Ground.chain }], guard := none }) rfl (fun K hK => ?_) AllReadyH.nil)
      go_simp
      ((with_reducible refine (R2 _).mono ?_); rintro e w3 ⟨rfl, hB3⟩; have hL : Below V.heap.size V w3 := btr hHeld.1 hB3; clear hHeld)
      refine hK.out _ _ (by exact tc_of HT.out hL) (fun hHeld => ?_)
      clear hK K
      (try simp only [Act.put, List.setIfInBounds_toArray, List.set_cons_zero, List.set_cons_succ])
      refine wpAnyH_ready (rs := [5]) (by kernel_rfl) (by simp) (AllReadyH.cons (o := { dst := some 20, op := Op.call { callee := Callee.value (Operand.func 46), args := #[Operand.tmp 19], argTypes := #[57] }, type := 55, pos := "ref.go:211", after := #[{ on := 4, ground := Ground.data }, { on := 3, ground := Ground.chain }], guard := none }) rfl (fun K hK => ?_) AllReadyH.nil)
      go_simp
      ((with_reducible refine (W2 _).mono ?_); rintro e w3 ⟨rfl, hB3⟩; have hL : Below V.heap.size V w3 := btr hHeld.1 hB3; clear hHeld)
      refine hK.out _ _ (by exact tc_of HT.out hL) (fun hHeld => ?_)
      clear hK K
      (try simp only [Act.put, List.setIfInBounds_toArray, List.set_cons_zero, List.set_cons_succ])
      refine wpAnyH_take (i := 6) (oi := { dst := some 21, op := Op.binOp BinOp.or 55 (Operand.tmp 18) (Operand.tmp 20) 55, type := 55, pos := "ref.go:211", after := #[{ on := 3, ground := Ground.data }, { on := 5, ground := Ground.data }], guard := none }) (v := ?_) rfl (by kernel_rfl) (by kernel_rfl) (by kernel_rfl) (fun _ _ _ h => h) (Or.inl ⟨by rfl, ?_⟩) (by assumption) ?_
      rotate_left
      (intro w0 hSw; (try dsimp only at hSw); go_simp; try (with_reducible rfl))
      (try simp only [Act.put, List.setIfInBounds_toArray, List.set_cons_zero, List.set_cons_succ])
      refine wpAnyH_take (i := 7) (oi := { dst := some 22, op := Op.binOp BinOp.and 55 (Operand.tmp 16) (Operand.tmp 21) 55, type := 55, pos := "ref.go:211", after := #[{ on := 1, ground := Ground.data }, { on := 6, ground := Ground.data }], guard := none }) (v := ?_) rfl (by kernel_rfl) (by kernel_rfl) (by kernel_rfl) (fun _ _ _ h => h) (Or.inl ⟨by rfl, ?_⟩) (by assumption) ?_
      rotate_left
      (intro w0 hSw; (try dsimp only at hSw); go_simp; try (with_reducible rfl))
      (try simp only [Act.put, List.setIfInBounds_toArray, List.set_cons_zero, List.set_cons_succ])
      refine wpAnyH_take (i := 8) (oi := { dst := some 23, op := Op.binOp BinOp.neq 55 (Operand.tmp 22) (Operand.const (Value.int IntKind.u64 0)) 55, type := 4, pos := "ref.go:211", after := #[{ on := 7, ground := Ground.data }], guard := none }) (v := ?_) rfl (by kernel_rfl) (by kernel_rfl) (by kernel_rfl) (fun _ _ _ h => h) (Or.inl ⟨by rfl, ?_⟩) (by assumption) ?_
      rotate_left
      (intro w0 hSw; (try dsimp only at hSw); go_simp; try (with_reducible rfl))
      (try simp only [Act.put, List.setIfInBounds_toArray, List.set_cons_zero, List.set_cons_succ])
      refine wpAnyH_take (i := 9) (oi := { dst := some 24, op := Op.move (Operand.tmp 23), type := 4, pos := "ref.go:211", after := #[{ on := 8, ground := Ground.data }, { on := 5, ground := Ground.chain }], guard := none }) (v := ?_) rfl (by kernel_rfl) (by kernel_rfl) (by kernel_rfl) (fun _ _ _ h => h) (Or.inl ⟨by rfl, ?_⟩) (by assumption) ?_
      rotate_left
      (intro w0 hSw; (try dsimp only at hSw); go_simp; try (with_reducible rfl))
      (try simp only [Act.put, List.setIfInBounds_toArray, List.set_cons_zero, List.set_cons_succ])
      refine wpAnyH_take (i := 10) (oi := { dst := some 25, op := Op.load 57 (Operand.tmp 3), type := 57, pos := "ref.go:211", after := #[{ on := 9, ground := Ground.guard }], guard := some (9, false) }) (v := ?_) rfl (by kernel_rfl) (by kernel_rfl) (by kernel_rfl) (fun _ _ _ h => h) (Or.inl ⟨by rfl, ?_⟩) (by assumption) ?_
      rotate_left
      (intro w0 hSw; (try dsimp only at hSw); go_simp; try (with_reducible rfl))
      (try simp only [Act.put, List.setIfInBounds_toArray, List.set_cons_zero, List.set_cons_succ])
      refine wpAnyH_take (i := 12) (oi := { dst := some 27, op := Op.load 57 (Operand.tmp 2), type := 57, pos := "ref.go:211", after := #[{ on := 9, ground := Ground.guard }], guard := some (9, false) }) (v := ?_) rfl (by kernel_rfl) (by kernel_rfl) (by kernel_rfl) (fun _ _ _ h => h) (Or.inl ⟨by rfl, ?_⟩) (by assumption) ?_
      rotate_left
      (intro w0 hSw; (try dsimp only at hSw); go_simp; try (with_reducible rfl))
      (try simp only [Act.put, List.setIfInBounds_toArray, List.set_cons_zero, List.set_cons_succ])
      refine wpAnyH_ready (rs := [11]) (by kernel_rfl) (by simp) (AllReadyH.cons (o := { dst := some 26, op := Op.call { callee := Callee.value (Operand.func 46), args := #[Operand.tmp 25], argTypes := #[57] }, type := 55, pos := "ref.go:211", after := #[{ on := 10, ground := Ground.data }, { on := 9, ground := Ground.chain }, { on := 9, ground := Ground.guard }], guard := some (9, false) }) rfl (fun K hK => ?_) AllReadyH.nil)
      go_simp
      ((with_reducible refine (W2 _).mono ?_); rintro e w3 ⟨rfl, hB3⟩; have hL : Below V.heap.size V w3 := btr hHeld.1 hB3; clear hHeld)
      refine hK.out _ _ (by exact tc_of HT.out hL) (fun hHeld => ?_)
      clear hK K
      (try simp only [Act.put, List.setIfInBounds_toArray, List.set_cons_zero, List.set_cons_succ])
      refine wpAnyH_ready (rs := [13]) (by kernel_rfl) (by simp) (AllReadyH.cons (o := { dst := some 28, op := Op.call { callee := Callee.value (Operand.func 47), args := #[Operand.tmp 27], argTypes := #[57] }, type := 55, pos := "ref.go:211", after := #[{ on := 12, ground := Ground.data }, { on := 11, ground := Ground.chain }, { on := 9, ground := Ground.guard }], guard := some (9, false) }) rfl (fun K hK => ?_) AllReadyH.nil)
      go_simp
      ((with_reducible refine (R1 _).mono ?_); rintro e w3 ⟨rfl, hB3⟩; have hL : Below V.heap.size V w3 := btr hHeld.1 hB3; clear hHeld)
      refine hK.out _ _ (by exact tc_of HT.out hL) (fun hHeld => ?_)
      clear hK K
      (try simp only [Act.put, List.setIfInBounds_toArray, List.set_cons_zero, List.set_cons_succ])
      refine wpAnyH_take (i := 14) (oi := { dst := some 29, op := Op.binOp BinOp.and 55 (Operand.tmp 26) (Operand.tmp 28) 55, type := 55, pos := "ref.go:211", after := #[{ on := 11, ground := Ground.data }, { on := 13, ground := Ground.data }, { on := 9, ground := Ground.guard }], guard := some (9, false) }) (v := ?_) rfl (by kernel_rfl) (by kernel_rfl) (by kernel_rfl) (fun _ _ _ h => h) (Or.inl ⟨by rfl, ?_⟩) (by assumption) ?_
      rotate_left
      (intro w0 hSw; (try dsimp only at hSw); go_simp; try (with_reducible rfl))
      (try simp only [Act.put, List.setIfInBounds_toArray, List.set_cons_zero, List.set_cons_succ])
      refine wpAnyH_take (i := 15) (oi := { dst := some 30, op := Op.binOp BinOp.neq 55 (Operand.tmp 29) (Operand.const (Value.int IntKind.u64 0)) 55, type := 4, pos := "ref.go:211", after := #[{ on := 14, ground := Ground.data }, { on := 9, ground := Ground.guard }], guard := some (9, false) }) (v := ?_) rfl (by kernel_rfl) (by kernel_rfl) (by kernel_rfl) (fun _ _ _ h => h) (Or.inl ⟨by rfl, ?_⟩) (by assumption) ?_
      rotate_left
      (intro w0 hSw; (try dsimp only at hSw); go_simp; try (with_reducible rfl))
      (try simp only [Act.put, List.setIfInBounds_toArray, List.set_cons_zero, List.set_cons_succ])
      refine wpAnyH_take (i := 16) (oi := { dst := some 31, op := Op.pick (Operand.tmp 24) (Operand.const (Value.bool true)) (Operand.tmp 30), type := 4, pos := "ref.go:211", after := #[{ on := 9, ground := Ground.data }, { on := 15, ground := Ground.data }], guard := none }) (v := ?_) rfl (by kernel_rfl) (by kernel_rfl) (by kernel_rfl) (fun _ _ _ h => h) (Or.inl ⟨by rfl, ?_⟩) (by assumption) ?_
      rotate_left
      (intro w0 hSw; (try dsimp only at hSw); go_simp; try (with_reducible rfl))
      (try simp only [Act.put, List.setIfInBounds_toArray, List.set_cons_zero, List.set_cons_succ])
      refine wpAnyH_done (by kernel_rfl) ?_ _
      refine NoPanic.normal ?_
      go_wp2
      go_ret
      exact ⟨by rw [HR.out]; rfl, btr HT.out.below hL⟩)
  have HD4 : Hid (R = (o.qs.any fun x => decide (x ∈ p.qs))) := by show _ = _; rw [HD3.out, Bool.not_eq_true _ |>.mp x2]; rfl
  replace x2 := Bool.not_eq_true _ |>.mp x2
  clear HD3
  rcases h1' with h1 | ⟨h1, h2⟩
  all_goals (
      go_enter Try.func28, Try.ntmps28
      go_upto_region 3 with (fail)
      rw [show (w.alloc (.cells #[.int .i64 o.k, .string o.n, .slice a o.qs.length c, .int .i64 o.b, .bool o.f, .int .u64 o.m, .int .u64 o.v] 57)).alloc (.cells #[.int .i64 p.k, .string p.n, .slice b p.qs.length d, .int .i64 p.b, .bool p.f, .int .u64 p.m, .int .u64 p.v] 57) = V from HV0.out.symm]
      refine wp_region_noPanic ?_
      refine wp_region_held_drew (S := fun w' => TC V w' w.heap.size o p a b c d) (by kernel_rfl) (by exact tc_of HT.out (below_drew hV)) (fun hHeld => ?_)
      refine wpAnyH_take (i := 0) (oi := { dst := some 15, op := Op.load 57 (Operand.tmp 2), type := 57, pos := "ref.go:211", after := #[], guard := none }) (v := ?_) rfl (by kernel_rfl) (by kernel_rfl) (by kernel_rfl) (fun _ _ _ h => h) (Or.inl ⟨by rfl, ?_⟩) (by assumption) ?_
      rotate_left
      (intro w0 hSw; (try dsimp only at hSw); go_simp; try (with_reducible rfl))
      (try simp only [Act.put, List.setIfInBounds_toArray, List.set_cons_zero, List.set_cons_succ])
      refine wpAnyH_take (i := 2) (oi := { dst := some 17, op := Op.load 57 (Operand.tmp 3), type := 57, pos := "ref.go:211", after := #[], guard := none }) (v := ?_) rfl (by kernel_rfl) (by kernel_rfl) (by kernel_rfl) (fun _ _ _ h => h) (Or.inl ⟨by rfl, ?_⟩) (by assumption) ?_
      rotate_left
      (intro w0 hSw; (try dsimp only at hSw); go_simp; try (with_reducible rfl))
      (try simp only [Act.put, List.setIfInBounds_toArray, List.set_cons_zero, List.set_cons_succ])
      refine wpAnyH_take (i := 4) (oi := { dst := some 19, op := Op.load 57 (Operand.tmp 3), type := 57, pos := "ref.go:211", after := #[], guard := none }) (v := ?_) rfl (by kernel_rfl) (by kernel_rfl) (by kernel_rfl) (fun _ _ _ h => h) (Or.inl ⟨by rfl, ?_⟩) (by assumption) ?_
      rotate_left
      (intro w0 hSw; (try dsimp only at hSw); go_simp; try (with_reducible rfl))
      (try simp only [Act.put, List.setIfInBounds_toArray, List.set_cons_zero, List.set_cons_succ])
      refine wpAnyH_ready (rs := [1]) (by kernel_rfl) (by simp) (AllReadyH.cons (o := { dst := some 16, op := Op.call { callee := Callee.value (Operand.func 46), args := #[Operand.tmp 15], argTypes := #[57] }, type := 55, pos := "ref.go:211", after := #[{ on := 0, ground := Ground.data }], guard := none }) rfl (fun K hK => ?_) AllReadyH.nil)
      go_simp
      ((with_reducible refine (W1 _).mono ?_); rintro e w3 ⟨rfl, hB3⟩; have hL : Below V.heap.size V w3 := btr hHeld.1 hB3; clear hHeld)
      refine hK.out _ _ (by exact tc_of HT.out hL) (fun hHeld => ?_)
      clear hK K
      (try simp only [Act.put, List.setIfInBounds_toArray, List.set_cons_zero, List.set_cons_succ])
      refine wpAnyH_ready (rs := [3]) (by kernel_rfl) (by simp) (AllReadyH.cons (o := { dst := some 18, op := Op.call { callee := Callee.value (Operand.func 47), args := #[Operand.tmp 17], argTypes := #[57] }, type := 55, pos := "ref.go:211", after := #[{ on := 2, ground := Ground.data }, { on := 1, ground := Ground.chain }], guard := none }) rfl (fun K hK => ?_) AllReadyH.nil)
      go_simp
      ((with_reducible refine (R2 _).mono ?_); rintro e w3 ⟨rfl, hB3⟩; have hL : Below V.heap.size V w3 := btr hHeld.1 hB3; clear hHeld)
      refine hK.out _ _ (by exact tc_of HT.out hL) (fun hHeld => ?_)
      clear hK K
      (try simp only [Act.put, List.setIfInBounds_toArray, List.set_cons_zero, List.set_cons_succ])
      refine wpAnyH_ready (rs := [5]) (by kernel_rfl) (by simp) (AllReadyH.cons (o := { dst := some 20, op := Op.call { callee := Callee.value (Operand.func 46), args := #[Operand.tmp 19], argTypes := #[57] }, type := 55, pos := "ref.go:211", after := #[{ on := 4, ground := Ground.data }, { on := 3, ground := Ground.chain }], guard := none }) rfl (fun K hK => ?_) AllReadyH.nil)
      go_simp
      ((with_reducible refine (W2 _).mono ?_); rintro e w3 ⟨rfl, hB3⟩; have hL : Below V.heap.size V w3 := btr hHeld.1 hB3; clear hHeld)
      refine hK.out _ _ (by exact tc_of HT.out hL) (fun hHeld => ?_)
      clear hK K
      (try simp only [Act.put, List.setIfInBounds_toArray, List.set_cons_zero, List.set_cons_succ])
      refine wpAnyH_take (i := 6) (oi := { dst := some 21, op := Op.binOp BinOp.or 55 (Operand.tmp 18) (Operand.tmp 20) 55, type := 55, pos := "ref.go:211", after := #[{ on := 3, ground := Ground.data }, { on := 5, ground := Ground.data }], guard := none }) (v := ?_) rfl (by kernel_rfl) (by kernel_rfl) (by kernel_rfl) (fun _ _ _ h => h) (Or.inl ⟨by rfl, ?_⟩) (by assumption) ?_
      rotate_left
      (intro w0 hSw; (try dsimp only at hSw); go_simp; try (with_reducible rfl))
      (try simp only [Act.put, List.setIfInBounds_toArray, List.set_cons_zero, List.set_cons_succ])
      refine wpAnyH_take (i := 7) (oi := { dst := some 22, op := Op.binOp BinOp.and 55 (Operand.tmp 16) (Operand.tmp 21) 55, type := 55, pos := "ref.go:211", after := #[{ on := 1, ground := Ground.data }, { on := 6, ground := Ground.data }], guard := none }) (v := ?_) rfl (by kernel_rfl) (by kernel_rfl) (by kernel_rfl) (fun _ _ _ h => h) (Or.inl ⟨by rfl, ?_⟩) (by assumption) ?_
      rotate_left
      (intro w0 hSw; (try dsimp only at hSw); go_simp; try (with_reducible rfl))
      (try simp only [Act.put, List.setIfInBounds_toArray, List.set_cons_zero, List.set_cons_succ])
      refine wpAnyH_take (i := 8) (oi := { dst := some 23, op := Op.binOp BinOp.neq 55 (Operand.tmp 22) (Operand.const (Value.int IntKind.u64 0)) 55, type := 4, pos := "ref.go:211", after := #[{ on := 7, ground := Ground.data }], guard := none }) (v := ?_) rfl (by kernel_rfl) (by kernel_rfl) (by kernel_rfl) (fun _ _ _ h => h) (Or.inl ⟨by rfl, ?_⟩) (by assumption) ?_
      rotate_left
      (intro w0 hSw; (try dsimp only at hSw); go_simp; try (with_reducible rfl))
      (try simp only [Act.put, List.setIfInBounds_toArray, List.set_cons_zero, List.set_cons_succ])
      refine wpAnyH_take (i := 9) (oi := { dst := some 24, op := Op.move (Operand.tmp 23), type := 4, pos := "ref.go:211", after := #[{ on := 8, ground := Ground.data }, { on := 5, ground := Ground.chain }], guard := none }) (v := ?_) rfl (by kernel_rfl) (by kernel_rfl) (by kernel_rfl) (fun _ _ _ h => h) (Or.inl ⟨by rfl, ?_⟩) (by assumption) ?_
      rotate_left
      (intro w0 hSw; (try dsimp only at hSw); go_simp; try (with_reducible rfl))
      (try simp only [Act.put, List.setIfInBounds_toArray, List.set_cons_zero, List.set_cons_succ])
      refine wpAnyH_take (i := 10) (oi := { dst := some 25, op := Op.load 57 (Operand.tmp 3), type := 57, pos := "ref.go:211", after := #[{ on := 9, ground := Ground.guard }], guard := some (9, false) }) (v := ?_) rfl (by kernel_rfl) (by kernel_rfl) (by kernel_rfl) (fun _ _ _ h => h) (Or.inl ⟨by rfl, ?_⟩) (by assumption) ?_
      rotate_left
      (intro w0 hSw; (try dsimp only at hSw); go_simp; try (with_reducible rfl))
      (try simp only [Act.put, List.setIfInBounds_toArray, List.set_cons_zero, List.set_cons_succ])
      refine wpAnyH_take (i := 12) (oi := { dst := some 27, op := Op.load 57 (Operand.tmp 2), type := 57, pos := "ref.go:211", after := #[{ on := 9, ground := Ground.guard }], guard := some (9, false) }) (v := ?_) rfl (by kernel_rfl) (by kernel_rfl) (by kernel_rfl) (fun _ _ _ h => h) (Or.inl ⟨by rfl, ?_⟩) (by assumption) ?_
      rotate_left
      (intro w0 hSw; (try dsimp only at hSw); go_simp; try (with_reducible rfl))
      (try simp only [Act.put, List.setIfInBounds_toArray, List.set_cons_zero, List.set_cons_succ])
      refine wpAnyH_ready (rs := [11]) (by kernel_rfl) (by simp) (AllReadyH.cons (o := { dst := some 26, op := Op.call { callee := Callee.value (Operand.func 46), args := #[Operand.tmp 25], argTypes := #[57] }, type := 55, pos := "ref.go:211", after := #[{ on := 10, ground := Ground.data }, { on := 9, ground := Ground.chain }, { on := 9, ground := Ground.guard }], guard := some (9, false) }) rfl (fun K hK => ?_) AllReadyH.nil)
      go_simp
      ((with_reducible refine (W2 _).mono ?_); rintro e w3 ⟨rfl, hB3⟩; have hL : Below V.heap.size V w3 := btr hHeld.1 hB3; clear hHeld)
      refine hK.out _ _ (by exact tc_of HT.out hL) (fun hHeld => ?_)
      clear hK K
      (try simp only [Act.put, List.setIfInBounds_toArray, List.set_cons_zero, List.set_cons_succ])
      refine wpAnyH_ready (rs := [13]) (by kernel_rfl) (by simp) (AllReadyH.cons (o := { dst := some 28, op := Op.call { callee := Callee.value (Operand.func 47), args := #[Operand.tmp 27], argTypes := #[57] }, type := 55, pos := "ref.go:211", after := #[{ on := 12, ground := Ground.data }, { on := 11, ground := Ground.chain }, { on := 9, ground := Ground.guard }], guard := some (9, false) }) rfl (fun K hK => ?_) AllReadyH.nil)
      go_simp
      ((with_reducible refine (R1 _).mono ?_); rintro e w3 ⟨rfl, hB3⟩; have hL : Below V.heap.size V w3 := btr hHeld.1 hB3; clear hHeld)
      refine hK.out _ _ (by exact tc_of HT.out hL) (fun hHeld => ?_)
      clear hK K
      (try simp only [Act.put, List.setIfInBounds_toArray, List.set_cons_zero, List.set_cons_succ])
      refine wpAnyH_take (i := 14) (oi := { dst := some 29, op := Op.binOp BinOp.and 55 (Operand.tmp 26) (Operand.tmp 28) 55, type := 55, pos := "ref.go:211", after := #[{ on := 11, ground := Ground.data }, { on := 13, ground := Ground.data }, { on := 9, ground := Ground.guard }], guard := some (9, false) }) (v := ?_) rfl (by kernel_rfl) (by kernel_rfl) (by kernel_rfl) (fun _ _ _ h => h) (Or.inl ⟨by rfl, ?_⟩) (by assumption) ?_
      rotate_left
      (intro w0 hSw; (try dsimp only at hSw); go_simp; try (with_reducible rfl))
      (try simp only [Act.put, List.setIfInBounds_toArray, List.set_cons_zero, List.set_cons_succ])
      refine wpAnyH_take (i := 15) (oi := { dst := some 30, op := Op.binOp BinOp.neq 55 (Operand.tmp 29) (Operand.const (Value.int IntKind.u64 0)) 55, type := 4, pos := "ref.go:211", after := #[{ on := 14, ground := Ground.data }, { on := 9, ground := Ground.guard }], guard := some (9, false) }) (v := ?_) rfl (by kernel_rfl) (by kernel_rfl) (by kernel_rfl) (fun _ _ _ h => h) (Or.inl ⟨by rfl, ?_⟩) (by assumption) ?_
      rotate_left
      (intro w0 hSw; (try dsimp only at hSw); go_simp; try (with_reducible rfl))
      (try simp only [Act.put, List.setIfInBounds_toArray, List.set_cons_zero, List.set_cons_succ])
      refine wpAnyH_take (i := 16) (oi := { dst := some 31, op := Op.pick (Operand.tmp 24) (Operand.const (Value.bool true)) (Operand.tmp 30), type := 4, pos := "ref.go:211", after := #[{ on := 9, ground := Ground.data }, { on := 15, ground := Ground.data }], guard := none }) (v := ?_) rfl (by kernel_rfl) (by kernel_rfl) (by kernel_rfl) (fun _ _ _ h => h) (Or.inl ⟨by rfl, ?_⟩) (by assumption) ?_
      rotate_left
      (intro w0 hSw; (try dsimp only at hSw); go_simp; try (with_reducible rfl))
      (try simp only [Act.put, List.setIfInBounds_toArray, List.set_cons_zero, List.set_cons_succ])
      refine wpAnyH_done (by kernel_rfl) ?_ _
      refine NoPanic.normal ?_
      have HT3 := hid (HT.out.on hL)
      clear hHeld hB3 hL HT hV k1 k2 HV0 W1 W2 R1 R2
      have k1 := HT3.out.b1.lt
      have k2 := HT3.out.b2.lt
      have y1 : ∀ j, w3.cell? ⟨w.heap.size, j, none⟩ = _ := HT3.out.b1.cell
      have y2 : ∀ j, w3.cell? ⟨w.heap.size + 1, j, none⟩ = _ := HT3.out.b2.cell
      have hA := HA.out.below HT3.out.below
      have hB := HBQ.out.below HT3.out.below
      clear HA HBQ
      go_wp2
      go_loopw [5] (fun s wr => (∃ n, wr = w3.drewN n) ∧ ∃ k : Nat, k ≤ o.qs.length ∧ s = .int .i64 (k : Nat) ∧ ∀ j (hj : j < o.qs.length), j < k → o.qs[j] ∉ p.qs) (fun s _ => o.qs.length - (intOf s).toNat)
      case atStart => exact ⟨⟨0, rfl⟩, 0, Nat.zero_le _, rfl, fun j _ h => absurd h (Nat.not_lt_zero _)⟩
      case round =>
        obtain ⟨⟨n, rfl⟩, k, hk, rfl, hno⟩ := hrel
        by_cases hlt : k < o.qs.length
        case neg =>
          have HR : Hid (R = false) := by
            show _ = _
            rw [HD4.out, List.any_eq_false]
            intro x hx
            obtain ⟨j, hj, e⟩ := List.getElem_of_mem hx
            have := hno j hj (by omega)
            rw [e] at this
            simpa using this
          obtain rfl : k = o.qs.length := by omega
          clear hno HD4
          go_wp2
          go_ret
          exact ⟨by rw [HR.out]; rfl, (by first | exact btr HT3.out.below (below_d _ _) | exact btr (btr HT3.out.below (below_d _ _)) (below_d _ _))⟩
        obtain ⟨b1, o1, ea, r1⟩ := hA.at_ k hlt
        have hq1 := r1.c k hlt
        have hbl1 := r1.lt
        have HN := hid hno
        have HK : Hid (o.qs[k] ∈ o.qs) := List.getElem_mem hlt
        clear r1 hno
        subst ea
        generalize hx : o.qs[k] = x at *
        go_wp2
        go_loopw [6] (fun s wr => (∃ n, wr = w3.drewN n) ∧ ∃ l : Nat, l ≤ p.qs.length ∧ s = .int .i64 (l : Nat) ∧ ∀ j (hj : j < p.qs.length), j < l → x ≠ p.qs[j]) (fun s _ => p.qs.length - (intOf s).toNat)
        case atStart => exact ⟨⟨n, rfl⟩, 0, Nat.zero_le _, rfl, fun j _ h => absurd h (Nat.not_lt_zero _)⟩
        case round =>
          obtain ⟨⟨n, rfl⟩, l, hl, rfl, hno⟩ := hrel
          by_cases hlt2 : l < p.qs.length
          case neg =>
            have HX : Hid (x ∉ p.qs) := fun hm => by
              obtain ⟨j, hj, e⟩ := List.getElem_of_mem hm
              exact hno j hj (by omega) e.symm
            obtain rfl : l = p.qs.length := by omega
            clear hno
            go_wp2
            go_roundw
            case rel =>
              refine ⟨⟨_, rfl⟩, k + 1, by omega, by go_num, fun j hj h => ?_⟩
              by_cases e : j = k
              · subst e; rw [hx]; exact HX.out
              · exact HN.out j hj (by omega)
            case measure => simp [intOf]; omega
          obtain ⟨b2, o2, eb, r2⟩ := hB.at_ l hlt2
          have hq2 := r2.c l hlt2
          have hbl2 := r2.lt
          have HN2 := hid hno
          have HM : Hid (p.qs[l] ∈ p.qs) := List.getElem_mem hlt2
          clear r2 hno
          subst eb
          generalize hy : p.qs[l] = y at *
          by_cases hxy : x = y
          · subst hxy
            have hxx : (x == x) = true := by simp
            have HR : Hid (R = true) := by show _ = _; rw [HD4.out, List.any_eq_true]; exact ⟨x, HK.out, by simpa using HM.out⟩
            go_wp2
            go_quiet (fail)
            go_wp2
            go_ret
            exact ⟨by rw [HR.out]; rfl, (by first | exact btr HT3.out.below (below_d _ _) | exact btr (btr HT3.out.below (below_d _ _)) (below_d _ _))⟩
          · have hxx : (x == y) = false := by simpa using hxy
            go_wp2
            go_quiet (fail)
            go_wp2
            go_roundw
            case rel =>
              refine ⟨⟨n + nq, by simp [World.drewN]⟩, l + 1, by omega, by go_num, fun j hj h => ?_⟩
              by_cases e : j = l
              · subst e; rw [hy]; exact hxy
              · exact HN2.out j hj (by omega)
            case measure => simp [intOf]; omega)
end
end Go.Proofs.Ytfaoegiignalkaa
