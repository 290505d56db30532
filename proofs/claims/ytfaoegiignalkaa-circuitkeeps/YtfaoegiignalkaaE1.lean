/-
  Marks of operations: least and put.
-/
import Derived.Test.YtfaoegiignalkaaD5
namespace Go.Proofs.Ytfaoegiignalkaa
open Go.RowKit Go.Sort

/-- Does the condition look at the bit? -/
def rdB (m : Int) (bit : Nat) : Bool := bits BinOp.and IntKind.u64 (m / 2 ^ bit) 1 == 1
set_option maxHeartbeats 400000 in
theorem reads_any (o : Oq) (a : Option Addr) (c bit : Nat) (w : World) (hf : Fit o) (hb : bit < 64) : Calls Try.prog 58 #[opv o a c, .int .i64 bit] w fun e w' => e = .returned (.bool (rdB o.m bit)) ∧ Below w.heap.size w w' := by
  obtain ⟨h1, h2, h3, h4, h5⟩ := hf
  go_enter Try.func58, Try.ntmps58
  go_wp2
  go_ret
  exact ⟨rfl, bal (Below.refl _ _) _⟩
set_option maxHeartbeats 400000 in
theorem coin_any (o : Oq) (a : Option Addr) (c : Nat) (w : World) : Calls Try.prog 59 #[opv o a c] w fun e w' => e = .returned (.bool (o.k != 1)) ∧ Below w.heap.size w w' := by
  go_enter Try.func59, Try.ntmps59
  go_wp2
  go_ret
  exact ⟨rfl, bal (Below.refl _ _) _⟩
/-- Marks in memory. -/
structure MK (W : World) (B : Nat) (f : Nat → Nat) : Prop where
  c : ∀ j, j < 193 → W.cell? ⟨B, j, none⟩ = some (.int .i64 (f j : Nat))
  fz : ∀ j, W.frozen? ⟨B, j, none⟩ = false
  lt : B < W.heap.size
  ty : ∃ cs, BK W B cs 78
theorem MK.below {W W' : World} {B : Nat} {f : Nat → Nat} (h : MK W B f) (hb : Below W.heap.size W W') : MK W' B f :=
  ⟨fun j hj => (hb.cell (p := ⟨B, j, none⟩) h.lt).trans (h.c j hj), fun j => (hb.frozen (p := ⟨B, j, none⟩) h.lt).trans (h.fz j), Nat.lt_of_lt_of_le h.lt hb.size, by obtain ⟨cs, e⟩ := h.ty; exact ⟨cs, (hb.block _ h.lt).trans e⟩⟩
def lstQ (f : Nat → Nat) : List Int → Nat → Nat
  | [], a => a
  | q :: l, a => lstQ f l (max a (f q.toNat))
def lstR (f : Nat → Nat) (m : Int) : Nat → Nat → Nat
  | 0, a => a
  | k + 1, a => if rdB m k = true then max (lstR f m k a) (f (64 + k)) else lstR f m k a
def lstB (f : Nat → Nat) (o : Oq) (a : Nat) : Nat := if o.k = 2 then max (max a (f (64 + o.b.toNat))) (f (128 + o.b.toNat)) else a
def lstC (f : Nat → Nat) (o : Oq) (a : Nat) : Nat := if o.k = 1 then a else max a (f 192)
/-- One more than the greatest value of those that are bound to it. -/
def lst (f : Nat → Nat) (o : Oq) : Nat := lstC f o (lstB f o (lstR f o.m 64 (lstQ f o.qs 0)))
theorem lstQ_snoc (f : Nat → Nat) : ∀ (l : List Int) (q : Int) (a : Nat), lstQ f (l ++ [q]) a = max (lstQ f l a) (f q.toNat)
  | [], _, _ => rfl
  | _ :: l, q, _ => lstQ_snoc f l q _
theorem mx (s t : Nat) : (if s < t then (t : Int) else (s : Int)) = ((max s t : Nat) : Int) := by
  by_cases h : s < t
  · rw [if_pos h]; congr 1; omega
  · rw [if_neg h]; congr 1; omega
theorem mxI (s t : Nat) : (if (s : Int) < (t : Int) then (t : Int) else (s : Int)) = ((max s t : Nat) : Int) := by
  by_cases h : s < t
  · rw [if_pos (by omega)]; congr 1; omega
  · rw [if_neg (by omega)]; congr 1; omega
theorem int_eq {k : IntKind} {a b : Int} (h : a = b) : Value.int k a = Value.int k b := by rw [h]
/-- The operation's numbers are in range. -/
structure Okay (o : Oq) : Prop where
  fit : Fit o
  q0 : ∀ j (h : j < o.qs.length), 0 ≤ o.qs[j] ∧ o.qs[j] < 64
  b0 : o.k = 2 → 0 ≤ o.b ∧ o.b < 64
set_option maxHeartbeats 2000000 in
set_option maxRecDepth 100000 in
theorem least_any (o : Oq) (a : Option Addr) (c B : Nat) (f : Nat → Nat) (w : World) (hM : MK w B f) (ho : Okay o) (hq : QS w a c o.qs) (hb : ∀ j, f j ≤ 4611686018427387904) :
    Calls Try.prog 43 #[.pointer (some ⟨B, 0, none⟩), opv o a c] w fun e w' => e = .returned (.int .i64 (lst f o : Nat)) ∧ Below w.heap.size w w' := by
  have RD := fun k w hk => reads_any o a c k w ho.fit hk
  have CO := fun w => coin_any o a c w
  have HM : Hid (MK w B f) := hM
  have HQ : Hid (QS w a c o.qs) := hq
  have HO : Hid (Okay o) := ho
  have hl := ho.fit.l
  have HF : Hid (∀ j, f j ≤ 4611686018427387904) := hb
  have hcap := hq.cap
  clear hM hq ho hb
  obtain ⟨L, hL⟩ : ∃ L, lst f o = L := ⟨_, rfl⟩
  rw [hL]
  have HL0 : Hid (lst f o = L) := hL
  clear hL
  go_enter Try.func43, Try.ntmps43
  go_wp2
  go_loop [5, 12] (fun v5 v12 => ∃ k s : Nat, k ≤ o.qs.length ∧ s ≤ 4611686018427387904 ∧ v5 = .int .i64 s ∧ v12 = .int .i64 k ∧ Hid (s = lstQ f (o.qs.take k) 0)) (fun _ v12 => o.qs.length - (intOf v12).toNat)
  case atStart => exact ⟨0, 0, Nat.zero_le _, Nat.zero_le _, rfl, rfl, rfl⟩
  case round =>
    obtain ⟨k, s, hk, hs, rfl, rfl, hS⟩ := hrel
    by_cases hlt : k < o.qs.length
    · obtain ⟨b', o', rfl, r0⟩ := HQ.out.at_ k hlt
      have c0 : ∀ x, (w.alloc x).cell? ⟨b', o' + k, none⟩ = some (.int .i64 o.qs[k]) := fun x => (r0.below (bal (Below.refl _ _) x)).c k hlt
      have hbl := r0.lt
      obtain ⟨q0, q1⟩ := HO.out.q0 k hlt
      have hS2 : lstQ f (o.qs.take (k + 1)) 0 = max s (f o.qs[k].toNat) := by rw [List.take_succ_eq_append_getElem hlt, lstQ_snoc, hS.out]
      obtain ⟨q, hq⟩ : ∃ q : Nat, o.qs[k] = (q : Int) := ⟨o.qs[k].toNat, by omega⟩
      rw [hq] at c0 q0 q1 hS2
      have hq64 : q < 64 := by omega
      have hMl := HM.out.lt
      have mq : ∀ x, (w.alloc x).cell? ⟨B, q, none⟩ = some (.int .i64 (f q : Nat)) := fun x => (HM.out.below (bal (Below.refl _ _) x)).c q (by omega)
      have hfq := HF.out q
      have HS2 : Hid (lstQ f (o.qs.take (k + 1)) 0 = max s (f q)) := by show _ = _; rw [hS2]; rfl
      clear hS2 hS hq r0
      generalize f q = fq at *
      go_wp2
      go_round
      case rel => exact ⟨k + 1, max s fq, by omega, by omega, int_eq (mx s fq), by go_num, HS2.out.symm⟩
      case measure => simp [intOf]; omega
    obtain rfl : k = o.qs.length := by omega
    have HS1 : Hid (s = lstQ f o.qs 0) := by show _ = _; rw [hS.out, List.take_length]
    clear hS
    have bx := bk_new w (opc o a c).toArray 57
    have HW0 : Hid (Below w.heap.size w (w.alloc (.cells (opc o a c).toArray 57)) ∧ BK (w.alloc (.cells (opc o a c).toArray 57)) w.heap.size (opc o a c).toArray 57) := ⟨bal (Below.refl _ _) _, bx⟩
    go_wp2
    go_loopw [5, 25] (fun v5 v25 wr => ∃ k t : Nat, k ≤ 64 ∧ t ≤ 4611686018427387904 ∧ v5 = .int .i64 t ∧ v25 = .int .i64 k ∧ Hid (t = lstR f o.m k s) ∧ Hid (Below w.heap.size w wr ∧ BK wr w.heap.size (opc o a c).toArray 57)) (fun _ v25 _ => 64 - (intOf v25).toNat)
    case atStart => exact ⟨0, s, by omega, hs, rfl, rfl, rfl, HW0⟩
    case round =>
      clear HW0 bx
      obtain ⟨k, t, hk, ht, rfl, rfl, hT, hW⟩ := hrel
      have qO : ∀ j, wr.cell? ⟨w.heap.size, j, none⟩ = _ := hW.out.2.cell
      have zO := hW.out.2.lt
      by_cases hlt : k < 64
      · have RK := fun w => RD k w hlt
        have hMl := (HM.out.below hW.out.1).lt
        have mq : ∀ W, Below wr.heap.size wr W → W.cell? ⟨B, 64 + k, none⟩ = some (.int .i64 (f (64 + k) : Nat)) ∧ B < W.heap.size := fun W h => ⟨(HM.out.below (btr hW.out.1 h)).c (64 + k) (by omega), (HM.out.below (btr hW.out.1 h)).lt⟩
        have hfq := HF.out (64 + k)
        have hT2 : lstR f o.m (k + 1) s = if rdB o.m k = true then max t (f (64 + k)) else t := by rw [hT.out]; rfl
        generalize f (64 + k) = fq at *
        cases hr : rdB o.m k with
        | true =>
          rw [hr] at RK hT2
          have HT2 : Hid (lstR f o.m (k + 1) s = max t fq) := hT2
          clear hT2 hT
          go_wp2_with (go_at_call 58; (with_reducible refine (RK _).mono ?_); rintro e w2 ⟨rfl, hB2⟩; obtain ⟨mq1, mq2⟩ := mq _ hB2)
          go_roundw
          case rel => exact ⟨k + 1, max t fq, by omega, by omega, int_eq (mx t fq), by go_num, HT2.out.symm, btr hW.out.1 hB2, (hB2.block _ zO).trans hW.out.2⟩
          case measure => simp [intOf]; omega
        | false =>
          rw [hr] at RK hT2
          have HT2 : Hid (lstR f o.m (k + 1) s = t) := hT2
          clear hT2 hT
          go_wp2_with (go_at_call 58; (with_reducible refine (RK _).mono ?_); rintro e w2 ⟨rfl, hB2⟩)
          go_roundw
          case rel => exact ⟨k + 1, t, by omega, by omega, rfl, by go_num, HT2.out.symm, btr hW.out.1 hB2, (hB2.block _ zO).trans hW.out.2⟩
          case measure => simp [intOf]; omega
      obtain rfl : k = 64 := by omega
      have hMl := (HM.out.below hW.out.1).lt
      have HLS : Hid (L = lstC f o (lstB f o t)) := by show _ = _; rw [← HL0.out]; unfold lst; rw [hT.out, HS1.out]
      have mc : ∀ W, Below wr.heap.size wr W → W.cell? ⟨B, 192, none⟩ = some (.int .i64 (f 192 : Nat)) ∧ B < W.heap.size := fun W h => ⟨(HM.out.below (btr hW.out.1 h)).c 192 (by omega), (HM.out.below (btr hW.out.1 h)).lt⟩
      have hfc := HF.out 192
      clear hT HS1 RD
      by_cases hk2 : o.k = 2
      · obtain ⟨q0, q1⟩ := HO.out.b0 hk2
        obtain ⟨q, hq⟩ : ∃ q : Nat, o.b = (q : Int) := ⟨o.b.toNat, by omega⟩
        have hq64 : q < 64 := by omega
        have HL2 : Hid (L = max (max (max t (f (64 + q))) (f (128 + q))) (f 192)) := by show _ = _; rw [HLS.out]; unfold lstC lstB; rw [if_pos hk2, if_neg (by omega), hq]; rfl
        have m1 : wr.cell? ⟨B, 64 + q, none⟩ = some (.int .i64 (f (64 + q) : Nat)) := (HM.out.below hW.out.1).c _ (by omega)
        have m2 : wr.cell? ⟨B, 128 + q, none⟩ = some (.int .i64 (f (128 + q) : Nat)) := (HM.out.below hW.out.1).c _ (by omega)
        have hf1 := HF.out (64 + q)
        have hf2 := HF.out (128 + q)
        have n3 : wr.cell? ⟨w.heap.size, 3, none⟩ = some (.int .i64 (q : Int)) := by rw [← hq]; exact hW.out.2.cell 3
        have hk1b : (o.k != 1) = true := by rw [hk2]; decide
        rw [hk1b] at CO
        have CO2 : ∀ w, Calls Try.prog 59 #[.agg #[.int .i64 o.k, .string o.n, .slice a o.qs.length c, .int .i64 (q : Int), .bool o.f, .int .u64 o.m, .int .u64 o.v]] w fun e w' => e = .returned (.bool true) ∧ Below w.heap.size w w' := fun w => by rw [← hq]; exact CO w
        generalize f 192 = fc at *
        generalize f (64 + q) = f1 at *
        generalize f (128 + q) = f2 at *
        clear HLS
        have hk2b : (o.k == 2) = true := by simpa using hk2
        clear hk2
        go_upto_region 14 with (fail)
        go_region
        rw [mx t f1, mxI]
        have hg1 : max (max t f1) f2 ≤ 4611686018427387904 := by omega
        generalize max (max t f1) f2 = g at *
        go_wp2_with (go_at_call 59; (with_reducible refine (CO2 _).mono ?_); rintro e w2 ⟨rfl, hB2⟩; obtain ⟨mc1, mc2⟩ := mc _ (btr (below_drew (Below.refl _ _)) hB2))
        all_goals
          go_ret
          exact ⟨ret_int (by rw [HL2.out]; first | rw [Nat.max_eq_right (by omega)] | rw [Nat.max_eq_left (by omega)]), btr hW.out.1 (btr (below_drew (Below.refl _ _)) hB2)⟩
      · have hk2b : (o.k == 2) = false := by simpa using hk2
        have HL2 : Hid (L = if o.k = 1 then t else max t (f 192)) := by show _ = _; rw [HLS.out]; unfold lstC lstB; rw [if_neg hk2]
        generalize f 192 = fc at *
        clear HLS
        by_cases hk1 : o.k = 1
        · have hk1b : (o.k != 1) = false := by simpa using hk1
          rw [hk1b] at CO
          obtain rfl : L = t := by rw [HL2.out, if_pos hk1]
          clear hk1 hk2 HL2
          go_wp2_with (go_at_call 59; (with_reducible refine (CO _).mono ?_); rintro e w2 ⟨rfl, hB2⟩)
          go_ret
          exact ⟨rfl, btr hW.out.1 hB2⟩
        · have hk1b : (o.k != 1) = true := by simpa using hk1
          rw [hk1b] at CO
          have HL3 : Hid (L = max t fc) := by show _ = _; rw [HL2.out, if_neg hk1]
          clear hk1 hk2 HL2
          go_wp2_with (go_at_call 59; (with_reducible refine (CO _).mono ?_); rintro e w2 ⟨rfl, hB2⟩; obtain ⟨mc1, mc2⟩ := mc _ hB2)
          all_goals
            go_ret
            exact ⟨ret_int (by rw [HL3.out]; first | rw [Nat.max_eq_right (by omega)] | rw [Nat.max_eq_left (by omega)]), btr hW.out.1 hB2⟩
end Go.Proofs.Ytfaoegiignalkaa
