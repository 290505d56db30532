/-
  tableau: found, Certain.
-/
import Derived.Test.YtoddbaljnlhhaaaA5
namespace Go.Proofs.Ytoddbaljnlhhaaa
open Go.RowKit Go.Sort
open PL (pv PS bt)

/-- Z on a qubit. -/
def zP (N q : Nat) : PS := ⟨N, 0, 2 ^ q, 0⟩
theorem zP_ok {N q : Nat} (hN : N ≤ 64) (hq : q < N) : (zP N q).ok := ⟨hN, Nat.two_pow_pos _, Nat.pow_lt_pow_right (by omega) hq, by show 0 < 4; omega⟩
/-- The outcome, where it is certain. -/
def fndT (t : Tb) (q : Int) : Int × Bool × Int :=
  if 0 ≤ q ∧ q < t.n then (if 0 ≤ ffI q.toNat (t.rows.drop t.n.toNat) then (0, false, 0) else if valT t (zP t.n.toNat q.toNat) = 1 then (0, true, 0) else (1, true, 0)) else (0, false, 112)
def fndV (r : Int × Bool × Int) : Value := .tuple #[.int .i64 r.1, .bool r.2.1, .int .i64 r.2.2]
set_option maxHeartbeats 1000000 in
set_option maxRecDepth 100000 in
theorem found_any (t : Tb) (a : Option Addr) (c : Nat) (q : Int) (w : World) (H : TS w a c t.rows) (hR : Rt t) :
    Calls Try.prog 42 #[t.v a c, .int .i64 q] w fun e w' => e = .returned (fndV (fndT t q)) ∧ Below w.heap.size w w' := by
  have HQ := fun w => hasQubit_any t a c q w
  have hB0 := bal (Below.refl w.heap.size w) (.cells #[.int .i64 t.n, .slice a t.rows.length c] 24)
  have hK0 := bk_new w #[.int .i64 t.n, .slice a t.rows.length c] 24
  by_cases hq : 0 ≤ q ∧ q < t.n
  case neg =>
    have e : fndT t q = (0, false, 112) := by unfold fndT; rw [if_neg hq]
    rw [e]
    rw [decide_eq_false hq] at HQ
    clear e hq H hR hK0
    obtain ⟨n, rs⟩ := t
    simp only at *
    go_enter Try.func42, Try.ntmps42
    go_wp2_with (go_at_call 64; (with_reducible refine (HQ _).mono ?_); rintro e w1 ⟨rfl, hB1⟩)
    refine bodyPost_ret (v := .tuple #[.int .i64 0, .bool false, .int .i64 112]) (by simp [results, Try.results42, go_sem]) rfl ⟨rfl, btr hB0 hB1⟩
  rw [decide_eq_true hq] at HQ
  have hn0 := hR.n0
  have hn1 := hR.n1
  have hlen := hR.len
  obtain ⟨q', rfl⟩ := Int.eq_ofNat_of_zero_le hq.1
  obtain ⟨N, hN⟩ := Int.eq_ofNat_of_zero_le hn0
  have hqN : q' < N := by omega
  have hrec : fndT t (q' : Int) = if 0 ≤ ffI q' (t.rows.drop N) then (0, false, 0) else if valT t (zP N q') = 1 then (0, true, 0) else (1, true, 0) := by
    unfold fndT
    rw [if_pos hq, hN, Int.toNat_natCast, Int.toNat_natCast]
  rw [hrec]
  have FF := hid (fun w' (h : Below w.heap.size w w') => firstFlip_any N q' t.rows a c w w' H h (by omega) (by omega) (by omega))
  have VA := hid (fun w' (h : Below w.heap.size w w') => value_any t a c (zP N q') w' (H.below h) hR (zP_ok (by omega) hqN) (by show ((N : Nat) : Int) = t.n; omega))
  have OZ := fun w => PL.one_z N q' w (by omega) hqN
  clear hrec hq H hR hlen hn0 hn1
  obtain ⟨n, rs⟩ := t
  simp only at *
  subst hN
  generalize ffI q' (rs.drop N) = fi at *
  generalize valT ⟨(N : Int), rs⟩ (zP N q') = vz at *
  have hzp : zP N q' = ⟨N, 0, 2 ^ q', 0⟩ := rfl
  rw [hzp] at VA
  clear hzp
  generalize 2 ^ q' = Z at *
  by_cases hf : 0 ≤ fi
  · rw [if_pos hf]
    go_enter Try.func42, Try.ntmps42
    go_wp2_with (first
      | (go_at_call 64; (with_reducible refine (HQ _).mono ?_); rintro e w1 ⟨rfl, hB1⟩; (have k1 := bk_on hK0 hB1); (have d1 := k1.cell); have l1 := k1.lt)
      | (go_at_call 65; (with_reducible refine (FF.out _ (btr hB0 hB1)).mono ?_); rintro e w2 ⟨rfl, hB2⟩))
    refine bodyPost_ret (v := .tuple #[.int .i64 0, .bool false, .int .i64 0]) (by simp [results, Try.results42, go_sem]) rfl ⟨rfl, btr (btr hB0 hB1) hB2⟩
  rw [if_neg hf]
  by_cases hv : vz = 1
  · rw [if_pos hv]
    go_enter Try.func42, Try.ntmps42
    go_wp2_with (first
      | (go_at_call 64; (with_reducible refine (HQ _).mono ?_); rintro e w1 ⟨rfl, hB1⟩; (have k1 := bk_on hK0 hB1); (have d1 := k1.cell); have l1 := k1.lt)
      | (go_at_call 65; (with_reducible refine (FF.out _ (btr hB0 hB1)).mono ?_); rintro e w2 ⟨rfl, hB2⟩; (have k2 := bk_on (bk_on hK0 hB1) hB2); (have d2 := k2.cell); have l2 := k2.lt)
      | (go_at_call 41; (with_reducible refine (OZ _).mono ?_); rintro e w3 ⟨rfl, hB3⟩; (have k3 := (bk_on (bk_on (bk_on hK0 hB1) hB2) hB3).alloc (.cells #[.int .i64 (N : Int), .int .u64 0, .int .u64 (Z : Int), .int .i64 0] 27)); (have d3 := k3.cell); (have l3 := k3.lt); (have hz : PL.PB (w3.alloc (.cells #[.int .i64 (N : Int), .int .u64 0, .int .u64 (Z : Int), .int .i64 0] 27)) w3.heap.size N 0 Z 0 := PL.PB.new w3 N 0 Z 0); obtain ⟨z0, z1, z2, z3, _, _, _, _⟩ := hz)
      | (go_at_call 45; refine Hid.out ?_))
    refine hid ?_
    refine (VA.out _ (bal (btr (btr (btr hB0 hB1) hB2) hB3) _)).mono ?_
    rintro e w4 ⟨rfl, hB4⟩
    go_wp2
    refine bodyPost_ret (v := .tuple #[.int .i64 0, .bool true, .int .i64 0]) (by simp [results, Try.results42, go_sem]) rfl ⟨rfl, btr (bal (btr (btr (btr hB0 hB1) hB2) hB3) _) hB4⟩
  · rw [if_neg hv]
    have hv' : (vz == 1) = false := beq_eq_false_iff_ne.2 hv
    go_enter Try.func42, Try.ntmps42
    go_wp2_with (first
      | (go_at_call 64; (with_reducible refine (HQ _).mono ?_); rintro e w1 ⟨rfl, hB1⟩; (have k1 := bk_on hK0 hB1); (have d1 := k1.cell); have l1 := k1.lt)
      | (go_at_call 65; (with_reducible refine (FF.out _ (btr hB0 hB1)).mono ?_); rintro e w2 ⟨rfl, hB2⟩; (have k2 := bk_on (bk_on hK0 hB1) hB2); (have d2 := k2.cell); have l2 := k2.lt)
      | (go_at_call 41; (with_reducible refine (OZ _).mono ?_); rintro e w3 ⟨rfl, hB3⟩; (have k3 := (bk_on (bk_on (bk_on hK0 hB1) hB2) hB3).alloc (.cells #[.int .i64 (N : Int), .int .u64 0, .int .u64 (Z : Int), .int .i64 0] 27)); (have d3 := k3.cell); (have l3 := k3.lt); (have hz : PL.PB (w3.alloc (.cells #[.int .i64 (N : Int), .int .u64 0, .int .u64 (Z : Int), .int .i64 0] 27)) w3.heap.size N 0 Z 0 := PL.PB.new w3 N 0 Z 0); obtain ⟨z0, z1, z2, z3, _, _, _, _⟩ := hz)
      | (go_at_call 45; refine Hid.out ?_))
    refine hid ?_
    refine (VA.out _ (bal (btr (btr (btr hB0 hB1) hB2) hB3) _)).mono ?_
    rintro e w4 ⟨rfl, hB4⟩
    go_wp2
    refine bodyPost_ret (v := .tuple #[.int .i64 1, .bool true, .int .i64 0]) (by simp [results, Try.results42, go_sem]) rfl ⟨rfl, btr (bal (btr (btr (btr hB0 hB1) hB2) hB3) _) hB4⟩
set_option maxHeartbeats 1000000 in
set_option maxRecDepth 100000 in
theorem certain_t (t : Tb) (a : Option Addr) (c : Nat) (q : Int) (w : World) (H : TS w a c t.rows) (hR : Rt t) :
    Calls Try.prog 15 #[t.v a c, .int .i64 q] w fun e w' => e = .returned (fndV (fndT t q)) ∧ Below w.heap.size w w' := by
  have CK := fun w' (h : Below w.heap.size w w') => check_t t a c w' (H.below h) hR
  have FO := hid (fun w' (h : Below w.heap.size w w') => found_any t a c q w' (H.below h) hR)
  have hB0 := bal (Below.refl w.heap.size w) (.cells #[.int .i64 t.n, .slice a t.rows.length c] 24)
  have hK0 := bk_new w #[.int .i64 t.n, .slice a t.rows.length c] 24
  clear H hR
  generalize fndT t q = r at *
  obtain ⟨r1, r2, r3⟩ := r
  obtain ⟨n, rs⟩ := t
  simp only at *
  go_enter Try.func15, Try.ntmps15
  go_wp2_with (first
    | (go_at_call 18; (with_reducible refine (CK _ hB0).mono ?_); rintro e w1 ⟨rfl, hB1⟩; (have k1 := bk_on hK0 hB1); (have d1 := k1.cell); have l1 := k1.lt)
    | (go_at_call 42; refine Hid.out ?_))
  refine hid ?_
  refine (FO.out _ (btr hB0 hB1)).mono ?_
  rintro e w2 ⟨rfl, hB2⟩
  unfold fndV
  go_wp2
  refine bodyPost_ret (v := .tuple #[.int .i64 r1, .bool r2, .int .i64 r3]) (by simp [results, Try.results15, go_sem]) rfl ⟨rfl, btr (btr hB0 hB1) hB2⟩
set_option maxHeartbeats 1000000 in
set_option maxRecDepth 100000 in
theorem certain_f (t : Tb) (a : Option Addr) (c : Nat) (q : Int) (w : World) (H : TS w a c t.rows) (hR : ¬ Rt t) :
    Calls Try.prog 15 #[t.v a c, .int .i64 q] w fun e w' => e = .returned (fndV (0, false, 180)) ∧ Below w.heap.size w w' := by
  have CK := fun w' (h : Below w.heap.size w w') => check_f t a c w' (H.below h) hR
  have hB0 := bal (Below.refl w.heap.size w) (.cells #[.int .i64 t.n, .slice a t.rows.length c] 24)
  clear H hR
  obtain ⟨n, rs⟩ := t
  simp only at *
  go_enter Try.func15, Try.ntmps15
  go_wp2_with (go_at_call 18; (with_reducible refine (CK _ hB0).mono ?_); rintro e w1 ⟨rfl, hB1⟩)
  refine bodyPost_ret (v := .tuple #[.int .i64 0, .bool false, .int .i64 180]) (by simp [results, Try.results15, go_sem]) rfl ⟨rfl, btr hB0 hB1⟩
end Go.Proofs.Ytoddbaljnlhhaaa
