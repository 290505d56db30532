/-
  Put together of: A5 A6 A7.
-/
import Derived.Test.YtoddbaljnlhhaabXI
namespace Go.Proofs.Ytoddbaljnlhhaab
open Go.RowKit Go.Sort
open PL (pv PS bt)

/-- Has a row X or Y on the qubit? -/
def flp (q : Nat) (r : Pr) : Bool := bt r.x q == 1
set_option maxRecDepth 100000 in
theorem flips_any (r : Pr) (q : Nat) (w : World) (hr : r.w64) (hq : q < 64) : Calls Try.prog 61 #[r.v, .int .i64 (q : Nat)] w fun e w' => e = .returned (.bool (flp q r)) ∧ Below w.heap.size w w' := by
  have e1 := PL.i_bit r.x q hr.1
  unfold flp
  rcases PL.bt01 r.x q with h | h
  all_goals
    rw [h] at e1 ⊢
    clear h hr
    obtain ⟨n, x, z, f⟩ := r
    simp only at *
    go_enter Try.func61, Try.ntmps61
    go_wp2
    go_ret
    exact ⟨rfl, bal (Below.refl _ _) _⟩
set_option maxRecDepth 100000 in
theorem flipsC_any (r : Pr) (q pb : Nat) (w : World) (hr : r.w64) (hq : q < 64) (hc : w.cell? ⟨pb, 0, none⟩ = some (.int .i64 (q : Nat))) (hp : pb < w.heap.size) :
    Calls Try.prog 72 #[r.v, .pointer (some ⟨pb, 0, none⟩)] w fun e w' => e = .returned (.bool (flp q r)) ∧ Below w.heap.size w w' := by
  have F := fun w => flips_any r q w hr hq
  generalize flp q r = b at *
  clear hr
  obtain ⟨n, x, z, f⟩ := r
  have hP0 := PL.PB.new w n x z f
  obtain ⟨c0, c1, c2, c3, _, _, _, _⟩ := hP0
  go_enter Try.func72, Try.ntmps72
  go_wp2_with (go_at_call 61; (with_reducible refine (F _).mono ?_); rintro e w1 ⟨rfl, hB1⟩)
  go_ret
  exact ⟨rfl, btr (bal (Below.refl _ _) _) hB1⟩
/-- The first row that flips the qubit; none: as many as there are rows. -/
def ffN (q : Nat) : List Pr → Nat
  | [] => 0
  | r :: l => if flp q r = true then 0 else ffN q l + 1
theorem ffN_le (q : Nat) : ∀ l : List Pr, ffN q l ≤ l.length
  | [] => Nat.le_refl _
  | r :: l => by
    unfold ffN
    split
    · exact Nat.zero_le _
    · have := ffN_le q l
      rw [List.length_cons]
      omega
theorem ffN_not (q : Nat) : ∀ (l : List Pr) (j : Nat) (h : j < l.length), j < ffN q l → flp q l[j] = false
  | [], j, h, _ => absurd h (Nat.not_lt_zero _)
  | r :: l, j, h, hj => by
    unfold ffN at hj
    split at hj
    · exact absurd hj (Nat.not_lt_zero _)
    · rename_i hx
      cases j with
      | zero => exact Bool.eq_false_iff.2 hx
      | succ j => exact ffN_not q l j (by rw [List.length_cons] at h; omega) (by omega)
theorem ffN_at (q : Nat) : ∀ (l : List Pr) (h : ffN q l < l.length), flp q l[ffN q l] = true
  | [], h => absurd h (Nat.not_lt_zero _)
  | r :: l, h => by
    by_cases hx : flp q r = true
    · have e : ffN q (r :: l) = 0 := by unfold ffN; rw [if_pos hx]
      simp only [e, List.getElem_cons_zero]
      exact hx
    · have e : ffN q (r :: l) = ffN q l + 1 := by conv => lhs; unfold ffN; rw [if_neg hx]
      simp only [e, List.getElem_cons_succ]
      exact ffN_at q l (by rw [e, List.length_cons] at h; omega)
def ffI (q : Nat) (l : List Pr) : Int := if ffN q l < l.length then (ffN q l : Nat) else -1
set_option maxHeartbeats 1000000 in
set_option maxRecDepth 100000 in
theorem indexF_any (q pb : Nat) (l : List Pr) (a : Option Addr) (c : Nat) (w0 w : World) (H : TS w0 a c l) (hb0 : Below w0.heap.size w0 w) (hl : l.length ≤ 64) (hq : q < 64) (hc : w.cell? ⟨pb, 0, none⟩ = some (.int .i64 (q : Nat))) (hp : pb < w.heap.size) :
    Calls Try.prog 71 #[.slice a l.length c, .func (.func 72) #[] #[.pointer (some ⟨pb, 0, none⟩)]] w fun e w' => e = .returned (.int .i64 (ffI q l)) ∧ Below w.heap.size w w' := by
  have HH := hid (H.below hb0)
  have hcap := H.cap
  have hcl := H.l
  have hfl := ffN_le q l
  clear H hb0
  go_enter Try.func71, Try.ntmps71
  go_wp2
  go_loopw [8] (fun s8 wx => ∃ k : Nat, k ≤ ffN q l ∧ s8 = .int .i64 (k : Nat) ∧ Below w.heap.size w wx) (fun s8 _ => l.length - (intOf s8).toNat)
  case atStart => exact ⟨0, Nat.zero_le _, rfl, Below.refl _ _⟩
  case round =>
    obtain ⟨k, hk, rfl, hB⟩ := hrel
    by_cases hlt : k < l.length
    case neg =>
      have HFF : Hid (ffI q l = -1) := by show _ = _; unfold ffI; rw [if_neg (by omega)]
      go_wp2
      go_ret
      exact ⟨by rw [HFF.out]; rfl, hB⟩
    obtain ⟨b', o', rfl, r⟩ := (HH.out.below hB).at_ k hlt
    have m0 := r.c0 k hlt
    have m1 := r.c1 k hlt
    have m2 := r.c2 k hlt
    have m3 := r.c3 k hlt
    have hbl := r.lt
    have HAI := hid (flipsC_any l[k] q pb wr (HH.out.w64 k hlt) hq ((hB.cell (p := ⟨pb, 0, none⟩) hp).trans hc) (Nat.lt_of_lt_of_le hp hB.size))
    have HN := hid (ffN_not q l k hlt)
    have HY : Hid (k = ffN q l → flp q l[k] = true) := fun e => by subst e; exact ffN_at q l hlt
    clear r
    generalize l[k] = x at *
    obtain ⟨xn, xx, xz, xf⟩ := x
    simp only at *
    by_cases hke : k = ffN q l
    · have hy := HY.out hke
      rw [hy] at HAI
      have HFF : Hid (ffI q l = (k : Int)) := by show _ = _; unfold ffI; rw [if_pos (by omega), hke]
      clear hke hy HN HY
      go_wp2_with (go_at_call 72; (with_reducible refine HAI.out.mono ?_); rintro e w1 ⟨rfl, hB1⟩)
      go_ret
      exact ⟨by rw [HFF.out]; rfl, btr hB hB1⟩
    · have hn := HN.out (by omega)
      rw [hn] at HAI
      clear hn HN HY
      go_wp2_with (go_at_call 72; (with_reducible refine HAI.out.mono ?_); rintro e w1 ⟨rfl, hB1⟩)
      exact ⟨⟨k + 1, by omega, rfl, btr hB hB1⟩, by simp only [intOf]; omega⟩
set_option maxHeartbeats 1000000 in
set_option maxRecDepth 100000 in
theorem firstFlip_any (N q : Nat) (rs : List Pr) (a : Option Addr) (c : Nat) (w0 w : World) (H : TS w0 a c rs) (hb0 : Below w0.heap.size w0 w) (hl : rs.length = 2 * N) (hN : N ≤ 64) (hq : q < 64) :
    Calls Try.prog 50 #[Tb.v ⟨N, rs⟩ a c, .int .i64 (q : Nat)] w fun e w' => e = .returned (.int .i64 (ffI q (rs.drop N))) ∧ Below w.heap.size w w' := by
  have ST := fun w => stab_any N rs a c w0 w H (by omega) (by omega)
  have HB0 := hid hb0
  have hdl : (rs.drop N).length ≤ 64 := by rw [List.length_drop]; omega
  have hcap := H.cap
  clear H hl
  have hK0 : BK ((w.alloc (.cells #[.int .i64 (N : Int), .slice a rs.length c] 24)).alloc (.cells #[.int .i64 (q : Nat)] 3)) (w.heap.size + 1) #[.int .i64 (q : Nat)] 3 := by
    have h := bk_new (w.alloc (.cells #[.int .i64 (N : Int), .slice a rs.length c] 24)) #[.int .i64 (q : Nat)] 3
    rwa [PL.alz] at h
  have hA0 := bal (bal (Below.refl w.heap.size w) (.cells #[.int .i64 (N : Int), .slice a rs.length c] 24)) (.cells #[.int .i64 (q : Nat)] 3)
  generalize rs.drop N = SD at *
  go_enter Try.func50, Try.ntmps50
  go_wp2_with (first
    | (go_at_call 47; (with_reducible refine (ST _).mono ?_); rintro e w1 ⟨a1, rfl, hT1, hB1⟩)
    | (go_at_call 71; refine Hid.out ?_))
  refine hid ?_
  have hK1 := bk_on hK0 hB1
  refine (indexF_any q (w.heap.size + 1) SD a1 (c - N) w0 _ hT1 (btr HB0.out (btr hA0 hB1)) hdl hq (hK1.cell 0) hK1.lt).mono ?_
  rintro e w2 ⟨rfl, hB2⟩
  go_wp2
  go_ret
  exact ⟨rfl, btr (btr hA0 hB1) hB2⟩
set_option maxRecDepth 100000 in
theorem hasQubit_any (t : Tb) (a : Option Addr) (c : Nat) (q : Int) (w : World) : Calls Try.prog 49 #[t.v a c, .int .i64 q] w fun e w' => e = .returned (.bool (decide (0 ≤ q ∧ q < t.n))) ∧ Below w.heap.size w w' := by
  obtain ⟨n, rs⟩ := t
  by_cases h0 : 0 ≤ q
  · by_cases h1 : q < n
    · rw [decide_eq_true (show 0 ≤ q ∧ q < n from ⟨h0, h1⟩)]
      go_enter Try.func49, Try.ntmps49
      go_wp2
      go_ret
      exact ⟨rfl, bal (Below.refl _ _) _⟩
    · rw [decide_eq_false (show ¬ (0 ≤ q ∧ q < n) from fun h => h1 h.2)]
      go_enter Try.func49, Try.ntmps49
      go_wp2
      go_ret
      exact ⟨rfl, bal (Below.refl _ _) _⟩
  · rw [decide_eq_false (show ¬ (0 ≤ q ∧ q < n) from fun h => h0 h.1)]
    go_enter Try.func49, Try.ntmps49
    go_wp2
    go_ret
    exact ⟨rfl, bal (Below.refl _ _) _⟩
end Go.Proofs.Ytoddbaljnlhhaab
namespace Go.Proofs.Ytoddbaljnlhhaab
open Go.RowKit Go.Sort
open PL (pv PS bt)

/-- Z on a qubit. -/
def zP (N q : Nat) : PS := ⟨N, 0, 2 ^ q, 0⟩
theorem zP_ok {N q : Nat} (hN : N ≤ 64) (hq : q < N) : (zP N q).ok := ⟨hN, Nat.two_pow_pos _, Nat.pow_lt_pow_right (by omega) hq, by show 0 < 4; omega⟩
/-- The outcome, where it is certain. -/
def fndT (t : Tb) (q : Int) : Int × Bool × Int :=
  if 0 ≤ q ∧ q < t.n then (if 0 ≤ ffI q.toNat (t.rows.drop t.n.toNat) then (0, false, 0) else if valT t (zP t.n.toNat q.toNat) = 1 then (0, true, 0) else (1, true, 0)) else (0, false, 112)
def fndV (r : Int × Bool × Int) : Value := .tuple #[.int .i64 r.1, .bool r.2.1, .int .i64 r.2.2]
set_option maxHeartbeats 1000000 in
set_option maxRecDepth 100000 in
theorem found_any (t : Tb) (a : Option Addr) (c : Nat) (q : Int) (w : World) (H : TS w a c t.rows) (hR : Rt t) :
    Calls Try.prog 28 #[t.v a c, .int .i64 q] w fun e w' => e = .returned (fndV (fndT t q)) ∧ Below w.heap.size w w' := by
  have HQ := fun w => hasQubit_any t a c q w
  have hB0 := bal (Below.refl w.heap.size w) (.cells #[.int .i64 t.n, .slice a t.rows.length c] 24)
  have hK0 := bk_new w #[.int .i64 t.n, .slice a t.rows.length c] 24
  by_cases hq : 0 ≤ q ∧ q < t.n
  case neg =>
    have e : fndT t q = (0, false, 112) := by unfold fndT; rw [if_neg hq]
    rw [e]
    rw [decide_eq_false hq] at HQ
    clear e hq H hR hK0
    obtain ⟨n, rs⟩ := t
    simp only at *
    go_enter Try.func28, Try.ntmps28
    go_wp2_with (go_at_call 49; (with_reducible refine (HQ _).mono ?_); rintro e w1 ⟨rfl, hB1⟩)
    refine bodyPost_ret (v := .tuple #[.int .i64 0, .bool false, .int .i64 112]) (by simp [results, Try.results28, go_sem]) rfl ⟨rfl, btr hB0 hB1⟩
  rw [decide_eq_true hq] at HQ
  have hn0 := hR.n0
  have hn1 := hR.n1
  have hlen := hR.len
  obtain ⟨q', rfl⟩ := Int.eq_ofNat_of_zero_le hq.1
  obtain ⟨N, hN⟩ := Int.eq_ofNat_of_zero_le hn0
  have hqN : q' < N := by omega
  have hrec : fndT t (q' : Int) = if 0 ≤ ffI q' (t.rows.drop N) then (0, false, 0) else if valT t (zP N q') = 1 then (0, true, 0) else (1, true, 0) := by
    unfold fndT
    rw [if_pos hq, hN, Int.toNat_natCast, Int.toNat_natCast]
  rw [hrec]
  have FF := hid (fun w' (h : Below w.heap.size w w') => firstFlip_any N q' t.rows a c w w' H h (by omega) (by omega) (by omega))
  have VA := hid (fun w' (h : Below w.heap.size w w') => value_any t a c (zP N q') w' (H.below h) hR (zP_ok (by omega) hqN) (by show ((N : Nat) : Int) = t.n; omega))
  have OZ := fun w => PL.one_z N q' w (by omega) hqN
  clear hrec hq H hR hlen hn0 hn1
  obtain ⟨n, rs⟩ := t
  simp only at *
  subst hN
  generalize ffI q' (rs.drop N) = fi at *
  generalize valT ⟨(N : Int), rs⟩ (zP N q') = vz at *
  have hzp : zP N q' = ⟨N, 0, 2 ^ q', 0⟩ := rfl
  rw [hzp] at VA
  clear hzp
  generalize 2 ^ q' = Z at *
  by_cases hf : 0 ≤ fi
  · rw [if_pos hf]
    go_enter Try.func28, Try.ntmps28
    go_wp2_with (first
      | (go_at_call 49; (with_reducible refine (HQ _).mono ?_); rintro e w1 ⟨rfl, hB1⟩; (have k1 := bk_on hK0 hB1); (have d1 := k1.cell); have l1 := k1.lt)
      | (go_at_call 50; (with_reducible refine (FF.out _ (btr hB0 hB1)).mono ?_); rintro e w2 ⟨rfl, hB2⟩))
    refine bodyPost_ret (v := .tuple #[.int .i64 0, .bool false, .int .i64 0]) (by simp [results, Try.results28, go_sem]) rfl ⟨rfl, btr (btr hB0 hB1) hB2⟩
  rw [if_neg hf]
  by_cases hv : vz = 1
  · rw [if_pos hv]
    go_enter Try.func28, Try.ntmps28
    go_wp2_with (first
      | (go_at_call 49; (with_reducible refine (HQ _).mono ?_); rintro e w1 ⟨rfl, hB1⟩; (have k1 := bk_on hK0 hB1); (have d1 := k1.cell); have l1 := k1.lt)
      | (go_at_call 50; (with_reducible refine (FF.out _ (btr hB0 hB1)).mono ?_); rintro e w2 ⟨rfl, hB2⟩; (have k2 := bk_on (bk_on hK0 hB1) hB2); (have d2 := k2.cell); have l2 := k2.lt)
      | (go_at_call 24; (with_reducible refine (OZ _).mono ?_); rintro e w3 ⟨rfl, hB3⟩; (have k3 := (bk_on (bk_on (bk_on hK0 hB1) hB2) hB3).alloc (.cells #[.int .i64 (N : Int), .int .u64 0, .int .u64 (Z : Int), .int .i64 0] 29)); (have d3 := k3.cell); (have l3 := k3.lt); (have hz : PL.PB (w3.alloc (.cells #[.int .i64 (N : Int), .int .u64 0, .int .u64 (Z : Int), .int .i64 0] 29)) w3.heap.size N 0 Z 0 := PL.PB.new w3 N 0 Z 0); obtain ⟨z0, z1, z2, z3, _, _, _, _⟩ := hz)
      | (go_at_call 27; refine Hid.out ?_))
    refine hid ?_
    refine (VA.out _ (bal (btr (btr (btr hB0 hB1) hB2) hB3) _)).mono ?_
    rintro e w4 ⟨rfl, hB4⟩
    go_wp2
    refine bodyPost_ret (v := .tuple #[.int .i64 0, .bool true, .int .i64 0]) (by simp [results, Try.results28, go_sem]) rfl ⟨rfl, btr (bal (btr (btr (btr hB0 hB1) hB2) hB3) _) hB4⟩
  · rw [if_neg hv]
    have hv' : (vz == 1) = false := beq_eq_false_iff_ne.2 hv
    go_enter Try.func28, Try.ntmps28
    go_wp2_with (first
      | (go_at_call 49; (with_reducible refine (HQ _).mono ?_); rintro e w1 ⟨rfl, hB1⟩; (have k1 := bk_on hK0 hB1); (have d1 := k1.cell); have l1 := k1.lt)
      | (go_at_call 50; (with_reducible refine (FF.out _ (btr hB0 hB1)).mono ?_); rintro e w2 ⟨rfl, hB2⟩; (have k2 := bk_on (bk_on hK0 hB1) hB2); (have d2 := k2.cell); have l2 := k2.lt)
      | (go_at_call 24; (with_reducible refine (OZ _).mono ?_); rintro e w3 ⟨rfl, hB3⟩; (have k3 := (bk_on (bk_on (bk_on hK0 hB1) hB2) hB3).alloc (.cells #[.int .i64 (N : Int), .int .u64 0, .int .u64 (Z : Int), .int .i64 0] 29)); (have d3 := k3.cell); (have l3 := k3.lt); (have hz : PL.PB (w3.alloc (.cells #[.int .i64 (N : Int), .int .u64 0, .int .u64 (Z : Int), .int .i64 0] 29)) w3.heap.size N 0 Z 0 := PL.PB.new w3 N 0 Z 0); obtain ⟨z0, z1, z2, z3, _, _, _, _⟩ := hz)
      | (go_at_call 27; refine Hid.out ?_))
    refine hid ?_
    refine (VA.out _ (bal (btr (btr (btr hB0 hB1) hB2) hB3) _)).mono ?_
    rintro e w4 ⟨rfl, hB4⟩
    go_wp2
    refine bodyPost_ret (v := .tuple #[.int .i64 1, .bool true, .int .i64 0]) (by simp [results, Try.results28, go_sem]) rfl ⟨rfl, btr (bal (btr (btr (btr hB0 hB1) hB2) hB3) _) hB4⟩
set_option maxHeartbeats 1000000 in
set_option maxRecDepth 100000 in
theorem certain_t (t : Tb) (a : Option Addr) (c : Nat) (q : Int) (w : World) (H : TS w a c t.rows) (hR : Rt t) :
    Calls Try.prog 12 #[t.v a c, .int .i64 q] w fun e w' => e = .returned (fndV (fndT t q)) ∧ Below w.heap.size w w' := by
  have CK := fun w' (h : Below w.heap.size w w') => check_t t a c w' (H.below h) hR
  have FO := hid (fun w' (h : Below w.heap.size w w') => found_any t a c q w' (H.below h) hR)
  have hB0 := bal (Below.refl w.heap.size w) (.cells #[.int .i64 t.n, .slice a t.rows.length c] 24)
  have hK0 := bk_new w #[.int .i64 t.n, .slice a t.rows.length c] 24
  clear H hR
  generalize fndT t q = r at *
  obtain ⟨r1, r2, r3⟩ := r
  obtain ⟨n, rs⟩ := t
  simp only at *
  go_enter Try.func12, Try.ntmps12
  go_wp2_with (first
    | (go_at_call 13; (with_reducible refine (CK _ hB0).mono ?_); rintro e w1 ⟨rfl, hB1⟩; (have k1 := bk_on hK0 hB1); (have d1 := k1.cell); have l1 := k1.lt)
    | (go_at_call 28; refine Hid.out ?_))
  refine hid ?_
  refine (FO.out _ (btr hB0 hB1)).mono ?_
  rintro e w2 ⟨rfl, hB2⟩
  unfold fndV
  go_wp2
  refine bodyPost_ret (v := .tuple #[.int .i64 r1, .bool r2, .int .i64 r3]) (by simp [results, Try.results12, go_sem]) rfl ⟨rfl, btr (btr hB0 hB1) hB2⟩
set_option maxHeartbeats 1000000 in
set_option maxRecDepth 100000 in
theorem certain_f (t : Tb) (a : Option Addr) (c : Nat) (q : Int) (w : World) (H : TS w a c t.rows) (hR : ¬ Rt t) :
    Calls Try.prog 12 #[t.v a c, .int .i64 q] w fun e w' => e = .returned (fndV (0, false, 180)) ∧ Below w.heap.size w w' := by
  have CK := fun w' (h : Below w.heap.size w w') => check_f t a c w' (H.below h) hR
  have hB0 := bal (Below.refl w.heap.size w) (.cells #[.int .i64 t.n, .slice a t.rows.length c] 24)
  clear H hR
  obtain ⟨n, rs⟩ := t
  simp only at *
  go_enter Try.func12, Try.ntmps12
  go_wp2_with (go_at_call 13; (with_reducible refine (CK _ hB0).mono ?_); rintro e w1 ⟨rfl, hB1⟩)
  refine bodyPost_ret (v := .tuple #[.int .i64 0, .bool false, .int .i64 180]) (by simp [results, Try.results12, go_sem]) rfl ⟨rfl, btr hB0 hB1⟩
end Go.Proofs.Ytoddbaljnlhhaab
namespace Go.Proofs.Ytoddbaljnlhhaab
open Go.RowKit Go.Sort
open PL (pv PS bt)

/-- All stabilizers of u have the value 1 in t. -/
def allOne (t u : Tb) : Prop := ∀ j (h : j < (u.rows.drop u.n.toNat).length), valT t ((u.rows.drop u.n.toNat)[j]).ps = 1
/-- What Same tells. -/
def SamA (t u : Tb) (r : Bool) (e : Int) : Prop :=
  (¬ (Rt t ∧ Rt u) ∧ r = false ∧ e = 180) ∨ (Rt t ∧ Rt u ∧ ¬ (t.n = u.n ∧ allOne t u) ∧ r = false ∧ e = 0) ∨ (Rt t ∧ Rt u ∧ t.n = u.n ∧ allOne t u ∧ r = true ∧ e = 0)
theorem tt_boxes (w : World) (n m : Int) (v u : Value) : Below w.heap.size w ((w.alloc (.cells #[.int .i64 n, v] 24)).alloc (.cells #[.int .i64 m, u] 24)) ∧ BK ((w.alloc (.cells #[.int .i64 n, v] 24)).alloc (.cells #[.int .i64 m, u] 24)) w.heap.size #[.int .i64 n, v] 24 ∧ BK ((w.alloc (.cells #[.int .i64 n, v] 24)).alloc (.cells #[.int .i64 m, u] 24)) (w.heap.size + 1) #[.int .i64 m, u] 24 := by
  refine ⟨bal (bal (Below.refl _ _) _) _, (bk_new w _ _).alloc _, ?_⟩
  have h := bk_new (w.alloc (.cells #[.int .i64 n, v] 24)) #[.int .i64 m, u] 24
  rwa [PL.alz] at h
end Go.Proofs.Ytoddbaljnlhhaab
