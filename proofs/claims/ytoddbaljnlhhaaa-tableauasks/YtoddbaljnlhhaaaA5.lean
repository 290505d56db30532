/-
  tableau: hasQubit, flips, firstFlip.
-/
import Derived.Test.YtoddbaljnlhhaaaA4
namespace Go.Proofs.Ytoddbaljnlhhaaa
open Go.RowKit Go.Sort
open PL (pv PS bt)

/-- Has a row X or Y on the qubit? -/
def flp (q : Nat) (r : Pr) : Bool := bt r.x q == 1
set_option maxRecDepth 100000 in
theorem flips_any (r : Pr) (q : Nat) (w : World) (hr : r.w64) (hq : q < 64) : Calls Try.prog 91 #[r.v, .int .i64 (q : Nat)] w fun e w' => e = .returned (.bool (flp q r)) ∧ Below w.heap.size w w' := by
  have e1 := PL.i_bit r.x q hr.1
  unfold flp
  rcases PL.bt01 r.x q with h | h
  all_goals
    rw [h] at e1 ⊢
    clear h hr
    obtain ⟨n, x, z, f⟩ := r
    simp only at *
    go_enter Try.func91, Try.ntmps91
    go_wp2
    go_ret
    exact ⟨rfl, bal (Below.refl _ _) _⟩
set_option maxRecDepth 100000 in
theorem flipsC_any (r : Pr) (q pb : Nat) (w : World) (hr : r.w64) (hq : q < 64) (hc : w.cell? ⟨pb, 0, none⟩ = some (.int .i64 (q : Nat))) (hp : pb < w.heap.size) :
    Calls Try.prog 90 #[r.v, .pointer (some ⟨pb, 0, none⟩)] w fun e w' => e = .returned (.bool (flp q r)) ∧ Below w.heap.size w w' := by
  have F := fun w => flips_any r q w hr hq
  generalize flp q r = b at *
  clear hr
  obtain ⟨n, x, z, f⟩ := r
  have hP0 := PL.PB.new w n x z f
  obtain ⟨c0, c1, c2, c3, _, _, _, _⟩ := hP0
  go_enter Try.func90, Try.ntmps90
  go_wp2_with (go_at_call 91; (with_reducible refine (F _).mono ?_); rintro e w1 ⟨rfl, hB1⟩)
  go_ret
  exact ⟨rfl, btr (bal (Below.refl _ _) _) hB1⟩
/-- The first row that flips the qubit; none: as many as there are rows. -/
def ffN (q : Nat) : List Pr → Nat
  | [] => 0
  | r :: l => if flp q r = true then 0 else ffN q l + 1
theorem ffN_le (q : Nat) : ∀ l : List Pr, ffN q l ≤ l.length
  | [] => Nat.le_refl _
  | r :: l => by
    unfold ffN
    split
    · exact Nat.zero_le _
    · have := ffN_le q l
      rw [List.length_cons]
      omega
theorem ffN_not (q : Nat) : ∀ (l : List Pr) (j : Nat) (h : j < l.length), j < ffN q l → flp q l[j] = false
  | [], j, h, _ => absurd h (Nat.not_lt_zero _)
  | r :: l, j, h, hj => by
    unfold ffN at hj
    split at hj
    · exact absurd hj (Nat.not_lt_zero _)
    · rename_i hx
      cases j with
      | zero => exact Bool.eq_false_iff.2 hx
      | succ j => exact ffN_not q l j (by rw [List.length_cons] at h; omega) (by omega)
theorem ffN_at (q : Nat) : ∀ (l : List Pr) (h : ffN q l < l.length), flp q l[ffN q l] = true
  | [], h => absurd h (Nat.not_lt_zero _)
  | r :: l, h => by
    by_cases hx : flp q r = true
    · have e : ffN q (r :: l) = 0 := by unfold ffN; rw [if_pos hx]
      simp only [e, List.getElem_cons_zero]
      exact hx
    · have e : ffN q (r :: l) = ffN q l + 1 := by conv => lhs; unfold ffN; rw [if_neg hx]
      simp only [e, List.getElem_cons_succ]
      exact ffN_at q l (by rw [e, List.length_cons] at h; omega)
def ffI (q : Nat) (l : List Pr) : Int := if ffN q l < l.length then (ffN q l : Nat) else -1
set_option maxHeartbeats 1000000 in
set_option maxRecDepth 100000 in
theorem indexF_any (q pb : Nat) (l : List Pr) (a : Option Addr) (c : Nat) (w0 w : World) (H : TS w0 a c l) (hb0 : Below w0.heap.size w0 w) (hl : l.length ≤ 64) (hq : q < 64) (hc : w.cell? ⟨pb, 0, none⟩ = some (.int .i64 (q : Nat))) (hp : pb < w.heap.size) :
    Calls Try.prog 89 #[.slice a l.length c, .func (.func 90) #[] #[.pointer (some ⟨pb, 0, none⟩)]] w fun e w' => e = .returned (.int .i64 (ffI q l)) ∧ Below w.heap.size w w' := by
  have HH := hid (H.below hb0)
  have hcap := H.cap
  have hcl := H.l
  have hfl := ffN_le q l
  clear H hb0
  go_enter Try.func89, Try.ntmps89
  go_wp2
  go_loopw [8] (fun s8 wx => ∃ k : Nat, k ≤ ffN q l ∧ s8 = .int .i64 (k : Nat) ∧ Below w.heap.size w wx) (fun s8 _ => l.length - (intOf s8).toNat)
  case atStart => exact ⟨0, Nat.zero_le _, rfl, Below.refl _ _⟩
  case round =>
    obtain ⟨k, hk, rfl, hB⟩ := hrel
    by_cases hlt : k < l.length
    case neg =>
      have HFF : Hid (ffI q l = -1) := by show _ = _; unfold ffI; rw [if_neg (by omega)]
      go_wp2
      go_ret
      exact ⟨by rw [HFF.out]; rfl, hB⟩
    obtain ⟨b', o', rfl, r⟩ := (HH.out.below hB).at_ k hlt
    have m0 := r.c0 k hlt
    have m1 := r.c1 k hlt
    have m2 := r.c2 k hlt
    have m3 := r.c3 k hlt
    have hbl := r.lt
    have HAI := hid (flipsC_any l[k] q pb wr (HH.out.w64 k hlt) hq ((hB.cell (p := ⟨pb, 0, none⟩) hp).trans hc) (Nat.lt_of_lt_of_le hp hB.size))
    have HN := hid (ffN_not q l k hlt)
    have HY : Hid (k = ffN q l → flp q l[k] = true) := fun e => by subst e; exact ffN_at q l hlt
    clear r
    generalize l[k] = x at *
    obtain ⟨xn, xx, xz, xf⟩ := x
    simp only at *
    by_cases hke : k = ffN q l
    · have hy := HY.out hke
      rw [hy] at HAI
      have HFF : Hid (ffI q l = (k : Int)) := by show _ = _; unfold ffI; rw [if_pos (by omega), hke]
      clear hke hy HN HY
      go_wp2_with (go_at_call 90; (with_reducible refine HAI.out.mono ?_); rintro e w1 ⟨rfl, hB1⟩)
      go_ret
      exact ⟨by rw [HFF.out]; rfl, btr hB hB1⟩
    · have hn := HN.out (by omega)
      rw [hn] at HAI
      clear hn HN HY
      go_wp2_with (go_at_call 90; (with_reducible refine HAI.out.mono ?_); rintro e w1 ⟨rfl, hB1⟩)
      exact ⟨⟨k + 1, by omega, rfl, btr hB hB1⟩, by simp only [intOf]; omega⟩
set_option maxHeartbeats 1000000 in
set_option maxRecDepth 100000 in
theorem firstFlip_any (N q : Nat) (rs : List Pr) (a : Option Addr) (c : Nat) (w0 w : World) (H : TS w0 a c rs) (hb0 : Below w0.heap.size w0 w) (hl : rs.length = 2 * N) (hN : N ≤ 64) (hq : q < 64) :
    Calls Try.prog 65 #[Tb.v ⟨N, rs⟩ a c, .int .i64 (q : Nat)] w fun e w' => e = .returned (.int .i64 (ffI q (rs.drop N))) ∧ Below w.heap.size w w' := by
  have ST := fun w => stab_any N rs a c w0 w H (by omega) (by omega)
  have HB0 := hid hb0
  have hdl : (rs.drop N).length ≤ 64 := by rw [List.length_drop]; omega
  have hcap := H.cap
  clear H hl
  have hK0 : BK ((w.alloc (.cells #[.int .i64 (N : Int), .slice a rs.length c] 24)).alloc (.cells #[.int .i64 (q : Nat)] 3)) (w.heap.size + 1) #[.int .i64 (q : Nat)] 3 := by
    have h := bk_new (w.alloc (.cells #[.int .i64 (N : Int), .slice a rs.length c] 24)) #[.int .i64 (q : Nat)] 3
    rwa [PL.alz] at h
  have hA0 := bal (bal (Below.refl w.heap.size w) (.cells #[.int .i64 (N : Int), .slice a rs.length c] 24)) (.cells #[.int .i64 (q : Nat)] 3)
  generalize rs.drop N = SD at *
  go_enter Try.func65, Try.ntmps65
  go_wp2_with (first
    | (go_at_call 46; (with_reducible refine (ST _).mono ?_); rintro e w1 ⟨a1, rfl, hT1, hB1⟩)
    | (go_at_call 89; refine Hid.out ?_))
  refine hid ?_
  have hK1 := bk_on hK0 hB1
  refine (indexF_any q (w.heap.size + 1) SD a1 (c - N) w0 _ hT1 (btr HB0.out (btr hA0 hB1)) hdl hq (hK1.cell 0) hK1.lt).mono ?_
  rintro e w2 ⟨rfl, hB2⟩
  go_wp2
  go_ret
  exact ⟨rfl, btr (btr hA0 hB1) hB2⟩
set_option maxRecDepth 100000 in
theorem hasQubit_any (t : Tb) (a : Option Addr) (c : Nat) (q : Int) (w : World) : Calls Try.prog 64 #[t.v a c, .int .i64 q] w fun e w' => e = .returned (.bool (decide (0 ≤ q ∧ q < t.n))) ∧ Below w.heap.size w w' := by
  obtain ⟨n, rs⟩ := t
  by_cases h0 : 0 ≤ q
  · by_cases h1 : q < n
    · rw [decide_eq_true (show 0 ≤ q ∧ q < n from ⟨h0, h1⟩)]
      go_enter Try.func64, Try.ntmps64
      go_wp2
      go_ret
      exact ⟨rfl, bal (Below.refl _ _) _⟩
    · rw [decide_eq_false (show ¬ (0 ≤ q ∧ q < n) from fun h => h1 h.2)]
      go_enter Try.func64, Try.ntmps64
      go_wp2
      go_ret
      exact ⟨rfl, bal (Below.refl _ _) _⟩
  · rw [decide_eq_false (show ¬ (0 ≤ q ∧ q < n) from fun h => h0 h.1)]
    go_enter Try.func64, Try.ntmps64
    go_wp2
    go_ret
    exact ⟨rfl, bal (Below.refl _ _) _⟩
end Go.Proofs.Ytoddbaljnlhhaaa
