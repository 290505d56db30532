/-
  Put together of: B2 B3 B1.
-/
import Derived.Test.YtoddbaljnlhhaabXJ
import Derived.Test.YtoddbaljnlhhaabXH
namespace Go.Proofs.Ytoddbaljnlhhaab
open Go.RowKit Go.Sort
open PL (pv PS)

/-- The first k rows of both are the same. -/
def eqTo (rs us : List Pr) (k : Nat) : Prop := ∀ j (h : j < rs.length) (h' : j < us.length), j < k → rs[j] = us[j]
theorem eqTo_all {rs us : List Pr} (hl : rs.length = us.length) (h : eqTo rs us rs.length) : rs = us := List.ext_getElem hl (fun j h1 h2 => h j h1 h2 h1)
set_option maxHeartbeats 2000000 in
set_option maxRecDepth 100000 in
theorem requal_any (t u : Tb) (a a' : Option Addr) (c c' : Nat) (w : World) (H : TS w a c t.rows) (H' : TS w a' c' u.rows) (E : Bool) (hE1 : t = u → E = true) (hE2 : ¬ t = u → E = false) :
    Calls Try.prog 7 #[t.v a c, u.v a' c'] w fun e w' => e = .returned (.bool E) ∧ Below w.heap.size w w' := by
  obtain ⟨hB0, hK0, hL0⟩ := tt_boxes w t.n u.n (.slice a t.rows.length c) (.slice a' u.rows.length c')
  have hcap := H.cap
  have hcap' := H'.cap
  have hcl := H.l
  have hcl' := H'.l
  obtain ⟨n, rs⟩ := t
  obtain ⟨m, us⟩ := u
  simp only at *
  by_cases hn : n = m
  case neg =>
    obtain rfl : E = false := hE2 (fun h => hn (congrArg Tb.n h))
    have hn' : (n != m) = true := bne_iff_ne.2 hn
    clear hE1 hE2 hK0 hL0 hn H H'
    go_enter Try.func7, Try.ntmps7
    go_wp2
    go_ret
    exact ⟨rfl, hB0⟩
  by_cases hl : rs.length = us.length
  case neg =>
    obtain rfl : E = false := hE2 (fun h => hl (congrArg (fun x => x.rows.length) h))
    have hn' : (n != m) = false := bne_eq_false_iff_eq.2 hn
    have hl' : ((rs.length : Int) != (us.length : Int)) = true := bne_iff_ne.2 (by omega)
    clear hE1 hE2 hK0 hL0 hn hl H H'
    go_enter Try.func7, Try.ntmps7
    go_wp2
    go_ret
    exact ⟨rfl, hB0⟩
  have hn' : (n != m) = false := bne_eq_false_iff_eq.2 hn
  have hl' : ((rs.length : Int) != (us.length : Int)) = false := bne_eq_false_iff_eq.2 (by omega)
  have HE1 : Hid (eqTo rs us rs.length → E = true) := fun h => hE1 (by rw [hn, eqTo_all hl h])
  have HE2 : Hid (∀ j (h : j < rs.length) (h' : j < us.length), ¬ rs[j] = us[j] → E = false) := fun j h h' hne => hE2 (fun e => hne (by
    have e2 : rs = us := congrArg Tb.rows e
    subst e2
    rfl))
  have HL := hid hl
  have HH := hid H
  have HH' := hid H'
  have HB0 := hid hB0
  have HK0 := hid hK0
  have HL0 := hid hL0
  clear hE1 hE2 hn hl H H' hB0 hK0 hL0
  go_enter Try.func7, Try.ntmps7
  go_wp2
  go_loopw [5] (fun v5 wx => ∃ k : Nat, k ≤ rs.length ∧ v5 = .int .i64 (k : Nat) ∧ Hid (BK wx w.heap.size #[.int .i64 n, .slice a rs.length c] 24) ∧ Hid (BK wx (w.heap.size + 1) #[.int .i64 m, .slice a' us.length c'] 24) ∧ Hid (Below w.heap.size w wx) ∧ Hid (eqTo rs us k)) (fun v5 _ => rs.length - (intOf v5).toNat)
  case atStart => exact ⟨0, Nat.zero_le _, rfl, HK0, HL0, HB0, fun _ _ _ h => absurd h (Nat.not_lt_zero _)⟩
  case round =>
    clear HK0 HL0 HB0
    obtain ⟨k, hk, rfl, HK, HM, HA, HQ⟩ := hrel
    have d1 := HK.out.cell
    have l1 := HK.out.lt
    by_cases hlt : k < rs.length
    case neg =>
      obtain rfl : k = rs.length := by omega
      obtain rfl : E = true := HE1.out HQ.out
      go_wp2
      go_ret
      exact ⟨rfl, HA.out⟩
    have hlu : k < us.length := by rw [← HL.out]; exact hlt
    have d2 := HM.out.cell
    have l2 := HM.out.lt
    obtain ⟨b1, o1, rfl, r⟩ := (HH.out.below HA.out).at_ k hlt
    obtain ⟨b2, o2, rfl, r'⟩ := (HH'.out.below HA.out).at_ k hlu
    have m0 := r.c0 k hlt
    have m1 := r.c1 k hlt
    have m2 := r.c2 k hlt
    have m3 := r.c3 k hlt
    have n0 := r'.c0 k hlu
    have n1 := r'.c1 k hlu
    have n2 := r'.c2 k hlu
    have n3 := r'.c3 k hlu
    have hb1 := r.lt
    have hb2 := r'.lt
    have HX : Hid (rs[k] = us[k] → eqTo rs us (k + 1)) := fun h j hj hj' hjk => by
      by_cases e : j = k
      · subst e; exact h
      · exact HQ.out j hj hj' (by omega)
    have HY : Hid (¬ rs[k] = us[k] → E = false) := HE2.out k hlt hlu
    have hBd : ∀ n, Below wr.heap.size wr (wr.drewN n) := fun n => below_drewN (Below.refl _ _) n
    clear r r' HQ HE2
    generalize rs[k] = x at *
    generalize us[k] = y at *
    obtain ⟨x0, x1, x2, x3⟩ := x
    obtain ⟨y0, y1, y2, y3⟩ := y
    simp only at *
    by_cases h : x0 = y0 ∧ x1 = y1 ∧ x2 = y2 ∧ x3 = y3
    · obtain ⟨rfl, rfl, rfl, rfl⟩ := h
      have HZ := hid (HX.out rfl)
      go_wp2
      go_quiet (fail)
      go_wp2
      exact ⟨⟨k + 1, by omega, rfl, bk_on HK.out (hBd _), bk_on HM.out (hBd _), btr HA.out (hBd _), HZ⟩, by simp only [intOf]; omega⟩
    · obtain rfl : E = false := HY.out (fun e => h (by cases e; exact ⟨rfl, rfl, rfl, rfl⟩))
      by_cases h0 : x0 = y0
      · subst h0
        by_cases h1 : x1 = y1
        · subst h1
          by_cases h2 : x2 = y2
          · subst h2
            have h3 : ¬ x3 = y3 := fun e => h ⟨rfl, rfl, rfl, e⟩
            go_wp2
            go_quiet (fail)
            go_wp2
            go_ret
            exact ⟨rfl, btr HA.out (hBd _)⟩
          · have h2' : ¬ (x2 : Int) = (y2 : Int) := by omega
            go_wp2
            go_quiet (fail)
            go_wp2
            go_ret
            exact ⟨rfl, btr HA.out (hBd _)⟩
        · have h1' : ¬ (x1 : Int) = (y1 : Int) := by omega
          go_wp2
          go_quiet (fail)
          go_wp2
          go_ret
          exact ⟨rfl, btr HA.out (hBd _)⟩
      · go_wp2
        go_quiet (fail)
        go_wp2
        go_ret
        exact ⟨rfl, btr HA.out (hBd _)⟩
end Go.Proofs.Ytoddbaljnlhhaab
namespace Go.Proofs.Ytoddbaljnlhhaab
open Go.RowKit Go.Sort
open PL (pv PS)

set_option maxHeartbeats 1000000 in
set_option maxRecDepth 100000 in
theorem rmulT_any (p q : PS) (w : World) (hp : p.ok) (hq : q.ok) (hn : p.n = q.n) :
    Calls Try.prog 21 #[p.v, q.v] w fun e w' => e = .returned (p.mul q).v ∧ Below w.heap.size w w' := by
  have C := fun w => PL.rmul_yes p q w hp hq hn
  generalize p.mul q = m at *
  clear hp hq hn
  obtain ⟨n, x, z, f⟩ := p
  obtain ⟨n', x', z', f'⟩ := q
  obtain ⟨mn, mx, mz, mf⟩ := m
  obtain ⟨hW, b1, b2, b3⟩ := PL.three_boxes w n x z f n' x' z' f' 0 0 0 0
  go_enter Try.func21, Try.ntmps21
  go_wp2_with (go_at_call 42; (with_reducible refine (C _).mono ?_); rintro e w1 ⟨rfl, hB1⟩; (have b4 := b3.below hB1); obtain ⟨c0, c1, c2, c3, f0, f1, f2, f3⟩ := b4; have l4 := (b3.below hB1).lt)
  have r4 := (((((b3.below hB1).set0 (mn : Int)).set1 mx).set2 mz).set3 (mf : Int)).alloc (PL.pc mn mx mz mf)
  obtain ⟨q0, q1, q2, q3, _, _, _, _⟩ := r4
  have hB4 := bal (bset (bset (bset (bset (btr hW hB1) (w.heap.size + 1 + 1) 0 (.int .i64 (mn : Int)) (by omega)) (w.heap.size + 1 + 1) 1 (.int .u64 (mx : Int)) (by omega)) (w.heap.size + 1 + 1) 2 (.int .u64 (mz : Int)) (by omega)) (w.heap.size + 1 + 1) 3 (.int .i64 (mf : Int)) (by omega)) (PL.pc mn mx mz mf)
  exact bodyPost_ret (v := pv mn mx mz mf) (by simp [results, Try.results21, go_sem, q0, q1, q2, q3]) rfl ⟨rfl, hB4⟩
set_option maxHeartbeats 1000000 in
set_option maxRecDepth 100000 in
theorem ron_any (n q : Int) (kc X Z N : Nat) (f : Int) (w : World) (C : ∀ w, Calls Try.prog 43 #[.int .i64 n, .int .i64 q, .int .u8 (kc : Int)] w fun e w' => e = .returned (.tuple #[pv N X Z 0, .int .i64 0]) ∧ Below w.heap.size w w') :
    Calls Try.prog 22 #[.int .i64 n, .int .i64 q, .int .u8 (kc : Int), .int .i64 f] w fun e w' => e = .returned (pv N X Z f) ∧ Below w.heap.size w w' := by
  have b0 := PL.PB.new w 0 0 0 0
  have hW := bal (Below.refl w.heap.size w) (PL.pc 0 0 0 0)
  go_enter Try.func22, Try.ntmps22
  go_wp2_with (go_at_call 43; (with_reducible refine (C _).mono ?_); rintro e w1 ⟨rfl, hB1⟩; (have b1 := b0.below hB1); obtain ⟨c0, c1, c2, c3, f0, f1, f2, f3⟩ := b1; have l1 := (b0.below hB1).lt)
  have r4 := (((((b0.below hB1).set0 (N : Int)).set1 X).set2 Z).set3 f).alloc (PL.pc N X Z f)
  obtain ⟨q0, q1, q2, q3, _, _, _, _⟩ := r4
  have hB4 := bal (bset (bset (bset (bset (btr hW hB1) w.heap.size 0 (.int .i64 (N : Int)) (Nat.le_refl _)) w.heap.size 1 (.int .u64 (X : Int)) (Nat.le_refl _)) w.heap.size 2 (.int .u64 (Z : Int)) (Nat.le_refl _)) w.heap.size 3 (.int .i64 f) (Nat.le_refl _)) (PL.pc N X Z f)
  exact bodyPost_ret (v := pv N X Z f) (by simp [results, Try.results22, go_sem, q0, q1, q2, q3]) rfl ⟨rfl, hB4⟩
end Go.Proofs.Ytoddbaljnlhhaab
namespace Go.Proofs.Ytoddbaljnlhhaab
open Go.RowKit Go.Sort
open PL (pv PS)

theorem comB_symm (x z x' z' : Nat) : PL.comB x z x' z' = PL.comB x' z' x z := by
  rw [PL.comB_is, PL.comB_is, Nat.and_comm x z', Nat.and_comm z x']
  congr 1
  omega
theorem rcom_any (p q : PS) (w : World) (hp : p.ok) (hq : q.ok) (hn : p.n = q.n) :
    Calls Try.prog 36 #[p.v, q.v] w fun e w' => e = .returned (.bool (decide (PL.comB p.x p.z q.x q.z = 0))) ∧ Below w.heap.size w w' := by
  have C := fun w => PL.rcommute_yes p q w hp hq hn
  generalize decide (PL.comB p.x p.z q.x q.z = 0) = r at *
  clear hp hq hn
  obtain ⟨n, x, z, f⟩ := p
  obtain ⟨n', x', z', f'⟩ := q
  obtain ⟨hW, b1, b2⟩ := PL.two_boxes w n x z f n' x' z' f'
  go_enter Try.func36, Try.ntmps36
  go_wp2_with (go_at_call 62; (with_reducible refine (C _).mono ?_); rintro e w1 ⟨rfl, hB1⟩)
  go_ret
  exact ⟨rfl, btr hW hB1⟩
/-- What the reference's comparison of two rows reads. -/
abbrev K12 (V W : World) (h B1 b o k : Nat) (n : Int) (a : Option Addr) (l c : Nat) (pn px pz pf qn qx qz qf : Nat) : Prop := Below V.heap.size V W ∧ W.cell? ⟨h, 0, none⟩ = some (.int .i64 n) ∧ W.cell? ⟨h, 1, none⟩ = some (.slice a l c) ∧ W.cell? ⟨B1, 0, none⟩ = some (.int .i64 (pn : Int)) ∧ W.cell? ⟨B1, 1, none⟩ = some (.int .u64 (px : Int)) ∧ W.cell? ⟨B1, 2, none⟩ = some (.int .u64 (pz : Int)) ∧ W.cell? ⟨B1, 3, none⟩ = some (.int .i64 (pf : Int)) ∧ W.cell? ⟨b, o + k * 4, none⟩ = some (.int .i64 (qn : Int)) ∧ W.cell? ⟨b, o + k * 4 + 1, none⟩ = some (.int .u64 (qx : Int)) ∧ W.cell? ⟨b, o + k * 4 + 2, none⟩ = some (.int .u64 (qz : Int)) ∧ W.cell? ⟨b, o + k * 4 + 3, none⟩ = some (.int .i64 (qf : Int))
theorem k12_keep {V W : World} {h B1 b o k : Nat} {n : Int} {a : Option Addr} {l c : Nat} {pn px pz pf qn qx qz qf : Nat} (H : K12 V V h B1 b o k n a l c pn px pz pf qn qx qz qf) (h1 : h < V.heap.size) (h2 : B1 < V.heap.size) (h3 : b < V.heap.size) (hb : Below V.heap.size V W) : K12 V W h B1 b o k n a l c pn px pz pf qn qx qz qf := by
  obtain ⟨_, c0, c1, e0, e1, e2, e3, f0, f1, f2, f3⟩ := H
  have g : ∀ x y, x < V.heap.size → W.cell? ⟨x, y, none⟩ = V.cell? ⟨x, y, none⟩ := fun x y hx => hb.cell (p := ⟨x, y, none⟩) hx
  exact ⟨hb, (g _ _ h1).trans c0, (g _ _ h1).trans c1, (g _ _ h2).trans e0, (g _ _ h2).trans e1, (g _ _ h2).trans e2, (g _ _ h2).trans e3, (g _ _ h3).trans f0, (g _ _ h3).trans f1, (g _ _ h3).trans f2, (g _ _ h3).trans f3⟩
set_option maxHeartbeats 2000000 in
set_option maxRecDepth 100000 in
theorem rcheck_all (t : Tb) (a : Option Addr) (c : Nat) (w : World) (H : TS w a c t.rows) (E : Int) (h1 : Rt t → E = 0) (h2 : ¬ Rt t → E = 180) :
    Calls Try.prog 16 #[t.v a c] w fun e w' => e = .returned (.int .i64 E) ∧ Below w.heap.size w w' := by
  have hcap := H.cap
  by_cases hs0 : t.n < 0
  case pos =>
    obtain rfl : E = 180 := h2 (fun h => by have := h.n0; omega)
    clear H h1 h2
    obtain ⟨n, rs⟩ := t
    simp only at *
    go_enter Try.func16, Try.ntmps16
    go_wp2
    go_ret
    exact ⟨rfl, bal (Below.refl _ _) _⟩
  by_cases hs1 : 64 < t.n
  case pos =>
    obtain rfl : E = 180 := h2 (fun h => by have := h.n1; omega)
    clear H h1 h2
    obtain ⟨n, rs⟩ := t
    simp only at *
    go_enter Try.func16, Try.ntmps16
    go_wp2
    go_ret
    exact ⟨rfl, bal (Below.refl _ _) _⟩
  have hs : 0 ≤ t.n ∧ t.n ≤ 64 := by omega
  by_cases hl : (t.rows.length : Int) = 2 * t.n
  case neg =>
    obtain rfl : E = 180 := h2 (fun h => hl h.len)
    have hne : ((t.rows.length : Int) != 2 * t.n) = true := bne_iff_ne.2 hl
    clear h1 h2 hl H
    obtain ⟨n, rs⟩ := t
    simp only at *
    go_enter Try.func16, Try.ntmps16
    go_wp2
    go_ret
    exact ⟨rfl, bal (Below.refl _ _) _⟩
  have hle : ((t.rows.length : Int) != 2 * t.n) = false := by rw [hl]; exact bne_self_eq_false' _
  have HH := hid H
  have HL := hid hl
  have hcl := H.l
  have HE1 := hid (fun h => h1 (RtU.all hs.1 hs.2 hl h))
  have HE2 := hid h2
  have HZ := hid (RtU.zero t)
  have hlen : t.rows.length ≤ 128 := by omega
  clear h1 h2 hl H
  obtain ⟨n, rs⟩ := t
  simp only at *
  go_enter Try.func16, Try.ntmps16
  go_wp2
  go_loopw [3] (fun v3 wx => ∃ j : Nat, j ≤ rs.length ∧ v3 = .int .i64 (j : Nat) ∧ Hid (BK wx w.heap.size #[.int .i64 n, .slice a rs.length c] 24) ∧ Hid (Below w.heap.size w wx) ∧ Hid (RtU ⟨n, rs⟩ j)) (fun v3 _ => rs.length - (intOf v3).toNat)
  case atStart => exact ⟨0, Nat.zero_le _, rfl, bk_new _ _ _, bal (Below.refl _ _) _, HZ⟩
  case round =>
    clear HZ
    obtain ⟨j, hj, rfl, HBK, HB, HU⟩ := hrel
    have d1 := HBK.out.cell
    have l1 := HBK.out.lt
    by_cases hlt : j < rs.length
    case neg =>
      obtain rfl : j = rs.length := by omega
      obtain rfl : E = 0 := HE1.out HU.out
      go_wp2
      go_ret
      exact ⟨rfl, HB.out⟩
    obtain ⟨b', o', rfl, r⟩ := (HH.out.below HB.out).at_ j hlt
    have m0 := r.c0 j hlt
    have m1 := r.c1 j hlt
    have m2 := r.c2 j hlt
    have m3 := r.c3 j hlt
    have hbl := r.lt
    have hw := HH.out.w64 j hlt
    have HRJ : Hid (¬ rowOk n rs[j] → E = 180) := fun h => HE2.out (fun hr => h (hr.row j hlt))
    have HCJ : Hid (rowOk n rs[j] → (∀ k (hk : k < j), comP rs[j] (rs[k]'(Nat.lt_trans hk hlt)) ↔ ¬ (j : Int) = (k : Int) + n) → RtU ⟨n, rs⟩ (j + 1)) := fun h1 h2 => HU.out.next hlt h1 h2
    have HCN : Hid (∀ k (hk : k < j), ¬ (comP rs[j] (rs[k]'(Nat.lt_trans hk hlt)) ↔ ¬ (j : Int) = (k : Int) + n) → E = 180) := fun k hk h => HE2.out (fun hr => h (hr.com j hlt k hk))
    have HRK : Hid (∀ k (hk : k < j), rowOk n (rs[k]'(Nat.lt_trans hk hlt))) := fun k hk => (HU.out k (Nat.lt_trans hk hlt) hk).1
    clear r
    by_cases hg : rs[j].gd
    case neg =>
      have CK := fun w => PL.rcheck_no rs[j].n rs[j].x rs[j].z rs[j].f w hw.1 hw.2 hg
      obtain rfl : E = 180 := HRJ.out (fun h => hg h.1)
      clear HRJ HCJ HCN HRK
      generalize rs[j] = r at *
      obtain ⟨rn, rx, rz, rf⟩ := r
      simp only at *
      go_wp2_with (go_at_call 35; (with_reducible refine (CK _).mono ?_); rintro e w1 ⟨rfl, hB1⟩)
      go_ret
      exact ⟨rfl, btr (bal HB.out _) hB1⟩
    obtain ⟨p, hp, hpv, hpe⟩ := PL.Good.of hg
    have CK := fun w => PL.rcheck_yes p hp w
    have HP := hid hp
    have HPE := hid hpe
    have hf4 := hp.f1
    clear hg hw hpv
    rw [hpe] at m0 m1 m2 m3
    have htm : (p.f : Int).tmod 2 = (p.f : Int) % 2 := Int.tmod_eq_emod_of_nonneg (by omega)
    by_cases hn : (p.n : Int) = n
    case neg =>
      obtain rfl : E = 180 := HRJ.out (fun h => hn (by have := h.2.1; rw [HPE.out] at this; exact this))
      have hnb : ((p.n : Int) != n) = true := bne_iff_ne.2 hn
      clear HRJ HCJ HCN HRK hp hpe HP HPE hn
      obtain ⟨pn, px, pz, pf⟩ := p
      simp only at *
      go_wp2_with (go_at_call 35; (with_reducible refine (CK _).mono ?_); rintro e w1 ⟨rfl, hB1⟩; (have q1 := (PL.PB.new wr pn px pz pf).below hB1); obtain ⟨c0, c1, c2, c3, _, _, _, _⟩ := q1; (have k1 := bk_on (HBK.out.alloc (PL.pc pn px pz pf)) hB1); (have d1 := k1.cell); (have l1 := k1.lt); have l2 := ((PL.PB.new wr pn px pz pf).below hB1).lt)
      go_ret
      exact ⟨rfl, btr (bal HB.out _) hB1⟩
    have hnb : ((p.n : Int) != n) = false := bne_eq_false_iff_eq.2 hn
    by_cases ho : (p.f : Int) % 2 = 0
    case neg =>
      obtain rfl : E = 180 := HRJ.out (fun h => by have := h.2.2; rw [HPE.out] at this; exact ho this)
      have hob : ((p.f : Int) % 2 != 0) = true := bne_iff_ne.2 ho
      clear HRJ HCJ HCN HRK hp hpe HP HPE ho hn
      obtain ⟨pn, px, pz, pf⟩ := p
      simp only at *
      go_wp2_with (go_at_call 35; (with_reducible refine (CK _).mono ?_); rintro e w1 ⟨rfl, hB1⟩; (have q1 := (PL.PB.new wr pn px pz pf).below hB1); obtain ⟨c0, c1, c2, c3, _, _, _, _⟩ := q1; (have k1 := bk_on (HBK.out.alloc (PL.pc pn px pz pf)) hB1); (have d1 := k1.cell); (have l1 := k1.lt); have l2 := ((PL.PB.new wr pn px pz pf).below hB1).lt)
      go_ret
      exact ⟨rfl, btr (bal HB.out _) hB1⟩
    have hob : ((p.f : Int) % 2 != 0) = false := bne_eq_false_iff_eq.2 ho
    have HRO : Hid (rowOk n rs[j]) := by
      show rowOk n rs[j]
      refine ⟨?_, ?_, ?_⟩
      · rw [HPE.out]; exact ⟨by show (0 : Int) ≤ p.n; omega, by have := HP.out.n1; show (p.n : Int) ≤ 64; omega, HP.out.x1, HP.out.z1, by show (0 : Int) ≤ p.f; omega, by have := HP.out.f1; show (p.f : Int) ≤ 3; omega⟩
      · rw [HPE.out]; exact hn
      · rw [HPE.out]; exact ho
    have HNX := hid (HCJ.out HRO.out)
    have HN := hid hn
    clear HRJ HCJ hp hpe ho hn
    obtain ⟨pn, px, pz, pf⟩ := p
    simp only at *
    go_upto_region 9 with (go_at_call 35; (with_reducible refine (CK _).mono ?_); rintro e w1 ⟨rfl, hB1⟩; (have q1 := (PL.PB.new wr pn px pz pf).below hB1); obtain ⟨c0, c1, c2, c3, _, _, _, _⟩ := q1; (have k1 := bk_on (HBK.out.alloc (PL.pc pn px pz pf)) hB1); (have d1 := k1.cell); (have l1 := k1.lt); have l2 := ((PL.PB.new wr pn px pz pf).below hB1).lt)
    have HQ2 := hid ((PL.PB.new wr pn px pz pf).below hB1)
    have HK2 := hid k1
    have HA2 := hid (btr (bal HB.out (PL.pc pn px pz pf)) hB1)
    have hB1g : w.heap.size ≤ wr.heap.size := HB.out.size
    have HLT := hid hlt
    clear CK HBK hB1 k1 HB c0 c1 c2 c3 m0 m1 m2 m3 hbl d1 l1 l2
    generalize wr.heap.size = B1 at *
    go_wp2
    go_loopw [5] (fun v5 wx => ∃ k : Nat, k ≤ j ∧ v5 = .int .i64 (k : Nat) ∧ Hid (BK wx w.heap.size #[.int .i64 n, .slice (some ⟨b', o', none⟩) rs.length c] 24) ∧ Hid (PL.PB wx B1 pn px pz pf) ∧ Hid (Below w.heap.size w wx) ∧ Hid (∀ i (hi : i < j), i < k → (comP rs[j] (rs[i]'(Nat.lt_trans hi HLT.out)) ↔ ¬ (j : Int) = (i : Int) + n))) (fun v5 _ => j - (intOf v5).toNat)
    case atStart => exact ⟨0, Nat.zero_le _, rfl, HK2, HQ2, HA2, fun i _ h => absurd h (Nat.not_lt_zero _)⟩
    case round =>
      clear HK2 HQ2 HA2
      obtain ⟨k, hk, rfl, HK2, HQ2, HA2, HCM⟩ := hrel
      by_cases hkl : k < j
      case neg =>
        obtain rfl : k = j := by omega
        have HR := hid (HNX.out (fun i hi => HCM.out i hi hi))
        go_wp2
        exact ⟨⟨k + 1, by omega, rfl, HK2, HA2, HR⟩, by simp only [intOf]; omega⟩
      have hkr : k < rs.length := by omega
      obtain ⟨b2, o2, e2, r⟩ := (HH.out.below HA2.out).at_ k hkr
      cases e2
      have m0 := r.c0 k hkr
      have m1 := r.c1 k hkr
      have m2 := r.c2 k hkr
      have m3 := r.c3 k hkr
      have hbl := r.lt
      clear r
      obtain ⟨hg2, hn2, _⟩ := HRK.out k hkl
      obtain ⟨p2, hp2, _, hpe2⟩ := PL.Good.of hg2
      rw [hpe2] at m0 m1 m2 m3 hn2
      have hnn : p2.n = pn := by have h1 := HN.out; have h2 : (p2.n : Int) = n := hn2; omega
      have CM := fun w => rcom_any p2 ⟨pn, px, pz, pf⟩ w hp2 HP.out hnn
      have HCQ : Hid ((PL.comB p2.x p2.z px pz = 0 ↔ ¬ (j : Int) = (k : Int) + n) → ∀ i (hi : i < j), i < k + 1 → (comP rs[j] (rs[i]'(Nat.lt_trans hi HLT.out)) ↔ ¬ (j : Int) = (i : Int) + n)) := fun h i hi hik => by
        by_cases e : i = k
        · subst e
          have e1 : rs[j]'HLT.out = ⟨pn, px, pz, pf⟩ := HPE.out
          have e3 : rs[i]'hkr = ⟨p2.n, p2.x, p2.z, p2.f⟩ := hpe2
          show comP (rs[j]'HLT.out) (rs[i]'hkr) ↔ _
          rw [e1, e3]
          rw [comB_symm] at h
          exact h
        · exact HCM.out i hi (by omega)
      have HCR : Hid (¬ (PL.comB p2.x p2.z px pz = 0 ↔ ¬ (j : Int) = (k : Int) + n) → E = 180) := fun h => HCN.out k hkl (fun h2 => h (by
        have e1 : rs[j]'HLT.out = ⟨pn, px, pz, pf⟩ := HPE.out
        have e3 : rs[k]'hkr = ⟨p2.n, p2.x, p2.z, p2.f⟩ := hpe2
        have h3 : comP (rs[j]'HLT.out) (rs[k]'hkr) ↔ ¬ (j : Int) = (k : Int) + n := h2
        rw [e1, e3] at h3
        rw [comB_symm]
        exact h3))
      obtain ⟨qn, qx, qz, qf⟩ := p2
      simp only at *
      clear hpe2 hg2 hn2 hp2 hnn HCM
      have HOC : Hid (K12 wr wr w.heap.size B1 b' o' k n (some ⟨b', o', none⟩) rs.length c pn px pz pf qn qx qz qf) := ⟨Below.refl _ _, HK2.out.cell 0, HK2.out.cell 1, HQ2.out.c0, HQ2.out.c1, HQ2.out.c2, HQ2.out.c3, m0, m1, m2, m3⟩
      have z1 := HK2.out.lt
      have z2 := HQ2.out.lt
      obtain ⟨bc, hbc⟩ : ∃ bc, bc = decide (PL.comB qx qz px pz = 0) := ⟨_, rfl⟩
      rw [← hbc] at CM
      obtain ⟨bp, hbp⟩ : ∃ bp, ((j : Int) - (k : Int) == n) = bp := ⟨_, rfl⟩
      have HI : Hid ((PL.comB qx qz px pz = 0 ↔ ¬ (j : Int) = (k : Int) + n) ↔ (bc == bp) = false) := by
        show _ ↔ _
        have hjk : ((j : Int) - (k : Int) == n) = ((j : Int) == (k : Int) + n) := by
          by_cases h : (j : Int) = (k : Int) + n
          · rw [beq_iff_eq.2 h]; exact beq_iff_eq.2 (by omega)
          · rw [beq_eq_false_iff_ne.2 h]; exact beq_eq_false_iff_ne.2 (by omega)
        rw [hbc, ← hbp, hjk]
        by_cases h1 : PL.comB qx qz px pz = 0
        · by_cases h2 : (j : Int) = (k : Int) + n
          · rw [decide_eq_true h1, beq_iff_eq.2 h2]; simp [h1, h2]
          · rw [decide_eq_true h1, beq_eq_false_iff_ne.2 h2]; simp [h1, h2]
        · by_cases h2 : (j : Int) = (k : Int) + n
          · rw [decide_eq_false h1, beq_iff_eq.2 h2]; simp [h1, h2]
          · rw [decide_eq_false h1, beq_eq_false_iff_ne.2 h2]; simp [h1, h2]
      have hRf := Below.refl wr.heap.size wr
      have hwp : IntKind.i64.wrap ((j : Int) - (k : Int)) = (j : Int) - (k : Int) := by rw [IntKind.wrap_i64]; omega
      clear hbc m0 m1 m2 m3
      cases hcc : (bc == bp) with
      | true =>
        obtain rfl : E = 180 := HCR.out (fun h => by rw [HI.out.1 h] at hcc; cases hcc)
        go_upto_region 12 with (fail)
        go_region_held3 (fun w' => K12 wr w' w.heap.size B1 b' o' k n (some ⟨b', o', none⟩) rs.length c pn px pz pf qn qx qz qf)
          ((refine k12_keep HOC.out z1 z2 hbl ?_; first | exact below_drew hRf | exact btr (And.left (by assumption)) hN))
          (first | (go_at_call 36; (with_reducible refine (CM _).mono ?_); rintro e w1 ⟨rfl, hN⟩))
        have hb1 : Below wr.heap.size wr w1 := by first | exact And.left (by assumption) | exact btr (below_drew hRf) hN
        go_wp2
        go_ret
        exact ⟨rfl, btr HA2.out hb1⟩
      | false =>
        have HCY := hid (HCQ.out (HI.out.2 hcc))
        go_upto_region 12 with (fail)
        go_region_held3 (fun w' => K12 wr w' w.heap.size B1 b' o' k n (some ⟨b', o', none⟩) rs.length c pn px pz pf qn qx qz qf)
          ((refine k12_keep HOC.out z1 z2 hbl ?_; first | exact below_drew hRf | exact btr (And.left (by assumption)) hN))
          (first | (go_at_call 36; (with_reducible refine (CM _).mono ?_); rintro e w1 ⟨rfl, hN⟩))
        have hb1 : Below wr.heap.size wr w1 := by first | exact And.left (by assumption) | exact btr (below_drew hRf) hN
        go_wp2
        exact ⟨⟨k + 1, by omega, rfl, bk_on HK2.out hb1, HQ2.out.below hb1, btr HA2.out hb1, HCY⟩, by simp only [intOf]; omega⟩
end Go.Proofs.Ytoddbaljnlhhaab
