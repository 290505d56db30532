/-
  Put together of: A0 A1 A2 A3.
-/
import Derived.Test.YtoddbaljnlhhaabXA
import Derived.Test.YtoddbaljnlhhaabXG
namespace Go.Proofs.Ytoddbaljnlhhaab
open Go.RowKit Go.Sort
open PL (pv PS)

theorem bk_on {W W' : World} {b : Nat} {cs : Array Value} {T : TypeId} (h : BK W b cs T) (hb : Below W.heap.size W W') : BK W' b cs T := (hb.block _ h.lt).trans h
/-- A row as it lies in memory: any numbers. -/
structure Pr where
  n : Int
  x : Nat
  z : Nat
  f : Int
abbrev Pr.v (r : Pr) : Value := pv r.n r.x r.z r.f
abbrev Pr.cs (r : Pr) : List Value := [.int .i64 r.n, .int .u64 (r.x : Int), .int .u64 (r.z : Int), .int .i64 r.f]
/-- The numbers X and Z are of 64 bits. -/
def Pr.w64 (r : Pr) : Prop := r.x < 18446744073709551616 ∧ r.z < 18446744073709551616
/-- It is a right string. -/
def Pr.gd (r : Pr) : Prop := PL.Good r.n r.x r.z r.f
structure Tb where
  n : Int
  rows : List Pr
abbrev Tb.v (t : Tb) (a : Option Addr) (c : Nat) : Value := .agg #[.int .i64 t.n, .slice a t.rows.length c]
/-- Rows that can be read. -/
structure RP (W : World) (b o : Nat) (rs : List Pr) : Prop where
  c0 : ∀ j (h : j < rs.length), W.cell? ⟨b, o + j * 4, none⟩ = some (.int .i64 rs[j].n)
  c1 : ∀ j (h : j < rs.length), W.cell? ⟨b, o + j * 4 + 1, none⟩ = some (.int .u64 (rs[j].x : Int))
  c2 : ∀ j (h : j < rs.length), W.cell? ⟨b, o + j * 4 + 2, none⟩ = some (.int .u64 (rs[j].z : Int))
  c3 : ∀ j (h : j < rs.length), W.cell? ⟨b, o + j * 4 + 3, none⟩ = some (.int .i64 rs[j].f)
  lt : b < W.heap.size
theorem RP.below {W W' : World} {b o : Nat} {rs : List Pr} (h : RP W b o rs) (hb : Below W.heap.size W W') : RP W' b o rs :=
  ⟨fun j hj => (hb.cell (p := ⟨b, _, none⟩) h.lt).trans (h.c0 j hj), fun j hj => (hb.cell (p := ⟨b, _, none⟩) h.lt).trans (h.c1 j hj), fun j hj => (hb.cell (p := ⟨b, _, none⟩) h.lt).trans (h.c2 j hj), fun j hj => (hb.cell (p := ⟨b, _, none⟩) h.lt).trans (h.c3 j hj), Nat.lt_of_lt_of_le h.lt hb.size⟩
/-- A slice of rows. -/
structure TS (W : World) (a : Option Addr) (c : Nat) (rs : List Pr) : Prop where
  cap : rs.length ≤ c
  at_ : ∀ k, k < rs.length → ∃ b o, a = some ⟨b, o, none⟩ ∧ RP W b o rs
  w64 : ∀ k (h : k < rs.length), rs[k].w64
  l : c ≤ 9223372036854775807
theorem TS.below {W W' : World} {a : Option Addr} {c : Nat} {rs : List Pr} (h : TS W a c rs) (hb : Below W.heap.size W W') : TS W' a c rs :=
  ⟨h.cap, fun k hk => by obtain ⟨b, o, e, r⟩ := h.at_ k hk; exact ⟨b, o, e, r.below hb⟩, h.w64, h.l⟩
/-- Do two rows commute? -/
abbrev comP (r s : Pr) : Prop := PL.comB r.x r.z s.x s.z = 0
/-- A row that a tableau of n qubits may have. -/
def rowOk (n : Int) (r : Pr) : Prop := r.gd ∧ r.n = n ∧ r.f % 2 = 0
/-- A right tableau. -/
structure Rt (t : Tb) : Prop where
  n0 : 0 ≤ t.n
  n1 : t.n ≤ 64
  len : (t.rows.length : Int) = 2 * t.n
  row : ∀ j (h : j < t.rows.length), rowOk t.n t.rows[j]
  com : ∀ j (h : j < t.rows.length) k (hk : k < j), comP t.rows[j] (t.rows[k]'(Nat.lt_trans hk h)) ↔ ¬ (j : Int) = (k : Int) + t.n
theorem PL.Good.of {r : Pr} (h : r.gd) : ∃ p : PS, p.ok ∧ r.v = p.v ∧ r = ⟨p.n, p.x, p.z, p.f⟩ := by
  obtain ⟨p, h1, h2, h3, h4, h5, h6⟩ := PL.Good.ps h
  exact ⟨p, h1, h2, by obtain ⟨n, x, z, f⟩ := r; simp only at *; subst h3; subst h4; subst h5; subst h6; rfl⟩

set_option maxHeartbeats 1000000 in
theorem sized_any (n : Int) (w : World) : Calls Try.prog 23 #[.int .i64 n] w fun e w' => e = .returned (.bool (decide (0 ≤ n ∧ n ≤ 64))) ∧ w' = w := by
  by_cases h0 : 0 ≤ n
  · by_cases h1 : n ≤ 64
    · rw [decide_eq_true ⟨h0, h1⟩]
      go_enter Try.func23, Try.ntmps23
      go_wp2
      go_ret
      exact ⟨rfl, rfl⟩
    · rw [decide_eq_false (fun h => h1 h.2)]
      go_enter Try.func23, Try.ntmps23
      go_wp2
      go_ret
      exact ⟨rfl, rfl⟩
  · rw [decide_eq_false (fun h => h0 h.1)]
    go_enter Try.func23, Try.ntmps23
    go_wp2
    go_ret
    exact ⟨rfl, rfl⟩
theorem commute_any (p q : PS) (w : World) (hp : p.ok) (hq : q.ok) (hn : p.n = q.n) :
    Calls Try.prog 29 #[p.v, q.v] w fun e w' => e = .returned (.bool (decide (PL.comB p.x p.z q.x q.z = 0))) ∧ Below w.heap.size w w' := by
  have C := fun w => PL.commute_yes p q w hp hq hn
  generalize decide (PL.comB p.x p.z q.x q.z = 0) = r at *
  clear hp hq hn
  obtain ⟨n, x, z, f⟩ := p
  obtain ⟨n', x', z', f'⟩ := q
  obtain ⟨hW, b1, b2⟩ := PL.two_boxes w n x z f n' x' z' f'
  go_enter Try.func29, Try.ntmps29
  go_wp2_with (go_at_call 51; (with_reducible refine (C _).mono ?_); rintro e w1 ⟨rfl, hB1⟩)
  go_ret
  exact ⟨rfl, btr hW hB1⟩
end Go.Proofs.Ytoddbaljnlhhaab
namespace Go.Proofs.Ytoddbaljnlhhaab
open Go.RowKit Go.Sort
open PL (pv PS)

theorem odd_any (p : PS) (w : World) (hp : p.ok) : Calls Try.prog 26 #[p.v] w fun e w' => e = .returned (.bool (decide ((p.f : Int) % 2 = 1))) ∧ Below w.heap.size w w' := by
  have hf := hp.f1
  have e1 := PL.and1 p.f (by omega)
  have e2 : ((p.f : Int) % 2 == 1) = decide ((p.f : Int) % 2 = 1) := by
    by_cases h : (p.f : Int) % 2 = 1
    · rw [decide_eq_true h]; exact beq_iff_eq.2 h
    · rw [decide_eq_false h]; exact beq_eq_false_iff_ne.2 h
  generalize decide ((p.f : Int) % 2 = 1) = r at *
  clear hp
  obtain ⟨n, x, z, f⟩ := p
  simp only at *
  go_enter Try.func26, Try.ntmps26
  go_wp2
  go_ret
  exact ⟨rfl, bal (Below.refl _ _) _⟩
/-- What the comparison of two rows reads. -/
abbrev K11 (V W : World) (h B1 B2 : Nat) (n : Int) (pn px pz pf qn qx qz qf : Nat) : Prop := Below V.heap.size V W ∧ W.cell? ⟨h, 0, none⟩ = some (.int .i64 n) ∧ W.cell? ⟨B1, 0, none⟩ = some (.int .i64 (pn : Int)) ∧ W.cell? ⟨B1, 1, none⟩ = some (.int .u64 (px : Int)) ∧ W.cell? ⟨B1, 2, none⟩ = some (.int .u64 (pz : Int)) ∧ W.cell? ⟨B1, 3, none⟩ = some (.int .i64 (pf : Int)) ∧ W.cell? ⟨B2, 0, none⟩ = some (.int .i64 (qn : Int)) ∧ W.cell? ⟨B2, 1, none⟩ = some (.int .u64 (qx : Int)) ∧ W.cell? ⟨B2, 2, none⟩ = some (.int .u64 (qz : Int)) ∧ W.cell? ⟨B2, 3, none⟩ = some (.int .i64 (qf : Int))
theorem k11_keep {V W : World} {h B1 B2 : Nat} {n : Int} {pn px pz pf qn qx qz qf : Nat} (H : K11 V V h B1 B2 n pn px pz pf qn qx qz qf) (h1 : h < V.heap.size) (h2 : B1 < V.heap.size) (h3 : B2 < V.heap.size) (hb : Below V.heap.size V W) : K11 V W h B1 B2 n pn px pz pf qn qx qz qf := by
  obtain ⟨_, c0, e0, e1, e2, e3, f0, f1, f2, f3⟩ := H
  have g : ∀ x y, x < V.heap.size → W.cell? ⟨x, y, none⟩ = V.cell? ⟨x, y, none⟩ := fun x y hx => hb.cell (p := ⟨x, y, none⟩) hx
  exact ⟨hb, (g _ _ h1).trans c0, (g _ _ h2).trans e0, (g _ _ h2).trans e1, (g _ _ h2).trans e2, (g _ _ h2).trans e3, (g _ _ h3).trans f0, (g _ _ h3).trans f1, (g _ _ h3).trans f2, (g _ _ h3).trans f3⟩
/-- The first j rows are right. -/
def RtU (t : Tb) (j : Nat) : Prop := ∀ i (h : i < t.rows.length), i < j → rowOk t.n t.rows[i] ∧ ∀ k (hk : k < i), comP t.rows[i] (t.rows[k]'(Nat.lt_trans hk h)) ↔ ¬ (i : Int) = (k : Int) + t.n
theorem RtU.zero (t : Tb) : RtU t 0 := fun _ _ h => absurd h (Nat.not_lt_zero _)
theorem RtU.all {t : Tb} (h0 : 0 ≤ t.n) (h1 : t.n ≤ 64) (hl : (t.rows.length : Int) = 2 * t.n) (h : RtU t t.rows.length) : Rt t := ⟨h0, h1, hl, fun j hj => (h j hj hj).1, fun j hj => (h j hj hj).2⟩
theorem RtU.next {t : Tb} {j : Nat} (hj : j < t.rows.length) (h : RtU t j) (hr : rowOk t.n t.rows[j]) (hc : ∀ k (hk : k < j), comP t.rows[j] (t.rows[k]'(Nat.lt_trans hk hj)) ↔ ¬ (j : Int) = (k : Int) + t.n) : RtU t (j + 1) := fun i hi hij => by
  by_cases e : i = j
  · subst e; exact ⟨hr, hc⟩
  · exact h i hi (by omega)
set_option maxHeartbeats 2000000 in
set_option maxRecDepth 100000 in
theorem check_all (t : Tb) (a : Option Addr) (c : Nat) (w : World) (H : TS w a c t.rows) (E : Int) (h1 : Rt t → E = 0) (h2 : ¬ Rt t → E = 180) :
    Calls Try.prog 13 #[t.v a c] w fun e w' => e = .returned (.int .i64 E) ∧ Below w.heap.size w w' := by
  have SZ := fun w => sized_any t.n w
  by_cases hs : 0 ≤ t.n ∧ t.n ≤ 64
  case neg =>
    obtain rfl : E = 180 := h2 (fun h => hs ⟨h.n0, h.n1⟩)
    rw [decide_eq_false hs] at SZ
    clear H h1 h2 hs
    obtain ⟨n, rs⟩ := t
    go_enter Try.func13, Try.ntmps13
    go_wp2_with (go_at_call 23; (with_reducible refine (SZ _).mono ?_); rintro e w1 ⟨rfl, rfl⟩)
    go_ret
    exact ⟨rfl, bal (Below.refl _ _) _⟩
  rw [decide_eq_true hs] at SZ
  by_cases hl : (t.rows.length : Int) = 2 * t.n
  case neg =>
    obtain rfl : E = 180 := h2 (fun h => hl h.len)
    have hne : ((t.rows.length : Int) != 2 * t.n) = true := bne_iff_ne.2 hl
    clear h1 h2 hl
    have hcap := H.cap
    obtain ⟨n, rs⟩ := t
    simp only at *
    go_enter Try.func13, Try.ntmps13
    go_wp2_with (go_at_call 23; (with_reducible refine (SZ _).mono ?_); rintro e w1 ⟨rfl, rfl⟩)
    go_ret
    exact ⟨rfl, bal (Below.refl _ _) _⟩
  have hle : ((t.rows.length : Int) != 2 * t.n) = false := by rw [hl]; exact bne_self_eq_false' _
  have HH := hid H
  have HL := hid hl
  have hcap := H.cap
  have hcl := H.l
  have HE1 := hid (fun h => h1 (RtU.all hs.1 hs.2 hl h))
  have HE2 := hid h2
  have HZ := hid (RtU.zero t)
  have hlen : t.rows.length ≤ 128 := by omega
  clear h1 h2 hl H
  obtain ⟨n, rs⟩ := t
  simp only at *
  go_enter Try.func13, Try.ntmps13
  go_wp2_with (go_at_call 23; (with_reducible refine (SZ _).mono ?_); rintro e w1 ⟨rfl, rfl⟩)
  go_loopw [23] (fun v23 wx => ∃ j : Nat, j ≤ rs.length ∧ v23 = .int .i64 (j : Nat) ∧ Hid (BK wx w.heap.size #[.int .i64 n, .slice a rs.length c] 24) ∧ Hid (Below w.heap.size w wx) ∧ Hid (RtU ⟨n, rs⟩ j)) (fun v23 _ => rs.length - (intOf v23).toNat)
  case atStart => exact ⟨0, Nat.zero_le _, rfl, bk_new _ _ _, bal (Below.refl _ _) _, HZ⟩
  case round =>
    clear HZ SZ
    obtain ⟨j, hj, rfl, HBK, HB, HU⟩ := hrel
    by_cases hlt : j < rs.length
    case neg =>
      obtain rfl : j = rs.length := by omega
      obtain rfl : E = 0 := HE1.out HU.out
      go_wp2
      go_ret
      exact ⟨rfl, HB.out⟩
    obtain ⟨b', o', rfl, r⟩ := (HH.out.below HB.out).at_ j hlt
    have m0 := r.c0 j hlt
    have m1 := r.c1 j hlt
    have m2 := r.c2 j hlt
    have m3 := r.c3 j hlt
    have hbl := r.lt
    have d1 := HBK.out.cell
    have l1 := HBK.out.lt
    have hw := HH.out.w64 j hlt
    have HRJ : Hid (¬ rowOk n rs[j] → E = 180) := fun h => HE2.out (fun hr => h (hr.row j hlt))
    have HCJ : Hid (rowOk n rs[j] → (∀ k (hk : k < j), comP rs[j] (rs[k]'(Nat.lt_trans hk hlt)) ↔ ¬ (j : Int) = (k : Int) + n) → RtU ⟨n, rs⟩ (j + 1)) := fun h1 h2 => HU.out.next hlt h1 h2
    have HCN : Hid (∀ k (hk : k < j), ¬ (comP rs[j] (rs[k]'(Nat.lt_trans hk hlt)) ↔ ¬ (j : Int) = (k : Int) + n) → E = 180) := fun k hk h => HE2.out (fun hr => h (hr.com j hlt k hk))
    have HRK : Hid (∀ k (hk : k < j), rowOk n (rs[k]'(Nat.lt_trans hk hlt))) := fun k hk => (HU.out k (Nat.lt_trans hk hlt) hk).1
    clear r
    by_cases hg : rs[j].gd
    case neg =>
      have CK := fun w => PL.check_no rs[j].n rs[j].x rs[j].z rs[j].f w hw.1 hw.2 hg
      obtain rfl : E = 180 := HRJ.out (fun h => hg h.1)
      clear HRJ HCJ HCN HRK
      generalize rs[j] = r at *
      obtain ⟨rn, rx, rz, rf⟩ := r
      simp only at *
      go_wp2_with (go_at_call 25; (with_reducible refine (CK _).mono ?_); rintro e w1 ⟨rfl, hB1⟩)
      go_ret
      exact ⟨rfl, btr (bal HB.out _) hB1⟩
    obtain ⟨p, hp, hpv, hpe⟩ := PL.Good.of hg
    have CK := fun w => PL.PS.ok.check hp w
    have OD := fun w => odd_any p w hp
    have HP := hid hp
    have HPE := hid hpe
    clear hg hw hpv
    rw [hpe] at m0 m1 m2 m3
    by_cases hn : (p.n : Int) = n
    case neg =>
      obtain rfl : E = 180 := HRJ.out (fun h => hn (by have := h.2.1; rw [HPE.out] at this; exact this))
      have hnb : ((p.n : Int) != n) = true := bne_iff_ne.2 hn
      clear HRJ HCJ HCN HRK OD hp hpe HP HPE hn
      obtain ⟨pn, px, pz, pf⟩ := p
      simp only at *
      go_wp2_with (go_at_call 25; (with_reducible refine (CK _).mono ?_); rintro e w1 ⟨rfl, hB1⟩; (have q1 := (PL.PB.new wr pn px pz pf).below hB1); obtain ⟨c0, c1, c2, c3, _, _, _, _⟩ := q1; (have k1 := bk_on (HBK.out.alloc (PL.pc pn px pz pf)) hB1); (have d1 := k1.cell); (have l1 := k1.lt); have l2 := ((PL.PB.new wr pn px pz pf).below hB1).lt)
      go_ret
      exact ⟨rfl, btr (bal HB.out _) hB1⟩
    have hnb : ((p.n : Int) != n) = false := bne_eq_false_iff_eq.2 hn
    by_cases ho : (p.f : Int) % 2 = 1
    case pos =>
      obtain rfl : E = 180 := HRJ.out (fun h => by have := h.2.2; rw [HPE.out] at this; have h3 : (p.f : Int) % 2 = 0 := this; omega)
      rw [decide_eq_true ho] at OD
      clear HRJ HCJ HCN HRK hp hpe HP HPE ho hn
      obtain ⟨pn, px, pz, pf⟩ := p
      simp only at *
      go_wp2_with (first
        | (go_at_call 25; (with_reducible refine (CK _).mono ?_); rintro e w1 ⟨rfl, hB1⟩; (have q1 := (PL.PB.new wr pn px pz pf).below hB1); obtain ⟨c0, c1, c2, c3, _, _, _, _⟩ := q1; (have k1 := bk_on (HBK.out.alloc (PL.pc pn px pz pf)) hB1); (have d1 := k1.cell); (have l1 := k1.lt); have l2 := ((PL.PB.new wr pn px pz pf).below hB1).lt)
        | (go_at_call 26; (with_reducible refine (OD _).mono ?_); rintro e w2 ⟨rfl, hB2⟩))
      go_ret
      exact ⟨rfl, btr (btr (bal HB.out _) hB1) hB2⟩
    rw [decide_eq_false ho] at OD
    have HRO : Hid (rowOk n rs[j]) := by
      show rowOk n rs[j]
      refine ⟨?_, ?_, ?_⟩
      · rw [HPE.out]; exact ⟨by show (0 : Int) ≤ p.n; omega, by have := HP.out.n1; show (p.n : Int) ≤ 64; omega, HP.out.x1, HP.out.z1, by show (0 : Int) ≤ p.f; omega, by have := HP.out.f1; show (p.f : Int) ≤ 3; omega⟩
      · rw [HPE.out]; exact hn
      · rw [HPE.out]; show (p.f : Int) % 2 = 0; omega
    have HNX := hid (HCJ.out HRO.out)
    have HN := hid hn
    have HNOT : Hid (∀ k (hk : k < j), rs[j] = ⟨p.n, p.x, p.z, p.f⟩) := fun _ _ => HPE.out
    clear HRJ HCJ hp hpe ho hn
    obtain ⟨pn, px, pz, pf⟩ := p
    simp only at *
    go_upto_region 8 with (first
      | (go_at_call 25; (with_reducible refine (CK _).mono ?_); rintro e w1 ⟨rfl, hB1⟩; (have q1 := (PL.PB.new wr pn px pz pf).below hB1); obtain ⟨c0, c1, c2, c3, _, _, _, _⟩ := q1; (have k1 := bk_on (HBK.out.alloc (PL.pc pn px pz pf)) hB1); (have d1 := k1.cell); (have l1 := k1.lt); have l2 := ((PL.PB.new wr pn px pz pf).below hB1).lt)
      | (go_at_call 26; (with_reducible refine (OD _).mono ?_); rintro e w2 ⟨rfl, hB2⟩))
    have HQ2 := hid (((PL.PB.new wr pn px pz pf).below hB1).below hB2)
    have HK2 := hid (bk_on k1 hB2)
    have HA2 := hid (btr (btr (bal HB.out (PL.pc pn px pz pf)) hB1) hB2)
    have HA2a := hid HB.out.size
    have d1 := HK2.out.cell
    have l1 := HK2.out.lt
    have HLT := hid hlt
    clear CK OD HBK hB1 hB2 k1 HB c0 c1 c2 c3 m0 m1 m2 m3 hbl
    have hB1g : w.heap.size ≤ wr.heap.size := HA2a.out
    clear HA2a
    generalize wr.heap.size = B1 at *
    go_wp2
    go_loopw [47] (fun v47 wx => ∃ k : Nat, k ≤ j ∧ v47 = .int .i64 (k : Nat) ∧ Hid (BK wx w.heap.size #[.int .i64 n, .slice (some ⟨b', o', none⟩) rs.length c] 24) ∧ Hid (PL.PB wx B1 pn px pz pf) ∧ Hid (Below w.heap.size w wx) ∧ Hid (∀ i (hi : i < j), i < k → (comP rs[j] (rs[i]'(Nat.lt_trans hi HLT.out)) ↔ ¬ (j : Int) = (i : Int) + n))) (fun v47 _ => j - (intOf v47).toNat)
    case atStart => exact ⟨0, Nat.zero_le _, rfl, HK2, HQ2, HA2, fun i _ h => absurd h (Nat.not_lt_zero _)⟩
    case round =>
      clear HK2 HQ2 HA2 d1 l1
      obtain ⟨k, hk, rfl, HK2, HQ2, HA2, HCM⟩ := hrel
      have d1 := HK2.out.cell
      have l1 := HK2.out.lt
      have l2 := HQ2.out.lt
      by_cases hkl : k < j
      case neg =>
        obtain rfl : k = j := by omega
        have HR := hid (HNX.out (fun i hi => HCM.out i hi hi))
        go_wp2
        exact ⟨⟨k + 1, by omega, rfl, HK2, HA2, HR⟩, by simp only [intOf]; omega⟩
      have hkr : k < rs.length := by omega
      obtain ⟨b2, o2, e2, r⟩ := (HH.out.below HA2.out).at_ k hkr
      cases e2
      have m0 := r.c0 k hkr
      have m1 := r.c1 k hkr
      have m2 := r.c2 k hkr
      have m3 := r.c3 k hkr
      have hbl := r.lt
      clear r
      obtain ⟨hg2, hn2, _⟩ := HRK.out k hkl
      obtain ⟨p2, hp2, _, hpe2⟩ := PL.Good.of hg2
      rw [hpe2] at m0 m1 m2 m3 hn2
      have hnn : pn = p2.n := by have h1 := HN.out; have h2 : (p2.n : Int) = n := hn2; omega
      have CM := fun w => commute_any ⟨pn, px, pz, pf⟩ p2 w HP.out hp2 hnn
      have HCQ : Hid ((PL.comB px pz p2.x p2.z = 0 ↔ ¬ (j : Int) = (k : Int) + n) → ∀ i (hi : i < j), i < k + 1 → (comP rs[j] (rs[i]'(Nat.lt_trans hi HLT.out)) ↔ ¬ (j : Int) = (i : Int) + n)) := fun h i hi hik => by
        by_cases e : i = k
        · subst e
          have e1 : rs[j]'HLT.out = ⟨pn, px, pz, pf⟩ := HPE.out
          have e3 : rs[i]'hkr = ⟨p2.n, p2.x, p2.z, p2.f⟩ := hpe2
          show comP (rs[j]'HLT.out) (rs[i]'hkr) ↔ _
          rw [e1, e3]
          exact h
        · exact HCM.out i hi (by omega)
      have HCR : Hid (¬ (PL.comB px pz p2.x p2.z = 0 ↔ ¬ (j : Int) = (k : Int) + n) → E = 180) := fun h => HCN.out k hkl (fun h2 => h (by
        have e1 : rs[j]'HLT.out = ⟨pn, px, pz, pf⟩ := HPE.out
        have e3 : rs[k]'hkr = ⟨p2.n, p2.x, p2.z, p2.f⟩ := hpe2
        have h3 : comP (rs[j]'HLT.out) (rs[k]'hkr) ↔ ¬ (j : Int) = (k : Int) + n := h2
        rw [e1, e3] at h3
        exact h3))
      obtain ⟨qn, qx, qz, qf⟩ := p2
      simp only at *
      clear hpe2 hg2 hn2 hp2 hnn HCM
      have hpb := HQ2.out
      clear hpb
      obtain ⟨V, hV⟩ : ∃ V, V = wr.alloc (.cells #[.int .i64 (qn : Int), .int .u64 (qx : Int), .int .u64 (qz : Int), .int .i64 (qf : Int)] 29) := ⟨_, rfl⟩
      have hQN : PL.PB V wr.heap.size qn qx qz qf := by rw [hV]; exact PL.PB.new wr qn qx qz qf
      have hWV : Below wr.heap.size wr V := by rw [hV]; exact bal (Below.refl _ _) _
      have hQ2 := HQ2.out.below hWV
      have hK2 := bk_on HK2.out hWV
      have HOC : Hid (K11 V V w.heap.size B1 wr.heap.size n pn px pz pf qn qx qz qf) := ⟨Below.refl _ _, hK2.cell 0, hQ2.c0, hQ2.c1, hQ2.c2, hQ2.c3, hQN.c0, hQN.c1, hQN.c2, hQN.c3⟩
      have z1 := hK2.lt
      have z2 := hQ2.lt
      have z3 := hQN.lt
      have HA3 := hid (btr HA2.out hWV)
      have HV := hid hV
      have HQ3 := hid hQ2
      have HK3 := hid hK2
      obtain ⟨bc, hbc⟩ : ∃ bc, bc = decide (PL.comB px pz qx qz = 0) := ⟨_, rfl⟩
      rw [← hbc] at CM
      obtain ⟨bp, hbp⟩ : ∃ bp, ((j : Int) == (k : Int) + n) = bp := ⟨_, rfl⟩
      have HI : Hid ((PL.comB px pz qx qz = 0 ↔ ¬ (j : Int) = (k : Int) + n) ↔ (bc == bp) = false) := by
        show _ ↔ _
        rw [hbc, ← hbp]
        by_cases h1 : PL.comB px pz qx qz = 0
        · by_cases h2 : (j : Int) = (k : Int) + n
          · rw [decide_eq_true h1, beq_iff_eq.2 h2]; simp [h1, h2]
          · rw [decide_eq_true h1, beq_eq_false_iff_ne.2 h2]; simp [h1, h2]
        · by_cases h2 : (j : Int) = (k : Int) + n
          · rw [decide_eq_false h1, beq_iff_eq.2 h2]; simp [h1, h2]
          · rw [decide_eq_false h1, beq_eq_false_iff_ne.2 h2]; simp [h1, h2]
      have hRf := Below.refl V.heap.size V
      have hwp : IntKind.i64.wrap ((k : Int) + n) = (k : Int) + n := by rw [IntKind.wrap_i64]; omega
      clear hQN hWV hQ2 hK2 hV hbc HQ2 HK2 HA2
      cases hcc : (bc == bp) with
      | true =>
        obtain rfl : E = 180 := HCR.out (fun h => by rw [HI.out.1 h] at hcc; cases hcc)
        go_upto_region 11 with (fail)
        rw [show wr.alloc (.cells #[.int .i64 (qn : Int), .int .u64 (qx : Int), .int .u64 (qz : Int), .int .i64 (qf : Int)] 29) = V from HV.out.symm]
        go_region_held3 (fun w' => K11 V w' w.heap.size B1 wr.heap.size n pn px pz pf qn qx qz qf)
          ((refine k11_keep HOC.out z1 z2 z3 ?_; first | exact below_drew hRf | exact btr (And.left (by assumption)) hN))
          (first | (go_at_call 29; (with_reducible refine (CM _).mono ?_); rintro e w1 ⟨rfl, hN⟩))
        have hb1 : Below V.heap.size V w1 := by first | exact And.left (by assumption) | exact btr (below_drew hRf) hN
        go_wp2
        go_ret
        exact ⟨rfl, btr HA3.out hb1⟩
      | false =>
        have HCY := hid (HCQ.out (HI.out.2 hcc))
        go_upto_region 11 with (fail)
        rw [show wr.alloc (.cells #[.int .i64 (qn : Int), .int .u64 (qx : Int), .int .u64 (qz : Int), .int .i64 (qf : Int)] 29) = V from HV.out.symm]
        go_region_held3 (fun w' => K11 V w' w.heap.size B1 wr.heap.size n pn px pz pf qn qx qz qf)
          ((refine k11_keep HOC.out z1 z2 z3 ?_; first | exact below_drew hRf | exact btr (And.left (by assumption)) hN))
          (first | (go_at_call 29; (with_reducible refine (CM _).mono ?_); rintro e w1 ⟨rfl, hN⟩))
        have hb1 : Below V.heap.size V w1 := by first | exact And.left (by assumption) | exact btr (below_drew hRf) hN
        go_wp2
        exact ⟨⟨k + 1, by omega, rfl, bk_on HK3.out hb1, HQ3.out.below hb1, btr HA3.out hb1, HCY⟩, by simp only [intOf]; omega⟩
end Go.Proofs.Ytoddbaljnlhhaab
namespace Go.Proofs.Ytoddbaljnlhhaab
open Go.RowKit Go.Sort
open PL (pv PS)

theorem RP.drop {W : World} {b o : Nat} {rs : List Pr} (h : RP W b o rs) (k : Nat) : RP W b (o + k * 4) (rs.drop k) := by
  have e : ∀ j (hj : j < (rs.drop k).length), ∃ h : k + j < rs.length, (rs.drop k)[j] = rs[k + j] := fun j hj => ⟨by rw [List.length_drop] at hj; omega, List.getElem_drop⟩
  refine ⟨fun j hj => ?_, fun j hj => ?_, fun j hj => ?_, fun j hj => ?_, h.lt⟩
  all_goals
    obtain ⟨h1, h2⟩ := e j hj
    rw [h2]
    have h3 : o + k * 4 + j * 4 = o + (k + j) * 4 := by omega
    rw [h3]
    first | exact h.c0 _ h1 | exact h.c1 _ h1 | exact h.c2 _ h1 | exact h.c3 _ h1
theorem TS.nil (W : World) (a : Option Addr) (c : Nat) (hc : c ≤ 9223372036854775807) : TS W a c [] := ⟨Nat.zero_le _, fun _ h => absurd h (Nat.not_lt_zero _), fun _ h => absurd h (Nat.not_lt_zero _), hc⟩
theorem TS.drop {W : World} {b o c : Nat} {rs : List Pr} (h : TS W (some ⟨b, o, none⟩) c rs) (k : Nat) : TS W (some ⟨b, o + k * 4, none⟩) (c - k) (rs.drop k) := by
  refine ⟨by rw [List.length_drop]; have := h.cap; omega, fun j hj => ?_, fun j hj => ?_, by have := h.l; omega⟩
  · have h1 : k + j < rs.length := by rw [List.length_drop] at hj; omega
    obtain ⟨b, o, e, r⟩ := h.at_ _ h1
    cases e
    exact ⟨_, _, rfl, r.drop k⟩
  · have h1 : k + j < rs.length := by rw [List.length_drop] at hj; omega
    rw [List.getElem_drop]
    exact h.w64 _ h1
set_option maxHeartbeats 1000000 in
set_option maxRecDepth 100000 in
theorem stab_any (n : Nat) (rs : List Pr) (a : Option Addr) (c : Nat) (w0 w : World) (H : TS w0 a c rs) (hn : n ≤ rs.length) (hl : rs.length ≤ 128) :
    Calls Try.prog 47 #[Tb.v ⟨n, rs⟩ a c] w fun e w' => ∃ a', e = .returned (.slice a' (rs.drop n).length (c - n)) ∧ TS w0 a' (c - n) (rs.drop n) ∧ Below w.heap.size w w' := by
  have hcap := H.cap
  have hcl := H.l
  have HH := hid H
  clear H
  have hlen : (rs.drop n).length = rs.length - n := List.length_drop
  have hB := bal (Below.refl w.heap.size w) (.cells #[.int .i64 (n : Int), .slice a rs.length c] 24)
  rcases Nat.eq_zero_or_pos rs.length with h0 | h0
  · obtain rfl : rs = [] := List.eq_nil_of_length_eq_zero h0
    obtain rfl : n = 0 := by simpa using hn
    go_enter Try.func47, Try.ntmps47
    go_wp2
    all_goals
      go_ret
      exact ⟨_, rfl, TS.nil _ _ _ (by omega), hB⟩
  · obtain ⟨b, o, rfl, r⟩ := HH.out.at_ 0 h0
    have HD := hid (HH.out.drop n)
    by_cases hcn : c = n
    · subst hcn
      have HN : Hid (rs.drop c = []) := List.drop_eq_nil_of_le (by omega)
      go_enter Try.func47, Try.ntmps47
      go_wp2
      all_goals
        go_ret
        exact ⟨some ⟨b, o, none⟩, by rw [HN.out, Nat.sub_self]; rfl, by rw [HN.out]; exact TS.nil _ _ _ (by omega), hB⟩
    · go_enter Try.func47, Try.ntmps47
      go_wp2
      all_goals
        go_ret
        exact ⟨some ⟨b, o + n * 4, none⟩, by rw [hlen]; rfl, HD.out, hB⟩
end Go.Proofs.Ytoddbaljnlhhaab
namespace Go.Proofs.Ytoddbaljnlhhaab
open Go.RowKit Go.Sort
open PL (pv PS)

/-- A row as a string. -/
def Pr.ps (r : Pr) : PS := ⟨r.n.toNat, r.x, r.z, r.f.toNat⟩
theorem rowOk.ps {n : Int} {r : Pr} (h : rowOk n r) : r.ps.ok ∧ (r.ps.n : Int) = n ∧ r = ⟨r.ps.n, r.ps.x, r.ps.z, r.ps.f⟩ := by
  obtain ⟨p, hp, _, he⟩ := PL.Good.of h.1
  have e : r.ps = p := by rw [he]; rfl
  have hn := h.2.1
  rw [e]
  exact ⟨hp, by rw [he] at hn; exact hn, he⟩
def nthP (rows : List Pr) (k : Nat) : PS := (rows.getD k ⟨0, 0, 0, 0⟩).ps
theorem nthP_at {rows : List Pr} {k : Nat} (h : k < rows.length) : nthP rows k = rows[k].ps := by
  unfold nthP
  rw [List.getD_eq_getElem?_getD, List.getElem?_eq_getElem h]
  rfl
abbrev comS (a b : PS) : Prop := PL.comB a.x a.z b.x b.z = 0
/-- The product of the stabilizers whose partners don't commute with p; none, if one of them does not commute itself. -/
def vgo (rows : List Pr) (N : Nat) (p : PS) : Nat → Nat → PS → Option PS
  | 0, _, acc => some acc
  | f + 1, k, acc => if comS (nthP rows (N + k)) p then vgo rows N p f (k + 1) (if comS (nthP rows k) p then acc else acc.mul (nthP rows (N + k))) else none
def eyeP (n : Nat) : PS := ⟨n, 0, 0, 0⟩
def eqP (a b : PS) : Bool := a.n == b.n && (a.x == b.x && (a.z == b.z && a.f == b.f))
def valO (p : PS) : Option PS → Int
  | none => 0
  | some q => if eqP q p = true then 1 else -1
def valT (t : Tb) (p : PS) : Int := valO p (vgo t.rows t.n.toNat p t.n.toNat 0 (eyeP t.n.toNat))
theorem Rt.ps {t : Tb} (h : Rt t) {k : Nat} (hk : k < t.rows.length) : (nthP t.rows k).ok ∧ ((nthP t.rows k).n : Int) = t.n ∧ t.rows[k] = ⟨(nthP t.rows k).n, (nthP t.rows k).x, (nthP t.rows k).z, (nthP t.rows k).f⟩ := by
  rw [nthP_at hk]
  exact (h.row k hk).ps
theorem com_t (p q : PS) (w : World) (hp : p.ok) (hq : q.ok) (hn : p.n = q.n) (h : comS p q) : Calls Try.prog 29 #[p.v, q.v] w fun e w' => e = .returned (.bool true) ∧ Below w.heap.size w w' := by
  have h1 := commute_any p q w hp hq hn
  rw [decide_eq_true (show PL.comB p.x p.z q.x q.z = 0 from h)] at h1
  exact h1
theorem com_f (p q : PS) (w : World) (hp : p.ok) (hq : q.ok) (hn : p.n = q.n) (h : ¬ comS p q) : Calls Try.prog 29 #[p.v, q.v] w fun e w' => e = .returned (.bool false) ∧ Below w.heap.size w w' := by
  have h1 := commute_any p q w hp hq hn
  rw [decide_eq_false (show ¬ PL.comB p.x p.z q.x q.z = 0 from h)] at h1
  exact h1
/-- What the comparison of a destabilizer reads. -/
abbrev K7 (V W : World) (h B1 b o k : Nat) (a : Option Addr) (l c : Nat) (pn px pz pf dn dx dz df : Nat) : Prop := Below V.heap.size V W ∧ W.cell? ⟨h, 1, none⟩ = some (.slice a l c) ∧ W.cell? ⟨B1, 0, none⟩ = some (.int .i64 (pn : Int)) ∧ W.cell? ⟨B1, 1, none⟩ = some (.int .u64 (px : Int)) ∧ W.cell? ⟨B1, 2, none⟩ = some (.int .u64 (pz : Int)) ∧ W.cell? ⟨B1, 3, none⟩ = some (.int .i64 (pf : Int)) ∧ W.cell? ⟨b, o + k * 4, none⟩ = some (.int .i64 (dn : Int)) ∧ W.cell? ⟨b, o + k * 4 + 1, none⟩ = some (.int .u64 (dx : Int)) ∧ W.cell? ⟨b, o + k * 4 + 2, none⟩ = some (.int .u64 (dz : Int)) ∧ W.cell? ⟨b, o + k * 4 + 3, none⟩ = some (.int .i64 (df : Int))
theorem k7_keep {V W : World} {h B1 b o k : Nat} {a : Option Addr} {l c : Nat} {pn px pz pf dn dx dz df : Nat} (H : K7 V V h B1 b o k a l c pn px pz pf dn dx dz df) (h1 : h < V.heap.size) (h2 : B1 < V.heap.size) (h3 : b < V.heap.size) (hb : Below V.heap.size V W) : K7 V W h B1 b o k a l c pn px pz pf dn dx dz df := by
  obtain ⟨_, c0, e0, e1, e2, e3, f0, f1, f2, f3⟩ := H
  have g : ∀ x y, x < V.heap.size → W.cell? ⟨x, y, none⟩ = V.cell? ⟨x, y, none⟩ := fun x y hx => hb.cell (p := ⟨x, y, none⟩) hx
  exact ⟨hb, (g _ _ h1).trans c0, (g _ _ h2).trans e0, (g _ _ h2).trans e1, (g _ _ h2).trans e2, (g _ _ h2).trans e3, (g _ _ h3).trans f0, (g _ _ h3).trans f1, (g _ _ h3).trans f2, (g _ _ h3).trans f3⟩
set_option maxHeartbeats 2000000 in
set_option maxRecDepth 100000 in
theorem value_any (t : Tb) (a : Option Addr) (c : Nat) (p : PS) (w : World) (H : TS w a c t.rows) (hR : Rt t) (hp : p.ok) (hpn : (p.n : Int) = t.n) :
    Calls Try.prog 27 #[t.v a c, p.v] w fun e w' => e = .returned (.int .i64 (valT t p)) ∧ Below w.heap.size w w' := by
  have hn0 := hR.n0
  have hn1 := hR.n1
  have hlen := hR.len
  obtain ⟨n, rs⟩ := t
  simp only at *
  obtain ⟨N, rfl⟩ := Int.eq_ofNat_of_zero_le hn0
  have hN : N ≤ 64 := by omega
  have hl : rs.length = 2 * N := by omega
  have HROW : Hid (∀ k (hk : k < rs.length), (nthP rs k).ok ∧ (nthP rs k).n = N ∧ rs[k] = ⟨(nthP rs k).n, (nthP rs k).x, (nthP rs k).z, (nthP rs k).f⟩) := fun k hk => by
    obtain ⟨h1, h2, h3⟩ := hR.ps hk
    have h2 : ((nthP rs k).n : Int) = (N : Int) := h2
    exact ⟨h1, by omega, h3⟩
  obtain ⟨RES, hres⟩ : ∃ RES, RES = vgo rs N p N 0 (eyeP N) := ⟨_, rfl⟩
  have hv : valT ⟨(N : Int), rs⟩ p = valO p RES := by rw [hres]; rfl
  rw [hv]
  have hpn' : p.n = N := by omega
  have EY := fun w => PL.eye_yes N w hN
  have ST := hid (fun w' => stab_any N rs a c w w' H (by omega) (by omega))
  have HH := hid H
  have HP := hid hp
  have HPN := hid hpn'
  have HRES := hid hres
  have hcap := H.cap
  have hcl := H.l
  have HL := hid hl
  have hl1 : rs.length ≤ 128 := by omega
  have hl2 : N ≤ rs.length := by omega
  clear hR hp hpn hpn' hres hv H hn0 hn1 hlen hl
  obtain ⟨pn, px, pz, pf⟩ := p
  simp only at *
  have hK0 : BK ((w.alloc (.cells #[.int .i64 (N : Int), .slice a rs.length c] 24)).alloc (PL.pc pn px pz pf)) w.heap.size #[.int .i64 (N : Int), .slice a rs.length c] 24 := (bk_new w _ _).alloc _
  have hP0 : PL.PB ((w.alloc (.cells #[.int .i64 (N : Int), .slice a rs.length c] 24)).alloc (PL.pc pn px pz pf)) (w.heap.size + 1) pn px pz pf := by
    have h := PL.PB.new (w.alloc (.cells #[.int .i64 (N : Int), .slice a rs.length c] 24)) pn px pz pf
    rwa [PL.alz] at h
  have hB0 : Below w.heap.size w ((w.alloc (.cells #[.int .i64 (N : Int), .slice a rs.length c] 24)).alloc (PL.pc pn px pz pf)) := bal (bal (Below.refl _ _) _) _
  go_enter Try.func27, Try.ntmps27
  go_upto_region 2 with (go_at_call 46; (with_reducible refine (EY _).mono ?_); rintro e w1 ⟨rfl, hB1⟩)
  have hK1 := (bk_on hK0 hB1).alloc (PL.pc N 0 0 0)
  have hP1 := (hP0.below hB1).alloc (PL.pc N 0 0 0)
  have hE1 := PL.PB.new w1 N 0 0 0
  have hA1 := bal (btr hB0 hB1) (PL.pc N 0 0 0)
  have hb1 : w.heap.size + 2 ≤ w1.heap.size := by have := hB1.size; simp at this; omega
  generalize hV : w1.alloc (PL.pc N 0 0 0) = V at *
  generalize w1.heap.size = B5 at *
  clear hV hK0 hP0 hB0 hB1 EY
  have d1 := hK1.cell
  have l1 := hK1.lt
  go_upto_region 3 with (go_at_call 47; refine Hid.out ?_)
  refine hid ?_
  refine (ST.out _).mono ?_
  rintro e w2 ⟨a2, rfl, hT2, hB2⟩
  have HT2 := hid hT2
  have HK2 := hid (bk_on hK1 hB2)
  have HP2 := hid (hP1.below hB2)
  have HE2 := hid (hE1.below hB2)
  have HA2 := hid (btr hA1 hB2)
  have hdl : (rs.drop N).length = N := by rw [List.length_drop, HL.out]; omega
  have HEO : Hid ((eyeP N).ok ∧ (eyeP N).n = N) := ⟨⟨hN, Nat.two_pow_pos _, Nat.two_pow_pos _, by show 0 < 4; omega⟩, rfl⟩
  have HDL := hid hdl
  generalize hRD : rs.drop N = SD at *
  have HSD := hid hRD
  clear hT2 hK1 hP1 hE1 hA1 hB2 ST d1 l1 hRD hdl
  have hdl2 : SD.length ≤ 64 := by rw [HDL.out]; exact hN
  go_wp2
  go_loopw [18] (fun v18 wx => ∃ (k : Nat) (acc : PS), k ≤ SD.length ∧ v18 = .int .i64 (k : Nat) ∧ Hid (BK wx w.heap.size #[.int .i64 (N : Int), .slice a rs.length c] 24) ∧ Hid (PL.PB wx (w.heap.size + 1) pn px pz pf) ∧ Hid (PL.PB wx B5 acc.n acc.x acc.z acc.f) ∧ Hid (Below w.heap.size w wx) ∧ Hid (acc.ok ∧ acc.n = N) ∧ Hid (vgo rs N ⟨pn, px, pz, pf⟩ (N - k) k acc = RES)) (fun v18 _ => SD.length - (intOf v18).toNat)
  case atStart => exact ⟨0, eyeP N, Nat.zero_le _, rfl, HK2, HP2, HE2, HA2, HEO, HRES.out.symm⟩
  case round =>
    clear HK2 HP2 HE2 HA2 HEO HRES
    obtain ⟨k, acc, hk, rfl, HK, HPB, HAC, HA, HOK, HRS⟩ := hrel
    have d1 := HK.out.cell
    have l1 := HK.out.lt
    have l2 := HPB.out.lt
    have l3 := HAC.out.lt
    obtain ⟨p0, p1, p2, p3, _, _, _, _⟩ := HPB.out
    obtain ⟨q0, q1, q2, q3, f0, f1, f2, f3⟩ := HAC.out
    by_cases hlt : k < SD.length
    case neg =>
      obtain rfl : k = SD.length := by omega
      have HRE : Hid (some acc = RES) := by show _ = _; rw [← HRS.out, HDL.out, Nat.sub_self]; rfl
      clear HRS HOK
      obtain ⟨an, ax, az, af⟩ := acc
      simp only at *
      go_wp2
      all_goals
        go_ret
        refine ⟨?_, HA.out⟩
        rw [← HRE.out]
        show Ending.returned (.int .i64 _) = Ending.returned (.int .i64 (if eqP ⟨an, ax, az, af⟩ ⟨pn, px, pz, pf⟩ = true then 1 else -1))
        by_cases hE : an = pn ∧ ax = px ∧ az = pz ∧ af = pf
        · rw [if_pos (by unfold eqP; simp only [Bool.and_eq_true, beq_iff_eq]; exact hE)]
          first | done | rfl | (exfalso; omega)
        · rw [if_neg (by unfold eqP; simp only [Bool.and_eq_true, beq_iff_eq]; exact hE)]
          first | done | rfl | (exfalso; omega)
    have hkN : k < N := by rw [← HDL.out]; exact hlt
    obtain ⟨b', o', rfl, r⟩ := (HT2.out.below HA.out).at_ k hlt
    obtain ⟨hs1, hs2, hs3⟩ := HROW.out (N + k) (by rw [HL.out]; omega)
    obtain ⟨hd1, hd2, hd3⟩ := HROW.out k (by omega)
    have hsk : SD[k] = rs[N + k]'(by rw [HL.out]; omega) := by
      have h : (rs.drop N)[k]'(by rw [HSD.out]; exact hlt) = rs[N + k]'(by rw [HL.out]; omega) := List.getElem_drop
      simp only [HSD.out] at h
      exact h
    have m0 := r.c0 k hlt
    have m1 := r.c1 k hlt
    have m2 := r.c2 k hlt
    have m3 := r.c3 k hlt
    have hbl := r.lt
    rw [hsk, hs3] at m0 m1 m2 m3
    have hrec : RES = if comS (nthP rs (N + k)) ⟨pn, px, pz, pf⟩ then vgo rs N ⟨pn, px, pz, pf⟩ (N - (k + 1)) (k + 1) (if comS (nthP rs k) ⟨pn, px, pz, pf⟩ then acc else acc.mul (nthP rs (N + k))) else none := by
      rw [← HRS.out]
      obtain ⟨f, hf⟩ : ∃ f, N - k = f + 1 := ⟨N - k - 1, by omega⟩
      have hf2 : N - (k + 1) = f := by omega
      rw [hf, hf2]
      rfl
    have HREC := hid hrec
    clear r hrec hsk hs3 HRS
    obtain ⟨sp, hsp⟩ : ∃ sp, sp = nthP rs (N + k) := ⟨_, rfl⟩
    obtain ⟨dp, hdp⟩ : ∃ dp, dp = nthP rs k := ⟨_, rfl⟩
    obtain ⟨b1, o1, rfl, r⟩ := (HH.out.below HA.out).at_ k (by omega)
    have n0 := r.c0 k (by omega)
    have n1 := r.c1 k (by omega)
    have n2 := r.c2 k (by omega)
    have n3 := r.c3 k (by omega)
    have hbl1 := r.lt
    rw [hd3] at n0 n1 n2 n3
    rw [← hsp] at hs1 hs2 m0 m1 m2 m3
    rw [← hdp] at hd1 hd2 n0 n1 n2 n3
    rw [← hsp, ← hdp] at HREC
    have CST := fun w => com_t sp ⟨pn, px, pz, pf⟩ w hs1 HP.out (hs2.trans HPN.out.symm)
    have CSF := fun w => com_f sp ⟨pn, px, pz, pf⟩ w hs1 HP.out (hs2.trans HPN.out.symm)
    have CDT := fun w => com_t dp ⟨pn, px, pz, pf⟩ w hd1 HP.out (hd2.trans HPN.out.symm)
    have CDF := fun w => com_f dp ⟨pn, px, pz, pf⟩ w hd1 HP.out (hd2.trans HPN.out.symm)
    have ML := fun w => PL.mul_yes acc sp w HOK.out.1 hs1 (HOK.out.2.trans hs2.symm)
    have HMO : Hid ((acc.mul sp).ok ∧ (acc.mul sp).n = N) := ⟨HOK.out.1.mul hs1 (HOK.out.2.trans hs2.symm), HOK.out.2⟩
    have hkr : k < rs.length := by omega
    clear r hd3 hsp hdp hs1 hs2 hd1 hd2
    generalize acc.mul sp = am at *
    have hb5 : w.heap.size + 2 ≤ B5 := hb1
    by_cases hcs : comS sp ⟨pn, px, pz, pf⟩
    case neg =>
      have HRN : Hid (RES = none) := by show _ = _; rw [HREC.out, if_neg hcs]
      have CS2 := fun w => CSF w hcs
      clear HREC CST CSF CDT CDF ML hcs
      obtain ⟨sn, sx, sz, sf⟩ := sp
      simp only at *
      have hP1 := HPB.out.alloc (PL.pc sn sx sz sf)
      go_wp2_with (go_at_call 29; (with_reducible refine (CS2 _).mono ?_); rintro e w3 ⟨rfl, hB3⟩)
      go_ret
      exact ⟨by rw [HRN.out]; rfl, btr (bal HA.out _) hB3⟩
    have CS2 := fun w => CST w hcs
    have HREC2 : Hid (RES = vgo rs N ⟨pn, px, pz, pf⟩ (N - (k + 1)) (k + 1) (if comS dp ⟨pn, px, pz, pf⟩ then acc else am)) := by show _ = _; rw [HREC.out, if_pos hcs]
    clear HREC CST CSF hcs
    obtain ⟨sn, sx, sz, sf⟩ := sp
    obtain ⟨dn, dx, dz, df⟩ := dp
    simp only at *
    go_upto_region 7 with (go_at_call 29; (with_reducible refine (CS2 _).mono ?_); rintro e w3 ⟨rfl, hB3⟩)
    have hV0 := bal (Below.refl wr.heap.size wr) (PL.pc sn sx sz sf)
    have hV3 := btr hV0 hB3
    have HS3 := hid ((PL.PB.new wr sn sx sz sf).below hB3)
    have HK3 := hid (bk_on HK.out hV3)
    have HP3 := hid (HPB.out.below hV3)
    have HC3 := hid (HAC.out.below hV3)
    have HA3 := hid (btr HA.out hV3)
    have g : ∀ y, w3.cell? ⟨b1, y, none⟩ = wr.cell? ⟨b1, y, none⟩ := fun y => hV3.cell (p := ⟨b1, y, none⟩) hbl1
    have HOC : Hid (K7 w3 w3 w.heap.size (w.heap.size + 1) b1 o1 k (some ⟨b1, o1, none⟩) rs.length c pn px pz pf dn dx dz df) := ⟨Below.refl _ _, HK3.out.cell 1, HP3.out.c0, HP3.out.c1, HP3.out.c2, HP3.out.c3, (g _).trans n0, (g _).trans n1, (g _).trans n2, (g _).trans n3⟩
    have z1 := HK3.out.lt
    have z2 := HP3.out.lt
    have z3 : b1 < w3.heap.size := Nat.lt_of_lt_of_le hbl1 hV3.size
    have hRf := Below.refl w3.heap.size w3
    generalize wr.heap.size = B8 at *
    clear hV0 hV3 hB3 g HK HPB HAC HA d1 l1 l2 l3 p0 p1 p2 p3 q0 q1 q2 q3 f0 f1 f2 f3 m0 m1 m2 m3 n0 n1 n2 n3 hbl hbl1 CS2
    by_cases hcd : comS ⟨dn, dx, dz, df⟩ ⟨pn, px, pz, pf⟩
    · have CD2 := fun w => CDT w hcd
      have HR3 : Hid (vgo rs N ⟨pn, px, pz, pf⟩ (N - (k + 1)) (k + 1) acc = RES) := by show _ = _; rw [HREC2.out, if_pos hcd]
      clear CDT CDF hcd HREC2 ML
      go_region_held3 (fun w' => K7 w3 w' w.heap.size (w.heap.size + 1) b1 o1 k (some ⟨b1, o1, none⟩) rs.length c pn px pz pf dn dx dz df)
        ((refine k7_keep HOC.out z1 z2 z3 ?_; first | exact below_drew hRf | exact btr (And.left (by assumption)) hN))
        (first | (go_at_call 29; (with_reducible refine (CD2 _).mono ?_); rintro e w4 ⟨rfl, hN⟩))
      have hb4 : Below w3.heap.size w3 w4 := by first | exact And.left (by assumption) | exact btr (below_drew hRf) hN
      go_wp2
      exact ⟨⟨k + 1, acc, by omega, rfl, bk_on HK3.out hb4, HP3.out.below hb4, HC3.out.below hb4, btr HA3.out hb4, HOK, HR3⟩, by simp only [intOf]; omega⟩
    · have CD2 := fun w => CDF w hcd
      have HR3 : Hid (vgo rs N ⟨pn, px, pz, pf⟩ (N - (k + 1)) (k + 1) am = RES) := by show _ = _; rw [HREC2.out, if_neg hcd]
      clear CDT CDF hcd HREC2
      obtain ⟨an, ax, az, af⟩ := acc
      obtain ⟨tn, tx, tz, tf⟩ := am
      simp only at *
      go_region_held3 (fun w' => K7 w3 w' w.heap.size (w.heap.size + 1) b1 o1 k (some ⟨b1, o1, none⟩) rs.length c pn px pz pf dn dx dz df)
        ((refine k7_keep HOC.out z1 z2 z3 ?_; first | exact below_drew hRf | exact btr (And.left (by assumption)) hN))
        (first | (go_at_call 29; (with_reducible refine (CD2 _).mono ?_); rintro e w4 ⟨rfl, hN⟩))
      have hb4 : Below w3.heap.size w3 w4 := by first | exact And.left (by assumption) | exact btr (below_drew hRf) hN
      have HS4 := hid (HS3.out.below hb4)
      have HC4 := hid (HC3.out.below hb4)
      obtain ⟨s0, s1, s2, s3, _, _, _, _⟩ := HS4.out
      obtain ⟨c0, c1, c2, c3, _, _, _, _⟩ := HC4.out
      have y1 := HS4.out.lt
      have y2 := HC4.out.lt
      go_wp2_with (go_at_call 48; (with_reducible refine (ML _).mono ?_); rintro e w5 ⟨rfl, hB5⟩; (have hC5 := HC4.out.below hB5); obtain ⟨e0, e1, e2, e3, g0, g1, g2, g3⟩ := hC5; have y3 := (HC4.out.below hB5).lt)
      have hb5' := btr hb4 hB5
      have hC5 := HC4.out.below hB5
      have hK5 := bk_on HK3.out hb5'
      have hP5 := HP3.out.below hb5'
      have hA5 := btr HA3.out hb5'
      exact ⟨⟨k + 1, ⟨tn, tx, tz, tf⟩, by omega, rfl, (((hK5.far (c := B5) (by omega) _ _).far (c := B5) (by omega) _ _).far (c := B5) (by omega) _ _).far (c := B5) (by omega) _ _, (((hP5.far (R := B5) (by omega) _ _).far (R := B5) (by omega) _ _).far (R := B5) (by omega) _ _).far (R := B5) (by omega) _ _, (((hC5.set0 _).set1 _).set2 _).set3 _, bset (bset (bset (bset hA5 _ _ _ (by omega)) _ _ _ (by omega)) _ _ _ (by omega)) _ _ _ (by omega), HMO, HR3⟩, by simp only [intOf]; omega⟩
end Go.Proofs.Ytoddbaljnlhhaab
