/-
  Put together of: J1 J3 Z0 J4.
-/
import Derived.Test.YtoddbaljnlhhaaaJ0
import Derived.Test.YtoddbaljnlhhaaaXB
import Derived.Test.YtoddbaljnlhhaaaA7
import Derived.BigRegion
import Derived.Deep.RegionHeld3
import Derived.Test.YtoddbaljnlhhaaaE0
namespace Go.Proofs.Ytoddbaljnlhhaaa
open Go.RowKit Go.Sort
open PL (pv PS bt)

/-- What inGroup tells of a right tableau: it is one just if all stabilizers commute with it; then the product's phase tells the value. -/
theorem inG_no {N : Nat} {rs : List Pr} {p : PS} (h : valT ⟨(N : Nat), rs⟩ p = 0) : vgo rs N p N 0 (eyeP N) = none := by
  by_cases g : ∀ j, j < N → comS (nthP rs (N + j)) p
  · exfalso
    have h2 := valT_all (t := ⟨(N : Nat), rs⟩) (N := N) rfl g
    rw [h2] at h
    split at h <;> cases h
  · obtain ⟨j, hj⟩ := Classical.not_forall.1 g
    obtain ⟨hj, hc⟩ := Classical.not_imp.1 hj
    exact vgo_none rs N p N 0 _ j (by omega) (by omega) hc
theorem inG_yes {N : Nat} {rs : List Pr} {p : PS} (hR : Rt ⟨(N : Nat), rs⟩) (hp : p.ok) (hpn : p.n = N) (h : valT ⟨(N : Nat), rs⟩ p ≠ 0) :
    ∃ f, f < 4 ∧ f % 2 = 0 ∧ inGV p (vgo rs N p N 0 (eyeP N)) = .tuple #[pv (N : Nat) p.x p.z (f : Nat), .bool true] ∧ valT ⟨(N : Nat), rs⟩ p = if f = p.f then 1 else -1 := by
  have g : ∀ j, j < N → comS (nthP rs (N + j)) p := fun j hj => by
    by_cases g : comS (nthP rs (N + j)) p
    · exact g
    · exact absurd (valT_no (t := ⟨(N : Nat), rs⟩) rfl hj g) h
  obtain ⟨h1, h2, h3, h4, h5⟩ := prd_all hR rfl hp hpn g
  have hv := valT_phase hR rfl hp hpn g
  have h1 : (prd rs N (selC rs p) N).ok := h1
  have h2 : (prd rs N (selC rs p) N).n = N := h2
  have h3 : (prd rs N (selC rs p) N).f % 2 = 0 := h3
  have h4 : (prd rs N (selC rs p) N).x = p.x := h4
  have h5 : (prd rs N (selC rs p) N).z = p.z := h5
  have e := vgo_prd rs N p N 0 (fun j _ hj => g j (by omega))
  rw [Nat.zero_add] at e
  have e0 : prd rs N (selC rs p) 0 = eyeP N := rfl
  rw [e0] at e
  refine ⟨(prd rs N (selC rs p) N).f, h1.f1, h3, ?_, hv⟩
  rw [e]
  show Value.tuple #[(prd rs N (selC rs p) N).v, .bool ((prd rs N (selC rs p) N).x == p.x && (prd rs N (selC rs p) N).z == p.z)] = _
  show Value.tuple #[pv (prd rs N (selC rs p) N).n (prd rs N (selC rs p) N).x (prd rs N (selC rs p) N).z (prd rs N (selC rs p) N).f, .bool ((prd rs N (selC rs p) N).x == p.x && (prd rs N (selC rs p) N).z == p.z)] = _
  rw [h2, h4, h5]
  simp
theorem rcheck_t (t : Tb) (a : Option Addr) (c : Nat) (w : World) (H : TS w a c t.rows) (h : Rt t) : Calls Try.prog 19 #[t.v a c] w fun e w' => e = .returned (.int .i64 0) ∧ Below w.heap.size w w' :=
  rcheck_all t a c w H 0 (fun _ => rfl) (fun h' => absurd h h')
theorem rcheck_f (t : Tb) (a : Option Addr) (c : Nat) (w : World) (H : TS w a c t.rows) (h : ¬ Rt t) : Calls Try.prog 19 #[t.v a c] w fun e w' => e = .returned (.int .i64 180) ∧ Below w.heap.size w w' :=
  rcheck_all t a c w H 180 (fun h' => absurd h' h) (fun _ => rfl)
set_option maxHeartbeats 1000000 in
set_option maxRecDepth 100000 in
theorem rvalue_any (t : Tb) (a : Option Addr) (c : Nat) (p : Pr) (w : World) (H : TS w a c t.rows) (hw : p.w64) :
    Calls Try.prog 12 #[t.v a c, p.v] w fun e w' => ∃ v er, e = .returned (.tuple #[.int .i64 v, .int .i64 er]) ∧ ValA t p v er ∧ Below w.heap.size w w' := by
  obtain ⟨hB0, hK0, hP0⟩ := tp_boxes w t.n (.slice a t.rows.length c) p.n p.f p.x p.z
  by_cases hR : Rt t
  case neg =>
    have CK := fun w' (h : Below w.heap.size w w') => rcheck_f t a c w' (H.below h) hR
    have HV : Hid (ValA t p 0 180) := .inl ⟨hR, rfl, rfl⟩
    clear hR hw H hK0 hP0
    obtain ⟨n, rs⟩ := t
    obtain ⟨pn, px, pz, pf⟩ := p
    simp only at *
    go_enter Try.func12, Try.ntmps12
    go_wp2_with (go_at_call 19; (refine (CK _ hB0).mono ?_); rintro e w1 ⟨rfl, hB1⟩)
    go_ret2
    exact ⟨0, 180, rfl, HV.out, btr hB0 hB1⟩
  have CK := fun w' (h : Below w.heap.size w w') => rcheck_t t a c w' (H.below h) hR
  by_cases hg : p.gd
  case neg =>
    have PK := fun w => PL.rcheck_no p.n p.x p.z p.f w hw.1 hw.2 hg
    have HV : Hid (ValA t p 0 70) := .inr (.inl ⟨hR, hg, rfl, rfl⟩)
    clear hR hw H hK0 hg
    obtain ⟨n, rs⟩ := t
    obtain ⟨pn, px, pz, pf⟩ := p
    simp only at *
    go_enter Try.func12, Try.ntmps12
    go_wp2_with (first
      | (go_at_call 19; (refine (CK _ hB0).mono ?_); rintro e w1 ⟨rfl, hB1⟩; (have hP1 := hP0.below hB1); obtain ⟨c0, c1, c2, c3, _, _, _, _⟩ := hP1; have l1 := (hP0.below hB1).lt)
      | (go_at_call 38; (refine (PK _).mono ?_); rintro e w2 ⟨rfl, hB2⟩))
    go_ret2
    exact ⟨0, 70, rfl, HV.out, btr (btr hB0 hB1) hB2⟩
  obtain ⟨q, hq, hqv, hqe⟩ := PL.Good.of hg
  have PK := fun w => PL.rcheck_yes q hq w
  have hqf := hq.f1
  have htm : (q.f : Int).tmod 2 = (q.f : Int) % 2 := Int.tmod_eq_emod_of_nonneg (by omega)
  by_cases hn : p.n = t.n
  case neg =>
    have HV : Hid (ValA t p 0 2) := .inr (.inr (.inl ⟨hR, hg, .inl hn, rfl, rfl⟩))
    have hn' : ((q.n : Int) != t.n) = true := bne_iff_ne.2 (by rw [hqe] at hn; exact hn)
    rw [hqe] at hP0 hB0 hK0 HV ⊢
    clear hR hw H hg hqv hqe hn hq
    obtain ⟨n, rs⟩ := t
    obtain ⟨qn, qx, qz, qf⟩ := q
    simp only at *
    go_enter Try.func12, Try.ntmps12
    go_wp2_with (first
      | (go_at_call 19; (refine (CK _ hB0).mono ?_); rintro e w1 ⟨rfl, hB1⟩; (have hP1 := hP0.below hB1); obtain ⟨c0, c1, c2, c3, _, _, _, _⟩ := hP1; have l1 := (hP0.below hB1).lt)
      | (go_at_call 38; (refine (PK _).mono ?_); rintro e w2 ⟨rfl, hB2⟩; (have hP2 := (hP0.below hB1).below hB2); obtain ⟨e0, e1, e2, e3, _, _, _, _⟩ := hP2; (have l2 := ((hP0.below hB1).below hB2).lt); (have k2 := bk_on (bk_on hK0 hB1) hB2); (have d2 := k2.cell); have l3 := k2.lt))
    go_ret2
    exact ⟨0, 2, rfl, HV.out, btr (btr hB0 hB1) hB2⟩
  have hn' : ((q.n : Int) != t.n) = false := bne_eq_false_iff_eq.2 (by rw [hqe] at hn; exact hn)
  by_cases ho : (q.f : Int) % 2 = 0
  case neg =>
    have HV : Hid (ValA t p 0 2) := .inr (.inr (.inl ⟨hR, hg, .inr (by rw [hqe]; show (q.f : Int) % 2 = 1; omega), rfl, rfl⟩))
    have hob : ((q.f : Int) % 2 != 0) = true := bne_iff_ne.2 ho
    rw [hqe] at hP0 hB0 hK0 HV ⊢
    clear hR hw H hg hqv hqe hn ho hq
    obtain ⟨n, rs⟩ := t
    obtain ⟨qn, qx, qz, qf⟩ := q
    simp only at *
    go_enter Try.func12, Try.ntmps12
    go_wp2_with (first
      | (go_at_call 19; (refine (CK _ hB0).mono ?_); rintro e w1 ⟨rfl, hB1⟩; (have hP1 := hP0.below hB1); obtain ⟨c0, c1, c2, c3, _, _, _, _⟩ := hP1; have l1 := (hP0.below hB1).lt)
      | (go_at_call 38; (refine (PK _).mono ?_); rintro e w2 ⟨rfl, hB2⟩; (have hP2 := (hP0.below hB1).below hB2); obtain ⟨e0, e1, e2, e3, _, _, _, _⟩ := hP2; (have l2 := ((hP0.below hB1).below hB2).lt); (have k2 := bk_on (bk_on hK0 hB1) hB2); (have d2 := k2.cell); have l3 := k2.lt))
    go_ret2
    exact ⟨0, 2, rfl, HV.out, btr (btr hB0 hB1) hB2⟩
  have hob : ((q.f : Int) % 2 != 0) = false := bne_eq_false_iff_eq.2 ho
  have hps : p.ps = q := by rw [hqe]; rfl
  have HV : Hid (ValA t p (valT t q) 0) := .inr (.inr (.inr ⟨hR, hg, hn, by rw [hqe]; exact ho, by rw [hps], rfl⟩))
  obtain ⟨N, hN⟩ := Int.eq_ofNat_of_zero_le hR.n0
  obtain ⟨n, rs⟩ := t
  have hN : n = (N : Int) := hN
  subst hN
  have hqN : q.n = N := by rw [hqe] at hn; have hn : (q.n : Int) = (N : Int) := hn; omega
  have IG := hid (fun w' (h : Below w.heap.size w w') => inGroup_any N rs a c q w' (H.below h) hR hq hqN)
  rw [hqe] at hP0 hB0 hK0 HV ⊢
  by_cases hv : valT ⟨(N : Nat), rs⟩ q = 0
  · rw [inG_no hv] at IG
    rw [hv] at HV
    clear hR hw H hg hqv hqe hn ho hq hv hps hqN hN
    obtain ⟨qn, qx, qz, qf⟩ := q
    simp only at *
    go_enter Try.func12, Try.ntmps12
    go_wp2_with (first
      | (go_at_call 19; (refine (CK _ hB0).mono ?_); rintro e w1 ⟨rfl, hB1⟩; (have hP1 := hP0.below hB1); obtain ⟨c0, c1, c2, c3, _, _, _, _⟩ := hP1; have l1 := (hP0.below hB1).lt)
      | (go_at_call 38; (refine (PK _).mono ?_); rintro e w2 ⟨rfl, hB2⟩; (have hP2 := (hP0.below hB1).below hB2); obtain ⟨e0, e1, e2, e3, _, _, _, _⟩ := hP2; (have l2 := ((hP0.below hB1).below hB2).lt); (have k2 := bk_on (bk_on hK0 hB1) hB2); (have d2 := k2.cell); have l3 := k2.lt)
      | (go_at_call 39; refine Hid.out ?_))
    refine hid ?_
    refine (IG.out _ (btr (btr hB0 hB1) hB2)).mono ?_
    rintro e w3 ⟨rfl, hB3⟩
    unfold inGV
    go_wp2
    go_ret2
    exact ⟨0, 0, rfl, HV.out, bal (btr (btr (btr hB0 hB1) hB2) hB3) _⟩
  · obtain ⟨f, hf4, hf2, hig, hvv⟩ := inG_yes hR hq hqN hv
    rw [hig] at IG
    rw [hvv] at HV
    clear hR hw H hg hqv hqe hn ho hv hps hvv hig hq hqN hN
    obtain ⟨qn, qx, qz, qf⟩ := q
    simp only at *
    by_cases hfe : f = qf
    · rw [if_pos hfe] at HV
      subst hfe
      go_enter Try.func12, Try.ntmps12
      go_wp2_with (first
        | (go_at_call 19; (refine (CK _ hB0).mono ?_); rintro e w1 ⟨rfl, hB1⟩; (have hP1 := hP0.below hB1); obtain ⟨c0, c1, c2, c3, _, _, _, _⟩ := hP1; have l1 := (hP0.below hB1).lt)
        | (go_at_call 38; (refine (PK _).mono ?_); rintro e w2 ⟨rfl, hB2⟩; (have hP2 := (hP0.below hB1).below hB2); obtain ⟨e0, e1, e2, e3, _, _, _, _⟩ := hP2; (have l2 := ((hP0.below hB1).below hB2).lt); (have k2 := bk_on (bk_on hK0 hB1) hB2); (have d2 := k2.cell); have l3 := k2.lt)
        | (go_at_call 39; refine Hid.out ?_))
      refine hid ?_
      refine (IG.out _ (btr (btr hB0 hB1) hB2)).mono ?_
      rintro e w3 ⟨rfl, hB3⟩
      have p3 := (((hP0.below hB1).below hB2).below hB3)
      have l4 := p3.lt
      obtain ⟨s0, s1, s2, s3, _, _, _, _⟩ := p3
      have n4 := PL.PB.new w3 (N : Nat) qx qz (f : Nat)
      obtain ⟨u0, u1, u2, u3, _, _, _, _⟩ := n4
      go_wp2
      go_ret2
      exact ⟨1, 0, rfl, HV.out, bal (btr (btr (btr hB0 hB1) hB2) hB3) _⟩
    · rw [if_neg hfe] at HV
      have hfi : ((f : Int) == (qf : Int)) = false := beq_eq_false_iff_ne.2 (by omega)
      have hfj : ¬ (f : Int) = (qf : Int) := by omega
      go_enter Try.func12, Try.ntmps12
      go_wp2_with (first
        | (go_at_call 19; (refine (CK _ hB0).mono ?_); rintro e w1 ⟨rfl, hB1⟩; (have hP1 := hP0.below hB1); obtain ⟨c0, c1, c2, c3, _, _, _, _⟩ := hP1; have l1 := (hP0.below hB1).lt)
        | (go_at_call 38; (refine (PK _).mono ?_); rintro e w2 ⟨rfl, hB2⟩; (have hP2 := (hP0.below hB1).below hB2); obtain ⟨e0, e1, e2, e3, _, _, _, _⟩ := hP2; (have l2 := ((hP0.below hB1).below hB2).lt); (have k2 := bk_on (bk_on hK0 hB1) hB2); (have d2 := k2.cell); have l3 := k2.lt)
        | (go_at_call 39; refine Hid.out ?_))
      refine hid ?_
      refine (IG.out _ (btr (btr hB0 hB1) hB2)).mono ?_
      rintro e w3 ⟨rfl, hB3⟩
      have p3 := (((hP0.below hB1).below hB2).below hB3)
      have l4 := p3.lt
      obtain ⟨s0, s1, s2, s3, _, _, _, _⟩ := p3
      have n4 := PL.PB.new w3 (N : Nat) qx qz (f : Nat)
      obtain ⟨u0, u1, u2, u3, _, _, _, _⟩ := n4
      go_wp2
      go_ret2
      exact ⟨-1, 0, rfl, HV.out, bal (btr (btr (btr hB0 hB1) hB2) hB3) _⟩
end Go.Proofs.Ytoddbaljnlhhaaa
namespace Go.Proofs.Ytoddbaljnlhhaaa
open Go.RowKit Go.Sort
open PL (pv PS bt)

/-- What Value tells of a row. -/
theorem rval_row (t : Tb) (a : Option Addr) (c : Nat) (r : Pr) (w : World) (H : TS w a c t.rows) (hR : Rt t) (hr : rowOk t.n r) (hw : r.w64) :
    Calls Try.prog 12 #[t.v a c, r.v] w fun e w' => e = .returned (.tuple #[.int .i64 (valT t r.ps), .int .i64 0]) ∧ Below w.heap.size w w' := by
  obtain ⟨h1, h2, h3⟩ := hr
  refine (rvalue_any t a c r w H hw).mono ?_
  rintro e w' ⟨v, er, rfl, HV, hb⟩
  rcases HV with ⟨g, _, _⟩ | ⟨_, g, _, _⟩ | ⟨_, _, g, _, _⟩ | ⟨_, _, _, _, rfl, rfl⟩
  · exact absurd hR g
  · exact absurd h1 g
  · rcases g with g | g
    · exact absurd h2 g
    · omega
  · exact ⟨rfl, hb⟩
/-- What the call of Value reads. -/
abbrev K8 (V W : World) (h b o k : Nat) (n : Int) (a : Option Addr) (l c : Nat) (m : Int) (a2 : Option Addr) (l2 c2 : Nat) (dn : Int) (dx dz : Nat) (df : Int) : Prop := Below V.heap.size V W ∧ W.cell? ⟨h, 0, none⟩ = some (.int .i64 n) ∧ W.cell? ⟨h, 1, none⟩ = some (.slice a l c) ∧ W.cell? ⟨h + 1, 0, none⟩ = some (.int .i64 m) ∧ W.cell? ⟨h + 1, 1, none⟩ = some (.slice a2 l2 c2) ∧ W.cell? ⟨b, o + k * 4, none⟩ = some (.int .i64 dn) ∧ W.cell? ⟨b, o + k * 4 + 1, none⟩ = some (.int .u64 (dx : Int)) ∧ W.cell? ⟨b, o + k * 4 + 2, none⟩ = some (.int .u64 (dz : Int)) ∧ W.cell? ⟨b, o + k * 4 + 3, none⟩ = some (.int .i64 df)
theorem k8_keep {V W : World} {h b o k : Nat} {n : Int} {a : Option Addr} {l c : Nat} {m : Int} {a2 : Option Addr} {l2 c2 : Nat} {dn : Int} {dx dz : Nat} {df : Int} (H : K8 V V h b o k n a l c m a2 l2 c2 dn dx dz df) (h2 : h + 1 < V.heap.size) (h3 : b < V.heap.size) (hb : Below V.heap.size V W) : K8 V W h b o k n a l c m a2 l2 c2 dn dx dz df := by
  obtain ⟨_, c0, c1, e0, e1, f0, f1, f2, f3⟩ := H
  have g : ∀ x y, x < V.heap.size → W.cell? ⟨x, y, none⟩ = V.cell? ⟨x, y, none⟩ := fun x y hx => hb.cell (p := ⟨x, y, none⟩) hx
  have h1 : h < V.heap.size := by omega
  exact ⟨hb, (g _ _ h1).trans c0, (g _ _ h1).trans c1, (g _ _ h2).trans e0, (g _ _ h2).trans e1, (g _ _ h3).trans f0, (g _ _ h3).trans f1, (g _ _ h3).trans f2, (g _ _ h3).trans f3⟩
set_option maxHeartbeats 4000000 in
set_option maxRecDepth 100000 in
theorem rsame_any (t u : Tb) (a a' : Option Addr) (c c' : Nat) (w : World) (H : TS w a c t.rows) (H' : TS w a' c' u.rows) :
    Calls Try.prog 13 #[t.v a c, u.v a' c'] w fun e w' => ∃ r er, e = .returned (.tuple #[.bool r, .int .i64 er]) ∧ SamA t u r er ∧ Below w.heap.size w w' := by
  obtain ⟨hB0, hK0, hL0⟩ := tt_boxes w t.n u.n (.slice a t.rows.length c) (.slice a' u.rows.length c')
  by_cases hR : Rt t
  case neg =>
    have CK := fun w' (h : Below w.heap.size w w') => rcheck_f t a c w' (H.below h) hR
    have HV : Hid (SamA t u false 180) := .inl ⟨fun h => hR h.1, rfl, rfl⟩
    clear hR H H' hK0 hL0
    obtain ⟨n, rs⟩ := t
    obtain ⟨m, us⟩ := u
    simp only at *
    go_enter Try.func13, Try.ntmps13
    go_wp2_with (go_at_call 19; (with_reducible refine (CK _ hB0).mono ?_); rintro e w1 ⟨rfl, hB1⟩)
    go_ret2
    exact ⟨false, 180, rfl, HV.out, btr hB0 hB1⟩
  have CK := hid (fun w' (h : Below w.heap.size w w') => rcheck_t t a c w' (H.below h) hR)
  by_cases hS : Rt u
  case neg =>
    have CU := hid (fun w' (h : Below w.heap.size w w') => rcheck_f u a' c' w' (H'.below h) hS)
    have HV : Hid (SamA t u false 180) := .inl ⟨fun h => hS h.2, rfl, rfl⟩
    clear hR hS H H'
    obtain ⟨n, rs⟩ := t
    obtain ⟨m, us⟩ := u
    simp only at *
    go_enter Try.func13, Try.ntmps13
    go_wp2_with (first
      | (go_at_call 19; (with_reducible refine (CK.out _ hB0).mono ?_); rintro e w1 ⟨rfl, hB1⟩; (have k1 := bk_on hL0 hB1); (have d1 := k1.cell); have l1 := k1.lt)
      | (go_at_call 19; (with_reducible refine (CU.out _ (btr hB0 hB1)).mono ?_); rintro e w2 ⟨rfl, hB2⟩))
    go_ret2
    exact ⟨false, 180, rfl, HV.out, btr (btr hB0 hB1) hB2⟩
  have CU := hid (fun w' (h : Below w.heap.size w w') => rcheck_t u a' c' w' (H'.below h) hS)
  by_cases hn : t.n = u.n
  case neg =>
    have HV : Hid (SamA t u false 0) := .inr (.inl ⟨hR, hS, fun h => hn h.1, rfl, rfl⟩)
    have hn' : (t.n != u.n) = true := bne_iff_ne.2 hn
    clear hR hS H H' hn
    obtain ⟨n, rs⟩ := t
    obtain ⟨m, us⟩ := u
    simp only at *
    go_enter Try.func13, Try.ntmps13
    go_wp2_with (first
      | (go_at_call 19; (with_reducible refine (CK.out _ hB0).mono ?_); rintro e w1 ⟨rfl, hB1⟩; (have k1 := bk_on hL0 hB1); (have d1 := k1.cell); have l1 := k1.lt)
      | (go_at_call 19; (with_reducible refine (CU.out _ (btr hB0 hB1)).mono ?_); rintro e w2 ⟨rfl, hB2⟩; (have k2 := bk_on (bk_on hL0 hB1) hB2); (have d2 := k2.cell); (have l2 := k2.lt); (have k3 := bk_on (bk_on hK0 hB1) hB2); (have d3 := k3.cell); have l3 := k3.lt))
    go_ret2
    exact ⟨false, 0, rfl, HV.out, btr (btr hB0 hB1) hB2⟩
  have hn' : (t.n != u.n) = false := bne_eq_false_iff_eq.2 hn
  obtain ⟨N, hN⟩ := Int.eq_ofNat_of_zero_le hR.n0
  have hN1 := hR.n1
  have hlen := hR.len
  have HY : Hid ((∀ j, j < N → valT u (nthP t.rows (N + j)) = 1) → SamA t u true 0) := fun h => .inr (.inr ⟨hR, hS, hn, allOne_swap hS hR hn.symm ((allOne_iff hR hN).2 h), rfl, rfl⟩)
  have HX : Hid (¬ (∀ j, j < N → valT u (nthP t.rows (N + j)) = 1) → SamA t u false 0) := fun h => .inr (.inl ⟨hR, hS, fun h' => h ((allOne_iff hR hN).1 (allOne_swap hR hS hn h'.2)), rfl, rfl⟩)
  have VA := hid (fun j (hj : j < t.rows.length) w' (h : Below w.heap.size w w') => rval_row u a' c' t.rows[j] w' (H'.below h) hS (hn ▸ hR.row j hj) (H.w64 j hj))
  have HP : Hid (∀ j (hj : j < t.rows.length), nthP t.rows j = t.rows[j].ps) := fun j hj => nthP_at hj
  have HH := hid H
  have HL : Hid (t.rows.length = 2 * N) := by show _ = _; omega
  have hcap := H.cap
  have hcl := H.l
  have hl1 : t.rows.length ≤ 128 := by omega
  have hl2 : N ≤ t.rows.length := by omega
  have hN2 : N ≤ 64 := by omega
  clear hR hS H H' hlen hN1
  obtain ⟨V, hVd⟩ : ∃ V : PS → Int, V = valT u := ⟨_, rfl⟩
  rw [← hVd] at VA HY HX
  clear hVd
  obtain ⟨n, rs⟩ := t
  obtain ⟨m, us⟩ := u
  simp only at *
  subst hN
  clear hn
  go_enter Try.func13, Try.ntmps13
  go_upto_region 5 with (first
      | (go_at_call 19; (with_reducible refine (CK.out _ hB0).mono ?_); rintro e w1 ⟨rfl, hB1⟩; (have k1 := bk_on hL0 hB1); (have d1 := k1.cell); have l1 := k1.lt)
      | (go_at_call 19; (with_reducible refine (CU.out _ (btr hB0 hB1)).mono ?_); rintro e w2 ⟨rfl, hB2⟩; (have k2 := bk_on (bk_on hL0 hB1) hB2); (have d2 := k2.cell); (have l2 := k2.lt); (have k3 := bk_on (bk_on hK0 hB1) hB2); (have d3 := k3.cell); have l3 := k3.lt))
  have HK2 := hid k2
  have HK3 := hid k3
  have HA3 := hid (btr (btr hB0 hB1) hB2)
  clear k1 d1 l1 k2 d2 l2 k3 d3 l3 hB1 hB2 hB0 hK0 hL0 CK CU
  go_wp2
  go_loopw [6] (fun v6 wx => ∃ k : Nat, k ≤ N ∧ v6 = .int .i64 (k : Nat) ∧ Hid (BK wx w.heap.size #[.int .i64 (N : Nat), .slice a rs.length c] 24) ∧ Hid (BK wx (w.heap.size + 1) #[.int .i64 m, .slice a' us.length c'] 24) ∧ Hid (Below w.heap.size w wx) ∧ Hid (∀ j, j < k → V (nthP rs (N + j)) = 1)) (fun v6 _ => N - (intOf v6).toNat)
  case atStart => exact ⟨0, Nat.zero_le _, rfl, HK3, HK2, HA3, fun _ h => absurd h (Nat.not_lt_zero _)⟩
  case round =>
    clear HK2 HK3 HA3
    obtain ⟨k, hk, rfl, HK, HU, HA, HAO⟩ := hrel
    have d1 := HK.out.cell
    have l1 := HK.out.lt
    by_cases hlt : k < N
    case neg =>
      obtain rfl : k = N := by omega
      have HZ := hid (HY.out (fun j h => HAO.out j h))
      go_wp2
      go_ret2
      exact ⟨true, 0, rfl, HZ.out, HA.out⟩
    obtain ⟨L, hL⟩ : ∃ L, Hid (L = N + k) := ⟨_, rfl⟩
    have hLI : ((N : Nat) : Int) + (k : Int) = (L : Int) := by rw [hL.out]; omega
    have hLr : L < rs.length := by rw [hL.out, HL.out]; omega
    have hwl : IntKind.i64.wrap (((N : Nat) : Int) + (k : Int)) = (L : Int) := by rw [hLI, IntKind.wrap_i64]; omega
    have hwl2 : IntKind.i64.wrap (L : Int) = (L : Int) := by rw [IntKind.wrap_i64]; omega
    obtain ⟨b, o, rfl, r⟩ := (HH.out.below HA.out).at_ L hLr
    have m0 := r.c0 L hLr
    have m1 := r.c1 L hLr
    have m2 := r.c2 L hLr
    have m3 := r.c3 L hLr
    have hbl := r.lt
    have VB := hid (fun w' h => VA.out L hLr w' h)
    have HNE : Hid (¬ V (rs[L]).ps = 1 → SamA ⟨(N : Int), rs⟩ ⟨m, us⟩ false 0) := fun h => HX.out (fun h' => h (by rw [← HP.out L hLr, hL.out]; exact h' k hlt))
    have HYE : Hid (V (rs[L]).ps = 1 → ∀ j, j < k + 1 → V (nthP rs (N + j)) = 1) := fun h j hjk => by
      by_cases e : j = k
      · subst e; rw [← hL.out, HP.out L hLr]; exact h
      · exact HAO.out j (by omega)
    clear r HAO
    generalize (rs[L]) = q at *
    obtain ⟨qn, qx, qz, qf⟩ := q
    simp only at *
    have HOC : Hid (K8 wr wr w.heap.size b o L (N : Nat) (some ⟨b, o, none⟩) rs.length c m a' us.length c' qn qx qz qf) := ⟨Below.refl _ _, HK.out.cell 0, HK.out.cell 1, HU.out.cell 0, HU.out.cell 1, m0, m1, m2, m3⟩
    have z1 := HU.out.lt
    have hRf := Below.refl wr.heap.size wr
    clear m0 m1 m2 m3
    generalize V (Pr.ps ⟨qn, qx, qz, qf⟩) = vq at *
    by_cases hv : vq = 1
    · subst hv
      have HY2 := hid (HYE.out rfl)
      clear HYE HNE
      go_upto_region 8 with (fail)
      go_region_held3 (fun w' => K8 wr w' w.heap.size b o L (N : Nat) (some ⟨b, o, none⟩) rs.length c m a' us.length c' qn qx qz qf)
        ((refine k8_keep HOC.out z1 hbl ?_; first | exact below_drew hRf | exact btr (And.left (by assumption)) hN))
        (first | (go_at_call 12; (refine (VB.out _ (btr HA.out (by first | exact And.left (by assumption) | exact drew_ofr))).mono ?_); rintro e w1 ⟨rfl, hN⟩))
      have hb1 : Below wr.heap.size wr w1 := by first | exact And.left (by assumption) | exact btr (below_drew hRf) hN
      go_wp2
      exact ⟨⟨k + 1, by omega, rfl, bk_on HK.out hb1, bk_on HU.out hb1, btr HA.out hb1, HY2⟩, by simp only [intOf]; omega⟩
    · have HN2 := hid (HNE.out hv)
      have hv' : (vq != 1) = true := bne_iff_ne.2 hv
      clear HYE HNE
      go_upto_region 8 with (fail)
      go_region_held3 (fun w' => K8 wr w' w.heap.size b o L (N : Nat) (some ⟨b, o, none⟩) rs.length c m a' us.length c' qn qx qz qf)
        ((refine k8_keep HOC.out z1 hbl ?_; first | exact below_drew hRf | exact btr (And.left (by assumption)) hN))
        (first | (go_at_call 12; (refine (VB.out _ (btr HA.out (by first | exact And.left (by assumption) | exact drew_ofr))).mono ?_); rintro e w1 ⟨rfl, hN⟩))
      have hb1 : Below wr.heap.size wr w1 := by first | exact And.left (by assumption) | exact btr (below_drew hRf) hN
      go_wp2
      go_ret2
      exact ⟨false, 0, rfl, HN2.out, btr HA.out hb1⟩
end Go.Proofs.Ytoddbaljnlhhaaa
namespace Go.Proofs.Ytoddbaljnlhhaaa
open Go
section
variable {P : Program} {ops : Array Oper} {Q : Exit → Act → World → Prop} {md : Region.Mode} {S : World → Prop} {z : Nat}
/-- Whatever comes up next; S holds behind it, if it isn't number z. -/
def zAny (P : Program) (md : Region.Mode) (ops : Array Oper) (Q : Exit → Act → World → Prop) (z : Nat) (S : World → Prop) : Nat → Array Bool → Act → World → Prop
  | 0, l, a, w => Region.ready md ops l = [] ∧ Q .normal a w
  | f + 1, l, a, w => (Region.ready md ops l = [] → Q .normal a w) ∧ ∀ i ∈ Region.ready md ops l, wpOp P ops Q i (fun a' w' => (i ≠ z → S w') ∧ zAny P md ops Q z S f (l.setIfInBounds i true) a' w') a w
theorem any_of_z : ∀ (f : Nat) (l : Array Bool) (a : Act) (w : World), zAny P md ops Q z S f l a w → wpAny P md ops Q f l a w
  | 0, _, _, _, h => h
  | f + 1, _, _, _, h => ⟨h.1, fun i hi => wpOp_mono (fun _ _ h' => any_of_z f _ _ _ h'.2) (h.2 i hi)⟩
/-- What number z waits for may be taken first where it yields in every world that meets S. -/
theorem zAny_first {i : Nat} {oi : Oper} {v : Value} (hi : ops[i]? = some oi) (hsel : ∀ (j : Nat) (o : Oper) cs b, ops[j]? = some o → o.op ≠ .select cs b)
    (hQ : ∀ c a w, Q (.panic c) (a.put oi.dst v) w → Q (.panic c) a w)
    (hz : ∀ oz, ops[z]? = some oz → ∃ e ∈ oz.after, Region.binds md e = true ∧ e.on = i) (f : Nat) :
    ∀ (l : Array Bool) (a : Act) (w : World),
      (∀ j oj, ops[j]? = some oj → j ≠ i → l.getD j true = false → (∀ e ∈ oj.after, Region.binds md e = true → e.on ≠ i) → oi.apart ops oj = true) →
      i ∈ Region.ready md ops l → YieldsIf P ops S oi v a → S w →
      zAny P md ops Q z S f (l.setIfInBounds i true) (a.put oi.dst v) w → zAny P md ops Q z S (f + 1) l a w := by
  induction f with
  | zero =>
    intro l a w _ hr hy hS H
    refine ⟨fun h => (by rw [h] at hr; cases hr), fun j hj => ?_⟩
    by_cases hji : j = i
    · cases hji
      exact hy.wpOp hi hS ⟨fun _ => hS, H⟩
    · exact absurd (ready_mono hj hji) (by rw [H.1]; exact List.not_mem_nil)
  | succ f ih =>
    intro l a w hfree hr hy hS H
    refine ⟨fun h => (by rw [h] at hr; cases hr), fun j hj => ?_⟩
    by_cases hji : j = i
    · cases hji
      exact hy.wpOp hi hS ⟨fun _ => hS, H⟩
    obtain ⟨hjun, oj, hoj, hall⟩ := mem_ready.1 hj
    have hnot : ∀ e ∈ oj.after, Region.binds md e = true → e.on ≠ i := fun e he hb heq => by
      have h1 := hall e he hb
      have h0 := (mem_ready.1 hr).1
      rw [heq] at h1
      rcases Nat.lt_or_ge i l.size with h' | h'
      · simp [h'] at h0 h1
        rw [h0] at h1
        cases h1
      · simp [Array.getElem?_eq_none h'] at h1
    have hjz : j ≠ z := fun e => by
      obtain ⟨e', he', hb', ho'⟩ := hz oj (by rw [← e]; exact hoj)
      exact hnot e' he' hb' ho'
    have h2 := wpOp_putIf hoj (hfree j oj hoj hji hjun hnot) (fun cs b => hsel i oi cs b hi) (fun cs b => hsel j oj cs b hoj) hQ hy (H.2 j (ready_mono hj hji))
    refine wpOp_mono (fun a' w' h3 => ⟨h3.2.1, ih (l.setIfInBounds j true) a' w' (fun k ok hk hki hun hno => ?_) (ready_mono hr (Ne.symm hji)) h3.1 (h3.2.1 hjz) ?_⟩) h2
    · refine hfree k ok hk hki ?_ hno
      by_cases hjk : j = k
      · cases hjk
        exact hjun
      · rwa [getD_set_ne true hjk] at hun
    · rw [Array.setIfInBounds_comm _ _ hji]
      exact h3.2.2
/-- Number z waits for number i. -/
def waits (md : Region.Mode) (ops : Array Oper) (z i : Nat) : Bool := match ops[z]? with | some o => o.after.any (fun e => Region.binds md e && e.on == i) | none => true
theorem waits_spec {i : Nat} (h : waits md ops z i = true) : ∀ oz, ops[z]? = some oz → ∃ e ∈ oz.after, Region.binds md e = true ∧ e.on = i := fun oz ho => by
  simp only [waits, ho, Array.any_eq_true'] at h
  obtain ⟨e, he, h⟩ := h
  simp only [Bool.and_eq_true, beq_iff_eq] at h
  exact ⟨e, he, h⟩
theorem zAny_take {i : Nat} {oi : Oper} {v : Value} {f : Nat} {l : Array Bool} {a : Act} {w : World} (hi : ops[i]? = some oi)
    (hs : Region.noSelect ops = true) (hf : Region.free md ops l i = true) (hr : (Region.ready md ops l).contains i = true) (hwt : waits md ops z i = true)
    (hQ : ∀ c a w, Q (.panic c) (a.put oi.dst v) w → Q (.panic c) a w) (hy : YieldsIf P ops S oi v a) (hS : S w)
    (h : zAny P md ops Q z S f (l.setIfInBounds i true) (a.put oi.dst v) w) : zAny P md ops Q z S (f + 1) l a w :=
  zAny_first hi (Region.noSelect_spec hs) hQ (waits_spec hwt) f l a w (Region.free_spec hi hf) (by simpa using hr) hy hS h
def zReady (P : Program) (md : Region.Mode) (ops : Array Oper) (Q : Exit → Act → World → Prop) (z : Nat) (S : World → Prop) (f : Nat) (l : Array Bool) (a : Act) (w : World) (rs : List Nat) : Prop :=
  ∀ i ∈ rs, wpOp P ops Q i (fun a' w' => (i ≠ z → S w') ∧ zAny P md ops Q z S f (l.setIfInBounds i true) a' w') a w
theorem zReady.nil {f : Nat} {l : Array Bool} {a : Act} {w : World} : zReady P md ops Q z S f l a w [] := fun _ h => by cases h
theorem zReady.cons {f : Nat} {l : Array Bool} {a : Act} {w : World} {i : Nat} {o : Oper} {rs : List Nat} (ho : ops[i]? = some o)
    (h : ∀ K' : Act → World → Prop, Shut (∀ a w, (i ≠ z → S w) → ((i ≠ z → S w) → zAny P md ops Q z S f (l.setIfInBounds i true) a w) → K' a w) → if Region.wanted o (yielded ops a.tmps) = true then Oper.wp P o a w K' Q else K' (a.put o.dst undef) w)
    (hs : zReady P md ops Q z S f l a w rs) : zReady P md ops Q z S f l a w (i :: rs) := fun j hj => by
  rcases List.mem_cons.1 hj with rfl | hj
  · exact wpOp_step ho (fun K' hK => h K' (fun a w hS hW => hK a w ⟨hS, hW hS⟩))
  · exact hs j hj
theorem zAny_ready {rs : List Nat} {f : Nat} {l : Array Bool} {a : Act} {w : World} (hr : Region.ready md ops l = rs) (hne : rs ≠ []) (h : zReady P md ops Q z S f l a w rs) : zAny P md ops Q z S (f + 1) l a w :=
  ⟨fun h0 => absurd (hr ▸ h0) hne, hr ▸ h⟩
theorem zAny_done {l : Array Bool} {a : Act} {w : World} (hr : Region.ready md ops l = []) (h : Q .normal a w) : ∀ f, zAny P md ops Q z S f l a w
  | 0 => ⟨hr, h⟩
  | _ + 1 => ⟨fun _ => h, by rw [hr]; simp⟩
theorem region_z {id : Nat} {a : Act} {w : World} (z : Nat) (hm : P.follows .mixedOrders = true) (hS : S w.drew)
    (h : S w.drew → zAny P .any ops Q z S ops.size (Array.replicate ops.size false) a w.drew) : (Code.region id ops true).wp P Q a w :=
  wp_region_any hm (any_of_z _ _ _ _ (h hS))
end
end Go.Proofs.Ytoddbaljnlhhaaa
namespace Go.Proofs.Ytoddbaljnlhhaaa
open Go.RowKit Go.Sort
open PL (pv PS bt)

set_option maxHeartbeats 4000000 in
set_option maxRecDepth 100000 in
theorem rzero_yes (N : Nat) (w : World) (hN : N ≤ 64) : Calls Try.prog 10 #[.int .i64 (N : Nat)] w fun e w' => ∃ v, e = .returned (.tuple #[.agg #[.int .i64 (N : Nat), v], .int .i64 0]) ∧ OT w' w.heap.size v (zUp N 2) ∧ Below w.heap.size w w' := by
  obtain ⟨i7, hi7, hz7, hs7, hb7⟩ := info_parts Try.info27
  have HI7 := hid hi7
  have RN0 : ∀ q w, q < N → Calls Try.prog 36 #[.int .i64 (N : Nat), .int .i64 (q : Nat), .int .u8 88, .int .i64 0] w fun e w' => e = .returned (pv (zRow N 0 q).n (zRow N 0 q).x (zRow N 0 q).z (zRow N 0 q).f) ∧ Below w.heap.size w w' := fun q w h => ron_any (N : Nat) (q : Nat) 88 (2 ^ q) 0 N 0 w (fun w => PL.rone_x N q w hN h)
  have RN1 : ∀ q w, q < N → Calls Try.prog 36 #[.int .i64 (N : Nat), .int .i64 (q : Nat), .int .u8 90, .int .i64 0] w fun e w' => e = .returned (pv (zRow N 1 q).n (zRow N 1 q).x (zRow N 1 q).z (zRow N 1 q).f) ∧ Below w.heap.size w w' := fun q w h => ron_any (N : Nat) (q : Nat) 90 0 (2 ^ q) N 0 w (fun w => PL.rone_z N q w hN h)
  have g1 : decide (((N : Nat) : Int) < 0) = false := decide_eq_false (by omega)
  have g2 : decide (64 < ((N : Nat) : Int)) = false := decide_eq_false (by omega)
  have g3 : ¬ ((N : Nat) : Int) < 0 := by omega
  have g4 : ¬ 64 < ((N : Nat) : Int) := by omega
  clear hi7
  have HB0 := hid (bal (bal (Below.refl w.heap.size w) (.cells #[.int .i64 0, .slice none 0 0] 24)) (.cells #[.int .i64 (N : Nat), .slice none 0 0] 24))
  have HK0 := hid ((bk_new w #[.int .i64 0, .slice none 0 0] 24).alloc (.cells #[.int .i64 (N : Nat), .slice none 0 0] 24))
  have HK1 : Hid (BK ((w.alloc (.cells #[.int .i64 0, .slice none 0 0] 24)).alloc (.cells #[.int .i64 (N : Nat), .slice none 0 0] 24)) (w.heap.size + 1) #[.int .i64 (N : Nat), .slice none 0 0] 24) := by
    have h := bk_new (w.alloc (.cells #[.int .i64 0, .slice none 0 0] 24)) #[.int .i64 (N : Nat), .slice none 0 0] 24
    rw [PL.alz] at h
    exact h
  go_enter Try.func10, Try.ntmps10
  go_wp2
  go_loopw [5] (fun v5 wx => ∃ (q : Nat) (v : Value), q ≤ N ∧ v5 = .int .i64 (q : Nat) ∧ Hid (BK wx w.heap.size #[.int .i64 0, .slice none 0 0] 24) ∧ Hid (BK wx (w.heap.size + 1) #[.int .i64 (N : Nat), v] 24) ∧ Hid (OT wx w.heap.size v (zUp N 0 ++ zPart N 0 q)) ∧ Hid (Below w.heap.size w wx)) (fun v5 _ => N - (intOf v5).toNat)
  case atStart => exact ⟨0, .slice none 0 0, Nat.zero_le _, rfl, HK0, HK1, OT.nil _ _, HB0⟩
  case round =>
    clear HK0 HK1 HB0
    obtain ⟨q, v, hq, rfl, K0, K1, HO, HB⟩ := hrel
    by_cases hlq : q < N
    case neg =>
      obtain rfl : N = q := by omega
      have HO2 : Hid (OT wr w.heap.size v (zUp N 1 ++ zPart N 1 0)) := by
        show OT _ _ _ (zUp N 1 ++ [])
        rw [List.append_nil]
        exact HO.out
      clear HO
      have l1 := K1.out.lt
      go_wp2
      go_loopw [6] (fun v6 wx => ∃ (q : Nat) (v : Value), q ≤ N ∧ v6 = .int .i64 (q : Nat) ∧ Hid (BK wx w.heap.size #[.int .i64 0, .slice none 0 0] 24) ∧ Hid (BK wx (w.heap.size + 1) #[.int .i64 (N : Nat), v] 24) ∧ Hid (OT wx w.heap.size v (zUp N 1 ++ zPart N 1 q)) ∧ Hid (Below w.heap.size w wx)) (fun v6 _ => N - (intOf v6).toNat)
      case atStart => exact ⟨0, v, Nat.zero_le _, rfl, K0, K1, HO2, HB⟩
      case round =>
        clear K0 K1 HO2 HB l1 hlq
        obtain ⟨q, v, hq, rfl, K0, K1, HO, HB⟩ := hrel
        by_cases hlq : q < N
        case neg =>
          obtain rfl : N = q := by omega
          obtain ⟨L, hL⟩ : ∃ L, Hid (L = zUp N 2) := ⟨_, rfl⟩
          have HO3 : Hid (OT wr w.heap.size v L) := by
            show OT _ _ _ _
            rw [hL.out]
            exact HO.out
          clear HO
          have d1 := K1.out.cell
          have l1 := K1.out.lt
          have f0 := K0.out.free
          have d0 := K0.out.cell
          have l0 := K0.out.lt
          obtain ⟨a1, c1, rfl⟩ := own_shape HO3.out.own
          have r0 := K0.out.set 0 (.int .i64 (N : Nat))
          have r1 := r0.set 1 (.slice a1 L.length c1)
          have HO4 := hid ((HO3.out.put K0.out (by decide) 0 (.int .i64 (N : Nat))).put r0 (by decide) 1 (.slice a1 L.length c1))
          have HB4 := hid (bset (bset HB.out w.heap.size 0 (.int .i64 (N : Nat)) (Nat.le_refl _)) w.heap.size 1 (.slice a1 L.length c1) (Nat.le_refl _))
          have q0 : ((wr.setCell ⟨w.heap.size, 0, none⟩ (.int .i64 (N : Nat))).setCell ⟨w.heap.size, 1, none⟩ (.slice a1 L.length c1)).cell? ⟨w.heap.size, 0, none⟩ = some (.int .i64 (N : Nat)) := r1.cell 0
          have q1 : ((wr.setCell ⟨w.heap.size, 0, none⟩ (.int .i64 (N : Nat))).setCell ⟨w.heap.size, 1, none⟩ (.slice a1 L.length c1)).cell? ⟨w.heap.size, 1, none⟩ = some (.slice a1 L.length c1) := r1.cell 1
          go_wp2
          exact bodyPost_ret (v := .tuple #[.agg #[.int .i64 (N : Nat), .slice a1 L.length c1], .int .i64 0]) (by simp [results, Try.results10, go_sem, q0, q1]) rfl ⟨_, rfl, by rw [← hL.out]; exact HO4.out, HB4.out⟩
        have RR := fun w => RN1 q w hlq
        have HW := hid (zRow_lt 1 hN hlq)
        have HP : Hid (zPart N 1 (q + 1) = zPart N 1 q ++ [zRow N 1 q]) := zPart_succ N 1 q
        obtain ⟨L, hL⟩ : ∃ L, Hid (L = zUp N 1 ++ zPart N 1 q) := ⟨_, rfl⟩
        rw [← hL.out] at HO
        have HLL : Hid (L.length ≤ 128) := by
          show _ ≤ 128
          rw [hL.out, List.length_append, zUp_len, zPart_len]
          omega
        clear RN0 RN1
        generalize zRow N 1 q = r at *
        obtain ⟨rn, rx, rz, rf⟩ := r
        simp only at *
        obtain ⟨a1, c1, rfl⟩ := own_shape HO.out.own
        have d1 := K1.out.cell
        have l1 := K1.out.lt
        have HD1 := hid (bk_on K1.out drew_ofr)
        go_upto_region 11 with (fail)
        refine wp_region_noPanic ?_
        refine region_z (S := fun w' => w'.cell? ⟨w.heap.size + 1, 1, none⟩ = some (.slice a1 L.length c1)) 8 (by kernel_rfl) (HD1.out.cell 1) (fun hHeld => ?_)
        refine zAny_take (i := 0) (oi := { dst := some 34, op := Op.fieldAddr 24 (Operand.tmp 4) 1, type := 0, pos := "ref.go:182", after := #[], guard := none }) (v := ?_) rfl (by kernel_rfl) (by kernel_rfl) (by kernel_rfl) (by kernel_rfl) (fun _ _ _ h => h) (Or.inl ⟨by rfl, ?_⟩) (by assumption) ?_
        rotate_left
        (intro w0 hSw; (try dsimp only at hSw); go_simp; try (with_reducible rfl))
        (try simp only [Act.put, List.setIfInBounds_toArray, List.set_cons_zero, List.set_cons_succ])
        refine zAny_take (i := 1) (oi := { dst := some 35, op := Op.load 22 (Operand.tmp 34), type := 22, pos := "ref.go:182", after := #[{ on := 0, ground := Ground.data }], guard := none }) (v := ?_) rfl (by kernel_rfl) (by kernel_rfl) (by kernel_rfl) (by kernel_rfl) (fun _ _ _ h => h) (Or.inl ⟨by rfl, ?_⟩) (by assumption) ?_
        rotate_left
        (intro w0 hSw; (try dsimp only at hSw); go_simp; try (with_reducible rfl))
        (try simp only [Act.put, List.setIfInBounds_toArray, List.set_cons_zero, List.set_cons_succ])
        refine zAny_take (i := 2) (oi := { dst := some 36, op := Op.move (Operand.tmp 0), type := 3, pos := "ref.go:182", after := #[], guard := none }) (v := ?_) rfl (by kernel_rfl) (by kernel_rfl) (by kernel_rfl) (by kernel_rfl) (fun _ _ _ h => h) (Or.inl ⟨by rfl, ?_⟩) (by assumption) ?_
        rotate_left
        (intro w0 hSw; (try dsimp only at hSw); go_simp; try (with_reducible rfl))
        (try simp only [Act.put, List.setIfInBounds_toArray, List.set_cons_zero, List.set_cons_succ])
        refine zAny_take (i := 3) (oi := { dst := some 37, op := Op.move (Operand.tmp 6), type := 3, pos := "ref.go:182", after := #[], guard := none }) (v := ?_) rfl (by kernel_rfl) (by kernel_rfl) (by kernel_rfl) (by kernel_rfl) (fun _ _ _ h => h) (Or.inl ⟨by rfl, ?_⟩) (by assumption) ?_
        rotate_left
        (intro w0 hSw; (try dsimp only at hSw); go_simp; try (with_reducible rfl))
        (try simp only [Act.put, List.setIfInBounds_toArray, List.set_cons_zero, List.set_cons_succ])
        refine zAny_ready (rs := [4]) (by kernel_rfl) (by simp) (zReady.cons (o := { dst := some 38, op := Op.call { callee := Callee.value (Operand.func 36), args := #[Operand.tmp 36, Operand.tmp 37, Operand.const (Value.int IntKind.u8 90), Operand.const (Value.int IntKind.i64 0)], argTypes := #[3, 3, 5, 3] }, type := 27, pos := "ref.go:182", after := #[{ on := 2, ground := Ground.data }, { on := 3, ground := Ground.data }], guard := none }) rfl (fun K hK => ?_) zReady.nil)
        go_simp
        refine (RR _).mono ?_
        rintro e w1 ⟨rfl, hB1⟩
        have HK1b := hid (bk_on HD1.out hB1)
        have HBc := hid (btr drew_ofr hB1)
        clear hB1
        refine hK.out _ _ (fun _ => HK1b.out.cell 1) (fun _ => ?_)
        clear hK K
        (try simp only [Act.put, List.setIfInBounds_toArray, List.set_cons_zero, List.set_cons_succ])
        refine zAny_ready (rs := [5]) (by kernel_rfl) (by simp) (zReady.cons (o := { dst := some 39, op := Op.buildSlice 22 1 #[(0, Operand.tmp 38)], type := 22, pos := "ref.go:182", after := #[{ on := 4, ground := Ground.data }], guard := none }) rfl (fun K hK => ?_) zReady.nil)
        go_simp
        refine hK.out _ _ (fun _ => (HK1b.out.alloc _).cell 1) (fun _ => ?_)
        clear hK K
        (try simp only [Act.put, List.setIfInBounds_toArray, List.set_cons_zero, List.set_cons_succ])
        refine zAny_ready (rs := [6]) (by kernel_rfl) (by simp) (zReady.cons (o := { dst := some 40, op := Op.call { callee := Callee.builtin Builtin.append, args := #[Operand.tmp 35, Operand.tmp 39], argTypes := #[22, 22] }, type := 22, pos := "ref.go:182", after := #[{ on := 1, ground := Ground.data }, { on := 5, ground := Ground.data }, { on := 4, ground := Ground.chain }], guard := none }) rfl (fun K hK => ?_) zReady.nil)
        have hB2 := bal HBc.out (PL.pc rn rx rz rf)
        have hO2 := HO.out.own
        have hO3 := own_below hO2 hB2
        have hK1 := HK1b.out.alloc (PL.pc rn rx rz rf)
        have hnew : ∀ j u, (Pr.cs ⟨rn, rx, rz, rf⟩)[j]? = some u → (w1.alloc (PL.pc rn rx rz rf)).cell? ((⟨w1.heap.size, 0, none⟩ : Addr).add j) = some u := fun j u hj => by
          have h := bk_new w1 #[.int .i64 rn, .int .u64 (rx : Int), .int .u64 (rz : Int), .int .i64 rf] 27
          rw [WideShapes.add_plain, Nat.zero_add]
          rw [h.cell j, ← hj]
          exact List.getElem?_toArray
        have hLL := HLL.out
        refine step_own rfl _ _ 22 rfl w.heap.size 27 i7 _ 4 32 Try.underlying22 HI7.out hz7 hs7 hb7 rfl (by decide) _ L.length (prz L) rfl hO3 ⟨_, 0, none⟩ 1 1 (Pr.cs ⟨rn, rx, rz, rf⟩) rfl rfl hnew (by intro u hu; simp [Pr.cs] at hu; rcases hu with rfl | rfl | rfl | rfl <;> rfl) (by unfold maxLen; omega) (by omega) (by have h1 := HB.out.size; have h2 := hB2.size; exact Nat.le_trans h1 h2) ?_
        intro v6 w6 hown6 hgrow6 _
        have hO6 := OT.app HO.out hown6 HW.out HO.out.w64 (by omega)
        obtain ⟨a6, c6, rfl⟩ := own_shape hown6
        have HB6 := hid (below_own (btr HB.out hB2) hO3 hgrow6)
        have HK0 := hid (bk_grown hO3 hgrow6 (bk_on K0.out hB2) (by decide))
        have HK6 := hid (bk_grown hO3 hgrow6 hK1 (by decide))
        have HO6 := hid hO6
        clear hgrow6 hown6 hO6 hO3 hO2 hK1 hB2 hnew hLL
        refine hK.out _ _ (fun _ => HK6.out.cell 1) (fun _ => ?_)
        clear hK K
        (try simp only [Act.put, List.setIfInBounds_toArray, List.set_cons_zero, List.set_cons_succ])
        have hH4 := HK6.out.cell 1
        refine zAny_take (i := 7) (oi := { dst := some 41, op := Op.fieldAddr 24 (Operand.tmp 4) 1, type := 0, pos := "ref.go:182", after := #[{ on := 0, ground := Ground.phase }, { on := 1, ground := Ground.phase }, { on := 2, ground := Ground.phase }, { on := 3, ground := Ground.phase }, { on := 4, ground := Ground.phase }, { on := 5, ground := Ground.phase }, { on := 6, ground := Ground.phase }], guard := none }) (v := ?_) rfl (by kernel_rfl) (by kernel_rfl) (by kernel_rfl) (by kernel_rfl) (fun _ _ _ h => h) (Or.inl ⟨by rfl, ?_⟩) (by assumption) ?_
        rotate_left
        (intro w0 hSw; (try dsimp only at hSw); go_simp; try (with_reducible rfl))
        (try simp only [Act.put, List.setIfInBounds_toArray, List.set_cons_zero, List.set_cons_succ])
        refine zAny_ready (rs := [8]) (by kernel_rfl) (by simp) (zReady.cons (o := { dst := none, op := Op.store 22 (Operand.tmp 41) (Operand.tmp 40), type := 0, pos := "ref.go:182", after := #[{ on := 7, ground := Ground.data }, { on := 6, ground := Ground.data }, { on := 6, ground := Ground.chain }, { on := 0, ground := Ground.phase }, { on := 1, ground := Ground.phase }, { on := 2, ground := Ground.phase }, { on := 3, ground := Ground.phase }, { on := 4, ground := Ground.phase }, { on := 5, ground := Ground.phase }, { on := 6, ground := Ground.phase }], guard := none }) rfl (fun K hK => ?_) zReady.nil)
        have y1 := HK6.out.cell
        have y2 := HK6.out.free
        have y3 := HK6.out.lt
        go_simp
        refine hK.out _ _ (fun h => absurd rfl h) (fun _ => ?_)
        clear hK K hHeld
        (try simp only [Act.put, List.setIfInBounds_toArray, List.set_cons_zero, List.set_cons_succ])
        refine zAny_done (by kernel_rfl) ?_ _
        refine NoPanic.normal ?_
        have HF : Hid (L ++ [⟨rn, rx, rz, rf⟩] = zUp N 1 ++ zPart N 1 (q + 1)) := by show _ = _; rw [hL.out, HP.out, List.append_assoc]
        have HO7 := hid (HO6.out.put HK6.out (by decide) 1 (.slice a6 (L.length + 1) c6))
        rw [HF.out] at HO7
        go_wp2
        exact ⟨⟨q + 1, .slice a6 (L.length + 1) c6, by omega, rfl, HK0.out.far (c := w.heap.size + 1) (by omega) _ _, HK6.out.set 1 _, HO7.out, bset HB6.out (w.heap.size + 1) 1 _ (by omega)⟩, by simp only [intOf]; omega⟩
    have RR := fun w => RN0 q w hlq
    have HW := hid (zRow_lt 0 hN hlq)
    have HP : Hid (zPart N 0 (q + 1) = zPart N 0 q ++ [zRow N 0 q]) := zPart_succ N 0 q
    obtain ⟨L, hL⟩ : ∃ L, Hid (L = zUp N 0 ++ zPart N 0 q) := ⟨_, rfl⟩
    rw [← hL.out] at HO
    have HLL : Hid (L.length ≤ 128) := by
      show _ ≤ 128
      rw [hL.out, List.length_append, zUp_len, zPart_len]
      omega
    clear RN0 RN1
    generalize zRow N 0 q = r at *
    obtain ⟨rn, rx, rz, rf⟩ := r
    simp only at *
    obtain ⟨a1, c1, rfl⟩ := own_shape HO.out.own
    have d1 := K1.out.cell
    have l1 := K1.out.lt
    have HD1 := hid (bk_on K1.out drew_ofr)
    go_upto_region 7 with (fail)
    refine wp_region_noPanic ?_
    refine region_z (S := fun w' => w'.cell? ⟨w.heap.size + 1, 1, none⟩ = some (.slice a1 L.length c1)) 8 (by kernel_rfl) (HD1.out.cell 1) (fun hHeld => ?_)
    refine zAny_take (i := 0) (oi := { dst := some 21, op := Op.fieldAddr 24 (Operand.tmp 4) 1, type := 0, pos := "ref.go:179", after := #[], guard := none }) (v := ?_) rfl (by kernel_rfl) (by kernel_rfl) (by kernel_rfl) (by kernel_rfl) (fun _ _ _ h => h) (Or.inl ⟨by rfl, ?_⟩) (by assumption) ?_
    rotate_left
    (intro w0 hSw; (try dsimp only at hSw); go_simp; try (with_reducible rfl))
    (try simp only [Act.put, List.setIfInBounds_toArray, List.set_cons_zero, List.set_cons_succ])
    refine zAny_take (i := 1) (oi := { dst := some 22, op := Op.load 22 (Operand.tmp 21), type := 22, pos := "ref.go:179", after := #[{ on := 0, ground := Ground.data }], guard := none }) (v := ?_) rfl (by kernel_rfl) (by kernel_rfl) (by kernel_rfl) (by kernel_rfl) (fun _ _ _ h => h) (Or.inl ⟨by rfl, ?_⟩) (by assumption) ?_
    rotate_left
    (intro w0 hSw; (try dsimp only at hSw); go_simp; try (with_reducible rfl))
    (try simp only [Act.put, List.setIfInBounds_toArray, List.set_cons_zero, List.set_cons_succ])
    refine zAny_take (i := 2) (oi := { dst := some 23, op := Op.move (Operand.tmp 0), type := 3, pos := "ref.go:179", after := #[], guard := none }) (v := ?_) rfl (by kernel_rfl) (by kernel_rfl) (by kernel_rfl) (by kernel_rfl) (fun _ _ _ h => h) (Or.inl ⟨by rfl, ?_⟩) (by assumption) ?_
    rotate_left
    (intro w0 hSw; (try dsimp only at hSw); go_simp; try (with_reducible rfl))
    (try simp only [Act.put, List.setIfInBounds_toArray, List.set_cons_zero, List.set_cons_succ])
    refine zAny_take (i := 3) (oi := { dst := some 24, op := Op.move (Operand.tmp 5), type := 3, pos := "ref.go:179", after := #[], guard := none }) (v := ?_) rfl (by kernel_rfl) (by kernel_rfl) (by kernel_rfl) (by kernel_rfl) (fun _ _ _ h => h) (Or.inl ⟨by rfl, ?_⟩) (by assumption) ?_
    rotate_left
    (intro w0 hSw; (try dsimp only at hSw); go_simp; try (with_reducible rfl))
    (try simp only [Act.put, List.setIfInBounds_toArray, List.set_cons_zero, List.set_cons_succ])
    refine zAny_ready (rs := [4]) (by kernel_rfl) (by simp) (zReady.cons (o := { dst := some 25, op := Op.call { callee := Callee.value (Operand.func 36), args := #[Operand.tmp 23, Operand.tmp 24, Operand.const (Value.int IntKind.u8 88), Operand.const (Value.int IntKind.i64 0)], argTypes := #[3, 3, 5, 3] }, type := 27, pos := "ref.go:179", after := #[{ on := 2, ground := Ground.data }, { on := 3, ground := Ground.data }], guard := none }) rfl (fun K hK => ?_) zReady.nil)
    go_simp
    refine (RR _).mono ?_
    rintro e w1 ⟨rfl, hB1⟩
    have HK1b := hid (bk_on HD1.out hB1)
    have HBc := hid (btr drew_ofr hB1)
    clear hB1
    refine hK.out _ _ (fun _ => HK1b.out.cell 1) (fun _ => ?_)
    clear hK K
    (try simp only [Act.put, List.setIfInBounds_toArray, List.set_cons_zero, List.set_cons_succ])
    refine zAny_ready (rs := [5]) (by kernel_rfl) (by simp) (zReady.cons (o := { dst := some 26, op := Op.buildSlice 22 1 #[(0, Operand.tmp 25)], type := 22, pos := "ref.go:179", after := #[{ on := 4, ground := Ground.data }], guard := none }) rfl (fun K hK => ?_) zReady.nil)
    go_simp
    refine hK.out _ _ (fun _ => (HK1b.out.alloc _).cell 1) (fun _ => ?_)
    clear hK K
    (try simp only [Act.put, List.setIfInBounds_toArray, List.set_cons_zero, List.set_cons_succ])
    refine zAny_ready (rs := [6]) (by kernel_rfl) (by simp) (zReady.cons (o := { dst := some 27, op := Op.call { callee := Callee.builtin Builtin.append, args := #[Operand.tmp 22, Operand.tmp 26], argTypes := #[22, 22] }, type := 22, pos := "ref.go:179", after := #[{ on := 1, ground := Ground.data }, { on := 5, ground := Ground.data }, { on := 4, ground := Ground.chain }], guard := none }) rfl (fun K hK => ?_) zReady.nil)
    have hB2 := bal HBc.out (PL.pc rn rx rz rf)
    have hO2 := HO.out.own
    have hO3 := own_below hO2 hB2
    have hK1 := HK1b.out.alloc (PL.pc rn rx rz rf)
    have hnew : ∀ j u, (Pr.cs ⟨rn, rx, rz, rf⟩)[j]? = some u → (w1.alloc (PL.pc rn rx rz rf)).cell? ((⟨w1.heap.size, 0, none⟩ : Addr).add j) = some u := fun j u hj => by
      have h := bk_new w1 #[.int .i64 rn, .int .u64 (rx : Int), .int .u64 (rz : Int), .int .i64 rf] 27
      rw [WideShapes.add_plain, Nat.zero_add]
      rw [h.cell j, ← hj]
      exact List.getElem?_toArray
    have hLL := HLL.out
    refine step_own rfl _ _ 22 rfl w.heap.size 27 i7 _ 4 32 Try.underlying22 HI7.out hz7 hs7 hb7 rfl (by decide) _ L.length (prz L) rfl hO3 ⟨_, 0, none⟩ 1 1 (Pr.cs ⟨rn, rx, rz, rf⟩) rfl rfl hnew (by intro u hu; simp [Pr.cs] at hu; rcases hu with rfl | rfl | rfl | rfl <;> rfl) (by unfold maxLen; omega) (by omega) (by have h1 := HB.out.size; have h2 := hB2.size; exact Nat.le_trans h1 h2) ?_
    intro v6 w6 hown6 hgrow6 _
    have hO6 := OT.app HO.out hown6 HW.out HO.out.w64 (by omega)
    obtain ⟨a6, c6, rfl⟩ := own_shape hown6
    have HB6 := hid (below_own (btr HB.out hB2) hO3 hgrow6)
    have HK0 := hid (bk_grown hO3 hgrow6 (bk_on K0.out hB2) (by decide))
    have HK6 := hid (bk_grown hO3 hgrow6 hK1 (by decide))
    have HO6 := hid hO6
    clear hgrow6 hown6 hO6 hO3 hO2 hK1 hB2 hnew hLL
    refine hK.out _ _ (fun _ => HK6.out.cell 1) (fun _ => ?_)
    clear hK K
    (try simp only [Act.put, List.setIfInBounds_toArray, List.set_cons_zero, List.set_cons_succ])
    have hH4 := HK6.out.cell 1
    refine zAny_take (i := 7) (oi := { dst := some 28, op := Op.fieldAddr 24 (Operand.tmp 4) 1, type := 0, pos := "ref.go:179", after := #[{ on := 0, ground := Ground.phase }, { on := 1, ground := Ground.phase }, { on := 2, ground := Ground.phase }, { on := 3, ground := Ground.phase }, { on := 4, ground := Ground.phase }, { on := 5, ground := Ground.phase }, { on := 6, ground := Ground.phase }], guard := none }) (v := ?_) rfl (by kernel_rfl) (by kernel_rfl) (by kernel_rfl) (by kernel_rfl) (fun _ _ _ h => h) (Or.inl ⟨by rfl, ?_⟩) (by assumption) ?_
    rotate_left
    (intro w0 hSw; (try dsimp only at hSw); go_simp; try (with_reducible rfl))
    (try simp only [Act.put, List.setIfInBounds_toArray, List.set_cons_zero, List.set_cons_succ])
    refine zAny_ready (rs := [8]) (by kernel_rfl) (by simp) (zReady.cons (o := { dst := none, op := Op.store 22 (Operand.tmp 28) (Operand.tmp 27), type := 0, pos := "ref.go:179", after := #[{ on := 7, ground := Ground.data }, { on := 6, ground := Ground.data }, { on := 6, ground := Ground.chain }, { on := 0, ground := Ground.phase }, { on := 1, ground := Ground.phase }, { on := 2, ground := Ground.phase }, { on := 3, ground := Ground.phase }, { on := 4, ground := Ground.phase }, { on := 5, ground := Ground.phase }, { on := 6, ground := Ground.phase }], guard := none }) rfl (fun K hK => ?_) zReady.nil)
    have y1 := HK6.out.cell
    have y2 := HK6.out.free
    have y3 := HK6.out.lt
    go_simp
    refine hK.out _ _ (fun h => absurd rfl h) (fun _ => ?_)
    clear hK K hHeld
    (try simp only [Act.put, List.setIfInBounds_toArray, List.set_cons_zero, List.set_cons_succ])
    refine zAny_done (by kernel_rfl) ?_ _
    refine NoPanic.normal ?_
    have HF : Hid (L ++ [⟨rn, rx, rz, rf⟩] = zUp N 0 ++ zPart N 0 (q + 1)) := by show _ = _; rw [hL.out, HP.out, List.append_assoc]
    have HO7 := hid (HO6.out.put HK6.out (by decide) 1 (.slice a6 (L.length + 1) c6))
    rw [HF.out] at HO7
    go_wp2
    exact ⟨⟨q + 1, .slice a6 (L.length + 1) c6, by omega, rfl, HK0.out.far (c := w.heap.size + 1) (by omega) _ _, HK6.out.set 1 _, HO7.out, bset HB6.out (w.heap.size + 1) 1 _ (by omega)⟩, by simp only [intOf]; omega⟩
set_option maxHeartbeats 1000000 in
theorem rzero_no (n : Int) (w : World) (h : ¬ (0 ≤ n ∧ n ≤ 64)) : Calls Try.prog 10 #[.int .i64 n] w fun e w' => e = .returned (.tuple #[.agg #[.int .i64 0, .slice none 0 0], .int .i64 2]) ∧ Below w.heap.size w w' := by
  have k0 := bk_new w #[.int .i64 0, .slice none 0 0] 24
  have r1 := (k0.set 0 (.int .i64 0)).set 1 (.slice none 0 0)
  by_cases g : n < 0
  · go_enter Try.func10, Try.ntmps10
    go_wp2
    exact bodyPost_ret (v := .tuple #[.agg #[.int .i64 0, .slice none 0 0], .int .i64 2]) (by simp [results, Try.results10, go_sem]) rfl ⟨rfl, bal (Below.refl _ _) _⟩
  · have g2 : 64 < n := by omega
    clear h
    go_enter Try.func10, Try.ntmps10
    go_wp2
    exact bodyPost_ret (v := .tuple #[.agg #[.int .i64 0, .slice none 0 0], .int .i64 2]) (by simp [results, Try.results10, go_sem]) rfl ⟨rfl, bal (Below.refl _ _) _⟩
/-- What Zero tells. -/
def zrT (n : Int) : Tb × Int := if 0 ≤ n ∧ n ≤ 64 then (⟨n, zUp n.toNat 2⟩, 0) else (⟨0, []⟩, 2)
theorem rzero_any (n : Int) (w : World) : Calls Try.prog 10 #[.int .i64 n] w fun e w' => ∃ v, e = .returned (.tuple #[.agg #[.int .i64 (zrT n).1.n, v], .int .i64 (zrT n).2]) ∧ OT w' w.heap.size v (zrT n).1.rows ∧ Below w.heap.size w w' := by
  unfold zrT
  by_cases h : 0 ≤ n ∧ n ≤ 64
  · rw [if_pos h]
    obtain ⟨N, rfl⟩ := Int.eq_ofNat_of_zero_le h.1
    exact rzero_yes N w (by omega)
  · rw [if_neg h]
    exact (rzero_no n w h).mono fun e w' ⟨h1, h2⟩ => ⟨_, h1, OT.nil _ _, h2⟩
theorem zero_any (n : Int) (w : World) : Calls Try.prog 14 #[.int .i64 n] w fun e w' => ∃ v, e = .returned (.tuple #[.agg #[.int .i64 (zrT n).1.n, v], .int .i64 (zrT n).2]) ∧ OT w' w.heap.size v (zrT n).1.rows ∧ Below w.heap.size w w' := by
  unfold zrT
  by_cases h : 0 ≤ n ∧ n ≤ 64
  · rw [if_pos h]
    obtain ⟨N, rfl⟩ := Int.eq_ofNat_of_zero_le h.1
    exact zero_yes N w (by omega)
  · rw [if_neg h]
    exact (zero_no n w h).mono fun e w' ⟨h1, h2⟩ => ⟨_, h1, OT.nil _ _, h2⟩
end Go.Proofs.Ytoddbaljnlhhaaa
