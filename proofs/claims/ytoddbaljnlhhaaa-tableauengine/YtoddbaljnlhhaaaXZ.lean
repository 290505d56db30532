/-
  Put together of: J1.
-/
import Derived.Test.YtoddbaljnlhhaaaXL
import Derived.Test.YtoddbaljnlhhaaaXY
namespace Go.Proofs.Ytoddbaljnlhhaaa
open Go.RowKit Go.Sort
open PL (pv PS bt)

/-- What inGroup tells of a right tableau: it is one just if all stabilizers commute with it; then the product's phase tells the value. -/
theorem inG_no {N : Nat} {rs : List Pr} {p : PS} (h : valT ⟨(N : Nat), rs⟩ p = 0) : vgo rs N p N 0 (eyeP N) = none := by
  by_cases g : ∀ j, j < N → comS (nthP rs (N + j)) p
  · exfalso
    have h2 := valT_all (t := ⟨(N : Nat), rs⟩) (N := N) rfl g
    rw [h2] at h
    split at h <;> cases h
  · obtain ⟨j, hj⟩ := Classical.not_forall.1 g
    obtain ⟨hj, hc⟩ := Classical.not_imp.1 hj
    exact vgo_none rs N p N 0 _ j (by omega) (by omega) hc
theorem inG_yes {N : Nat} {rs : List Pr} {p : PS} (hR : Rt ⟨(N : Nat), rs⟩) (hp : p.ok) (hpn : p.n = N) (h : valT ⟨(N : Nat), rs⟩ p ≠ 0) :
    ∃ f, f < 4 ∧ f % 2 = 0 ∧ inGV p (vgo rs N p N 0 (eyeP N)) = .tuple #[pv (N : Nat) p.x p.z (f : Nat), .bool true] ∧ valT ⟨(N : Nat), rs⟩ p = if f = p.f then 1 else -1 := by
  have g : ∀ j, j < N → comS (nthP rs (N + j)) p := fun j hj => by
    by_cases g : comS (nthP rs (N + j)) p
    · exact g
    · exact absurd (valT_no (t := ⟨(N : Nat), rs⟩) rfl hj g) h
  obtain ⟨h1, h2, h3, h4, h5⟩ := prd_all hR rfl hp hpn g
  have hv := valT_phase hR rfl hp hpn g
  have h1 : (prd rs N (selC rs p) N).ok := h1
  have h2 : (prd rs N (selC rs p) N).n = N := h2
  have h3 : (prd rs N (selC rs p) N).f % 2 = 0 := h3
  have h4 : (prd rs N (selC rs p) N).x = p.x := h4
  have h5 : (prd rs N (selC rs p) N).z = p.z := h5
  have e := vgo_prd rs N p N 0 (fun j _ hj => g j (by omega))
  rw [Nat.zero_add] at e
  have e0 : prd rs N (selC rs p) 0 = eyeP N := rfl
  rw [e0] at e
  refine ⟨(prd rs N (selC rs p) N).f, h1.f1, h3, ?_, hv⟩
  rw [e]
  show Value.tuple #[(prd rs N (selC rs p) N).v, .bool ((prd rs N (selC rs p) N).x == p.x && (prd rs N (selC rs p) N).z == p.z)] = _
  show Value.tuple #[pv (prd rs N (selC rs p) N).n (prd rs N (selC rs p) N).x (prd rs N (selC rs p) N).z (prd rs N (selC rs p) N).f, .bool ((prd rs N (selC rs p) N).x == p.x && (prd rs N (selC rs p) N).z == p.z)] = _
  rw [h2, h4, h5]
  simp
theorem rcheck_t (t : Tb) (a : Option Addr) (c : Nat) (w : World) (H : TS w a c t.rows) (h : Rt t) : Calls Try.prog 19 #[t.v a c] w fun e w' => e = .returned (.int .i64 0) ∧ Below w.heap.size w w' :=
  rcheck_all t a c w H 0 (fun _ => rfl) (fun h' => absurd h h')
theorem rcheck_f (t : Tb) (a : Option Addr) (c : Nat) (w : World) (H : TS w a c t.rows) (h : ¬ Rt t) : Calls Try.prog 19 #[t.v a c] w fun e w' => e = .returned (.int .i64 180) ∧ Below w.heap.size w w' :=
  rcheck_all t a c w H 180 (fun h' => absurd h' h) (fun _ => rfl)
set_option maxHeartbeats 1000000 in
set_option maxRecDepth 100000 in
theorem rvalue_any (t : Tb) (a : Option Addr) (c : Nat) (p : Pr) (w : World) (H : TS w a c t.rows) (hw : p.w64) :
    Calls Try.prog 12 #[t.v a c, p.v] w fun e w' => ∃ v er, e = .returned (.tuple #[.int .i64 v, .int .i64 er]) ∧ ValA t p v er ∧ Below w.heap.size w w' := by
  obtain ⟨hB0, hK0, hP0⟩ := tp_boxes w t.n (.slice a t.rows.length c) p.n p.f p.x p.z
  by_cases hR : Rt t
  case neg =>
    have CK := fun w' (h : Below w.heap.size w w') => rcheck_f t a c w' (H.below h) hR
    have HV : Hid (ValA t p 0 180) := .inl ⟨hR, rfl, rfl⟩
    clear hR hw H hK0 hP0
    obtain ⟨n, rs⟩ := t
    obtain ⟨pn, px, pz, pf⟩ := p
    simp only at *
    go_enter Try.func12, Try.ntmps12
    go_wp2_with (go_at_call 19; (refine (CK _ hB0).mono ?_); rintro e w1 ⟨rfl, hB1⟩)
    go_ret2
    exact ⟨0, 180, rfl, HV.out, btr hB0 hB1⟩
  have CK := fun w' (h : Below w.heap.size w w') => rcheck_t t a c w' (H.below h) hR
  by_cases hg : p.gd
  case neg =>
    have PK := fun w => PL.rcheck_no p.n p.x p.z p.f w hw.1 hw.2 hg
    have HV : Hid (ValA t p 0 70) := .inr (.inl ⟨hR, hg, rfl, rfl⟩)
    clear hR hw H hK0 hg
    obtain ⟨n, rs⟩ := t
    obtain ⟨pn, px, pz, pf⟩ := p
    simp only at *
    go_enter Try.func12, Try.ntmps12
    go_wp2_with (first
      | (go_at_call 19; (refine (CK _ hB0).mono ?_); rintro e w1 ⟨rfl, hB1⟩; (have hP1 := hP0.below hB1); obtain ⟨c0, c1, c2, c3, _, _, _, _⟩ := hP1; have l1 := (hP0.below hB1).lt)
      | (go_at_call 38; (refine (PK _).mono ?_); rintro e w2 ⟨rfl, hB2⟩))
    go_ret2
    exact ⟨0, 70, rfl, HV.out, btr (btr hB0 hB1) hB2⟩
  obtain ⟨q, hq, hqv, hqe⟩ := PL.Good.of hg
  have PK := fun w => PL.rcheck_yes q hq w
  have hqf := hq.f1
  have htm : (q.f : Int).tmod 2 = (q.f : Int) % 2 := Int.tmod_eq_emod_of_nonneg (by omega)
  by_cases hn : p.n = t.n
  case neg =>
    have HV : Hid (ValA t p 0 2) := .inr (.inr (.inl ⟨hR, hg, .inl hn, rfl, rfl⟩))
    have hn' : ((q.n : Int) != t.n) = true := bne_iff_ne.2 (by rw [hqe] at hn; exact hn)
    rw [hqe] at hP0 hB0 hK0 HV ⊢
    clear hR hw H hg hqv hqe hn hq
    obtain ⟨n, rs⟩ := t
    obtain ⟨qn, qx, qz, qf⟩ := q
    simp only at *
    go_enter Try.func12, Try.ntmps12
    go_wp2_with (first
      | (go_at_call 19; (refine (CK _ hB0).mono ?_); rintro e w1 ⟨rfl, hB1⟩; (have hP1 := hP0.below hB1); obtain ⟨c0, c1, c2, c3, _, _, _, _⟩ := hP1; have l1 := (hP0.below hB1).lt)
      | (go_at_call 38; (refine (PK _).mono ?_); rintro e w2 ⟨rfl, hB2⟩; (have hP2 := (hP0.below hB1).below hB2); obtain ⟨e0, e1, e2, e3, _, _, _, _⟩ := hP2; (have l2 := ((hP0.below hB1).below hB2).lt); (have k2 := bk_on (bk_on hK0 hB1) hB2); (have d2 := k2.cell); have l3 := k2.lt))
    go_ret2
    exact ⟨0, 2, rfl, HV.out, btr (btr hB0 hB1) hB2⟩
  have hn' : ((q.n : Int) != t.n) = false := bne_eq_false_iff_eq.2 (by rw [hqe] at hn; exact hn)
  by_cases ho : (q.f : Int) % 2 = 0
  case neg =>
    have HV : Hid (ValA t p 0 2) := .inr (.inr (.inl ⟨hR, hg, .inr (by rw [hqe]; show (q.f : Int) % 2 = 1; omega), rfl, rfl⟩))
    have hob : ((q.f : Int) % 2 != 0) = true := bne_iff_ne.2 ho
    rw [hqe] at hP0 hB0 hK0 HV ⊢
    clear hR hw H hg hqv hqe hn ho hq
    obtain ⟨n, rs⟩ := t
    obtain ⟨qn, qx, qz, qf⟩ := q
    simp only at *
    go_enter Try.func12, Try.ntmps12
    go_wp2_with (first
      | (go_at_call 19; (refine (CK _ hB0).mono ?_); rintro e w1 ⟨rfl, hB1⟩; (have hP1 := hP0.below hB1); obtain ⟨c0, c1, c2, c3, _, _, _, _⟩ := hP1; have l1 := (hP0.below hB1).lt)
      | (go_at_call 38; (refine (PK _).mono ?_); rintro e w2 ⟨rfl, hB2⟩; (have hP2 := (hP0.below hB1).below hB2); obtain ⟨e0, e1, e2, e3, _, _, _, _⟩ := hP2; (have l2 := ((hP0.below hB1).below hB2).lt); (have k2 := bk_on (bk_on hK0 hB1) hB2); (have d2 := k2.cell); have l3 := k2.lt))
    go_ret2
    exact ⟨0, 2, rfl, HV.out, btr (btr hB0 hB1) hB2⟩
  have hob : ((q.f : Int) % 2 != 0) = false := bne_eq_false_iff_eq.2 ho
  have hps : p.ps = q := by rw [hqe]; rfl
  have HV : Hid (ValA t p (valT t q) 0) := .inr (.inr (.inr ⟨hR, hg, hn, by rw [hqe]; exact ho, by rw [hps], rfl⟩))
  obtain ⟨N, hN⟩ := Int.eq_ofNat_of_zero_le hR.n0
  obtain ⟨n, rs⟩ := t
  have hN : n = (N : Int) := hN
  subst hN
  have hqN : q.n = N := by rw [hqe] at hn; have hn : (q.n : Int) = (N : Int) := hn; omega
  have IG := hid (fun w' (h : Below w.heap.size w w') => inGroup_any N rs a c q w' (H.below h) hR hq hqN)
  rw [hqe] at hP0 hB0 hK0 HV ⊢
  by_cases hv : valT ⟨(N : Nat), rs⟩ q = 0
  · rw [inG_no hv] at IG
    rw [hv] at HV
    clear hR hw H hg hqv hqe hn ho hq hv hps hqN hN
    obtain ⟨qn, qx, qz, qf⟩ := q
    simp only at *
    go_enter Try.func12, Try.ntmps12
    go_wp2_with (first
      | (go_at_call 19; (refine (CK _ hB0).mono ?_); rintro e w1 ⟨rfl, hB1⟩; (have hP1 := hP0.below hB1); obtain ⟨c0, c1, c2, c3, _, _, _, _⟩ := hP1; have l1 := (hP0.below hB1).lt)
      | (go_at_call 38; (refine (PK _).mono ?_); rintro e w2 ⟨rfl, hB2⟩; (have hP2 := (hP0.below hB1).below hB2); obtain ⟨e0, e1, e2, e3, _, _, _, _⟩ := hP2; (have l2 := ((hP0.below hB1).below hB2).lt); (have k2 := bk_on (bk_on hK0 hB1) hB2); (have d2 := k2.cell); have l3 := k2.lt)
      | (go_at_call 39; refine Hid.out ?_))
    refine hid ?_
    refine (IG.out _ (btr (btr hB0 hB1) hB2)).mono ?_
    rintro e w3 ⟨rfl, hB3⟩
    unfold inGV
    go_wp2
    go_ret2
    exact ⟨0, 0, rfl, HV.out, bal (btr (btr (btr hB0 hB1) hB2) hB3) _⟩
  · obtain ⟨f, hf4, hf2, hig, hvv⟩ := inG_yes hR hq hqN hv
    rw [hig] at IG
    rw [hvv] at HV
    clear hR hw H hg hqv hqe hn ho hv hps hvv hig hq hqN hN
    obtain ⟨qn, qx, qz, qf⟩ := q
    simp only at *
    by_cases hfe : f = qf
    · rw [if_pos hfe] at HV
      subst hfe
      go_enter Try.func12, Try.ntmps12
      go_wp2_with (first
        | (go_at_call 19; (refine (CK _ hB0).mono ?_); rintro e w1 ⟨rfl, hB1⟩; (have hP1 := hP0.below hB1); obtain ⟨c0, c1, c2, c3, _, _, _, _⟩ := hP1; have l1 := (hP0.below hB1).lt)
        | (go_at_call 38; (refine (PK _).mono ?_); rintro e w2 ⟨rfl, hB2⟩; (have hP2 := (hP0.below hB1).below hB2); obtain ⟨e0, e1, e2, e3, _, _, _, _⟩ := hP2; (have l2 := ((hP0.below hB1).below hB2).lt); (have k2 := bk_on (bk_on hK0 hB1) hB2); (have d2 := k2.cell); have l3 := k2.lt)
        | (go_at_call 39; refine Hid.out ?_))
      refine hid ?_
      refine (IG.out _ (btr (btr hB0 hB1) hB2)).mono ?_
      rintro e w3 ⟨rfl, hB3⟩
      have p3 := (((hP0.below hB1).below hB2).below hB3)
      have l4 := p3.lt
      obtain ⟨s0, s1, s2, s3, _, _, _, _⟩ := p3
      have n4 := PL.PB.new w3 (N : Nat) qx qz (f : Nat)
      obtain ⟨u0, u1, u2, u3, _, _, _, _⟩ := n4
      go_wp2
      go_ret2
      exact ⟨1, 0, rfl, HV.out, bal (btr (btr (btr hB0 hB1) hB2) hB3) _⟩
    · rw [if_neg hfe] at HV
      have hfi : ((f : Int) == (qf : Int)) = false := beq_eq_false_iff_ne.2 (by omega)
      have hfj : ¬ (f : Int) = (qf : Int) := by omega
      go_enter Try.func12, Try.ntmps12
      go_wp2_with (first
        | (go_at_call 19; (refine (CK _ hB0).mono ?_); rintro e w1 ⟨rfl, hB1⟩; (have hP1 := hP0.below hB1); obtain ⟨c0, c1, c2, c3, _, _, _, _⟩ := hP1; have l1 := (hP0.below hB1).lt)
        | (go_at_call 38; (refine (PK _).mono ?_); rintro e w2 ⟨rfl, hB2⟩; (have hP2 := (hP0.below hB1).below hB2); obtain ⟨e0, e1, e2, e3, _, _, _, _⟩ := hP2; (have l2 := ((hP0.below hB1).below hB2).lt); (have k2 := bk_on (bk_on hK0 hB1) hB2); (have d2 := k2.cell); have l3 := k2.lt)
        | (go_at_call 39; refine Hid.out ?_))
      refine hid ?_
      refine (IG.out _ (btr (btr hB0 hB1) hB2)).mono ?_
      rintro e w3 ⟨rfl, hB3⟩
      have p3 := (((hP0.below hB1).below hB2).below hB3)
      have l4 := p3.lt
      obtain ⟨s0, s1, s2, s3, _, _, _, _⟩ := p3
      have n4 := PL.PB.new w3 (N : Nat) qx qz (f : Nat)
      obtain ⟨u0, u1, u2, u3, _, _, _, _⟩ := n4
      go_wp2
      go_ret2
      exact ⟨-1, 0, rfl, HV.out, bal (btr (btr (btr hB0 hB1) hB2) hB3) _⟩
end Go.Proofs.Ytoddbaljnlhhaaa
