/-
  Put together of: A4.
-/
import Derived.Test.YtoddbaljnlhhaabXH
namespace Go.Proofs.Ytoddbaljnlhhaab
open Go.RowKit Go.Sort
open PL (pv PS)

/-- What Value tells. -/
def ValA (t : Tb) (p : Pr) (v e : Int) : Prop :=
  (¬ Rt t ∧ v = 0 ∧ e = 180) ∨ (Rt t ∧ ¬ p.gd ∧ v = 0 ∧ e = 70) ∨ (Rt t ∧ p.gd ∧ (¬ p.n = t.n ∨ p.f % 2 = 1) ∧ v = 0 ∧ e = 2) ∨ (Rt t ∧ p.gd ∧ p.n = t.n ∧ p.f % 2 = 0 ∧ v = valT t p.ps ∧ e = 0)
theorem check_t (t : Tb) (a : Option Addr) (c : Nat) (w : World) (H : TS w a c t.rows) (h : Rt t) : Calls Try.prog 13 #[t.v a c] w fun e w' => e = .returned (.int .i64 0) ∧ Below w.heap.size w w' :=
  check_all t a c w H 0 (fun _ => rfl) (fun h' => absurd h h')
theorem check_f (t : Tb) (a : Option Addr) (c : Nat) (w : World) (H : TS w a c t.rows) (h : ¬ Rt t) : Calls Try.prog 13 #[t.v a c] w fun e w' => e = .returned (.int .i64 180) ∧ Below w.heap.size w w' :=
  check_all t a c w H 180 (fun h' => absurd h' h) (fun _ => rfl)
/-- The boxes of a tableau and a string. -/
theorem tp_boxes (w : World) (n : Int) (v : Value) (x y : Int) (z u : Nat) : Below w.heap.size w ((w.alloc (.cells #[.int .i64 n, v] 24)).alloc (PL.pc x z u y)) ∧ BK ((w.alloc (.cells #[.int .i64 n, v] 24)).alloc (PL.pc x z u y)) w.heap.size #[.int .i64 n, v] 24 ∧ PL.PB ((w.alloc (.cells #[.int .i64 n, v] 24)).alloc (PL.pc x z u y)) (w.heap.size + 1) x z u y := by
  refine ⟨bal (bal (Below.refl _ _) _) _, (bk_new w _ _).alloc _, ?_⟩
  have h := PL.PB.new (w.alloc (.cells #[.int .i64 n, v] 24)) x z u y
  rwa [PL.alz] at h
set_option maxHeartbeats 1000000 in
set_option maxRecDepth 100000 in
theorem valuePub_any (t : Tb) (a : Option Addr) (c : Nat) (p : Pr) (w : World) (H : TS w a c t.rows) (hw : p.w64) :
    Calls Try.prog 11 #[t.v a c, p.v] w fun e w' => ∃ v er, e = .returned (.tuple #[.int .i64 v, .int .i64 er]) ∧ ValA t p v er ∧ Below w.heap.size w w' := by
  obtain ⟨hB0, hK0, hP0⟩ := tp_boxes w t.n (.slice a t.rows.length c) p.n p.f p.x p.z
  by_cases hR : Rt t
  case neg =>
    have CK := fun w' (h : Below w.heap.size w w') => check_f t a c w' (H.below h) hR
    have HV : Hid (ValA t p 0 180) := .inl ⟨hR, rfl, rfl⟩
    clear hR hw H hK0 hP0
    obtain ⟨n, rs⟩ := t
    obtain ⟨pn, px, pz, pf⟩ := p
    simp only at *
    go_enter Try.func11, Try.ntmps11
    go_wp2_with (go_at_call 13; (with_reducible refine (CK _ hB0).mono ?_); rintro e w1 ⟨rfl, hB1⟩)
    go_ret2
    exact ⟨0, 180, rfl, HV.out, btr hB0 hB1⟩
  have CK := fun w' (h : Below w.heap.size w w') => check_t t a c w' (H.below h) hR
  by_cases hg : p.gd
  case neg =>
    have PK := fun w => PL.check_no p.n p.x p.z p.f w hw.1 hw.2 hg
    have HV : Hid (ValA t p 0 70) := .inr (.inl ⟨hR, hg, rfl, rfl⟩)
    clear hR hw H hK0 hg
    obtain ⟨n, rs⟩ := t
    obtain ⟨pn, px, pz, pf⟩ := p
    simp only at *
    go_enter Try.func11, Try.ntmps11
    go_wp2_with (first
      | (go_at_call 13; (with_reducible refine (CK _ hB0).mono ?_); rintro e w1 ⟨rfl, hB1⟩; (have hP1 := hP0.below hB1); obtain ⟨c0, c1, c2, c3, _, _, _, _⟩ := hP1; have l1 := (hP0.below hB1).lt)
      | (go_at_call 25; (with_reducible refine (PK _).mono ?_); rintro e w2 ⟨rfl, hB2⟩))
    go_ret2
    exact ⟨0, 70, rfl, HV.out, btr (btr hB0 hB1) hB2⟩
  obtain ⟨q, hq, hqv, hqe⟩ := PL.Good.of hg
  have PK := fun w => PL.PS.ok.check hq w
  have OD := fun w => odd_any q w hq
  by_cases hn : p.n = t.n
  case neg =>
    have HV : Hid (ValA t p 0 2) := .inr (.inr (.inl ⟨hR, hg, .inl hn, rfl, rfl⟩))
    have hn' : ((q.n : Int) != t.n) = true := bne_iff_ne.2 (by rw [hqe] at hn; exact hn)
    rw [hqe] at hP0 hB0 hK0 HV ⊢
    clear hR hw H hg hqv hqe hn OD hq
    obtain ⟨n, rs⟩ := t
    obtain ⟨qn, qx, qz, qf⟩ := q
    simp only at *
    go_enter Try.func11, Try.ntmps11
    go_wp2_with (first
      | (go_at_call 13; (with_reducible refine (CK _ hB0).mono ?_); rintro e w1 ⟨rfl, hB1⟩; (have hP1 := hP0.below hB1); obtain ⟨c0, c1, c2, c3, _, _, _, _⟩ := hP1; have l1 := (hP0.below hB1).lt)
      | (go_at_call 25; (with_reducible refine (PK _).mono ?_); rintro e w2 ⟨rfl, hB2⟩; (have hP2 := (hP0.below hB1).below hB2); obtain ⟨e0, e1, e2, e3, _, _, _, _⟩ := hP2; (have l2 := ((hP0.below hB1).below hB2).lt); (have k2 := bk_on (bk_on hK0 hB1) hB2); (have d2 := k2.cell); have l3 := k2.lt))
    go_ret2
    exact ⟨0, 2, rfl, HV.out, btr (btr hB0 hB1) hB2⟩
  have hn' : ((q.n : Int) != t.n) = false := bne_eq_false_iff_eq.2 (by rw [hqe] at hn; exact hn)
  by_cases ho : (q.f : Int) % 2 = 1
  case pos =>
    have HV : Hid (ValA t p 0 2) := .inr (.inr (.inl ⟨hR, hg, .inr (by rw [hqe]; exact ho), rfl, rfl⟩))
    rw [decide_eq_true ho] at OD
    rw [hqe] at hP0 hB0 hK0 HV ⊢
    clear hR hw H hg hqv hqe hn ho hq
    obtain ⟨n, rs⟩ := t
    obtain ⟨qn, qx, qz, qf⟩ := q
    simp only at *
    go_enter Try.func11, Try.ntmps11
    go_wp2_with (first
      | (go_at_call 13; (with_reducible refine (CK _ hB0).mono ?_); rintro e w1 ⟨rfl, hB1⟩; (have hP1 := hP0.below hB1); obtain ⟨c0, c1, c2, c3, _, _, _, _⟩ := hP1; have l1 := (hP0.below hB1).lt)
      | (go_at_call 25; (with_reducible refine (PK _).mono ?_); rintro e w2 ⟨rfl, hB2⟩; (have hP2 := (hP0.below hB1).below hB2); obtain ⟨e0, e1, e2, e3, _, _, _, _⟩ := hP2; (have l2 := ((hP0.below hB1).below hB2).lt); (have k2 := bk_on (bk_on hK0 hB1) hB2); (have d2 := k2.cell); have l3 := k2.lt)
      | (go_at_call 26; (with_reducible refine (OD _).mono ?_); rintro e w3 ⟨rfl, hB3⟩))
    go_ret2
    exact ⟨0, 2, rfl, HV.out, btr (btr (btr hB0 hB1) hB2) hB3⟩
  have ho2 : (q.f : Int) % 2 = 0 := by omega
  have hps : p.ps = q := by rw [hqe]; rfl
  have HV : Hid (ValA t p (valT t q) 0) := .inr (.inr (.inr ⟨hR, hg, hn, by rw [hqe]; exact ho2, by rw [hps], rfl⟩))
  have VA := hid (fun w' (h : Below w.heap.size w w') => value_any t a c q w' (H.below h) hR hq (by rw [hqe] at hn; exact hn))
  generalize valT t q = vv at *
  rw [decide_eq_false ho] at OD
  rw [hqe] at hP0 hB0 hK0 HV ⊢
  clear hR hw H hg hqv hqe hn ho ho2 hps hq
  obtain ⟨n, rs⟩ := t
  obtain ⟨qn, qx, qz, qf⟩ := q
  simp only at *
  go_enter Try.func11, Try.ntmps11
  go_wp2_with (first
    | (go_at_call 13; (with_reducible refine (CK _ hB0).mono ?_); rintro e w1 ⟨rfl, hB1⟩; (have hP1 := hP0.below hB1); obtain ⟨c0, c1, c2, c3, _, _, _, _⟩ := hP1; have l1 := (hP0.below hB1).lt)
    | (go_at_call 25; (with_reducible refine (PK _).mono ?_); rintro e w2 ⟨rfl, hB2⟩; (have hP2 := (hP0.below hB1).below hB2); obtain ⟨e0, e1, e2, e3, _, _, _, _⟩ := hP2; (have l2 := ((hP0.below hB1).below hB2).lt); (have k2 := bk_on (bk_on hK0 hB1) hB2); (have d2 := k2.cell); have l3 := k2.lt)
    | (go_at_call 26; (with_reducible refine (OD _).mono ?_); rintro e w3 ⟨rfl, hB3⟩; (have hP3 := ((hP0.below hB1).below hB2).below hB3); obtain ⟨s0, s1, s2, s3, _, _, _, _⟩ := hP3; (have l4 := (((hP0.below hB1).below hB2).below hB3).lt); (have k3 := bk_on (bk_on (bk_on hK0 hB1) hB2) hB3); (have d3 := k3.cell); have l5 := k3.lt)
    | (go_at_call 27; (with_reducible refine (VA.out _ (btr (btr (btr hB0 hB1) hB2) hB3)).mono ?_); rintro e w4 ⟨rfl, hB4⟩))
  go_ret2
  exact ⟨vv, 0, rfl, HV.out, btr (btr (btr (btr hB0 hB1) hB2) hB3) hB4⟩
end Go.Proofs.Ytoddbaljnlhhaab
