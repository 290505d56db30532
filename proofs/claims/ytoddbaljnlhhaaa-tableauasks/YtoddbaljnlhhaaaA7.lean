/-
  tableau: Same.
-/
import Derived.Test.YtoddbaljnlhhaaaA6
namespace Go.Proofs.Ytoddbaljnlhhaaa
open Go.RowKit Go.Sort
open PL (pv PS bt)

/-- All stabilizers of u have the value 1 in t. -/
def allOne (t u : Tb) : Prop := ∀ j (h : j < (u.rows.drop u.n.toNat).length), valT t ((u.rows.drop u.n.toNat)[j]).ps = 1
/-- What Same tells. -/
def SamA (t u : Tb) (r : Bool) (e : Int) : Prop :=
  (¬ (Rt t ∧ Rt u) ∧ r = false ∧ e = 180) ∨ (Rt t ∧ Rt u ∧ ¬ (t.n = u.n ∧ allOne t u) ∧ r = false ∧ e = 0) ∨ (Rt t ∧ Rt u ∧ t.n = u.n ∧ allOne t u ∧ r = true ∧ e = 0)
theorem tt_boxes (w : World) (n m : Int) (v u : Value) : Below w.heap.size w ((w.alloc (.cells #[.int .i64 n, v] 24)).alloc (.cells #[.int .i64 m, u] 24)) ∧ BK ((w.alloc (.cells #[.int .i64 n, v] 24)).alloc (.cells #[.int .i64 m, u] 24)) w.heap.size #[.int .i64 n, v] 24 ∧ BK ((w.alloc (.cells #[.int .i64 n, v] 24)).alloc (.cells #[.int .i64 m, u] 24)) (w.heap.size + 1) #[.int .i64 m, u] 24 := by
  refine ⟨bal (bal (Below.refl _ _) _) _, (bk_new w _ _).alloc _, ?_⟩
  have h := bk_new (w.alloc (.cells #[.int .i64 n, v] 24)) #[.int .i64 m, u] 24
  rwa [PL.alz] at h
set_option maxHeartbeats 1000000 in
set_option maxRecDepth 100000 in
theorem same_any (t u : Tb) (a a' : Option Addr) (c c' : Nat) (w : World) (H : TS w a c t.rows) (H' : TS w a' c' u.rows) :
    Calls Try.prog 17 #[t.v a c, u.v a' c'] w fun e w' => ∃ r er, e = .returned (.tuple #[.bool r, .int .i64 er]) ∧ SamA t u r er ∧ Below w.heap.size w w' := by
  obtain ⟨hB0, hK0, hL0⟩ := tt_boxes w t.n u.n (.slice a t.rows.length c) (.slice a' u.rows.length c')
  by_cases hR : Rt t
  case neg =>
    have CK := fun w' (h : Below w.heap.size w w') => check_f t a c w' (H.below h) hR
    have HV : Hid (SamA t u false 180) := .inl ⟨fun h => hR h.1, rfl, rfl⟩
    clear hR H H' hK0 hL0
    obtain ⟨n, rs⟩ := t
    obtain ⟨m, us⟩ := u
    simp only at *
    go_enter Try.func17, Try.ntmps17
    go_wp2_with (go_at_call 18; (with_reducible refine (CK _ hB0).mono ?_); rintro e w1 ⟨rfl, hB1⟩)
    go_ret2
    exact ⟨false, 180, rfl, HV.out, btr hB0 hB1⟩
  have CK := fun w' (h : Below w.heap.size w w') => check_t t a c w' (H.below h) hR
  by_cases hS : Rt u
  case neg =>
    have CU := fun w' (h : Below w.heap.size w w') => check_f u a' c' w' (H'.below h) hS
    have HV : Hid (SamA t u false 180) := .inl ⟨fun h => hS h.2, rfl, rfl⟩
    clear hR hS H H' hK0
    obtain ⟨n, rs⟩ := t
    obtain ⟨m, us⟩ := u
    simp only at *
    go_enter Try.func17, Try.ntmps17
    go_upto_region 4 with (go_at_call 18; (with_reducible refine (CK _ hB0).mono ?_); rintro e w1 ⟨rfl, hB1⟩; (have k1 := bk_on hL0 hB1); (have d1 := k1.cell); have l1 := k1.lt)
    go_wp2_with (go_at_call 18; (with_reducible refine (CU _ (btr hB0 hB1)).mono ?_); rintro e w2 ⟨rfl, hB2⟩)
    go_ret2
    exact ⟨false, 180, rfl, HV.out, btr (btr hB0 hB1) hB2⟩
  have CU := fun w' (h : Below w.heap.size w w') => check_t u a' c' w' (H'.below h) hS
  by_cases hn : t.n = u.n
  case neg =>
    have HV : Hid (SamA t u false 0) := .inr (.inl ⟨hR, hS, fun h => hn h.1, rfl, rfl⟩)
    have hn' : (t.n != u.n) = true := bne_iff_ne.2 hn
    clear hR hS H H' hn
    obtain ⟨n, rs⟩ := t
    obtain ⟨m, us⟩ := u
    simp only at *
    go_enter Try.func17, Try.ntmps17
    go_upto_region 4 with (go_at_call 18; (with_reducible refine (CK _ hB0).mono ?_); rintro e w1 ⟨rfl, hB1⟩; (have k1 := bk_on hL0 hB1); (have d1 := k1.cell); have l1 := k1.lt)
    go_wp2_with (go_at_call 18; (with_reducible refine (CU _ (btr hB0 hB1)).mono ?_); rintro e w2 ⟨rfl, hB2⟩; (have k2 := bk_on (bk_on hL0 hB1) hB2); (have d2 := k2.cell); (have l2 := k2.lt); (have k3 := bk_on (bk_on hK0 hB1) hB2); (have d3 := k3.cell); have l3 := k3.lt)
    go_ret2
    exact ⟨false, 0, rfl, HV.out, btr (btr hB0 hB1) hB2⟩
  have hn' : (t.n != u.n) = false := bne_eq_false_iff_eq.2 hn
  obtain ⟨N, hN⟩ := Int.eq_ofNat_of_zero_le hS.n0
  have hN1 := hS.n1
  have hlen := hS.len
  have HY : Hid (allOne t u → SamA t u true 0) := fun h => .inr (.inr ⟨hR, hS, hn, h, rfl, rfl⟩)
  have HX : Hid (¬ allOne t u → SamA t u false 0) := fun h => .inr (.inl ⟨hR, hS, fun h' => h h'.2, rfl, rfl⟩)
  have ST := fun w1 => stab_any N u.rows a' c' w w1 H' (by omega) (by omega)
  have hdl : (u.rows.drop N).length = N := by rw [List.length_drop]; omega
  have VA := hid (fun (p : PS) w' (h : Below w.heap.size w w') (hp : p.ok) (hpn : (p.n : Int) = t.n) => value_any t a c p w' (H.below h) hR hp hpn)
  have HRO : Hid (∀ j (h : j < (u.rows.drop N).length), rowOk t.n (u.rows.drop N)[j]) := fun j h => by
    rw [List.getElem_drop, hn]
    exact hS.row _ _
  have HAL : Hid (allOne t u ↔ ∀ j (h : j < (u.rows.drop N).length), valT t ((u.rows.drop N)[j]).ps = 1) := by
    show _ ↔ _
    unfold allOne
    rw [hN, Int.toNat_natCast]
  have HDL := hid hdl
  have hdl2 : (u.rows.drop N).length ≤ 64 := by omega
  clear hR hS H H' hdl hlen
  clear hn
  have HVT : Hid (∀ p, valT t p = valT t p) := fun _ => rfl
  generalize u.rows.drop N = SD at *
  obtain ⟨V, hVd⟩ : ∃ V : PS → Int, V = valT t := ⟨_, rfl⟩
  rw [← hVd] at VA HAL
  clear hVd HVT
  obtain ⟨n, rs⟩ := t
  obtain ⟨m, us⟩ := u
  simp only at *
  subst hN
  go_enter Try.func17, Try.ntmps17
  go_upto_region 4 with (go_at_call 18; (with_reducible refine (CK _ hB0).mono ?_); rintro e w1 ⟨rfl, hB1⟩; (have k1 := bk_on hL0 hB1); (have d1 := k1.cell); have l1 := k1.lt)
  go_upto_region 9 with (go_at_call 18; (with_reducible refine (CU _ (btr hB0 hB1)).mono ?_); rintro e w2 ⟨rfl, hB2⟩; (have k2 := bk_on (bk_on hL0 hB1) hB2); (have d2 := k2.cell); (have l2 := k2.lt); (have k3 := bk_on (bk_on hK0 hB1) hB2); (have d3 := k3.cell); have l3 := k3.lt)
  go_upto_region 10 with (go_at_call 46; (with_reducible refine (ST _).mono ?_); rintro e w3 ⟨a3, rfl, hT3, hB3⟩)
  have HT3 := hid hT3
  have HK3 := hid (bk_on k3 hB3)
  have HA3 := hid (btr (btr (btr hB0 hB1) hB2) hB3)
  clear hT3 k1 d1 l1 k2 d2 l2 k3 d3 l3 hB1 hB2 hB3 hB0 hK0 hL0 CK CU ST
  go_loopw [28] (fun v28 wx => ∃ k : Nat, k ≤ SD.length ∧ v28 = .int .i64 (k : Nat) ∧ Hid (BK wx w.heap.size #[.int .i64 n, .slice a rs.length c] 24) ∧ Hid (Below w.heap.size w wx) ∧ Hid (∀ j (h : j < SD.length), j < k → V SD[j].ps = 1)) (fun v28 _ => SD.length - (intOf v28).toNat)
  case atStart => exact ⟨0, Nat.zero_le _, rfl, HK3, HA3, fun _ _ h => absurd h (Nat.not_lt_zero _)⟩
  case round =>
    clear HK3 HA3
    obtain ⟨k, hk, rfl, HK, HA, HAO⟩ := hrel
    by_cases hlt : k < SD.length
    case neg =>
      obtain rfl : k = SD.length := by omega
      have HZ := hid (HY.out (HAL.out.2 (fun j h => HAO.out j h h)))
      go_wp2
      go_ret2
      exact ⟨true, 0, rfl, HZ.out, HA.out⟩
    obtain ⟨b', o', rfl, r⟩ := (HT3.out.below HA.out).at_ k hlt
    have m0 := r.c0 k hlt
    have m1 := r.c1 k hlt
    have m2 := r.c2 k hlt
    have m3 := r.c3 k hlt
    have hbl := r.lt
    obtain ⟨h1, h2, h3⟩ := (HRO.out k hlt).ps
    rw [h3] at m0 m1 m2 m3
    have d1 := HK.out.cell
    have l1 := HK.out.lt
    have HNE : Hid (¬ V SD[k].ps = 1 → SamA ⟨n, rs⟩ ⟨(N : Int), us⟩ false 0) := fun h => HX.out (fun h' => h (HAL.out.1 h' k hlt))
    have HYE : Hid (V SD[k].ps = 1 → ∀ j (h : j < SD.length), j < k + 1 → V SD[j].ps = 1) := fun h j hj hjk => by
      by_cases e : j = k
      · subst e; exact h
      · exact HAO.out j hj (by omega)
    have VB := hid (fun w' h => VA.out SD[k].ps w' h h1 h2)
    clear h1 h2 h3 r HAO
    generalize SD[k].ps = q at *
    obtain ⟨qn, qx, qz, qf⟩ := q
    simp only at *
    have hz := PL.PB.new wr qn qx qz qf
    obtain ⟨z0, z1, z2, z3, _, _, _, _⟩ := hz
    have hA1 := bal HA.out (PL.pc qn qx qz qf)
    have hK1 := HK.out.alloc (PL.pc qn qx qz qf)
    generalize V ⟨qn, qx, qz, qf⟩ = vq at *
    by_cases hv : vq = 1
    · have HY2 := hid (HYE.out hv)
      go_wp2_with (go_at_call 45; (with_reducible refine (VB.out _ hA1).mono ?_); rintro e w4 ⟨rfl, hB4⟩)
      exact ⟨⟨k + 1, by omega, rfl, bk_on hK1 hB4, btr hA1 hB4, HY2⟩, by simp only [intOf]; omega⟩
    · have HN2 := hid (HNE.out hv)
      have hv' : (vq != 1) = true := bne_iff_ne.2 hv
      go_wp2_with (go_at_call 45; (with_reducible refine (VB.out _ hA1).mono ?_); rintro e w4 ⟨rfl, hB4⟩)
      go_ret2
      exact ⟨false, 0, rfl, HN2.out, btr hA1 hB4⟩
end Go.Proofs.Ytoddbaljnlhhaaa
