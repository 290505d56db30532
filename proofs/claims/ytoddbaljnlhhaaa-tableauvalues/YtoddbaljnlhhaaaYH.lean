/-
  Put together of: JI.
-/
import Derived.Test.YtoddbaljnlhhaaaYG
namespace Go.Proofs.Ytoddbaljnlhhaaa
open Go.RowKit Go.Sort
open PL (pv PS bt)

def frB (cm : Nat → Bool) : Nat → Bool
  | 0 => false
  | j + 1 => frB cm j || !cm j
theorem frB_is (cm : Nat → Bool) : ∀ n, frB cm n = true ↔ ∃ j, j < n ∧ cm j = false
  | 0 => ⟨fun h => (Bool.noConfusion (h : false = true)), fun ⟨_, h, _⟩ => absurd h (Nat.not_lt_zero _)⟩
  | n + 1 => by
    rw [frB, Bool.or_eq_true, frB_is cm n]
    constructor
    · rintro (⟨j, h1, h2⟩ | h)
      · exact ⟨j, by omega, h2⟩
      · exact ⟨n, by omega, by simpa using h⟩
    · rintro ⟨j, h1, h2⟩
      by_cases e : j = n
      · subst e
        exact .inr (by rw [h2]; rfl)
      · exact .inl ⟨j, by omega, h2⟩
theorem bool_of {a b : Bool} (h : a = true ↔ b = true) : a = b := by cases a <;> cases b <;> simp_all
section
variable {N : Nat} {rs : List Pr} {a : Option Addr} {c : Nat} {w : World}
/-- Value of a string that is right. -/
theorem val_call (H : TS w a c rs) (hR : Rt ⟨(N : Nat), rs⟩) (P : PS) (v : Int) (hp : P.ok) (hn : P.n = N) (hf : P.f % 2 = 0) (hv : valT ⟨(N : Nat), rs⟩ P = v) : ∀ w', RowKit.Below w.heap.size w w' → Calls Try.prog 16 #[.agg #[.int .i64 (N : Nat), .slice a rs.length c], P.v] w' fun e w'' => e = .returned (.tuple #[.int .i64 v, .int .i64 0]) ∧ RowKit.Below w'.heap.size w' w'' := fun w' hb => by
  refine (valuePub_any ⟨(N : Nat), rs⟩ a c (prP P) w' (H.below hb) ⟨hp.xl, hp.zl⟩).mono ?_
  rintro e w'' ⟨y, er, rfl, hV, hB⟩
  obtain ⟨rfl, rfl⟩ := val_yes hV hR (N := N) rfl hp hn hf
  rw [hv]
  exact ⟨rfl, hB⟩
theorem val_ex (t : Tb) (p : Pr) (hR : Rt t) : ∃ x er, ValA t p x er := by
  by_cases h1 : p.gd
  · by_cases h2 : ¬ p.n = t.n ∨ p.f % 2 = 1
    · exact ⟨0, 2, .inr (.inr (.inl ⟨hR, h1, h2, rfl, rfl⟩))⟩
    · have h3 : p.n = t.n := Classical.not_not.1 fun g => h2 (.inl g)
      have h4 : p.f % 2 = 0 := by have : ¬ p.f % 2 = 1 := fun g => h2 (.inr g); omega
      exact ⟨_, 0, .inr (.inr (.inr ⟨hR, h1, h3, h4, rfl, rfl⟩))⟩
  · exact ⟨0, 70, .inr (.inl ⟨hR, h1, rfl, rfl⟩)⟩
theorem vala_det {t : Tb} {p : Pr} {v e v' e' : Int} (h : ValA t p v e) (h' : ValA t p v' e') : v' = v ∧ e' = e := by
  rcases h with ⟨h1, rfl, rfl⟩ | ⟨h1, h2, rfl, rfl⟩ | ⟨h1, h2, h3, rfl, rfl⟩ | ⟨h1, h2, h3, h4, rfl, rfl⟩ <;>
    rcases h' with ⟨g1, rfl, rfl⟩ | ⟨g1, g2, rfl, rfl⟩ | ⟨g1, g2, g3, rfl, rfl⟩ | ⟨g1, g2, g3, g4, rfl, rfl⟩ <;>
    first
    | exact ⟨rfl, rfl⟩
    | exact absurd g1 h1
    | exact absurd h1 g1
    | exact absurd g2 h2
    | exact absurd h2 g2
    | (exfalso; rcases g3 with g3 | g3 <;> first | exact g3 h3 | omega)
    | (exfalso; rcases h3 with h3 | h3 <;> first | exact h3 g3 | omega)
/-- What the law asks of a string that Value takes. -/
theorem vq_of {b o : Nat} (H : TS w (some ⟨b, o, none⟩) c rs) (hR : Rt ⟨(N : Nat), rs⟩) (p : Pr) (h1 : p.gd) (h2 : p.n = (N : Nat)) (h3 : p.f % 2 = 0) :
    ∃ (Pn Pf : Nat) (R : Nat → PS) (cm fr : Nat → Bool), VQ w b o c N rs.length (valT ⟨(N : Nat), rs⟩ p.ps) p.n p.x p.z p.f Pn Pf R cm fr := by
  obtain ⟨P, hP, hv, rfl⟩ := PL.Good.of h1
  have e : (⟨(P.n : Nat), P.x, P.z, (P.f : Nat)⟩ : Pr).ps = P := prP_ps P
  rw [e]
  have hn : P.n = N := by have h2 : ((P.n : Nat) : Int) = (N : Nat) := h2; omega
  have hf : P.f % 2 = 0 := by have h3 : ((P.f : Nat) : Int) % 2 = 0 := h3; omega
  have hl : rs.length = 2 * N := by have h : ((rs.length : Nat) : Int) = 2 * (N : Nat) := hR.len; omega
  have hin := valT_in ⟨(N : Nat), rs⟩ P
  refine ⟨P.n, P.f, fun j => nthP rs (N + j), fun j => decide (PL.comB (nthP rs (N + j)).x (nthP rs (N + j)).z P.x P.z = 0), frB fun j => decide (PL.comB (nthP rs (N + j)).x (nthP rs (N + j)).z P.x P.z = 0), ?_⟩
  refine ⟨rfl, rfl, hP.f1, hin.1, hin.2, rfl, fun j _ => rfl, ?_, fun j hj W hb => ?_, fun j hj w' => ?_, ?_⟩
  · refine bool_of ?_
    rw [frB_is, beq_iff_eq, valT_zero (t := ⟨(N : Nat), rs⟩) (N := N) rfl]
    constructor
    · rintro ⟨j, hj, g⟩
      exact ⟨j, hj, of_decide_eq_false g⟩
    · rintro ⟨j, hj, g⟩
      exact ⟨j, hj, decide_eq_false g⟩
  · obtain ⟨b', o', e', r⟩ := rw_of (H.below hb) hR (L := N + j) (by omega)
    cases e'
    exact ⟨r.c0, r.c1, r.c2, r.c3, r.lt⟩
  · obtain ⟨k1, k2, _⟩ := hR.ok (N := N) rfl (k := N + j) (by omega)
    exact PL.rcommute_yes (nthP rs (N + j)) P w' k1 hP (by rw [k2, hn])
  · have hfo : (flipS P).ok := ⟨hP.n1, hP.x1, hP.z1, Nat.mod_lt _ (by omega)⟩
    exact val_call H hR (flipS P) _ hfo hn (by show (P.f + 2) % 4 % 2 = 0; omega) (valT_flip hR (N := N) rfl hP hn hf)
end
set_option maxHeartbeats 1000000 in
theorem values_any (t : Tb) (p : Pr) (a : Option Addr) (c : Nat) (i k : Int) (w : World) (H : TS w a c t.rows) (hw : p.w64) (i0 : -9223372036854775808 ≤ i) (i1 : i ≤ 9223372036854775807) (k0 : -9223372036854775808 ≤ k) (k1 : k ≤ 9223372036854775807) :
    Calls Try.prog 8 #[t.v a c, p.v, .int .i64 i, .int .i64 k] w fun e w' => e = .returned (.bool true) ∧ RowKit.Below w.heap.size w w' := by
  by_cases h : Rt t ∧ t.n ≠ 0
  case neg => exact values_not t p a c i k w H h
  obtain ⟨hR, hn⟩ := h
  obtain ⟨n, rs⟩ := t
  obtain ⟨N, hN⟩ := Int.eq_ofNat_of_zero_le hR.n0
  have hN : n = (N : Int) := hN
  subst hN
  have hn1 : ((N : Nat) : Int) ≤ 64 := hR.n1
  have hn0 : 0 < N := by have hn : ((N : Nat) : Int) ≠ 0 := hn; omega
  have hl : rs.length = 2 * N := by have h : ((rs.length : Nat) : Int) = 2 * (N : Nat) := hR.len; omega
  have hI := plN_lt i hn0
  have hK := plN_lt k hn0
  have PI := fun w => place_is i N w i0 i1 hn0 (by omega)
  have PK := fun w => place_is k N w k0 k1 hn0 (by omega)
  generalize plN i N = I at *
  generalize plN k N = K at *
  obtain ⟨b, o, rfl, RA⟩ := rw_of H hR (L := N + I) (by show N + I < rs.length; omega)
  have RWX := fun L (hL : L < rs.length) => (by
    obtain ⟨b', o', e', r⟩ := rw_of H hR (L := L) hL
    cases e'
    exact r : RW w b o L (nthP rs L).n (nthP rs L).x (nthP rs L).z (nthP rs L).f)
  have okL := fun L (hL : L < 2 * N) => hR.ok (N := N) rfl (k := L) hL
  obtain ⟨oa, na, fa⟩ := okL (N + I) (by omega)
  obtain ⟨ob, nb, fb⟩ := okL (N + K) (by omega)
  obtain ⟨ox, nx, fx⟩ := okL K (by omega)
  obtain ⟨oy, ny, fy⟩ := okL I (by omega)
  have na : (nthP rs (N + I)).n = N := na
  have nb : (nthP rs (N + K)).n = N := nb
  have nx : (nthP rs K).n = N := nx
  have ny : (nthP rs I).n = N := ny
  have oM := oa.mul ob (by rw [na, nb])
  have oD := ox.mul oy (by rw [nx, ny])
  have sA : comS (nthP rs (N + I)) (nthP rs (N + K)) := stab_com (t := ⟨(N : Nat), rs⟩) hR (N := N) rfl hI hK
  have sD : comS (nthP rs K) (nthP rs I) := destab_com (t := ⟨(N : Nat), rs⟩) hR (N := N) rfl hI hK
  have fM : ((nthP rs (N + I)).mul (nthP rs (N + K))).f % 2 = 0 := mul_even fa fb sA
  have fD : ((nthP rs K).mul (nthP rs I)).f % 2 = 0 := mul_even fx fy sD
  have vA := valT_stab hR (N := N) rfl hI
  have vB := valT_stab hR (N := N) rfl hK
  have vM := valT_mul hR (N := N) rfl oa ob na nb vA vB
  obtain ⟨x, er, hV⟩ := val_ex ⟨(N : Nat), rs⟩ p hR
  have hcap := H.cap
  have q1 := hid (fun w' (hb : RowKit.Below w.heap.size w w') => rcheck_t ⟨(N : Nat), rs⟩ (some ⟨b, o, none⟩) c w' (H.below hb) hR)
  have q2 := hid (val_call H hR _ 1 oa na fa vA)
  have q3 := hid (fun w' => PL.mul_yes (nthP rs (N + I)) (nthP rs (N + K)) w' oa ob (by rw [na, nb]))
  have q4 := hid (val_call H hR _ 1 oM na fM vM)
  have q5 := hid (fun w' => PL.mul_yes (nthP rs K) (nthP rs I) w' ox oy (by rw [nx, ny]))
  have q6 := hid (fun w' (hb : RowKit.Below w.heap.size w w') => rcopy_any ⟨(N : Nat), rs⟩ (some ⟨b, o, none⟩) c w' (H.below hb) (by show rs.length ≤ 1000; omega))
  have m1 : Hid (prP ((nthP rs (N + I)).mul (nthP rs (N + K)))).w64 := ⟨oM.xl, oM.zl⟩
  have m2 : Hid (prP ((nthP rs K).mul (nthP rs I))).w64 := ⟨oD.xl, oD.zl⟩
  have r1 := hid RA
  have r2 := hid (RWX (N + K) (by omega))
  have r3 := hid (RWX K (by omega))
  have r4 := hid (RWX I (by omega))
  have PI := hid PI
  have PK := hid PK
  have fD := hid fD
  have VP : Hid (∀ w', RowKit.Below w.heap.size w w' → Calls Try.prog 16 #[.agg #[.int .i64 (N : Nat), .slice (some ⟨b, o, none⟩) rs.length c], p.v] w' fun e w'' => e = .returned (.tuple #[.int .i64 x, .int .i64 er]) ∧ RowKit.Below w'.heap.size w' w'') := fun w' hb => by
    refine (valuePub_any ⟨(N : Nat), rs⟩ _ c p w' (H.below hb) hw).mono ?_
    rintro e w'' ⟨y, er', rfl, hV', hB⟩
    obtain ⟨rfl, rfl⟩ := vala_det hV hV'
    exact ⟨rfl, hB⟩
  have HV : Hid ((er == 0) = false ∨ (er = 0 ∧ ∃ (Pn Pf : Nat) (R : Nat → PS) (cm fr : Nat → Bool), VQ w b o c N rs.length x p.n p.x p.z p.f Pn Pf R cm fr)) := by
    rcases hV with ⟨g, _⟩ | ⟨_, _, rfl, rfl⟩ | ⟨_, _, _, rfl, rfl⟩ | ⟨_, g1, g2, g3, rfl, rfl⟩
    · exact absurd hR g
    · exact .inl rfl
    · exact .inl rfl
    · exact .inr ⟨rfl, vq_of H hR p g1 g2 g3⟩
  have ST : Hid (∀ w', RowKit.Below w.heap.size w w' → Calls Try.prog 17 #[.agg #[.int .i64 (N : Nat), .slice (some ⟨b, o, none⟩) rs.length c], .agg #[.int .i64 (N : Nat), .slice (some ⟨b, o, none⟩) rs.length c]] w' fun e w'' => e = .returned (.tuple #[.bool true, .int .i64 0]) ∧ RowKit.Below w'.heap.size w' w'') := fun w' hb => by
    refine (same_any ⟨(N : Nat), rs⟩ ⟨(N : Nat), rs⟩ _ _ c c w' (H.below hb) (H.below hb)).mono ?_
    rintro e w'' ⟨r, er', rfl, hS, hB⟩
    obtain ⟨rfl, rfl⟩ := same_yes hS hR hR rfl (allOne_self hR)
    exact ⟨rfl, hB⟩
  obtain ⟨U, hU⟩ : ∃ U, U = if I = K then rs else altR rs N I K := ⟨_, rfl⟩
  have SU : Hid (∀ w' a' c', RowKit.Below w.heap.size w w' → TS w' a' c' U → Calls Try.prog 17 #[.agg #[.int .i64 (N : Nat), .slice (some ⟨b, o, none⟩) rs.length c], .agg #[.int .i64 (N : Nat), .slice a' rs.length c']] w' fun e w'' => e = .returned (.tuple #[.bool true, .int .i64 0]) ∧ RowKit.Below w'.heap.size w' w'') := fun w' a' c' hb hT => by
    by_cases e : I = K
    · rw [hU, if_pos e] at hT
      refine (same_any ⟨(N : Nat), rs⟩ ⟨(N : Nat), rs⟩ _ a' c c' w' (H.below hb) hT).mono ?_
      rintro e w'' ⟨r, er', rfl, hS, hB⟩
      obtain ⟨rfl, rfl⟩ := same_yes hS hR hR rfl (allOne_self hR)
      exact ⟨rfl, hB⟩
    · rw [hU, if_neg e] at hT
      have h := same_any ⟨(N : Nat), rs⟩ ⟨(N : Nat), altR rs N I K⟩ (some ⟨b, o, none⟩) a' c c' w' (H.below hb) hT
      have h2 : Calls Try.prog 17 #[.agg #[.int .i64 (N : Nat), .slice (some ⟨b, o, none⟩) rs.length c], .agg #[.int .i64 (N : Nat), .slice a' (altR rs N I K).length c']] w' _ := h
      rw [altR_len] at h2
      refine h2.mono ?_
      rintro e' w'' ⟨r, er', rfl, hS, hB⟩
      obtain ⟨rfl, rfl⟩ := same_yes hS hR (altR_rt hR (N := N) rfl hI hK e) rfl (altR_all hR (N := N) rfl hI hK e)
      exact ⟨rfl, hB⟩
  have HU : Hid ((I = K ∧ U = rs) ∨ (I ≠ K ∧ U = (rs.set (N + I) (prP ((nthP rs (N + I)).mul (nthP rs (N + K))))).set K (prP ((nthP rs K).mul (nthP rs I))))) := by
    rw [hU]
    by_cases e : I = K
    · exact .inl ⟨e, if_pos e⟩
    · exact .inr ⟨e, if_neg e⟩
  have z1 : rs.length ≤ 128 := by omega
  have z2 : N + N ≤ rs.length := by omega
  have z3 : N + I < rs.length := by omega
  have z4 : N + K < rs.length := by omega
  have z5 : I < rs.length := by omega
  have z6 : K < rs.length := by omega
  have z7 : ((N : Nat) : Int) + (I : Int) = ((N + I : Nat) : Int) := by omega
  have z8 : ((N : Nat) : Int) + (K : Int) = ((N + K : Nat) : Int) := by omega
  have z9 : Hid (rs.length = rs.length) := rfl
  clear RWX okL oa ob ox oy na nb nx ny fa fb fx fy oM fM vA vB vM hV hU hl hn1 hn hw RA
  show Calls Try.prog 8 #[.agg #[.int .i64 (N : Nat), .slice (some ⟨b, o, none⟩) rs.length c], p.v, .int .i64 i, .int .i64 k] w _
  exact values_walk N I K (N + I) (N + K) rs rs.length z9 p b o c i k (nthP rs (N + I)) (nthP rs (N + K)) ((nthP rs (N + I)).mul (nthP rs (N + K))) w hn0 (by omega) z1 z2 z3 z4 z5 z6 hI hK z7 z8 hcap q1 PI PK q2 q3 q4 x er VP HV q6 U SU ST (nthP rs K) (nthP rs I) ((nthP rs K).mul (nthP rs I)) q5 HU fD m1 m2 r3 r4 r1 r2
end Go.Proofs.Ytoddbaljnlhhaaa
