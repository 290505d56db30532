/-
  Put together of: C1 C3 C4 C5.
-/
import Derived.Test.YtoddbaljnlhhaabXX
namespace Go.Proofs.Ytoddbaljnlhhaab
open Go.RowKit Go.Sort
open PL (pv PS bt cgk cgT cgB)

theorem trP_mul {i : Nat} (hi : i < 17) {q : Nat → Int} (hP : BL.Plc q (cgk i)) (a b : PS) : trP i q (a.mul b) = (trP i q a).mul (trP i q b) := by
  have h := PL.trn_mul (PL.cg_hom i hi) hP (a.x, a.z, a.f) (b.x, b.z, b.f)
  have e : PL.lm (a.x, a.z, a.f) (b.x, b.z, b.f) = ((a.mul b).x, (a.mul b).z, (a.mul b).f) := rfl
  rw [e] at h
  unfold trP PL.PS.mul at *
  simp only at *
  rw [h]
  rfl
theorem trP_back {i : Nat} (hi : i < 17) {q : Nat → Int} (hP : BL.Plc q (cgk i)) {p : PS} (hp : p.ok) : trP (cgB i) q (trP i q p) = p := by
  have h := PL.trn_back (PL.cg_hom i hi) (PL.cg_back i hi) hP (p.x, p.z, p.f) hp.f1
  have hk := (PL.cgk_is i hi).2.2.1
  obtain ⟨n, x, z, f⟩ := p
  unfold trP
  simp only at *
  rw [hk, h]
theorem ps_ext {a b : PS} (h0 : a.n = b.n) (h1 : a.x = b.x) (h2 : a.z = b.z) (h3 : a.f = b.f) : a = b := by
  obtain ⟨n, x, z, f⟩ := a
  obtain ⟨n', x', z', f'⟩ := b
  simp only at *
  subst h0 h1 h2 h3
  rfl
theorem mul_swap {a b : PS} (hn : a.n = b.n) : a.mul b = b.mul a ↔ comS a b := by
  have h := PL.mulF_comm_iff a.x a.z a.f b.x b.z b.f
  constructor
  · intro e
    exact h.1 (congrArg PS.f e)
  · intro e
    exact ps_ext hn (Nat.xor_comm _ _) (Nat.xor_comm _ _) (h.2 e)
theorem trP_com {i : Nat} (hi : i < 17) {q : Nat → Int} (hP : BL.Plc q (cgk i)) {a b : PS} (ha : a.ok) (hb : b.ok) (hn : a.n = b.n) : comS (trP i q a) (trP i q b) ↔ comS a b := by
  rw [← mul_swap (show (trP i q a).n = (trP i q b).n from hn), ← mul_swap hn, ← trP_mul hi hP, ← trP_mul hi hP]
  constructor
  · intro h
    have h1 := congrArg (trP (cgB i) q) h
    rw [trP_back hi hP (ha.mul hb hn), trP_back hi hP (hb.mul ha hn.symm)] at h1
    exact h1
  · intro h; rw [h]
theorem trP_f {i : Nat} (hi : i < 17) {q : Nat → Int} (p : PS) : (trP i q p).f % 2 = p.f % 2 := by
  have e : (trP i q p).f = (PL.lt (cgT i) (cgk i) (BL.pickN p.x q (cgk i)) (BL.pickN p.z q (cgk i)) p.f).2.2 := rfl
  rw [e, PL.lt_f]
  have h := ((PL.cg_hom i hi).lo (BL.pickN p.x q (cgk i)) (BL.pickN p.z q (cgk i)) (BL.pickN_low _ _ _) (BL.pickN_low _ _ _)).2.2
  show (p.f + _) % 4 % 2 = p.f % 2
  omega
/-- A row of a right string and its phase. -/
theorem gd_of {p : PS} (hp : p.ok) : (⟨p.n, p.x, p.z, p.f⟩ : Pr).gd :=
  ⟨by show (0 : Int) ≤ p.n; omega, by have := hp.n1; show (p.n : Int) ≤ 64; omega, hp.x1, hp.z1, by show (0 : Int) ≤ p.f; omega, by have := hp.f1; show (p.f : Int) ≤ 3; omega⟩
theorem comP_ps {r s : Pr} : comP r s ↔ comS r.ps s.ps := Iff.rfl
theorem Rt.turn {t : Tb} (h : Rt t) {i : Nat} (hi : i < 17) {q : Nat → Int} (hP : BL.Plc q (cgk i)) (hq : ∀ j, j < cgk i → q j < t.n) : Rt ⟨t.n, t.rows.map (trR i q)⟩ := by
  refine ⟨h.n0, h.n1, by show ((t.rows.map (trR i q)).length : Int) = 2 * t.n; rw [List.length_map]; exact h.len, fun j hj => ?_, fun j hj k hk => ?_⟩
  · have hj' : j < t.rows.length := by rw [List.length_map] at hj; exact hj
    have hr := h.row j hj'
    have hps := hr.ps
    have hok := trP_ok hi hps.1 hP (fun k hk => by rw [hps.2.1]; exact hq k hk)
    rw [List.getElem_map]
    refine ⟨gd_of hok, hps.2.1, ?_⟩
    have hf := trP_f hi (q := q) t.rows[j].ps
    have h2 := hr.2.2
    rw [hps.2.2] at h2
    show ((trP i q t.rows[j].ps).f : Int) % 2 = 0
    have h3 : ((t.rows[j].ps.f : Nat) : Int) % 2 = 0 := h2
    omega
  · have hj' : j < t.rows.length := by rw [List.length_map] at hj; exact hj
    have hk' : k < t.rows.length := by omega
    simp only [List.getElem_map]
    have h1 := h.com j hj' k hk
    have p1 := (h.row j hj').ps
    have p2 := (h.row k hk').ps
    rw [← h1]
    have hn : t.rows[j].ps.n = t.rows[k].ps.n := by have := p1.2.1; have := p2.2.1; omega
    have e := trP_com hi hP p1.1 p2.1 hn
    have hc : comP (trR i q t.rows[j]) (trR i q t.rows[k]) ↔ comS (trP i q t.rows[j].ps) (trP i q t.rows[k].ps) := Iff.rfl
    rw [hc, e]
    exact Iff.rfl
theorem turn_back {t : Tb} (h : Rt t) {i : Nat} (hi : i < 17) {q : Nat → Int} (hP : BL.Plc q (cgk i)) : (t.rows.map (trR i q)).map (trR (cgB i) q) = t.rows := by
  rw [List.map_map]
  refine List.ext_getElem (by simp) (fun j h1 h2 => ?_)
  rw [List.getElem_map]
  have hps := (h.row j h2).ps
  have e : (trR i q t.rows[j]).ps = trP i q t.rows[j].ps := rfl
  show trR (cgB i) q (trR i q t.rows[j]) = t.rows[j]
  have e2 : trR (cgB i) q (trR i q t.rows[j]) = ⟨(trP (cgB i) q (trP i q t.rows[j].ps)).n, (trP (cgB i) q (trP i q t.rows[j].ps)).x, (trP (cgB i) q (trP i q t.rows[j].ps)).z, (trP (cgB i) q (trP i q t.rows[j].ps)).f⟩ := rfl
  rw [e2, trP_back hi hP hps.1]
  exact hps.2.2.symm
end Go.Proofs.Ytoddbaljnlhhaab
namespace Go.Proofs.Ytoddbaljnlhhaab
open Go.RowKit Go.Sort
open PL (pv PS bt cgk cgT cgB)

theorem mulF_parity (x z f x' z' f' : Nat) : PL.mulF x z f x' z' f' % 2 = (f + f' + PL.comB x z x' z') % 2 := by
  have h1 := PL.pop_xor_and x x' (z ^^^ z')
  have h2 := PL.pop_xor_and z z' x
  have h3 := PL.pop_xor_and z z' x'
  rw [Nat.and_comm x] at h1
  rw [Nat.and_comm x'] at h1
  rw [PL.mulF_phi, PL.comB_is]
  unfold PL.phi
  have e1 : PL.pop 64 (z &&& x) = PL.pop 64 (x &&& z) := by rw [Nat.and_comm]
  have e2 : PL.pop 64 (z' &&& x) = PL.pop 64 (x &&& z') := by rw [Nat.and_comm]
  have e3 : PL.pop 64 (z' &&& x') = PL.pop 64 (x' &&& z') := by rw [Nat.and_comm]
  omega
def sR (rows : List Pr) (k : Nat) : Nat × Nat := ((nthP rows k).x, (nthP rows k).z)
theorem Rt.ok {t : Tb} (h : Rt t) {N : Nat} (hN : t.n = N) {k : Nat} (hk : k < 2 * N) : (nthP t.rows k).ok ∧ (nthP t.rows k).n = N ∧ (nthP t.rows k).f % 2 = 0 := by
  have hl := h.len
  have hk' : k < t.rows.length := by omega
  have hp := h.ps hk'
  have hr := (h.row k hk').2.2
  rw [hp.2.2] at hr
  have hr : ((nthP t.rows k).f : Int) % 2 = 0 := hr
  exact ⟨hp.1, by have := hp.2.1; omega, by omega⟩
theorem Rt.basis {t : Tb} (h : Rt t) {N : Nat} (hN : t.n = N) : PL.Basis N (sR t.rows) := by
  have hl := h.len
  refine ⟨fun j hj => ?_, fun j k hj hk => ?_⟩
  · have h1 := h.ok hN hj
    have hx := h1.1.x1
    have hz := h1.1.z1
    rw [h1.2.1] at hx hz
    exact ⟨hx, hz⟩
  · have hj' : j < t.rows.length := by omega
    have hk' : k < t.rows.length := by omega
    have key : ∀ a b, a < b → (hb : b < t.rows.length) → (PL.comB (sR t.rows b).1 (sR t.rows b).2 (sR t.rows a).1 (sR t.rows a).2 = 0 ↔ ¬ b = a + N) := fun a b hab hb => by
      have h1 := h.com b hb a hab
      have e1 := nthP_at hb
      have e2 := nthP_at (show a < t.rows.length by omega)
      have h2 : comP t.rows[b] (t.rows[a]'(by omega)) ↔ PL.comB (sR t.rows b).1 (sR t.rows b).2 (sR t.rows a).1 (sR t.rows a).2 = 0 := by
        unfold sR
        rw [e1, e2]
        exact Iff.rfl
      rw [← h2, h1, hN]
      omega
    have hlt := PL.comB_lt (sR t.rows j).1 (sR t.rows j).2 (sR t.rows k).1 (sR t.rows k).2
    rcases Nat.lt_trichotomy j k with hjk | hjk | hjk
    · have h1 := key j k hjk hk'
      rw [PL.comB_sym] at h1
      by_cases e : k = j + N
      · rw [if_pos (by unfold PL.prt; rw [if_pos (by omega)]; exact e)]
        have : ¬ PL.comB (sR t.rows j).1 (sR t.rows j).2 (sR t.rows k).1 (sR t.rows k).2 = 0 := fun g => h1.1 g e
        omega
      · rw [if_neg (by unfold PL.prt; split <;> omega)]
        exact h1.2 e
    · subst hjk
      rw [PL.comB_self, if_neg (by unfold PL.prt; split <;> omega)]
    · have h1 := key k j hjk hj'
      by_cases e : j = k + N
      · rw [if_pos (by unfold PL.prt; rw [if_neg (by omega)]; omega)]
        have : ¬ PL.comB (sR t.rows j).1 (sR t.rows j).2 (sR t.rows k).1 (sR t.rows k).2 = 0 := fun g => h1.1 g e
        omega
      · rw [if_neg (by unfold PL.prt; split <;> omega)]
        exact h1.2 e
/-- The product of the stabilizers that c names. -/
def prd (rows : List Pr) (N : Nat) (c : Nat → Bool) : Nat → PS
  | 0 => eyeP N
  | k + 1 => if c k = true then (prd rows N c k).mul (nthP rows (N + k)) else prd rows N c k
def selC (rows : List Pr) (p : PS) (k : Nat) : Bool := !decide (comS (nthP rows k) p)
theorem vgo_prd (rows : List Pr) (N : Nat) (p : PS) : ∀ f k, (∀ j, k ≤ j → j < k + f → comS (nthP rows (N + j)) p) → vgo rows N p f k (prd rows N (selC rows p) k) = some (prd rows N (selC rows p) (k + f))
  | 0, _, _ => rfl
  | f + 1, k, h => by
    unfold vgo
    rw [if_pos (h k (Nat.le_refl _) (by omega))]
    have e : (if comS (nthP rows k) p then prd rows N (selC rows p) k else (prd rows N (selC rows p) k).mul (nthP rows (N + k))) = prd rows N (selC rows p) (k + 1) := by
      show _ = if selC rows p k = true then _ else _
      unfold selC
      by_cases g : comS (nthP rows k) p
      · rw [if_pos g, decide_eq_true g, if_neg (by decide)]
      · rw [if_neg g, decide_eq_false g, if_pos (by decide)]
    rw [e, vgo_prd rows N p f (k + 1) (fun j h1 h2 => h j (by omega) (by omega)), show k + 1 + f = k + (f + 1) by omega]
theorem vgo_none (rows : List Pr) (N : Nat) (p : PS) : ∀ f k acc j, k ≤ j → j < k + f → ¬ comS (nthP rows (N + j)) p → vgo rows N p f k acc = none
  | 0, k, _, j, h1, h2, _ => by omega
  | f + 1, k, acc, j, h1, h2, h => by
    unfold vgo
    by_cases g : comS (nthP rows (N + k)) p
    · rw [if_pos g]
      exact vgo_none rows N p f (k + 1) _ j (by have : j ≠ k := fun e => h (by rw [e]; exact g)
                                                omega) (by omega) h
    · rw [if_neg g]
theorem valT_no {t : Tb} {N : Nat} (hN : t.n = N) {p : PS} {j : Nat} (hj : j < N) (h : ¬ comS (nthP t.rows (N + j)) p) : valT t p = 0 := by
  unfold valT
  rw [hN, Int.toNat_natCast, vgo_none t.rows N p N 0 _ j (by omega) (by omega) h]
  rfl
theorem valT_all {t : Tb} {N : Nat} (hN : t.n = N) {p : PS} (h : ∀ j, j < N → comS (nthP t.rows (N + j)) p) : valT t p = if eqP (prd t.rows N (selC t.rows p) N) p = true then 1 else -1 := by
  unfold valT
  rw [hN, Int.toNat_natCast]
  have h1 := vgo_prd t.rows N p N 0 (fun j _ hj => h j (by omega))
  rw [Nat.zero_add] at h1
  have e : prd t.rows N (selC t.rows p) 0 = eyeP N := rfl
  rw [e] at h1
  rw [h1]
  rfl
theorem comS_sym {a b : PS} : comS a b ↔ comS b a := by
  unfold comS
  rw [PL.comB_sym]
theorem mul_even {a b : PS} (ha : a.f % 2 = 0) (hb : b.f % 2 = 0) (h : comS a b) : (a.mul b).f % 2 = 0 := by
  show PL.mulF _ _ _ _ _ _ % 2 = 0
  rw [mulF_parity]
  have h : PL.comB a.x a.z b.x b.z = 0 := h
  rw [h]
  omega
/-- What the product is: a right string with an even phase, its X and Z those that sel tells. -/
theorem prd_is {t : Tb} (hR : Rt t) {N : Nat} (hN : t.n = N) (p : PS) : ∀ m, m ≤ N → (prd t.rows N (selC t.rows p) m).ok ∧ (prd t.rows N (selC t.rows p) m).n = N ∧ (prd t.rows N (selC t.rows p) m).f % 2 = 0 ∧ ((prd t.rows N (selC t.rows p) m).x, (prd t.rows N (selC t.rows p) m).z) = PL.sel N (sR t.rows) p.x p.z m
  | 0, _ => by
    have := hR.n1
    exact ⟨⟨by show N ≤ 64; omega, Nat.two_pow_pos _, Nat.two_pow_pos _, by show 0 < 4; omega⟩, rfl, rfl, rfl⟩
  | m + 1, hm => by
    obtain ⟨h1, h2, h3, h4⟩ := prd_is hR hN p m (by omega)
    have hr := hR.ok hN (show N + m < 2 * N by omega)
    have hc : comS (prd t.rows N (selC t.rows p) m) (nthP t.rows (N + m)) := by
      have g := PL.sel_com (hR.basis hN) p.x p.z (N + m) (by omega) m (by omega)
      rw [if_neg (by omega), ← h4] at g
      rw [comS_sym]
      exact g
    show (if selC t.rows p m = true then _ else _ : PS).ok ∧ (if selC t.rows p m = true then _ else _ : PS).n = N ∧ (if selC t.rows p m = true then _ else _ : PS).f % 2 = 0 ∧ ((if selC t.rows p m = true then _ else _ : PS).x, (if selC t.rows p m = true then _ else _ : PS).z) = _
    have e : PL.sel N (sR t.rows) p.x p.z (m + 1) = if PL.comB (sR t.rows m).1 (sR t.rows m).2 p.x p.z = 0 then PL.sel N (sR t.rows) p.x p.z m else ((PL.sel N (sR t.rows) p.x p.z m).1 ^^^ (sR t.rows (N + m)).1, (PL.sel N (sR t.rows) p.x p.z m).2 ^^^ (sR t.rows (N + m)).2) := rfl
    rw [e]
    by_cases g : comS (nthP t.rows m) p
    · have g2 : PL.comB (sR t.rows m).1 (sR t.rows m).2 p.x p.z = 0 := g
      have g3 : selC t.rows p m = false := by unfold selC; rw [decide_eq_true g]; rfl
      rw [if_pos g2, g3]
      exact ⟨h1, h2, h3, h4⟩
    · have g2 : ¬ PL.comB (sR t.rows m).1 (sR t.rows m).2 p.x p.z = 0 := g
      have g3 : selC t.rows p m = true := by unfold selC; rw [decide_eq_false g]; rfl
      rw [if_neg g2, g3, if_pos rfl]
      refine ⟨h1.mul hr.1 (h2.trans hr.2.1.symm), h2, mul_even h3 hr.2.2 hc, ?_⟩
      rw [← h4]
      rfl
/-- A string that commutes with all stabilizers is their product, but for its sign. -/
theorem prd_all {t : Tb} (hR : Rt t) {N : Nat} (hN : t.n = N) {p : PS} (hp : p.ok) (hpn : p.n = N) (h : ∀ j, j < N → comS (nthP t.rows (N + j)) p) : (prd t.rows N (selC t.rows p) N).ok ∧ (prd t.rows N (selC t.rows p) N).n = N ∧ (prd t.rows N (selC t.rows p) N).f % 2 = 0 ∧ (prd t.rows N (selC t.rows p) N).x = p.x ∧ (prd t.rows N (selC t.rows p) N).z = p.z := by
  obtain ⟨h1, h2, h3, h4⟩ := prd_is hR hN p N (Nat.le_refl _)
  have hx := hp.x1
  have hz := hp.z1
  rw [hpn] at hx hz
  have h5 := PL.sel_is (hR.basis hN) hx hz h
  rw [h5] at h4
  exact ⟨h1, h2, h3, congrArg Prod.fst h4, congrArg Prod.snd h4⟩
/-- The value, by the phase of that product. -/
theorem valT_phase {t : Tb} (hR : Rt t) {N : Nat} (hN : t.n = N) {p : PS} (hp : p.ok) (hpn : p.n = N) (h : ∀ j, j < N → comS (nthP t.rows (N + j)) p) : valT t p = if (prd t.rows N (selC t.rows p) N).f = p.f then 1 else -1 := by
  obtain ⟨h1, h2, h3, h4, h5⟩ := prd_all hR hN hp hpn h
  rw [valT_all hN h]
  have e : eqP (prd t.rows N (selC t.rows p) N) p = true ↔ (prd t.rows N (selC t.rows p) N).f = p.f := by
    unfold eqP
    simp only [Bool.and_eq_true, beq_iff_eq]
    exact ⟨fun g => g.2.2.2, fun g => ⟨h2.trans hpn.symm, h4, h5, g⟩⟩
  by_cases g : (prd t.rows N (selC t.rows p) N).f = p.f
  · rw [if_pos g, if_pos (e.2 g)]
  · rw [if_neg g, if_neg (fun k => g (e.1 k))]
/-- The same string with the other sign. -/
def flipS (p : PS) : PS := ⟨p.n, p.x, p.z, (p.f + 2) % 4⟩
theorem valT_flip {t : Tb} (hR : Rt t) {N : Nat} (hN : t.n = N) {p : PS} (hp : p.ok) (hpn : p.n = N) (hf : p.f % 2 = 0) : valT t (flipS p) = - valT t p := by
  have hp' : (flipS p).ok := ⟨hp.n1, hp.x1, hp.z1, Nat.mod_lt _ (by decide)⟩
  by_cases h : ∀ j, j < N → comS (nthP t.rows (N + j)) p
  · rw [valT_phase hR hN hp hpn h, valT_phase hR hN hp' hpn h]
    obtain ⟨h1, _, h3, _, _⟩ := prd_all hR hN hp hpn h
    have e : prd t.rows N (selC t.rows (flipS p)) N = prd t.rows N (selC t.rows p) N := rfl
    rw [e]
    have h4 := h1.f1
    have h5 := hp.f1
    show (if _ = (p.f + 2) % 4 then (1 : Int) else -1) = _
    by_cases g : (prd t.rows N (selC t.rows p) N).f = p.f
    · rw [if_pos g, if_neg (by omega)]
    · rw [if_neg g, if_pos (by omega)]; rfl
  · obtain ⟨j, hj⟩ := Classical.not_forall.1 h
    obtain ⟨hj, hc⟩ := Classical.not_imp.1 hj
    rw [valT_no hN hj hc, valT_no hN hj (p := flipS p) hc]
    rfl
theorem valT_zero {t : Tb} {N : Nat} (hN : t.n = N) {p : PS} : valT t p = 0 ↔ ∃ j, j < N ∧ ¬ comS (nthP t.rows (N + j)) p := by
  constructor
  · intro h
    by_cases g : ∀ j, j < N → comS (nthP t.rows (N + j)) p
    · rw [valT_all hN g] at h
      split at h <;> cases h
    · obtain ⟨j, hj⟩ := Classical.not_forall.1 g
      obtain ⟨hj, hc⟩ := Classical.not_imp.1 hj
      exact ⟨j, hj, hc⟩
  · intro ⟨j, hj, hc⟩
    exact valT_no hN hj hc
end Go.Proofs.Ytoddbaljnlhhaab
namespace Go.Proofs.Ytoddbaljnlhhaab
open Go.RowKit Go.Sort
open PL (pv PS bt cgk cgT cgB)

theorem mul_assocS (a b c : PS) : (a.mul b).mul c = a.mul (b.mul c) :=
  ps_ext rfl (Nat.xor_assoc _ _ _) (Nat.xor_assoc _ _ _) (PL.mulF_assoc _ _ _ _ _ _ _ _ _)
theorem mul_eyeS {a : PS} (ha : a.f < 4) (n : Nat) : a.mul (eyeP n) = a :=
  ps_ext rfl (Nat.xor_zero _) (Nat.xor_zero _) (PL.mulF_eye' _ _ _ ha)
theorem eye_mulS {a : PS} (ha : a.f < 4) : (eyeP a.n).mul a = a :=
  ps_ext rfl (Nat.zero_xor _) (Nat.zero_xor _) (PL.mulF_eye _ _ _ ha)
theorem mul_selfS {a : PS} (hf : a.f % 2 = 0) : a.mul a = eyeP a.n := by
  refine ps_ext rfl (Nat.xor_self _) (Nat.xor_self _) ?_
  show PL.mulF _ _ _ _ _ _ = 0
  unfold PL.mulF
  rw [Nat.xor_self, Nat.xor_self, Nat.and_self, PL.pop_zero, Nat.and_comm a.z a.x]
  omega
theorem com_mul {a b c : PS} (h1 : comS c a) (h2 : comS c b) : comS c (a.mul b) := by
  show PL.comB _ _ _ _ = 0
  have e : PL.comB c.x c.z (a.mul b).x (a.mul b).z = (PL.comB c.x c.z a.x a.z + PL.comB c.x c.z b.x b.z) % 2 := PL.comB_xor' _ _ _ _ _ _
  have h1 : PL.comB c.x c.z a.x a.z = 0 := h1
  have h2 : PL.comB c.x c.z b.x b.z = 0 := h2
  rw [e, h1, h2]
theorem stab_com {t : Tb} (hR : Rt t) {N : Nat} (hN : t.n = N) {j k : Nat} (hj : j < N) (hk : k < N) : comS (nthP t.rows (N + j)) (nthP t.rows (N + k)) := by
  have h := (hR.basis hN).2 (N + j) (N + k) (by omega) (by omega)
  rw [if_neg (by unfold PL.prt; split <;> omega)] at h
  exact h
/-- A product of stabilizers: right, even, and it commutes with each. -/
theorem prd_gen {t : Tb} (hR : Rt t) {N : Nat} (hN : t.n = N) (c : Nat → Bool) : ∀ m, m ≤ N → (prd t.rows N c m).ok ∧ (prd t.rows N c m).n = N ∧ (prd t.rows N c m).f % 2 = 0 ∧ ∀ k, k < N → comS (nthP t.rows (N + k)) (prd t.rows N c m)
  | 0, _ => by
    have := hR.n1
    exact ⟨⟨by show N ≤ 64; omega, Nat.two_pow_pos _, Nat.two_pow_pos _, by show 0 < 4; omega⟩, rfl, rfl, fun k _ => PL.comB_nil _ _⟩
  | m + 1, hm => by
    obtain ⟨h1, h2, h3, h4⟩ := prd_gen hR hN c m (by omega)
    have hr := hR.ok hN (show N + m < 2 * N by omega)
    show (if c m = true then _ else _ : PS).ok ∧ (if c m = true then _ else _ : PS).n = N ∧ (if c m = true then _ else _ : PS).f % 2 = 0 ∧ ∀ k, k < N → comS (nthP t.rows (N + k)) (if c m = true then _ else _ : PS)
    cases c m with
    | false => exact ⟨h1, h2, h3, h4⟩
    | true =>
      rw [if_pos rfl]
      exact ⟨h1.mul hr.1 (h2.trans hr.2.1.symm), h2, mul_even h3 hr.2.2 (comS_sym.1 (h4 m (by omega))), fun k hk => com_mul (h4 k hk) (stab_com hR hN hk (by omega))⟩
theorem prd_cong (rows : List Pr) (N : Nat) {c d : Nat → Bool} : ∀ m, (∀ k, k < m → c k = d k) → prd rows N c m = prd rows N d m
  | 0, _ => rfl
  | m + 1, h => by
    show (if c m = true then _ else _ : PS) = if d m = true then _ else _
    rw [h m (by omega), prd_cong rows N m (fun k hk => h k (by omega))]
theorem prd_xor {t : Tb} (hR : Rt t) {N : Nat} (hN : t.n = N) (c d : Nat → Bool) : ∀ m, m ≤ N → prd t.rows N (fun k => c k ^^ d k) m = (prd t.rows N c m).mul (prd t.rows N d m)
  | 0, _ => (mul_eyeS (by show 0 < 4; omega) N).symm
  | m + 1, hm => by
    have ih := prd_xor hR hN c d m (by omega)
    obtain ⟨a1, a2, a3, a4⟩ := prd_gen hR hN c m (by omega)
    obtain ⟨b1, b2, b3, b4⟩ := prd_gen hR hN d m (by omega)
    have hr := hR.ok hN (show N + m < 2 * N by omega)
    have hsb : (nthP t.rows (N + m)).mul (prd t.rows N d m) = (prd t.rows N d m).mul (nthP t.rows (N + m)) := (mul_swap (hr.2.1.trans b2.symm)).2 (b4 m (by omega))
    have e : ∀ c, prd t.rows N c (m + 1) = if c m = true then (prd t.rows N c m).mul (nthP t.rows (N + m)) else prd t.rows N c m := fun _ => rfl
    rw [e, e c, e d, ih]
    cases c m with
    | false =>
      cases d m with
      | false => rfl
      | true =>
        rw [if_pos (by decide), if_neg (by decide), if_pos rfl]
        exact mul_assocS _ _ _
    | true =>
      cases d m with
      | false =>
        rw [if_pos (by decide), if_pos rfl, if_neg (by decide), mul_assocS, mul_assocS, hsb]
      | true =>
        rw [if_neg (by decide), if_pos rfl, if_pos rfl, mul_assocS, ← mul_assocS (nthP t.rows (N + m)), hsb, mul_assocS, mul_selfS hr.2.2, mul_eyeS b1.f1]
theorem selC_mul {rows : List Pr} {a b : PS} (k : Nat) : selC rows (a.mul b) k = (selC rows a k ^^ selC rows b k) := by
  have e : PL.comB (nthP rows k).x (nthP rows k).z (a.mul b).x (a.mul b).z = (PL.comB (nthP rows k).x (nthP rows k).z a.x a.z + PL.comB (nthP rows k).x (nthP rows k).z b.x b.z) % 2 := PL.comB_xor' _ _ _ _ _ _
  have h1 := PL.comB_lt (nthP rows k).x (nthP rows k).z a.x a.z
  have h2 := PL.comB_lt (nthP rows k).x (nthP rows k).z b.x b.z
  unfold selC
  have d1 : decide (comS (nthP rows k) (a.mul b)) = decide ((PL.comB (nthP rows k).x (nthP rows k).z a.x a.z + PL.comB (nthP rows k).x (nthP rows k).z b.x b.z) % 2 = 0) := by
    rw [← e]
  have d2 : decide (comS (nthP rows k) a) = decide (PL.comB (nthP rows k).x (nthP rows k).z a.x a.z = 0) := rfl
  have d3 : decide (comS (nthP rows k) b) = decide (PL.comB (nthP rows k).x (nthP rows k).z b.x b.z = 0) := rfl
  rw [d1, d2, d3]
  rcases (show PL.comB (nthP rows k).x (nthP rows k).z a.x a.z = 0 ∨ PL.comB (nthP rows k).x (nthP rows k).z a.x a.z = 1 by omega) with g1 | g1 <;> rcases (show PL.comB (nthP rows k).x (nthP rows k).z b.x b.z = 0 ∨ PL.comB (nthP rows k).x (nthP rows k).z b.x b.z = 1 by omega) with g2 | g2 <;> rw [g1, g2] <;> rfl
/-- Value 1 says: it is that product. -/
theorem valT_one {t : Tb} (hR : Rt t) {N : Nat} (hN : t.n = N) {p : PS} (hp : p.ok) (hpn : p.n = N) : valT t p = 1 ↔ (∀ j, j < N → comS (nthP t.rows (N + j)) p) ∧ prd t.rows N (selC t.rows p) N = p := by
  constructor
  · intro h
    have g : ∀ j, j < N → comS (nthP t.rows (N + j)) p := fun j hj => by
      by_cases g : comS (nthP t.rows (N + j)) p
      · exact g
      · rw [valT_no hN hj g] at h; cases h
    refine ⟨g, ?_⟩
    rw [valT_phase hR hN hp hpn g] at h
    obtain ⟨h1, h2, h3, h4, h5⟩ := prd_all hR hN hp hpn g
    by_cases e : (prd t.rows N (selC t.rows p) N).f = p.f
    · exact ps_ext (h2.trans hpn.symm) h4 h5 e
    · rw [if_neg e] at h; cases h
  · intro ⟨g, e⟩
    rw [valT_phase hR hN hp hpn g, e, if_pos rfl]
theorem valT_mul {t : Tb} (hR : Rt t) {N : Nat} (hN : t.n = N) {a b : PS} (ha : a.ok) (hb : b.ok) (han : a.n = N) (hbn : b.n = N) (h1 : valT t a = 1) (h2 : valT t b = 1) : valT t (a.mul b) = 1 := by
  obtain ⟨a1, a2⟩ := (valT_one hR hN ha han).1 h1
  obtain ⟨b1, b2⟩ := (valT_one hR hN hb hbn).1 h2
  refine (valT_one hR hN (ha.mul hb (han.trans hbn.symm)) han).2 ⟨fun j hj => com_mul (a1 j hj) (b1 j hj), ?_⟩
  have e : selC t.rows (a.mul b) = fun k => selC t.rows a k ^^ selC t.rows b k := funext fun k => selC_mul k
  rw [e, prd_xor hR hN _ _ N (Nat.le_refl _), a2, b2]
theorem prd_one {t : Tb} (hR : Rt t) {N : Nat} (hN : t.n = N) {i : Nat} (hi : i < N) : ∀ m, m ≤ N → prd t.rows N (fun k => decide (k = i)) m = if i < m then nthP t.rows (N + i) else eyeP N
  | 0, _ => rfl
  | m + 1, hm => by
    have ih := prd_one hR hN hi m (by omega)
    have hr := hR.ok hN (show N + i < 2 * N by omega)
    have e : prd t.rows N (fun k => decide (k = i)) (m + 1) = if decide (m = i) = true then (prd t.rows N (fun k => decide (k = i)) m).mul (nthP t.rows (N + m)) else prd t.rows N (fun k => decide (k = i)) m := rfl
    rw [e, ih]
    by_cases g : m = i
    · subst g
      rw [decide_eq_true rfl, if_pos rfl, if_neg (by omega), if_pos (by omega)]
      have h := eye_mulS hr.1.f1
      rw [hr.2.1] at h
      exact h
    · rw [decide_eq_false g, if_neg (by decide)]
      by_cases g2 : i < m
      · rw [if_pos g2, if_pos (by omega)]
      · rw [if_neg g2, if_neg (by omega)]
/-- A stabilizer's value is 1. -/
theorem valT_stab {t : Tb} (hR : Rt t) {N : Nat} (hN : t.n = N) {i : Nat} (hi : i < N) : valT t (nthP t.rows (N + i)) = 1 := by
  have hr := hR.ok hN (show N + i < 2 * N by omega)
  refine (valT_one hR hN hr.1 hr.2.1).2 ⟨fun j hj => stab_com hR hN hj hi, ?_⟩
  have e : ∀ k, k < N → selC t.rows (nthP t.rows (N + i)) k = decide (k = i) := fun k hk => by
    have h := (hR.basis hN).2 k (N + i) (by omega) (by omega)
    have d : decide (comS (nthP t.rows k) (nthP t.rows (N + i))) = decide ((if N + i = PL.prt N k then 1 else 0) = 0) := by
      rw [← h]; rfl
    unfold selC
    rw [d]
    have hp : N + i = PL.prt N k ↔ k = i := by unfold PL.prt; rw [if_pos hk]; omega
    by_cases g : k = i
    · rw [if_pos (hp.2 g), decide_eq_true g]; rfl
    · rw [if_neg (fun h => g (hp.1 h)), decide_eq_false g]; rfl
  rw [prd_cong t.rows N N e, prd_one hR hN hi N (Nat.le_refl _), if_pos hi]
theorem allOne_iff {t u : Tb} (hu : Rt u) {N : Nat} (hN : u.n = N) : allOne t u ↔ ∀ j, j < N → valT t (nthP u.rows (N + j)) = 1 := by
  have hl := hu.len
  have e : u.n.toNat = N := by omega
  have hlen : (u.rows.drop N).length = N := by rw [List.length_drop]; omega
  unfold allOne
  rw [e]
  constructor
  · intro h j hj
    have h1 := h j (by rw [hlen]; exact hj)
    rw [List.getElem_drop] at h1
    rw [nthP_at (show N + j < u.rows.length by omega)]
    exact h1
  · intro h j hj
    have hj' : j < N := by rw [hlen] at hj; exact hj
    have h1 := h j hj'
    rw [nthP_at (show N + j < u.rows.length by omega)] at h1
    rw [List.getElem_drop]
    exact h1
theorem allOne_self {t : Tb} (hR : Rt t) : allOne t t := by
  obtain ⟨N, hN⟩ := Int.eq_ofNat_of_zero_le hR.n0
  exact (allOne_iff hR hN).2 fun j hj => valT_stab hR hN hj
theorem prd_val {t u : Tb} (ht : Rt t) (hu : Rt u) {N : Nat} (hN : t.n = N) (hM : u.n = N) (h : ∀ j, j < N → valT t (nthP u.rows (N + j)) = 1) (c : Nat → Bool) : ∀ m, m ≤ N → valT t (prd u.rows N c m) = 1
  | 0, _ => by
    have hn := ht.n1
    have hok : (eyeP N).ok := ⟨by show N ≤ 64; omega, Nat.two_pow_pos _, Nat.two_pow_pos _, by show 0 < 4; omega⟩
    refine (valT_one ht hN (p := eyeP N) hok rfl).2 ⟨fun j hj => PL.comB_nil _ _, ?_⟩
    have e : ∀ k, k < N → selC t.rows (eyeP N) k = false := fun k _ => by
      unfold selC
      rw [decide_eq_true (show comS (nthP t.rows k) (eyeP N) from PL.comB_nil _ _)]
      rfl
    rw [prd_cong t.rows N N e]
    have z : ∀ m, prd t.rows N (fun _ => false) m = eyeP N := fun m => by
      induction m with
      | zero => rfl
      | succ m ih => exact ih
    exact z N
  | m + 1, hm => by
    have ih := prd_val ht hu hN hM h c m (by omega)
    obtain ⟨b1, b2, _, _⟩ := prd_gen hu hM c m (by omega)
    have hr := hu.ok hM (show N + m < 2 * N by omega)
    show valT t (if c m = true then _ else _ : PS) = 1
    cases c m with
    | false => exact ih
    | true =>
      rw [if_pos rfl]
      exact valT_mul ht hN b1 hr.1 b2 hr.2.1 ih (h m (by omega))
/-- Where one group holds the other's stabilizers, the other holds its. -/
theorem allOne_swap {t u : Tb} (ht : Rt t) (hu : Rt u) (hn : t.n = u.n) (h : allOne t u) : allOne u t := by
  obtain ⟨N, hN⟩ := Int.eq_ofNat_of_zero_le ht.n0
  have hM : u.n = N := hn.symm.trans hN
  have h1 := (allOne_iff hu hM).1 h
  refine (allOne_iff ht hN).2 fun i hi => ?_
  have hr := ht.ok hN (show N + i < 2 * N by omega)
  have hc : ∀ j, j < N → comS (nthP u.rows (N + j)) (nthP t.rows (N + i)) := fun j hj =>
    comS_sym.1 (((valT_one ht hN (hu.ok hM (show N + j < 2 * N by omega)).1 (hu.ok hM (show N + j < 2 * N by omega)).2.1).1 (h1 j hj)).1 i hi)
  rw [valT_phase hu hM hr.1 hr.2.1 hc]
  obtain ⟨p1, p2, p3, p4, p5⟩ := prd_all hu hM hr.1 hr.2.1 hc
  by_cases e : (prd u.rows N (selC u.rows (nthP t.rows (N + i))) N).f = (nthP t.rows (N + i)).f
  · rw [if_pos e]
  · exfalso
    have h2 := prd_val ht hu hN hM h1 (selC u.rows (nthP t.rows (N + i))) N (Nat.le_refl _)
    have h3 : prd u.rows N (selC u.rows (nthP t.rows (N + i))) N = flipS (nthP t.rows (N + i)) := by
      refine ps_ext (p2.trans hr.2.1.symm) p4 p5 ?_
      have q1 := p1.f1
      have q2 := hr.1.f1
      have q3 := hr.2.2
      show _ = ((nthP t.rows (N + i)).f + 2) % 4
      omega
    rw [h3, valT_flip ht hN hr.1 hr.2.1 hr.2.2, valT_stab ht hN hi] at h2
    cases h2
end Go.Proofs.Ytoddbaljnlhhaab
namespace Go.Proofs.Ytoddbaljnlhhaab
open Go.RowKit Go.Sort
open PL (pv PS bt cgk cgT cgB)

/-- A row behind an outcome that was not certain: multiplied by p where it flips the qubit. -/
def chF (q : Nat) (p r : Pr) : Pr := if flp q r = true then ⟨(p.ps.mul r.ps).n, (p.ps.mul r.ps).x, (p.ps.mul r.ps).z, (p.ps.mul r.ps).f⟩ else r
def chR (rows : List Pr) (N q : Nat) (bit : Int) (i : Nat) (p : Pr) : List Pr := ((rows.map (chF q p)).set i p).set (N + i) ⟨N, 0, 2 ^ q, 2 * bit⟩
theorem pop_pow_and (x q : Nat) : ∀ n, PL.pop n (x &&& 2 ^ q) = if q < n then bt x q else 0
  | 0 => rfl
  | n + 1 => by
    simp only [PL.pop]
    rw [pop_pow_and x q n, PL.bt_and, PL.bt_pow]
    by_cases e : n = q
    · subst e; simp
    · rw [if_neg e, Nat.mul_zero, Nat.add_zero]
      by_cases g : q < n
      · rw [if_pos g, if_pos (by omega)]
      · rw [if_neg g, if_neg (by omega)]
/-- With Z on a qubit commutes what does not flip it. -/
theorem com_z (x z q : Nat) (hq : q < 64) : PL.comB x z 0 (2 ^ q) = bt x q := by
  rw [PL.comB_is, pop_pow_and, if_pos hq, Nat.and_zero, PL.pop_zero]
  have := PL.bt_le x q
  omega
theorem com_z' (x z q : Nat) (hq : q < 64) : PL.comB 0 (2 ^ q) x z = bt x q := by rw [PL.comB_sym, com_z x z q hq]
theorem chF_ps (q : Nat) (p r : Pr) : (chF q p r).ps = if flp q r = true then p.ps.mul r.ps else r.ps := by
  unfold chF
  split <;> rfl
/-- The new rows, by number. -/
theorem chR_at {rows : List Pr} {N q i : Nat} {bit : Int} {p : Pr} (hl : rows.length = 2 * N) (hi : i < N) {j : Nat} (hj : j < 2 * N) :
    (chR rows N q bit i p)[j]? = some (if j = N + i then ⟨N, 0, 2 ^ q, 2 * bit⟩ else if j = i then p else chF q p (rows[j]'(by omega))) := by
  unfold chR
  rw [List.getElem?_set]
  by_cases e : N + i = j
  · rw [if_pos e, if_pos (by simp; omega), if_pos e.symm]
  · rw [if_neg e, List.getElem?_set]
    by_cases g : i = j
    · rw [if_pos g, if_pos (by simp; omega), if_neg (fun h => e h.symm), if_pos g.symm]
    · rw [if_neg g, if_neg (fun h => e h.symm), if_neg (fun h => g h.symm), List.getElem?_map, List.getElem?_eq_getElem (by omega)]
      rfl
theorem chR_len (rows : List Pr) (N q i : Nat) (bit : Int) (p : Pr) : (chR rows N q bit i p).length = rows.length := by unfold chR; simp
/-- What is needed of the row that is chosen: it is stabilizer i, and flips the qubit. -/
structure Chs (t : Tb) (N q i : Nat) (bit : Int) (p : Pr) : Prop where
  hR : Rt t
  hN : t.n = N
  hq : q < N
  hb : bit = 0 ∨ bit = 1
  hi : i < N
  hp : t.rows[N + i]? = some p
  hf : flp q p = true
variable {t : Tb} {N q i : Nat} {bit : Int} {p : Pr}
theorem Chs.len (h : Chs t N q i bit p) : t.rows.length = 2 * N := by have := h.hR.len; have := h.hN; omega
theorem Chs.n64 (h : Chs t N q i bit p) : N ≤ 64 := by have := h.hR.n1; have := h.hN; omega
theorem Chs.prow (h : Chs t N q i bit p) : rowOk (N : Nat) p := by
  have hl := h.len
  have hi := h.hi
  have hp := h.hp
  rw [List.getElem?_eq_getElem (by omega)] at hp
  rw [← Option.some.inj hp, ← h.hN]
  exact h.hR.row _ _
theorem Chs.at_i (h : Chs t N q i bit p) : nthP t.rows (N + i) = p.ps := by
  have hl := h.len
  have hi := h.hi
  have hp := h.hp
  rw [List.getElem?_eq_getElem (by omega)] at hp
  rw [nthP_at (by omega), Option.some.inj hp]
theorem Chs.bitp (h : Chs t N q i bit p) : bt p.ps.x q = 1 := by
  have := h.hf
  unfold flp at this
  exact beq_iff_eq.1 this
/-- The new row j as a string. -/
def nwP (rows : List Pr) (N q i : Nat) (bit : Int) (p : Pr) (j : Nat) : PS :=
  if j = N + i then ⟨N, 0, 2 ^ q, (2 * bit).toNat⟩ else if j = i then p.ps else if bt (nthP rows j).x q = 1 then p.ps.mul (nthP rows j) else nthP rows j
theorem Chs.nw (h : Chs t N q i bit p) {j : Nat} (hj : j < 2 * N) : nthP (chR t.rows N q bit i p) j = nwP t.rows N q i bit p j := by
  have hl := h.len
  have e := chR_at (q := q) (bit := bit) (p := p) hl h.hi hj
  unfold nthP
  rw [List.getD_eq_getElem?_getD, e, Option.getD_some]
  unfold nwP
  by_cases g : j = N + i
  · rw [if_pos g, if_pos g]
    rfl
  · rw [if_neg g, if_neg g]
    by_cases g2 : j = i
    · rw [if_pos g2, if_pos g2]
    · rw [if_neg g2, if_neg g2, chF_ps, nthP_at (show j < t.rows.length by omega)]
      have e2 : flp q (t.rows[j]'(by omega)) = true ↔ bt (t.rows[j]'(by omega)).ps.x q = 1 := by unfold flp; exact beq_iff_eq
      by_cases g3 : bt (t.rows[j]'(by omega)).ps.x q = 1
      · rw [if_pos (e2.2 g3), if_pos g3]
      · rw [if_neg (fun k => g3 (e2.1 k)), if_neg g3]
/-- How two old rows commute. -/
theorem Chs.old (h : Chs t N q i bit p) {j k : Nat} (hj : j < 2 * N) (hk : k < 2 * N) : PL.comB (nthP t.rows j).x (nthP t.rows j).z (nthP t.rows k).x (nthP t.rows k).z = if k = PL.prt N j then 1 else 0 := (h.hR.basis h.hN).2 j k hj hk
theorem Chs.withp (h : Chs t N q i bit p) {j : Nat} (hj : j < 2 * N) (hji : j ≠ i) : PL.comB (nthP t.rows j).x (nthP t.rows j).z p.ps.x p.ps.z = 0 := by
  have e := h.old (k := N + i) hj (by have := h.hi; omega)
  rw [h.at_i] at e
  rw [e, if_neg (by have := h.hi; unfold PL.prt; split <;> omega)]
theorem Chs.nw_ok (h : Chs t N q i bit p) {j : Nat} (hj : j < 2 * N) : (nwP t.rows N q i bit p j).ok ∧ (nwP t.rows N q i bit p j).n = N ∧ (nwP t.rows N q i bit p j).f % 2 = 0 := by
  have hr := h.hR.ok h.hN hj
  have hpr := h.prow
  have hpp := hpr.ps
  have hb := h.hb
  have hn := h.n64
  have hq := h.hq
  have hpf : p.ps.f % 2 = 0 := by
    have h2 := hpr.2.2
    rw [hpp.2.2] at h2
    have h2 : ((p.ps.f : Nat) : Int) % 2 = 0 := h2
    omega
  have hpn : p.ps.n = N := by have := hpp.2.1; omega
  unfold nwP
  by_cases g : j = N + i
  · rw [if_pos g]
    refine ⟨⟨hn, Nat.two_pow_pos _, Nat.pow_lt_pow_right (by omega) hq, ?_⟩, rfl, ?_⟩
    · show (2 * bit).toNat < 4; omega
    · show (2 * bit).toNat % 2 = 0; omega
  · rw [if_neg g]
    by_cases g2 : j = i
    · rw [if_pos g2]; exact ⟨hpp.1, hpn, hpf⟩
    · rw [if_neg g2]
      by_cases g3 : bt (nthP t.rows j).x q = 1
      · rw [if_pos g3]
        refine ⟨hpp.1.mul hr.1 (hpn.trans hr.2.1.symm), hpn, mul_even hpf hr.2.2 ?_⟩
        exact comS_sym.1 (h.withp hj g2)
      · rw [if_neg g3]; exact hr
/-- A new row that is neither of the two: an old one, or p times it. -/
theorem nw_com (rows : List Pr) {j : Nat} (hj1 : j ≠ N + i) (hj2 : j ≠ i) (x z : Nat) : PL.comB (nwP rows N q i bit p j).x (nwP rows N q i bit p j).z x z = (bt (nthP rows j).x q * PL.comB p.ps.x p.ps.z x z + PL.comB (nthP rows j).x (nthP rows j).z x z) % 2 := by
  have hb := PL.bt_le (nthP rows j).x q
  have hc := PL.comB_lt (nthP rows j).x (nthP rows j).z x z
  unfold nwP
  rw [if_neg hj1, if_neg hj2]
  by_cases g : bt (nthP rows j).x q = 1
  · rw [if_pos g, g, Nat.one_mul]
    exact PL.comB_xor _ _ _ _ _ _
  · rw [if_neg g, show bt (nthP rows j).x q = 0 by omega, Nat.zero_mul, Nat.zero_add]
    omega
theorem Chs.nw_basis (h : Chs t N q i bit p) {j k : Nat} (hk : k < j) (hj : j < 2 * N) : PL.comB (nwP t.rows N q i bit p j).x (nwP t.rows N q i bit p j).z (nwP t.rows N q i bit p k).x (nwP t.rows N q i bit p k).z = if j = k + N then 1 else 0 := by
  have hi := h.hi
  have hq := h.hq
  have hn := h.n64
  have hbp := h.bitp
  have hZ : nwP t.rows N q i bit p (N + i) = ⟨N, 0, 2 ^ q, (2 * bit).toNat⟩ := by unfold nwP; rw [if_pos rfl]
  have hI : nwP t.rows N q i bit p i = p.ps := by unfold nwP; rw [if_neg (by omega), if_pos rfl]
  have hzz : ∀ j, j < 2 * N → j ≠ N + i → j ≠ i → PL.comB (nwP t.rows N q i bit p j).x (nwP t.rows N q i bit p j).z 0 (2 ^ q) = 0 := fun j _ g1 g2 => by
    rw [nw_com t.rows g1 g2, com_z _ _ _ (by omega), com_z _ _ _ (by omega), hbp]
    have := PL.bt_le (nthP t.rows j).x q
    omega
  have hpp : ∀ j, j < 2 * N → j ≠ N + i → j ≠ i → PL.comB (nwP t.rows N q i bit p j).x (nwP t.rows N q i bit p j).z p.ps.x p.ps.z = 0 := fun j hj g1 g2 => by
    rw [nw_com t.rows g1 g2, PL.comB_self, h.withp hj g2]
    omega
  have hkl : k < 2 * N := by omega
  by_cases j1 : j = N + i
  · rw [j1, hZ]
    by_cases k2 : k = i
    · rw [k2, hI, if_pos (by omega), com_z' _ _ _ (by omega), hbp]
    · rw [PL.comB_sym, hzz k hkl (by omega) k2, if_neg (by omega)]
  · by_cases j2 : j = i
    · rw [j2, hI, PL.comB_sym, hpp k hkl (by omega) (by omega), if_neg (by omega)]
    · by_cases k1 : k = N + i
      · rw [k1, hZ, hzz j hj j1 j2, if_neg (by omega)]
      · by_cases k2 : k = i
        · rw [k2, hI, hpp j hj j1 j2, if_neg (by omega)]
        · rw [nw_com t.rows j1 j2, PL.comB_sym p.ps.x, PL.comB_sym (nthP t.rows j).x, nw_com t.rows k1 k2, nw_com t.rows k1 k2, PL.comB_self, h.withp hkl k2, PL.comB_sym p.ps.x, h.withp hj j2, h.old hkl hj]
          have e : j = PL.prt N k ↔ j = k + N := by unfold PL.prt; split <;> omega
          by_cases g : j = k + N
          · rw [if_pos (e.2 g), if_pos g]; simp
          · rw [if_neg (fun x => g (e.1 x)), if_neg g]; simp
/-- The new tableau is right. -/
theorem Chs.rt (h : Chs t N q i bit p) : Rt ⟨t.n, chR t.rows N q bit i p⟩ := by
  have hl := h.len
  have hN := h.hN
  have hn := h.n64
  have hlc := chR_len t.rows N q i bit p
  refine ⟨by show 0 ≤ t.n; omega, by show t.n ≤ 64; omega, by show ((chR t.rows N q bit i p).length : Int) = 2 * t.n; omega, fun j hj => ?_, fun j hj k hk => ?_⟩
  · have hj : j < (chR t.rows N q bit i p).length := hj
    have hj2 : j < 2 * N := by omega
    have e := h.nw hj2
    rw [nthP_at hj] at e
    have ho := h.nw_ok hj2
    have hf0 : 0 ≤ (chR t.rows N q bit i p)[j].f ∧ 0 ≤ (chR t.rows N q bit i p)[j].n := by
      have e2 := chR_at (q := q) (bit := bit) (p := p) hl h.hi hj2
      rw [List.getElem?_eq_getElem hj] at e2
      rw [Option.some.inj e2]
      have hb := h.hb
      split
      · exact ⟨by show 0 ≤ 2 * bit; omega, by show 0 ≤ ((N : Nat) : Int); omega⟩
      · split
        · exact ⟨h.prow.1.f0, h.prow.1.n0⟩
        · unfold chF
          split
          · exact ⟨by show (0 : Int) ≤ ((_ : Nat) : Int); omega, by show (0 : Int) ≤ ((_ : Nat) : Int); omega⟩
          · exact ⟨(h.hR.row j (by omega)).1.f0, (h.hR.row j (by omega)).1.n0⟩
    have er : (chR t.rows N q bit i p)[j] = ⟨((nwP t.rows N q i bit p j).n : Nat), (nwP t.rows N q i bit p j).x, (nwP t.rows N q i bit p j).z, ((nwP t.rows N q i bit p j).f : Nat)⟩ := by
      rw [← e]
      generalize (chR t.rows N q bit i p)[j] = r at hf0
      obtain ⟨r0, r1, r2, r3⟩ := r
      show (⟨r0, r1, r2, r3⟩ : Pr) = ⟨(r0.toNat : Nat), r1, r2, (r3.toNat : Nat)⟩
      have h1 : 0 ≤ r3 := hf0.1
      have h2 : 0 ≤ r0 := hf0.2
      rw [Int.toNat_of_nonneg h1, Int.toNat_of_nonneg h2]
    show rowOk t.n (chR t.rows N q bit i p)[j]
    rw [er]
    refine ⟨gd_of ho.1, by show ((nwP t.rows N q i bit p j).n : Int) = t.n; rw [ho.2.1, hN], ?_⟩
    have := ho.2.2
    show ((nwP t.rows N q i bit p j).f : Int) % 2 = 0
    omega
  · have hj : j < (chR t.rows N q bit i p).length := hj
    have hj2 : j < 2 * N := by omega
    have hk2 : k < (chR t.rows N q bit i p).length := by omega
    have e1 := h.nw hj2
    have e2 := h.nw (show k < 2 * N by omega)
    rw [nthP_at hj] at e1
    rw [nthP_at hk2] at e2
    have b := h.nw_basis hk hj2
    have hc : comP (chR t.rows N q bit i p)[j] (chR t.rows N q bit i p)[k] ↔ PL.comB (nwP t.rows N q i bit p j).x (nwP t.rows N q i bit p j).z (nwP t.rows N q i bit p k).x (nwP t.rows N q i bit p k).z = 0 := by
      rw [← e1, ← e2]; exact Iff.rfl
    show comP (chR t.rows N q bit i p)[j] (chR t.rows N q bit i p)[k] ↔ ¬ (j : Int) = (k : Int) + t.n
    rw [hc, b]
    by_cases g : j = k + N
    · rw [if_pos g]; constructor
      · intro x; cases x
      · intro x; exact absurd (by rw [hN]; omega) x
    · rw [if_neg g]
      exact ⟨fun _ => by rw [hN]; omega, fun _ => rfl⟩
end Go.Proofs.Ytoddbaljnlhhaab
