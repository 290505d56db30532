/-
  Put together of: JT JU JV.
-/
import Derived.Test.YtoddbaljnlhhaabYJ
import Derived.Test.YtoddbaljnlhhaabYG
namespace Go.Proofs.Ytoddbaljnlhhaab
open Go.RowKit Go.Sort
open PL (pv PS bt cgk cgT)
open BL (pickN putN)

theorem trS_all {p : PS} (hp : p.ok) : trS p p.n = p := ps_ext rfl (trX_all hp.x1) (trX_all hp.z1) rfl
theorem bmp_ok {p : PS} (hp : p.ok) : (bmp p).ok := ⟨hp.n1, hp.x1, hp.z1, Nat.mod_lt _ (by decide)⟩
theorem mul_call (A G : PS) (W : World) (hA : A.ok) (hG : G.ok) (hn : A.n = G.n) : Calls Try.prog 21 #[pv (A.n : Nat) A.x A.z (A.f : Nat), G.v] W fun e w' => e = .returned (pv (A.n : Nat) (A.mul G).x (A.mul G).z ((A.mul G).f : Nat)) ∧ Below W.heap.size W w' := rmulT_any A G W hA hG hn
set_option maxHeartbeats 1000000 in
theorem rturn_smp (i : Nat) (hs : smp i) (p : PS) (hp : p.ok) (q : Nat → Int) (aq : Option Addr) (cq : Nat) (w : World) (HQ : BL.Row aq q (cgk i) w) (hP : BL.Plc q (cgk i)) (hq : ∀ m, m < cgk i → 0 ≤ q m ∧ q m < (p.n : Nat)) (hcq : cgk i ≤ cq) :
    Calls Try.prog 18 #[p.v, .string (cgN i), .slice aq (cgk i : Nat) cq] w fun e w' => e = .returned (trP i q p).v ∧ Below w.heap.size w w' := by
  have hi := smp_lt hs
  have hN := hp.n1
  have okG : ∀ j, j < p.n → ∀ x, (trP i q (gL p.n j x)).ok := fun j hj x => trP_ok hi (gl_ok p.n j hN hj x) hP (fun m hm => by
    have h := (hq m hm).2
    cases x <;> exact h)
  have okS : ∀ j, (trP i q (trS p j)).ok := fun j => trP_ok hi (trS_ok hp j) hP (fun m hm => (hq m hm).2)
  have nG : ∀ j x, (trP i q (gL p.n j x)).n = p.n := fun j x => by cases x <;> rfl
  have IM : ∀ j, j < p.n → ∀ x, ∀ W, Below w.heap.size w W → Calls Try.prog 40 #[.int .i64 (p.n : Nat), .string (cgN i), .slice aq (cgk i : Nat) cq, .int .i64 (j : Nat), .bool x] W fun e w' => e = .returned (trP i q (gL p.n j x)).v ∧ Below W.heap.size W w' := fun j hj x W hb =>
    rim_any i hs p.n j hN hj x q aq cq W (HQ.below hb) hP hq hcq
  have h := rturn_walk (cgN i) p.n p.x p.z p.f hN hp.xl hp.zl aq (cgk i) cq w (fun W => rparts_no i hi (smp_pr hs) W) (fun j => trP i q (trS p j)) (trP_eye hp.f1) rfl (fun j hj => by
    have hst := trP_st (i := i) (q := q) (p := p) (A := trS p j) (j := j) hi hP
    rw [trS_step hp.f1 (by omega)] at hst
    refine ⟨rfl, (okS j).f1, rfl, ?_⟩
    show _ ∨ _ ∨ _ ∨ _
    by_cases h1 : bt p.x j = 1
    · by_cases h2 : bt p.z j = 1
      · simp only [h1, h2, and_self, if_true] at hst
        refine .inr (.inr (.inr ⟨by rw [h1]; rfl, by rw [h2]; rfl, trP i q (gL p.n j true), trP i q (gL p.n j false), (bmp (trP i q (trS p j))).mul (trP i q (gL p.n j true)), rfl, IM j hj true, fun W => ?_, IM j hj false, fun W => ?_⟩))
        · exact mul_call (bmp (trP i q (trS p j))) _ W (bmp_ok (okS j)) (okG j hj true) (nG j true).symm
        · rw [hst]
          exact mul_call ((bmp (trP i q (trS p j))).mul (trP i q (gL p.n j true))) _ W ((bmp_ok (okS j)).mul (okG j hj true) (nG j true).symm) (okG j hj false) (nG j false).symm
      · have z2 : (bt p.z j == 1) = false := beq_eq_false_iff_ne.2 h2
        simp only [h1, h2, and_false, if_true, if_false] at hst
        refine .inr (.inl ⟨by rw [h1]; rfl, z2, trP i q (gL p.n j true), IM j hj true, fun W => ?_⟩)
        rw [hst]
        exact mul_call (trP i q (trS p j)) _ W (okS j) (okG j hj true) (nG j true).symm
    · have z1 : (bt p.x j == 1) = false := beq_eq_false_iff_ne.2 h1
      by_cases h2 : bt p.z j = 1
      · simp only [h1, h2, false_and, if_true, if_false] at hst
        refine .inr (.inr (.inl ⟨z1, by rw [h2]; rfl, trP i q (gL p.n j false), IM j hj false, fun W => ?_⟩))
        rw [hst]
        exact mul_call (trP i q (trS p j)) _ W (okS j) (okG j hj false) (nG j false).symm
      · have z2 : (bt p.z j == 1) = false := beq_eq_false_iff_ne.2 h2
        simp only [h1, h2, false_and, if_false] at hst
        exact .inl ⟨z1, z2, hst⟩)
  have e : trP i q (trS p p.n) = trP i q p := by rw [trS_all hp]
  rw [← e]
  exact h
end Go.Proofs.Ytoddbaljnlhhaab
namespace Go.Proofs.Ytoddbaljnlhhaab
open Go.RowKit Go.Sort
open PL (pv PS bt cgk cgT)
open BL (pickN putN)

/-- What goes through products, phases and the string without letters. -/
structure Hm (F : PS → PS) : Prop where
  mul : ∀ a b, F (a.mul b) = (F a).mul (F b)
  bm : ∀ a, F (bmp a) = bmp (F a)
  eye : ∀ n f, f < 4 → F ⟨n, 0, 0, f⟩ = ⟨n, 0, 0, f⟩
theorem Hm.of {i : Nat} (hi : i < 17) {q : Nat → Int} (hP : BL.Plc q (cgk i)) : Hm (trP i q) := ⟨fun a b => trP_mul hi hP a b, fun a => trP_bmp a, fun _ _ hf => trP_eye hf⟩
theorem Hm.comp {F G : PS → PS} (hF : Hm F) (hG : Hm G) : Hm (fun p => F (G p)) :=
  ⟨fun a b => by rw [hG.mul, hF.mul], fun a => by rw [hG.bm, hF.bm], fun n f h => by rw [hG.eye n f h, hF.eye n f h]⟩
theorem Hm.id : Hm (fun p => p) := ⟨fun _ _ => rfl, fun _ => rfl, fun _ _ _ => rfl⟩
theorem hm_st {F G : PS → PS} (hF : Hm F) (hG : Hm G) {p A : PS} {j : Nat} (h : F A = G A) (hx : F (gX p.n j) = G (gX p.n j)) (hz : F (gZ p.n j) = G (gZ p.n j)) :
    F (st3 p j (st2 p j (st1 p j A))) = G (st3 p j (st2 p j (st1 p j A))) := by
  have h1 : F (st1 p j A) = G (st1 p j A) := by
    unfold st1
    split
    · rw [hF.bm, hG.bm, h]
    · exact h
  have h2 : F (st2 p j (st1 p j A)) = G (st2 p j (st1 p j A)) := by
    generalize st1 p j A = B at *
    unfold st2
    split
    · rw [hF.mul, hG.mul, h1, hx]
    · exact h1
  generalize st2 p j (st1 p j A) = B at *
  unfold st3
  split
  · rw [hF.mul, hG.mul, h2, hz]
  · exact h2
/-- Two of them that agree on the letters agree. -/
theorem hm_ext {F G : PS → PS} (hF : Hm F) (hG : Hm G) {p : PS} (hp : p.ok) (hL : ∀ j, j < p.n → F (gX p.n j) = G (gX p.n j) ∧ F (gZ p.n j) = G (gZ p.n j)) : F p = G p := by
  have key : ∀ j, j ≤ p.n → F (trS p j) = G (trS p j) := fun j => by
    induction j with
    | zero => intro _; show F ⟨p.n, 0, 0, p.f⟩ = G ⟨p.n, 0, 0, p.f⟩; rw [hF.eye _ _ hp.f1, hG.eye _ _ hp.f1]
    | succ j ih =>
      intro hj
      have h := hm_st hF hG (p := p) (j := j) (ih (by omega)) (hL j (by omega)).1 (hL j (by omega)).2
      rwa [trS_step hp.f1 (by have := hp.n1; omega)] at h
  have h := key p.n (Nat.le_refl _)
  have e : trS p p.n = p := ps_ext rfl (trX_all hp.x1) (trX_all hp.z1) rfl
  rwa [e] at h
/-- Some of the two qubits: 0 the first, 1 the second, 2 both, 3 both the other way round. -/
def qs (s : Nat) (q : Nat → Int) : Nat → Int := fun m => if s = 0 then q 0 else if s = 1 then q 1 else if s = 2 then q m else q (1 - m)
/-- The part's step. -/
def bset1 (a s v : Nat) : Nat := if bt a s = v then a else a ^^^ 2 ^ s
def swp (a : Nat) : Nat := (if bt a 0 = 1 then 2 else 0) + (if bt a 1 = 1 then 1 else 0)
def loc (g s : Nat) (t : PL.T3) : PL.T3 :=
  if s = 0 ∨ s = 1 then (bset1 t.1 s (PL.lt2 (cgT g) 1 (bt t.1 s) (bt t.2.1 s) 0).1, bset1 t.2.1 s (PL.lt2 (cgT g) 1 (bt t.1 s) (bt t.2.1 s) 0).2.1, (t.2.2 + (PL.lt2 (cgT g) 1 (bt t.1 s) (bt t.2.1 s) 0).2.2) % 4)
  else if s = 2 then ((PL.lt2 (cgT g) 2 t.1 t.2.1 0).1, (PL.lt2 (cgT g) 2 t.1 t.2.1 0).2.1, (t.2.2 + (PL.lt2 (cgT g) 2 t.1 t.2.1 0).2.2) % 4)
  else (swp (PL.lt2 (cgT g) 2 (swp t.1) (swp t.2.1) 0).1, swp (PL.lt2 (cgT g) 2 (swp t.1) (swp t.2.1) 0).2.1, (t.2.2 + (PL.lt2 (cgT g) 2 (swp t.1) (swp t.2.1) 0).2.2) % 4)
section
variable {q : Nat → Int}
theorem plc_one (h : BL.Plc q 2) {s : Nat} (hs : s = 0 ∨ s = 1) : BL.Plc (qs s q) 1 := fun j hj => by
  obtain rfl : j = 0 := by omega
  rcases hs with rfl | rfl
  · have h0 := h 0 (by decide)
    exact ⟨h0.1, h0.2.1, fun m hm => absurd hm (Nat.not_lt_zero _)⟩
  · have h1 := h 1 (by decide)
    exact ⟨h1.1, h1.2.1, fun m hm => absurd hm (Nat.not_lt_zero _)⟩
theorem qs_at {s : Nat} (hs : s = 0 ∨ s = 1) : qs s q 0 = q s := by rcases hs with rfl | rfl <;> rfl
theorem pick_one (h : BL.Plc q 2) {s : Nat} (hs : s = 0 ∨ s = 1) (a : Nat) : pickN (emb q 2 a) (qs s q) 1 = bt a s := PL.ext_bt fun i => by
  have h1 := BL.bt_pick (emb q 2 a) (qs s q) 1 i
  simp only [PL.bb] at h1
  rw [h1]
  have hb := PL.bt_le a s
  by_cases e : i = 0
  · subst e
    rw [if_pos (by decide), qs_at hs, bt_emb_at h (by omega)]
    rcases PL.bt01 a s with g | g <;> rw [g] <;> decide
  · rw [if_neg (by omega)]
    rcases PL.bt01 a s with g | g
    · rw [g, PL.bt_nought]
    · rw [g]
      have := PL.bt_pow 0 i
      rw [if_neg e] at this
      exact this.symm
theorem bt_bset1 {a s v i : Nat} (hv : v ≤ 1) : bt (bset1 a s v) i = if i = s then v else bt a i := by
  unfold bset1
  have hb := PL.bt_le a s
  by_cases e : bt a s = v
  · rw [if_pos e]
    by_cases g : i = s
    · subst g; rw [if_pos rfl, e]
    · rw [if_neg g]
  · rw [if_neg e, PL.bt_xor_pow]
    by_cases g : i = s
    · rw [if_pos g, if_pos g]; omega
    · rw [if_neg g, if_neg g]
theorem put_one (h : BL.Plc q 2) {s : Nat} (hs : s = 0 ∨ s = 1) (a v : Nat) (hv : v ≤ 1) : putN v (qs s q) (emb q 2 a) 1 = emb q 2 (bset1 a s v) := PL.ext_bt fun i => by
  have hP := plc_one h hs
  have hs2 : s < 2 := by omega
  have bv : bt v 0 = v := by rcases (show v = 0 ∨ v = 1 by omega) with rfl | rfl <;> decide
  by_cases e : i = (q s).toNat
  · subst e
    have h1 := BL.bt_put_at (v := v) (x := emb q 2 a) hP (j := 0) (by decide)
    simp only [PL.bb] at h1
    rw [qs_at hs] at h1
    rw [h1, bt_emb_at h hs2, bt_bset1 hv, if_pos rfl, bv]
  · have h1 := BL.bt_put_not (v := v) (x := emb q 2 a) (p := qs s q) (k := 1) (i := i) (fun m hm g => by
      obtain rfl : m = 0 := by omega
      rw [qs_at hs] at g
      exact e g.symm)
    simp only [PL.bb] at h1
    rw [h1]
    rcases PL.at_or_not q 2 i with ⟨m, hm, rfl⟩ | hn
    · have hms : m ≠ s := fun g => e (by rw [g])
      rw [bt_emb_at h hm, bt_emb_at h hm, bt_bset1 hv, if_neg hms]
    · rw [bt_emb_not hn, bt_emb_not hn]
theorem plc_swap (h : BL.Plc q 2) : BL.Plc (qs 3 q) 2 := fun j hj => by
  have h0 := h 0 (by decide)
  have h1 := h 1 (by decide)
  have hne := h1.2.2 0 (by decide)
  rcases (show j = 0 ∨ j = 1 by omega) with rfl | rfl
  · exact ⟨h1.1, h1.2.1, fun m hm => absurd hm (Nat.not_lt_zero _)⟩
  · refine ⟨h0.1, h0.2.1, fun m hm => ?_⟩
    obtain rfl : m = 0 := by omega
    exact fun e => hne (show q 0 = q 1 from e.symm)
theorem bt_swp {a j : Nat} (hj : j < 2) : bt (swp a) j = bt a (1 - j) := by
  unfold swp
  rcases PL.bt01 a 0 with g | g <;> rcases PL.bt01 a 1 with g' | g' <;> rcases (show j = 0 ∨ j = 1 by omega) with rfl | rfl <;> simp only [g, g'] <;> decide
theorem emb_swap (h : BL.Plc q 2) (a : Nat) : emb q 2 a = emb (qs 3 q) 2 (swp a) := PL.ext_bt fun i => by
  have hP := plc_swap h
  rcases PL.at_or_not q 2 i with ⟨m, hm, rfl⟩ | hn
  · have e : (q m).toNat = (qs 3 q (1 - m)).toNat := by rcases (show m = 0 ∨ m = 1 by omega) with rfl | rfl <;> rfl
    rw [bt_emb_at h hm, e, bt_emb_at hP (by omega), bt_swp (by omega)]
    rw [show 1 - (1 - m) = m by omega]
  · rw [bt_emb_not hn, bt_emb_not (fun j hj e => by
      rcases (show j = 0 ∨ j = 1 by omega) with rfl | rfl
      · exact hn 1 (by decide) e
      · exact hn 0 (by decide) e)]
theorem swp_swp {a : Nat} (ha : a < 4) : swp (swp a) = a := by
  rcases (show a = 0 ∨ a = 1 ∨ a = 2 ∨ a = 3 by omega) with rfl | rfl | rfl | rfl <;> decide
theorem swp_lt (a : Nat) : swp a < 4 := by unfold swp; split <;> split <;> omega
theorem tab_one : ∀ g, g < 11 → ∀ a, a < 2 → ∀ b, b < 2 → (PL.lt2 (cgT g) 1 a b 0).1 ≤ 1 ∧ (PL.lt2 (cgT g) 1 a b 0).2.1 ≤ 1 := by decide +kernel
/-- A gate on some of the two qubits, on a string with letters there alone. -/
theorem trP_loc (h : BL.Plc q 2) {g s : Nat} (hg : (g < 11 ∧ (s = 0 ∨ s = 1)) ∨ (g = 11 ∧ (s = 2 ∨ s = 3))) {n a b f : Nat} (ha : a < 4) (hb : b < 4) :
    trP g (qs s q) ⟨n, emb q 2 a, emb q 2 b, f⟩ = ⟨n, emb q 2 (loc g s (a, b, f)).1, emb q 2 (loc g s (a, b, f)).2.1, (loc g s (a, b, f)).2.2⟩ := by
  rcases hg with ⟨hg, hs⟩ | ⟨rfl, rfl | rfl⟩
  · have hk := (tab1 g hg).1
    have hS := PL.cgT_sm g (by omega)
    have hb1 := PL.bt_le a s
    have hb2 := PL.bt_le b s
    have hl := tab_one g hg (bt a s) (by omega) (bt b s) (by omega)
    have e : ltX g (qs s q) ⟨n, emb q 2 a, emb q 2 b, f⟩ = PL.lt2 (cgT g) 1 (bt a s) (bt b s) 0 := by
      unfold ltX
      rw [hk]
      show PL.lt (cgT g) 1 (pickN (emb q 2 a) (qs s q) 1) (pickN (emb q 2 b) (qs s q) 1) 0 = _
      rw [pick_one h hs, pick_one h hs]
      exact (PL.lt_2 hS 1 (x := bt a s) (bt b s) 0 (by omega)).1
    rw [trP_parts, e, hk]
    unfold loc
    rw [if_pos hs]
    exact ps_ext rfl (put_one h hs a _ hl.1) (put_one h hs b _ hl.2) rfl
  · have hS := PL.cgT_sm 11 (by decide)
    have e : qs 2 q = q := by funext m; rfl
    rw [e]
    have hh := trP_emb (i := 11) (q := q) h (n := n) (a := a) (b := b) (f := f) ha hb
    have l := (PL.lt_2 hS 2 (x := a) b 0 ha).1
    rw [show cgk 11 = 2 from rfl, l] at hh
    exact hh
  · have hS := PL.cgT_sm 11 (by decide)
    have hP := plc_swap h
    rw [emb_swap h a, emb_swap h b]
    have hh := trP_emb (i := 11) (q := qs 3 q) hP (n := n) (a := swp a) (b := swp b) (f := f) (swp_lt a) (swp_lt b)
    have l := PL.lt_2 hS 2 (x := swp a) (swp b) 0 (swp_lt a)
    rw [show cgk 11 = 2 from rfl, l.1] at hh
    rw [hh]
    unfold loc
    rw [if_neg (by decide), if_neg (by decide)]
    refine ps_ext rfl ?_ ?_ rfl
    · show emb (qs 3 q) 2 _ = emb q 2 (swp _)
      rw [emb_swap h (swp _), swp_swp l.2.1]
    · show emb (qs 3 q) 2 _ = emb q 2 (swp _)
      rw [emb_swap h (swp _), swp_swp l.2.2]
end
end Go.Proofs.Ytoddbaljnlhhaab
namespace Go.Proofs.Ytoddbaljnlhhaab
open Go.RowKit Go.Sort
open PL (pv PS bt cgk cgT)
open BL (pickN putN)

/-- A part that is none itself: a gate on some of the two qubits. -/
abbrev pgd (g : Nat × Nat) : Prop := (g.1 < 11 ∧ (g.2 = 0 ∨ g.2 = 1)) ∨ (g.1 = 11 ∧ (g.2 = 2 ∨ g.2 = 3))
def fld (gs : List (Nat × Nat)) (q : Nat → Int) (p : PS) : PS := gs.foldl (fun p g => trP g.1 (qs g.2 q) p) p
def locs (gs : List (Nat × Nat)) (t : PL.T3) : PL.T3 := gs.foldl (fun t g => loc g.1 g.2 t) t
def prL (i : Nat) : List (Nat × Nat) := (prG i).zip (prQ i)
abbrev cmp (i : Nat) : Prop := i = 12 ∨ i = 15 ∨ i = 16
theorem prL_gd {i : Nat} (hi : cmp i) : ∀ g ∈ prL i, pgd g := by
  rcases hi with rfl | rfl | rfl <;> decide
theorem pgd_k {g : Nat × Nat} (h : pgd g) : g.1 < 17 ∧ ((cgk g.1 = 1 ∧ (g.2 = 0 ∨ g.2 = 1)) ∨ (cgk g.1 = 2 ∧ (g.2 = 2 ∨ g.2 = 3))) := by
  rcases h with ⟨h, hs⟩ | ⟨h, hs⟩
  · exact ⟨by omega, .inl ⟨(tab1 g.1 h).1, hs⟩⟩
  · exact ⟨by omega, .inr ⟨by rw [h]; rfl, hs⟩⟩
section
variable {q : Nat → Int}
theorem pgd_plc (h : BL.Plc q 2) {g : Nat × Nat} (hg : pgd g) : BL.Plc (qs g.2 q) (cgk g.1) := by
  rcases (pgd_k hg).2 with ⟨k, hs⟩ | ⟨k, hs | hs⟩ <;> rw [k]
  · exact plc_one h hs
  · have e : qs 2 q = q := by funext m; rfl
    rw [hs, e]; exact h
  · rw [hs]; exact plc_swap h
theorem hm_fld (h : BL.Plc q 2) : ∀ gs : List (Nat × Nat), (∀ g ∈ gs, pgd g) → Hm (fld gs q)
  | [], _ => Hm.id
  | g :: gs, hg => Hm.comp (F := fld gs q) (G := trP g.1 (qs g.2 q)) (hm_fld h gs fun g' hg' => hg g' (List.mem_cons_of_mem _ hg')) (Hm.of (pgd_k (hg g List.mem_cons_self)).1 (pgd_plc h (hg g List.mem_cons_self)))
set_option synthInstance.maxHeartbeats 400000 in
set_option synthInstance.maxSize 2000 in
theorem loc_lt : ∀ g, g < 12 → ∀ s, s < 4 → (g < 11 ∧ s < 2) ∨ (g = 11 ∧ 1 < s) → ∀ a, a < 4 → ∀ b, b < 4 → ∀ f, f < 4 → (loc g s (a, b, f)).1 < 4 ∧ (loc g s (a, b, f)).2.1 < 4 ∧ (loc g s (a, b, f)).2.2 < 4 := by decide +kernel
theorem fld_loc (h : BL.Plc q 2) {n : Nat} : ∀ gs : List (Nat × Nat), (∀ g ∈ gs, pgd g) → ∀ a b f, a < 4 → b < 4 → f < 4 →
    fld gs q ⟨n, emb q 2 a, emb q 2 b, f⟩ = ⟨n, emb q 2 (locs gs (a, b, f)).1, emb q 2 (locs gs (a, b, f)).2.1, (locs gs (a, b, f)).2.2⟩
  | [], _, _, _, _, _, _, _ => rfl
  | g :: gs, hg, a, b, f, ha, hb, hf => by
    have hg0 := hg g List.mem_cons_self
    show fld gs q (trP g.1 (qs g.2 q) ⟨n, emb q 2 a, emb q 2 b, f⟩) = _
    rw [trP_loc h hg0 ha hb]
    have l := loc_lt g.1 (by omega) g.2 (by omega) (by omega) a ha b hb f hf
    exact fld_loc h gs (fun g' hg' => hg g' (List.mem_cons_of_mem _ hg')) _ _ _ l.1 l.2.1 l.2.2
theorem fld_off {n j : Nat} (x : Bool) (ho : ∀ m, m < 2 → (q m).toNat ≠ j) : ∀ gs : List (Nat × Nat), (∀ g ∈ gs, pgd g) → fld gs q (gL n j x) = gL n j x
  | [], _ => rfl
  | g :: gs, hg => by
    have hg0 := hg g List.mem_cons_self
    show fld gs q (trP g.1 (qs g.2 q) (gL n j x)) = _
    rw [trP_gen_off (n := n) (j := j) x (fun m hm => by
      rcases (pgd_k hg0).2 with ⟨k, hs⟩ | ⟨k, hs | hs⟩
      · rw [k] at hm
        obtain rfl : m = 0 := by omega
        rw [qs_at hs]; exact ho _ (by omega)
      · rw [k] at hm
        rw [hs]; exact ho m hm
      · rw [k] at hm
        rw [hs]; exact ho (1 - m) (by omega))]
    exact fld_off x ho gs fun g' hg' => hg g' (List.mem_cons_of_mem _ hg')
set_option synthInstance.maxHeartbeats 400000 in
set_option synthInstance.maxSize 2000 in
theorem tab_parts : ∀ i, i < 17 → cmp i → cgk i = 2 ∧ ∀ m, m < 2 → ∀ x : Bool, locs (prL i) (if x = true then 2 ^ m else 0, if x = true then 0 else 2 ^ m, 0) = ((PL.lt2 (cgT i) 2 (if x = true then 2 ^ m else 0) (if x = true then 0 else 2 ^ m) 0).1, (PL.lt2 (cgT i) 2 (if x = true then 2 ^ m else 0) (if x = true then 0 else 2 ^ m) 0).2.1, (PL.lt2 (cgT i) 2 (if x = true then 2 ^ m else 0) (if x = true then 0 else 2 ^ m) 0).2.2 % 4) := by decide +kernel
/-- The gate is its parts. -/
theorem trP_fld {i : Nat} (hi : cmp i) (h : BL.Plc q 2) {p : PS} (hp : p.ok) : trP i q p = fld (prL i) q p := by
  have hi17 : i < 17 := by rcases hi with rfl | rfl | rfl <;> decide
  obtain ⟨hk, ht⟩ := tab_parts i hi17 hi
  have hg := prL_gd hi
  have hP : BL.Plc q (cgk i) := by rw [hk]; exact h
  have key : ∀ j, ∀ x, trP i q (gL p.n j x) = fld (prL i) q (gL p.n j x) := fun j x => by
    rcases PL.at_or_not q 2 j with ⟨m, hm, rfl⟩ | hn
    · rw [im_two hi17 hk h hm x]
      have e1 : emb q 2 (2 ^ m) = 2 ^ (q m).toNat := emb_pow h hm
      have e0 : emb q 2 0 = 0 := emb_nil h
      have e : gL p.n (q m).toNat x = ⟨p.n, emb q 2 (if x = true then 2 ^ m else 0), emb q 2 (if x = true then 0 else 2 ^ m), 0⟩ := by
        cases x
        · show gZ p.n (q m).toNat = ⟨p.n, emb q 2 0, emb q 2 (2 ^ m), 0⟩
          rw [e0, e1]
        · show gX p.n (q m).toNat = ⟨p.n, emb q 2 (2 ^ m), emb q 2 0, 0⟩
          rw [e0, e1]
      have m4 : 2 ^ m < 4 := by rcases (show m = 0 ∨ m = 1 by omega) with rfl | rfl <;> decide
      rw [e, fld_loc h (prL i) hg _ _ 0 (by split <;> omega) (by split <;> omega) (by decide), ht m hm x]
    · rw [trP_gen_off x (fun m hm => hn m (by rw [hk] at hm; exact hm)), fld_off x hn (prL i) hg]
  exact hm_ext (Hm.of hi17 hP) (hm_fld h (prL i) hg) hp fun j _ => ⟨key j true, key j false⟩
end
end Go.Proofs.Ytoddbaljnlhhaab
