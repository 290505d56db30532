/-
  Put together of: J1.
-/
import Derived.Test.YtoddbaljnlhhaabXL
import Derived.Test.YtoddbaljnlhhaabXY
namespace Go.Proofs.Ytoddbaljnlhhaab
open Go.RowKit Go.Sort
open PL (pv PS bt)

/-- What inGroup tells of a right tableau: it is one just if all stabilizers commute with it; then the product's phase tells the value. -/
theorem inG_no {N : Nat} {rs : List Pr} {p : PS} (h : valT ⟨(N : Nat), rs⟩ p = 0) : vgo rs N p N 0 (eyeP N) = none := by
  by_cases g : ∀ j, j < N → comS (nthP rs (N + j)) p
  · exfalso
    have h2 := valT_all (t := ⟨(N : Nat), rs⟩) (N := N) rfl g
    rw [h2] at h
    split at h <;> cases h
  · obtain ⟨j, hj⟩ := Classical.not_forall.1 g
    obtain ⟨hj, hc⟩ := Classical.not_imp.1 hj
    exact vgo_none rs N p N 0 _ j (by omega) (by omega) hc
theorem inG_yes {N : Nat} {rs : List Pr} {p : PS} (hR : Rt ⟨(N : Nat), rs⟩) (hp : p.ok) (hpn : p.n = N) (h : valT ⟨(N : Nat), rs⟩ p ≠ 0) :
    ∃ f, f < 4 ∧ f % 2 = 0 ∧ inGV p (vgo rs N p N 0 (eyeP N)) = .tuple #[pv (N : Nat) p.x p.z (f : Nat), .bool true] ∧ valT ⟨(N : Nat), rs⟩ p = if f = p.f then 1 else -1 := by
  have g : ∀ j, j < N → comS (nthP rs (N + j)) p := fun j hj => by
    by_cases g : comS (nthP rs (N + j)) p
    · exact g
    · exact absurd (valT_no (t := ⟨(N : Nat), rs⟩) rfl hj g) h
  obtain ⟨h1, h2, h3, h4, h5⟩ := prd_all hR rfl hp hpn g
  have hv := valT_phase hR rfl hp hpn g
  have h1 : (prd rs N (selC rs p) N).ok := h1
  have h2 : (prd rs N (selC rs p) N).n = N := h2
  have h3 : (prd rs N (selC rs p) N).f % 2 = 0 := h3
  have h4 : (prd rs N (selC rs p) N).x = p.x := h4
  have h5 : (prd rs N (selC rs p) N).z = p.z := h5
  have e := vgo_prd rs N p N 0 (fun j _ hj => g j (by omega))
  rw [Nat.zero_add] at e
  have e0 : prd rs N (selC rs p) 0 = eyeP N := rfl
  rw [e0] at e
  refine ⟨(prd rs N (selC rs p) N).f, h1.f1, h3, ?_, hv⟩
  rw [e]
  show Value.tuple #[(prd rs N (selC rs p) N).v, .bool ((prd rs N (selC rs p) N).x == p.x && (prd rs N (selC rs p) N).z == p.z)] = _
  show Value.tuple #[pv (prd rs N (selC rs p) N).n (prd rs N (selC rs p) N).x (prd rs N (selC rs p) N).z (prd rs N (selC rs p) N).f, .bool ((prd rs N (selC rs p) N).x == p.x && (prd rs N (selC rs p) N).z == p.z)] = _
  rw [h2, h4, h5]
  simp
theorem rcheck_t (t : Tb) (a : Option Addr) (c : Nat) (w : World) (H : TS w a c t.rows) (h : Rt t) : Calls Try.prog 16 #[t.v a c] w fun e w' => e = .returned (.int .i64 0) ∧ Below w.heap.size w w' :=
  rcheck_all t a c w H 0 (fun _ => rfl) (fun h' => absurd h h')
theorem rcheck_f (t : Tb) (a : Option Addr) (c : Nat) (w : World) (H : TS w a c t.rows) (h : ¬ Rt t) : Calls Try.prog 16 #[t.v a c] w fun e w' => e = .returned (.int .i64 180) ∧ Below w.heap.size w w' :=
  rcheck_all t a c w H 180 (fun h' => absurd h' h) (fun _ => rfl)
end Go.Proofs.Ytoddbaljnlhhaab
