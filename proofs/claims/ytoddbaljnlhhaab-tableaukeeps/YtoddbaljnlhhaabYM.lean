/-
  Put together of: JX.
-/
import Derived.Test.YtoddbaljnlhhaabYL
namespace Go.Proofs.Ytoddbaljnlhhaab
open Go.RowKit Go.Sort
open PL (pv PS bt cgk cgT)
open BL (pickN putN)

section
variable {q : Nat → Int}
theorem pgd_smp {g : Nat × Nat} (hg : pgd g) : smp g.1 := by
  rcases hg with ⟨h, _⟩ | ⟨h, _⟩
  · exact .inl h
  · exact .inr (.inl h)
theorem pgd_an {g : Nat × Nat} (hg : pgd g) : cgk g.1 = qAn g.2 := by
  rcases (pgd_k hg).2 with ⟨k, hs | hs⟩ | ⟨k, hs | hs⟩ <;> rw [k, hs] <;> rfl
theorem row_qA {W : World} {B s : Nat} (h : BK W B (qA (q 0) (q 1) s) 3) (hs : s < 4) : BL.Row (some ⟨B, 0, none⟩) (qs s q) (qAn s) W := ⟨fun i hi => ⟨B, 0, rfl, by
  rw [Nat.zero_add, h.cell i]
  rcases (show s = 0 ∨ s = 1 ∨ s = 2 ∨ s = 3 by omega) with rfl | rfl | rfl | rfl
  · obtain rfl : i = 0 := by simp only [qAn] at hi; omega
    rfl
  · obtain rfl : i = 0 := by simp only [qAn] at hi; omega
    rfl
  · rcases (show i = 0 ∨ i = 1 by simp only [qAn] at hi; omega) with rfl | rfl <;> rfl
  · rcases (show i = 0 ∨ i = 1 by simp only [qAn] at hi; omega) with rfl | rfl <;> rfl⟩⟩
theorem qs_in {g : Nat × Nat} (hg : pgd g) {P : Int → Prop} (hq : ∀ m, m < 2 → P (q m)) : ∀ m, m < cgk g.1 → P (qs g.2 q m) := fun m hm => by
  rcases (pgd_k hg).2 with ⟨k, hs⟩ | ⟨k, hs | hs⟩ <;> rw [k] at hm
  · obtain rfl : m = 0 := by omega
    rw [qs_at hs]
    exact hq _ (by omega)
  · rw [hs]; exact hq m hm
  · rw [hs]; exact hq (1 - m) (by omega)
theorem part_call (h : BL.Plc q 2) {g : Nat × Nat} (hg : pgd g) (p : PS) (hp : p.ok) (hq : ∀ m, m < 2 → 0 ≤ q m ∧ q m < (p.n : Nat)) (W : World) (B : Nat) (hB : BK W B (qA (q 0) (q 1) g.2) 3) :
    Calls Try.prog 18 #[p.v, .string (cgN g.1), .slice (some ⟨B, 0, none⟩) (qAn g.2 : Nat) (qAn g.2 : Nat)] W fun e w' => e = .returned (trP g.1 (qs g.2 q) p).v ∧ Below W.heap.size W w' := by
  have hk := pgd_an hg
  have hr : BL.Row (some ⟨B, 0, none⟩) (qs g.2 q) (cgk g.1) W := by
    rw [hk]
    exact row_qA hB (by rcases hg with ⟨_, e | e⟩ | ⟨_, e | e⟩ <;> omega)
  have hc := rturn_smp g.1 (pgd_smp hg) p hp (qs g.2 q) (some ⟨B, 0, none⟩) (qAn g.2) W hr (pgd_plc h hg) (qs_in hg (P := fun x => 0 ≤ x ∧ x < (p.n : Nat)) hq) (by omega)
  rwa [hk] at hc
theorem fld_ok (h : BL.Plc q 2) : ∀ gs : List (Nat × Nat), (∀ g ∈ gs, pgd g) → ∀ p : PS, p.ok → (∀ m, m < 2 → q m < (p.n : Nat)) → (fld gs q p).ok ∧ (fld gs q p).n = p.n
  | [], _, _, hp, _ => ⟨hp, rfl⟩
  | g :: gs, hg, p, hp, hq => by
    have hg0 := hg g List.mem_cons_self
    have hok := trP_ok (pgd_k hg0).1 hp (pgd_plc h hg0) (qs_in hg0 (P := fun x => x < (p.n : Nat)) hq)
    exact fld_ok h gs (fun g' hg' => hg g' (List.mem_cons_of_mem _ hg')) (trP g.1 (qs g.2 q) p) hok hq
end
theorem cmp_step {i : Nat} (hi : cmp i) (q : Nat → Int) (p : PS) : ∀ k, k < (prG i).length → pgd ((prG i).getD k 0, (prQ i).getD k 0) ∧ fld ((prL i).take (k + 1)) q p = trP ((prG i).getD k 0) (qs ((prQ i).getD k 0) q) (fld ((prL i).take k) q p) := by
  rcases hi with rfl | rfl | rfl
  · intro k hk
    rcases (show k = 0 ∨ k = 1 ∨ k = 2 by simp only [prG, List.length] at hk; omega) with rfl | rfl | rfl <;> exact ⟨by decide, rfl⟩
  · intro k hk
    rcases (show k = 0 ∨ k = 1 ∨ k = 2 ∨ k = 3 ∨ k = 4 ∨ k = 5 by simp only [prG, List.length] at hk; omega) with rfl | rfl | rfl | rfl | rfl | rfl <;> exact ⟨by decide, rfl⟩
  · intro k hk
    rcases (show k = 0 ∨ k = 1 ∨ k = 2 ∨ k = 3 ∨ k = 4 ∨ k = 5 by simp only [prG, List.length] at hk; omega) with rfl | rfl | rfl | rfl | rfl | rfl <;> exact ⟨by decide, rfl⟩
theorem rturn_cmp (i : Nat) (hi : cmp i) (p : PS) (hp : p.ok) (q : Nat → Int) (aq : Option Addr) (cq : Nat) (w : World) (HQ : BL.Row aq q (cgk i) w) (hP : BL.Plc q (cgk i)) (hq : ∀ m, m < cgk i → 0 ≤ q m ∧ q m < (p.n : Nat)) (hcq : cgk i ≤ cq) :
    Calls Try.prog 18 #[p.v, .string (cgN i), .slice aq (cgk i : Nat) cq] w fun e w' => e = .returned (trP i q p).v ∧ Below w.heap.size w w' := by
  have hk : cgk i = 2 := by rcases hi with rfl | rfl | rfl <;> rfl
  rw [hk] at HQ hP hq hcq ⊢
  obtain ⟨b, o, rfl, C0⟩ := HQ.at_ 0 (by decide)
  obtain ⟨b', o', e', C1⟩ := HQ.at_ 1 (by decide)
  obtain ⟨rfl, rfl⟩ : b = b' ∧ o = o' := by injection e' with e'; injection e' with e1 e2; exact ⟨e1, e2⟩
  have hL : 0 < (prG i).length ∧ (prG i).length ≤ 6 := by rcases hi with rfl | rfl | rfl <;> decide
  have hall := prL_gd hi
  have hS : ∀ k, (fld ((prL i).take k) q p).ok ∧ (fld ((prL i).take k) q p).n = p.n := fun k => fld_ok hP _ (fun g hg => hall g (List.mem_of_mem_take hg)) p hp (fun m hm => (hq m hm).2)
  have hst := cmp_step hi q p
  have hend : fld ((prL i).take (prG i).length) q p = trP i q p := by
    rw [trP_fld hi hP hp]
    rcases hi with rfl | rfl | rfl <;> rfl
  have vv : ∀ k, (fld ((prL i).take k) q p).v = pv (p.n : Nat) (fld ((prL i).take k) q p).x (fld ((prL i).take k) q p).z ((fld ((prL i).take k) q p).f : Nat) := fun k => by
    show pv _ _ _ _ = _
    rw [(hS k).2]
  have h := rturn_wk2 (cgN i) p.n (prG i).length hL.1 hL.2 (fun k => cgN ((prG i).getD k 0)) (fun k => (prQ i).getD k 0) (fun k hk => by
      have := (hst k hk).1
      rcases this with ⟨_, e | e⟩ | ⟨_, e | e⟩
      · exact .inl e
      · exact .inr (.inl e)
      · exact .inr (.inr (.inl e))
      · exact .inr (.inr (.inr e))) (fun k => fld ((prL i).take k) q p) (fun k _ => (hS k).2) b o cq hcq (q 0) (q 1) w C0 C1
    (fun W => (rparts_yes i hi W).mono fun e w' ⟨h1, h2, h3⟩ => ⟨h1, h2, h3.nm, h3.nu, h3.lt, h3.lt'⟩)
    (fun k hk W B hB => by
      have hc := part_call hP (hst k hk).1 (fld ((prL i).take k) q p) (hS k).1 (fun m hm => by rw [(hS k).2]; exact hq m hm) W B hB
      rw [← (hst k hk).2, vv k, vv (k + 1)] at hc
      exact hc)
  rw [hend] at h
  exact h
/-- Turn, at every gate. -/
theorem rturn_any (i : Nat) (hi : i < 17) (p : PS) (hp : p.ok) (q : Nat → Int) (aq : Option Addr) (cq : Nat) (w : World) (HQ : BL.Row aq q (cgk i) w) (hP : BL.Plc q (cgk i)) (hq : ∀ m, m < cgk i → 0 ≤ q m ∧ q m < (p.n : Nat)) (hcq : cgk i ≤ cq) :
    Calls Try.prog 18 #[p.v, .string (cgN i), .slice aq (cgk i : Nat) cq] w fun e w' => e = .returned (trP i q p).v ∧ Below w.heap.size w w' := by
  by_cases h : cmp i
  · exact rturn_cmp i h p hp q aq cq w HQ hP hq hcq
  · exact rturn_smp i (by simp only [smp, not_or] at *; omega) p hp q aq cq w HQ hP hq hcq
end Go.Proofs.Ytoddbaljnlhhaab
