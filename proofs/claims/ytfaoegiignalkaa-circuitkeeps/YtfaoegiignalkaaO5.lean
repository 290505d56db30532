/-
  Lists of lists that are equal; whether each number stands once.
-/
import Derived.Test.YtfaoegiignalkaaO4
namespace Go.Proofs.Ytfaoegiignalkaa
open Go.RowKit Go.Shelf

theorem drewN_two (w : World) (a b : Nat) : (w.drewN a).drewN b = w.drewN (a + b) := by simp [World.drewN, Nat.add_assoc]
theorem ol_at {W : World} {B : Nat} {v : Value} {ls : List (List Nat)} {vs : List Value} (h : OL W B v ls vs) {i : Nat} (hi : i < ls.length) :
    ∃ g c ra rc, v = .slice (some ⟨g, 0, none⟩) ls.length c ∧ W.cell? ⟨g, i, none⟩ = some (.slice ra ls[i].length rc) ∧ g < W.heap.size ∧ ls[i].length ≤ rc ∧ ls.length ≤ c ∧ ∀ k (hk : k < ls[i].length), ∃ gr, ra = some ⟨gr, 0, none⟩ ∧ gr < W.heap.size ∧ W.cell? ⟨gr, k, none⟩ = some (.int .i64 (ls[i][k] : Nat)) := by
  have hi' : i < vs.length := by rw [← h.len]; exact hi
  obtain ⟨g, c, rfl, hc, _, hcell, _, hl⟩ := own_at h.out (by omega)
  have hr := h.row i hi hi'
  obtain ⟨ra, rc, e, hrc⟩ := own_cap hr
  refine ⟨g, c, ra, rc, rfl, by rw [hcell i hi', e], hl, hrc, hc, fun k hk => ?_⟩
  rw [e] at hr
  obtain ⟨gr, cr, e2, _, _, hcr, _, hgr⟩ := own_at hr (by omega)
  cases e2
  refine ⟨gr, rfl, hgr, ?_⟩
  rw [hcr k (by simp [il]; exact hk)]
  simp [il]
set_option maxHeartbeats 4000000 in
set_option maxRecDepth 100000 in
theorem sameLists_any (ls : List (List Nat)) (v v' : Value) (B B' : Nat) (vs vs' : List Value) (w : World) (h1 : OL w B v ls vs) (h2 : OL w B' v' ls vs') (hl : ls.length ≤ 9223372036854775807) (hl2 : ∀ l ∈ ls, l.length ≤ 9223372036854775807) :
    Calls Try.prog 27 #[v, v'] w fun e w' => e = .returned (.bool true) ∧ Below w.heap.size w w' := by
  obtain ⟨av, cv, rfl, hcv⟩ := own_cap h1.out
  obtain ⟨av', cv', rfl, hcv'⟩ := own_cap h2.out
  have H1 := hid h1
  have H2 := hid h2
  have HL := hid hl2
  clear h1 h2 hl2
  go_enter Try.func27, Try.ntmps27
  go_wp2
  go_loopw [5] (fun s wr => (∃ n, wr = w.drewN n) ∧ ∃ k : Nat, k ≤ ls.length ∧ s = .int .i64 (k : Nat)) (fun s _ => ls.length - (intOf s).toNat)
  case atStart => exact ⟨⟨0, rfl⟩, 0, Nat.zero_le _, rfl⟩
  case round =>
    obtain ⟨⟨n, rfl⟩, k, hk, rfl⟩ := hrel
    by_cases hlt : k < ls.length
    case neg =>
      obtain rfl : k = ls.length := by omega
      go_wp2
      go_ret
      exact ⟨rfl, below_d _ _⟩
    obtain ⟨g1, d1, ra1, rc1, e1, m1, l1, q1, u1, r1⟩ := ol_at H1.out hlt
    obtain ⟨g2, d2, ra2, rc2, e2, m2, l2, q2, u2, r2⟩ := ol_at H2.out hlt
    cases e1
    cases e2
    have hlk := HL.out _ (List.getElem_mem hlt)
    have R1 := hid r1
    have R2 := hid r2
    clear r1 r2
    generalize ls[k] = l at *
    go_wp2
    go_quiet (fail)
    go_wp2
    go_loopw [6] (fun s wr => (∃ n, wr = w.drewN n) ∧ ∃ j : Nat, j ≤ l.length ∧ s = .int .i64 (j : Nat)) (fun s _ => l.length - (intOf s).toNat)
    case atStart => exact ⟨⟨n + nq, drewN_two _ _ _⟩, 0, Nat.zero_le _, rfl⟩
    case round =>
      clear nq
      obtain ⟨⟨n, rfl⟩, j, hj, rfl⟩ := hrel
      by_cases hlt2 : j < l.length
      case neg =>
        obtain rfl : j = l.length := by omega
        go_wp2
        go_roundw
        case rel => exact ⟨⟨_, rfl⟩, k + 1, by omega, by go_num⟩
        case measure => simp [intOf]; omega
      obtain ⟨gr1, rfl, x1, y1⟩ := R1.out j hlt2
      obtain ⟨gr2, rfl, x2, y2⟩ := R2.out j hlt2
      generalize l[j] = x at *
      go_wp2
      go_quiet (fail)
      go_wp2
      go_roundw
      case rel => exact ⟨⟨n + nq, rfl⟩, j + 1, by omega, by go_num⟩
      case measure => simp [intOf]; omega
end Go.Proofs.Ytfaoegiignalkaa
