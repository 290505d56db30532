/-
  tableau: the stabilizers; the value of a string.
-/
import Derived.Test.YtoddbaljnlhhaaaA1
namespace Go.Proofs.Ytoddbaljnlhhaaa
open Go.RowKit Go.Sort
open PL (pv PS)

theorem RP.drop {W : World} {b o : Nat} {rs : List Pr} (h : RP W b o rs) (k : Nat) : RP W b (o + k * 4) (rs.drop k) := by
  have e : ∀ j (hj : j < (rs.drop k).length), ∃ h : k + j < rs.length, (rs.drop k)[j] = rs[k + j] := fun j hj => ⟨by rw [List.length_drop] at hj; omega, List.getElem_drop⟩
  refine ⟨fun j hj => ?_, fun j hj => ?_, fun j hj => ?_, fun j hj => ?_, h.lt⟩
  all_goals
    obtain ⟨h1, h2⟩ := e j hj
    rw [h2]
    have h3 : o + k * 4 + j * 4 = o + (k + j) * 4 := by omega
    rw [h3]
    first | exact h.c0 _ h1 | exact h.c1 _ h1 | exact h.c2 _ h1 | exact h.c3 _ h1
theorem TS.nil (W : World) (a : Option Addr) (c : Nat) (hc : c ≤ 9223372036854775807) : TS W a c [] := ⟨Nat.zero_le _, fun _ h => absurd h (Nat.not_lt_zero _), fun _ h => absurd h (Nat.not_lt_zero _), hc⟩
theorem TS.drop {W : World} {b o c : Nat} {rs : List Pr} (h : TS W (some ⟨b, o, none⟩) c rs) (k : Nat) : TS W (some ⟨b, o + k * 4, none⟩) (c - k) (rs.drop k) := by
  refine ⟨by rw [List.length_drop]; have := h.cap; omega, fun j hj => ?_, fun j hj => ?_, by have := h.l; omega⟩
  · have h1 : k + j < rs.length := by rw [List.length_drop] at hj; omega
    obtain ⟨b, o, e, r⟩ := h.at_ _ h1
    cases e
    exact ⟨_, _, rfl, r.drop k⟩
  · have h1 : k + j < rs.length := by rw [List.length_drop] at hj; omega
    rw [List.getElem_drop]
    exact h.w64 _ h1
set_option maxHeartbeats 1000000 in
set_option maxRecDepth 100000 in
theorem stab_any (n : Nat) (rs : List Pr) (a : Option Addr) (c : Nat) (w0 w : World) (H : TS w0 a c rs) (hn : n ≤ rs.length) (hl : rs.length ≤ 128) :
    Calls Try.prog 46 #[Tb.v ⟨n, rs⟩ a c] w fun e w' => ∃ a', e = .returned (.slice a' (rs.drop n).length (c - n)) ∧ TS w0 a' (c - n) (rs.drop n) ∧ Below w.heap.size w w' := by
  have hcap := H.cap
  have hcl := H.l
  have HH := hid H
  clear H
  have hlen : (rs.drop n).length = rs.length - n := List.length_drop
  have hB := bal (Below.refl w.heap.size w) (.cells #[.int .i64 (n : Int), .slice a rs.length c] 24)
  rcases Nat.eq_zero_or_pos rs.length with h0 | h0
  · obtain rfl : rs = [] := List.eq_nil_of_length_eq_zero h0
    obtain rfl : n = 0 := by simpa using hn
    go_enter Try.func46, Try.ntmps46
    go_wp2
    all_goals
      go_ret
      exact ⟨_, rfl, TS.nil _ _ _ (by omega), hB⟩
  · obtain ⟨b, o, rfl, r⟩ := HH.out.at_ 0 h0
    have HD := hid (HH.out.drop n)
    by_cases hcn : c = n
    · subst hcn
      have HN : Hid (rs.drop c = []) := List.drop_eq_nil_of_le (by omega)
      go_enter Try.func46, Try.ntmps46
      go_wp2
      all_goals
        go_ret
        exact ⟨some ⟨b, o, none⟩, by rw [HN.out, Nat.sub_self]; rfl, by rw [HN.out]; exact TS.nil _ _ _ (by omega), hB⟩
    · go_enter Try.func46, Try.ntmps46
      go_wp2
      all_goals
        go_ret
        exact ⟨some ⟨b, o + n * 4, none⟩, by rw [hlen]; rfl, HD.out, hB⟩
end Go.Proofs.Ytoddbaljnlhhaaa
