/-
  gate.Unitary; the law's eye and same.
-/
import Derived.Test.YtjmgcgjmaemgdaaC5
import Derived.BigQuiet
namespace Go.Proofs.Ytjmgcgjmaemgdaa
open Go.RowKit Go.Sort

theorem MR.same {W : World} {M N : Nat} {A A' : Nat → Nat → A5} (h : MR W M N A) (e : ∀ x y, x < N → y < N → A x y = A' x y) : MR W M N A' :=
  ⟨h.m, fun x y hx hy => by rw [← e x y hx hy]; exact h.c0 x y hx hy, fun x y hx hy => by rw [← e x y hx hy]; exact h.c1 x y hx hy, fun x y hx hy => by rw [← e x y hx hy]; exact h.c2 x y hx hy, h.lt⟩
set_option maxHeartbeats 1000000 in
theorem unitary_any {w : World} {M N : Nat} {A B : Nat → Nat → A5} (h : MR w M N A) (hN : N = 2 ∨ N = 4 ∨ N = 8) (hc : ∀ x y, x < N → y < N → (A x y).chk = true) (hB : ∀ x y, x < N → y < N → adjP A x y = B x y) (hc' : ∀ x y, x < N → y < N → (B x y).chk = true)
    (hok : ∀ x y, x < N → y < N → dotOk A B x y N = true) (h1 : ∀ x y, x < N → y < N → mulP A B N x y = oneA x y) :
    Calls Try.prog 27 #[mv M N] w fun e w' => e = .returned (.tuple #[.bool true, .int .i64 0]) ∧ Below w.heap.size w w' := by
  have h0 : 0 < N := by omega
  have h8 : N ≤ 8 := by omega
  have AD := adj_any h hN hc
  have MU : ∀ V P, Below w.heap.size w V → MR V P N B → Calls Try.prog 25 #[mv M N, mv P N] V fun e w' => ∃ P', e = .returned (.tuple #[mv P' N, .int .i64 0]) ∧ MX V w' P' N (fun x y => (mulP A B N x y).cells) := fun V P hV hP => mul_any (h.on hV) hP hN hc hc' hok
  have IS : ∀ V P, MR V P N oneA → Calls Try.prog 40 #[mv P N] V fun e w' => e = .returned (.bool true) ∧ Below V.heap.size V w' := fun V P hP => isOne_any hP h8
  have r0 := fun V (hV : Below w.heap.size w V) => (h.on hV).m 0 h0
  clear h hc hc' hok hN
  go_enter Try.func27, Try.ntmps27
  go_wp2_with (first
    | (go_at_call 26; (with_reducible refine AD.mono ?_); rintro e w1 ⟨P, rfl, hm⟩; have r1 := r0 _ hm.below)
    | (go_at_call 25; (with_reducible refine (MU _ _ hm.below (hm.mr.same hB)).mono ?_); rintro e w2 ⟨P', rfl, hm'⟩)
    | (go_at_call 40; (with_reducible refine (IS _ _ (hm'.mr.same h1)).mono ?_); rintro e w3 ⟨rfl, hb⟩))
  go_ret2
  exact ⟨by simp, btr (btr hm.below hm'.below) hb⟩
end Go.Proofs.Ytjmgcgjmaemgdaa
