/-
  The reference's Commute.
-/
import Derived.Test.YtoddbaljnlhhaaaPR2
namespace Go.Proofs.Ytoddbaljnlhhaaa.PL
open Go.RowKit Go.Sort

set_option maxHeartbeats 400000 in
theorem rcommute_no (n : Int) (x z : Nat) (f : Int) (n' : Int) (x' z' : Nat) (f' : Int) (e : Int) (Q : PS) (e' : Int) (w : World) (he : ¬ e = 0)
    (M1 : Cal 60 #[pv n x z f, pv n' x' z' f'] ⟨0, 0, 0, 0⟩ e) (M2 : Cal 60 #[pv n' x' z' f', pv n x z f] Q e') :
    Calls Try.prog 34 #[pv n x z f, pv n' x' z' f'] w fun r w' => r = .returned (.tuple #[.bool false, .int .i64 e]) ∧ Below w.heap.size w w' := by
  have he' : (e == 0) = false := by simp [he]
  obtain ⟨hW, b1, b2⟩ := two_boxes w n x z f n' x' z' f'
  go_enter Try.func34, Try.ntmps34
  go_upto_region 2 with (go_at_call 60; (refine (M1 _).mono ?_); rintro r w1 ⟨rfl, h1⟩; replace hW := btr hW h1; replace b1 := b1.below h1; replace b2 := b2.below h1)
  have ⟨a0, a1, a2, a3, _, _, _, _⟩ := b1
  have ⟨c0, c1, c2, c3, _, _, _, _⟩ := b2
  have l1 := b1.lt
  have l2 := b2.lt
  go_wp2_with (go_at_call 60; (with_reducible refine (M2 _).mono ?_); rintro r w2 ⟨rfl, h2⟩)
  go_ret2
  exact ⟨rfl, bal (btr (bal hW _) h2) _⟩
set_option maxHeartbeats 400000 in
theorem rcommute_core (n : Int) (x z : Nat) (f : Int) (n' : Int) (x' z' : Nat) (f' : Int) (m X Z F G : Nat) (w : World)
    (M1 : ∀ w, Calls Try.prog 60 #[pv n x z f, pv n' x' z' f'] w fun r w' => r = .returned (.tuple #[pv m X Z F, .int .i64 0]) ∧ Below w.heap.size w w') (M2 : ∀ w, Calls Try.prog 60 #[pv n' x' z' f', pv n x z f] w fun r w' => r = .returned (.tuple #[pv m X Z G, .int .i64 0]) ∧ Below w.heap.size w w') :
    Calls Try.prog 34 #[pv n x z f, pv n' x' z' f'] w fun r w' => r = .returned (.tuple #[.bool (decide (F = G)), .int .i64 0]) ∧ Below w.heap.size w w' := by
  obtain ⟨hW, b1, b2⟩ := two_boxes w n x z f n' x' z' f'
  by_cases hFG : F = G
  · subst hFG
    rw [show decide (F = F) = true from decide_eq_true rfl]
    go_enter Try.func34, Try.ntmps34
    go_upto_region 2 with (go_at_call 60; (with_reducible refine (M1 _).mono ?_); rintro r w1 ⟨rfl, h1⟩; replace hW := btr hW h1; replace b1 := b1.below h1; replace b2 := b2.below h1)
    have ⟨a0, a1, a2, a3, _, _, _, _⟩ := b1
    have ⟨c0, c1, c2, c3, _, _, _, _⟩ := b2
    have l1 := b1.lt
    have l2 := b2.lt
    go_wp2_with (go_at_call 60; (with_reducible refine (M2 _).mono ?_); rintro r w2 ⟨rfl, h2⟩; obtain ⟨d0, d1, d2, d3, _, _, _, _⟩ := (PB.new w1 m X Z F).below h2; have l3 := ((PB.new w1 m X Z F).below h2).lt)
    go_ret2
    exact ⟨rfl, bal (btr (bal hW _) h2) _⟩
  · rw [show decide (F = G) = false from decide_eq_false hFG]
    have hFG' : ((F : Int) == (G : Int)) = false := by simp; omega
    go_enter Try.func34, Try.ntmps34
    go_upto_region 2 with (go_at_call 60; (with_reducible refine (M1 _).mono ?_); rintro r w1 ⟨rfl, h1⟩; replace hW := btr hW h1; replace b1 := b1.below h1; replace b2 := b2.below h1)
    have ⟨a0, a1, a2, a3, _, _, _, _⟩ := b1
    have ⟨c0, c1, c2, c3, _, _, _, _⟩ := b2
    have l1 := b1.lt
    have l2 := b2.lt
    go_wp2_with (go_at_call 60; (with_reducible refine (M2 _).mono ?_); rintro r w2 ⟨rfl, h2⟩; obtain ⟨d0, d1, d2, d3, _, _, _, _⟩ := (PB.new w1 m X Z F).below h2; have l3 := ((PB.new w1 m X Z F).below h2).lt)
    go_ret2
    exact ⟨rfl, bal (btr (bal hW _) h2) _⟩
theorem mul_v (p q : PS) : (p.mul q).v = pv p.n (p.x ^^^ q.x) (p.z ^^^ q.z) (mulF p.x p.z p.f q.x q.z q.f : Nat) := rfl
theorem com_dec (x z f x' z' f' : Nat) : decide (comB x z x' z' = 0) = decide (mulF x z f x' z' f' = mulF x' z' f' x z f) := by
  have h := mulF_comm_iff x z f x' z' f'
  by_cases g : comB x z x' z' = 0
  · rw [decide_eq_true g, decide_eq_true (h.2 g)]
  · rw [decide_eq_false g, decide_eq_false (fun e => g (h.1 e))]
theorem rcommute_yes (p q : PS) (w : World) (hp : p.ok) (hq : q.ok) (hn : p.n = q.n) :
    Calls Try.prog 34 #[p.v, q.v] w fun r w' => r = .returned (.tuple #[.bool (decide (comB p.x p.z q.x q.z = 0)), .int .i64 0]) ∧ Below w.heap.size w w' := by
  have M1 := fun w => rmul_yes p q w hp hq hn
  have M2 := fun w => rmul_yes q p w hq hp hn.symm
  rw [mul_v] at M1 M2
  rw [Nat.xor_comm q.x, Nat.xor_comm q.z, ← hn] at M2
  have hd := com_dec p.x p.z p.f q.x q.z q.f
  rw [hd]
  clear hd
  generalize mulF p.x p.z p.f q.x q.z q.f = F at *
  generalize mulF q.x q.z q.f p.x p.z p.f = G at *
  exact rcommute_core p.n p.x p.z p.f q.n q.x q.z q.f p.n (p.x ^^^ q.x) (p.z ^^^ q.z) F G w M1 M2

end Go.Proofs.Ytoddbaljnlhhaaa.PL
