/-
  What Adjoint, Weight, Commute and Mul of package pauli answer.
-/
import Derived.Test.YtoddbaljnlhhaaaPP2
import Derived.Deep.CutRange
namespace Go.Proofs.Ytoddbaljnlhhaaa.PL
open Go.RowKit Go.Sort

theorem one_box (w : World) (n : Int) (x z : Nat) (f : Int) : Below w.heap.size w (w.alloc (pc n x z f)) ∧ PB (w.alloc (pc n x z f)) w.heap.size n x z f :=
  ⟨bal (Below.refl _ _) _, PB.new w n x z f⟩
/-- Two strings of any make: what checkBoth answers. -/
def Both (n : Int) (x z : Nat) (f : Int) (n' : Int) (x' z' : Nat) (f' : Int) (e : Int) : Prop :=
  ∀ w, Calls Try.prog 57 #[pv n x z f, pv n' x' z' f'] w fun r w' => r = .returned (.int .i64 e) ∧ Below w.heap.size w w'
theorem both_a (n : Int) (x z : Nat) (f : Int) (n' : Int) (x' z' : Nat) (f' : Int) (hx : x < 18446744073709551616) (hz : z < 18446744073709551616) (h : ¬ Good n x z f) : Both n x z f n' x' z' f' 70 := by
  intro w
  have K := fun w => check_no n x z f w hx hz h
  obtain ⟨hW, b1, b2⟩ := two_boxes w n x z f n' x' z' f'
  go_enter Try.func57, Try.ntmps57
  go_wp2_with (go_at_call 43; (with_reducible refine (K _).mono ?_); rintro e w1 ⟨rfl, hN⟩)
  go_ret
  exact ⟨rfl, btr hW hN⟩
theorem both_b (p : PS) (hp : p.ok) (n' : Int) (x' z' : Nat) (f' : Int) (hx : x' < 18446744073709551616) (hz : z' < 18446744073709551616) (h : ¬ Good n' x' z' f') : Both p.n p.x p.z p.f n' x' z' f' 70 := by
  intro w
  have K0 := hp.check
  have K := fun w => check_no n' x' z' f' w hx hz h
  obtain ⟨n, x, z, f⟩ := p
  obtain ⟨hW, b1, b2⟩ := two_boxes w n x z f n' x' z' f'
  go_enter Try.func57, Try.ntmps57
  go_wp2_with (first
    | (go_at_call 43; (with_reducible refine (K0 _).mono ?_); rintro e w1 ⟨rfl, hN⟩; obtain ⟨c0, c1, c2, c3, f0, f1, f2, f3⟩ := b2.below hN)
    | (go_at_call 43; (with_reducible refine (K _).mono ?_); rintro e w1 ⟨rfl, hN2⟩))
  go_ret
  exact ⟨rfl, btr (btr hW hN) hN2⟩
theorem both_ok (p q : PS) (hp : p.ok) (hq : q.ok) : Both p.n p.x p.z p.f q.n q.x q.z q.f (if p.n = q.n then 0 else 2) := by
  intro w
  have K0 := hp.check
  have K := hq.check
  obtain ⟨n, x, z, f⟩ := p
  obtain ⟨n', x', z', f'⟩ := q
  obtain ⟨hW, b1, b2⟩ := two_boxes w n x z f n' x' z' f'
  by_cases hn : n = n'
  · subst hn
    simp only [if_true]
    go_enter Try.func57, Try.ntmps57
    go_wp2_with (first
      | (go_at_call 43; (with_reducible refine (K0 _).mono ?_); rintro e w1 ⟨rfl, hN⟩; obtain ⟨c0, c1, c2, c3, f0, f1, f2, f3⟩ := b2.below hN; have b3 := b1.below hN; have b4 := b2.below hN)
      | (go_at_call 43; (with_reducible refine (K _).mono ?_); rintro e w1 ⟨rfl, hN2⟩; obtain ⟨d0, d1, d2, d3, g0, g1, g2, g3⟩ := b3.below hN2; obtain ⟨u0, u1, u2, u3, v0, v1, v2, v3⟩ := b4.below hN2))
    go_ret
    exact ⟨rfl, btr (btr hW hN) hN2⟩
  · simp only [if_neg hn]
    have hm : ((n : Int) == (n' : Int)) = false := by simp; omega
    go_enter Try.func57, Try.ntmps57
    go_wp2_with (first
      | (go_at_call 43; (with_reducible refine (K0 _).mono ?_); rintro e w1 ⟨rfl, hN⟩; obtain ⟨c0, c1, c2, c3, f0, f1, f2, f3⟩ := b2.below hN; have b3 := b1.below hN; have b4 := b2.below hN)
      | (go_at_call 43; (with_reducible refine (K _).mono ?_); rintro e w1 ⟨rfl, hN2⟩; obtain ⟨d0, d1, d2, d3, g0, g1, g2, g3⟩ := b3.below hN2; obtain ⟨u0, u1, u2, u3, v0, v1, v2, v3⟩ := b4.below hN2))
    go_ret
    exact ⟨rfl, btr (btr hW hN) hN2⟩


/-- The product. -/
def PS.mul (p q : PS) : PS := ⟨p.n, p.x ^^^ q.x, p.z ^^^ q.z, mulF p.x p.z p.f q.x q.z q.f⟩
theorem PS.ok.mul {p q : PS} (h : p.ok) (g : q.ok) (hn : p.n = q.n) : (p.mul q).ok := ⟨h.n1, xor_ltn h.x1 (hn ▸ g.x1), xor_ltn h.z1 (hn ▸ g.z1), mulF_lt _ _ _ _ _ _⟩

theorem mul_no (n : Int) (x z : Nat) (f : Int) (n' : Int) (x' z' : Nat) (f' e : Int) (w : World) (h : Both n x z f n' x' z' f' e) (he : ¬ e = 0) :
    Calls Try.prog 33 #[pv n x z f, pv n' x' z' f'] w fun r w' => r = .returned (.tuple #[pv 0 0 0 0, .int .i64 e]) ∧ Below w.heap.size w w' := by
  unfold Both at h
  have he' : (e == 0) = false := by simp [he]
  obtain ⟨hW, b1, b2, b3⟩ := three_boxes w n x z f n' x' z' f' 0 0 0 0
  go_enter Try.func33, Try.ntmps33
  go_wp2_with (go_at_call 57; (with_reducible refine (h _).mono ?_); rintro r w1 ⟨rfl, hN⟩; obtain ⟨c0, c1, c2, c3, f0, f1, f2, f3⟩ := b3.below hN)
  refine bodyPost_ret (v := .tuple #[pv 0 0 0 0, .int .i64 e]) (by simp [results, Try.results33, go_sem, c0, c1, c2, c3]) rfl ⟨rfl, ?_⟩
  repeat (first | exact btr hW hN | refine Below.setCell ?_ (by simp; omega) _)
theorem commute_no (n : Int) (x z : Nat) (f : Int) (n' : Int) (x' z' : Nat) (f' e : Int) (w : World) (h : Both n x z f n' x' z' f' e) (he : ¬ e = 0) :
    Calls Try.prog 67 #[pv n x z f, pv n' x' z' f'] w fun r w' => r = .returned (.tuple #[.bool false, .int .i64 e]) ∧ Below w.heap.size w w' := by
  unfold Both at h
  have he' : (e == 0) = false := by simp [he]
  obtain ⟨hW, b1, b2⟩ := two_boxes w n x z f n' x' z' f'
  go_enter Try.func67, Try.ntmps67
  go_wp2_with (go_at_call 57; (with_reducible refine (h _).mono ?_); rintro r w1 ⟨rfl, hN⟩)
  go_ret2
  exact ⟨rfl, btr hW hN⟩
theorem beq_cast (R : Nat) : ((R : Int) == 0) = decide (R = 0) := by
  by_cases h : R = 0
  · subst h; rfl
  · have : ¬ (R : Int) = 0 := by omega
    simp [h]
theorem commute_yes (p q : PS) (w : World) (hp : p.ok) (hq : q.ok) (hn : p.n = q.n) :
    Calls Try.prog 67 #[p.v, q.v] w fun r w' => r = .returned (.tuple #[.bool (decide (comB p.x p.z q.x q.z = 0)), .int .i64 0]) ∧ Below w.heap.size w w' := by
  have h := both_ok p q hp hq
  unfold Both at h
  rw [if_pos hn] at h
  have e1 := i_and p.x q.z hp.xl hq.zl
  have e2 := i_and p.z q.x hp.zl hq.xl
  have e3 := i_xor (p.x &&& q.z) (p.z &&& q.x) (and_lt hp.xl) (and_lt hp.zl)
  have P := fun w => parity_any ((p.x &&& q.z) ^^^ (p.z &&& q.x)) w (xor_lt (and_lt hp.xl) (and_lt hp.zl))
  have hR : comB p.x p.z q.x q.z = pop 64 ((p.x &&& q.z) ^^^ (p.z &&& q.x)) % 2 := rfl
  rw [hR]
  generalize pop 64 ((p.x &&& q.z) ^^^ (p.z &&& q.x)) % 2 = R at P
  clear hR hp hq hn
  obtain ⟨n, x, z, f⟩ := p
  obtain ⟨n', x', z', f'⟩ := q
  obtain ⟨hW, b1, b2⟩ := two_boxes w n x z f n' x' z' f'
  go_enter Try.func67, Try.ntmps67
  go_wp2_with (first
    | (go_at_call 57; (with_reducible refine (h _).mono ?_); rintro r w1 ⟨rfl, hN⟩; obtain ⟨c0, c1, c2, c3, f0, f1, f2, f3⟩ := b1.below hN; obtain ⟨d0, d1, d2, d3, g0, g1, g2, g3⟩ := b2.below hN)
    | (go_at_call 92; (with_reducible refine (P _).mono ?_); rintro r w1 ⟨rfl, rfl⟩))
  go_ret2
  exact ⟨congrArg (fun b => Ending.returned (Value.tuple #[.bool b, .int .i64 0])) (beq_cast R), btr hW hN⟩


theorem keep8 {V W W' : World} {A B : Nat} {n : Int} {x z : Nat} {f : Int} {n' : Int} {x' z' : Nat} {f' : Int}
    (h : Below V.heap.size V W ∧ W.cell? ⟨A, 0, none⟩ = some (.int .i64 n) ∧ W.cell? ⟨A, 1, none⟩ = some (.int .u64 (x : Int)) ∧ W.cell? ⟨A, 2, none⟩ = some (.int .u64 (z : Int)) ∧ W.cell? ⟨A, 3, none⟩ = some (.int .i64 f) ∧ W.cell? ⟨B, 0, none⟩ = some (.int .i64 n') ∧ W.cell? ⟨B, 1, none⟩ = some (.int .u64 (x' : Int)) ∧ W.cell? ⟨B, 2, none⟩ = some (.int .u64 (z' : Int)) ∧ W.cell? ⟨B, 3, none⟩ = some (.int .i64 f')) (hN : Below W.heap.size W W') :
    Below V.heap.size V W' ∧ W'.cell? ⟨A, 0, none⟩ = some (.int .i64 n) ∧ W'.cell? ⟨A, 1, none⟩ = some (.int .u64 (x : Int)) ∧ W'.cell? ⟨A, 2, none⟩ = some (.int .u64 (z : Int)) ∧ W'.cell? ⟨A, 3, none⟩ = some (.int .i64 f) ∧ W'.cell? ⟨B, 0, none⟩ = some (.int .i64 n') ∧ W'.cell? ⟨B, 1, none⟩ = some (.int .u64 (x' : Int)) ∧ W'.cell? ⟨B, 2, none⟩ = some (.int .u64 (z' : Int)) ∧ W'.cell? ⟨B, 3, none⟩ = some (.int .i64 f') := by
  obtain ⟨h0, a0, a1, a2, a3, b0, b1, b2, b3⟩ := h
  obtain ⟨hc, _⟩ := bcell hN
  have la := block_lt_of_cell a0
  have lb := block_lt_of_cell b0
  exact ⟨btr h0 hN, (hc _ _ la).trans a0, (hc _ _ la).trans a1, (hc _ _ la).trans a2, (hc _ _ la).trans a3, (hc _ _ lb).trans b0, (hc _ _ lb).trans b1, (hc _ _ lb).trans b2, (hc _ _ lb).trans b3⟩

set_option maxHeartbeats 1000000 in
theorem mul_yes (p q : PS) (w : World) (hp : p.ok) (hq : q.ok) (hn : p.n = q.n) :
    Calls Try.prog 33 #[p.v, q.v] w fun r w' => r = .returned (.tuple #[(p.mul q).v, .int .i64 0]) ∧ Below w.heap.size w w' := by
  have h := both_ok p q hp hq
  unfold Both at h
  rw [if_pos hn] at h
  have e1 := i_xor p.x q.x hp.xl hq.xl
  have e2 := i_xor p.z q.z hp.zl hq.zl
  have e3 := i_and p.z q.x hp.zl hq.xl
  have Y1 := fun w => ys_any p.n p.x p.z p.f w hp.xl hp.zl
  have Y2 := fun w => ys_any q.n q.x q.z q.f w hq.xl hq.zl
  have Y3 := fun w => ys_any p.n (p.x ^^^ q.x) (p.z ^^^ q.z) 0 w (xor_lt hp.xl hq.xl) (xor_lt hp.zl hq.zl)
  have C := fun w => count_any (p.z &&& q.x) w (and_lt hp.zl)
  have l1 := pop_le 64 (p.x &&& p.z)
  have l2 := pop_le 64 (q.x &&& q.z)
  have l3 := pop_le 64 (p.z &&& q.x)
  have l4 := pop_le 64 ((p.x ^^^ q.x) &&& (p.z ^^^ q.z))
  have hf := hp.f1
  have hf' := hq.f1
  have hR : mulF p.x p.z p.f q.x q.z q.f = (p.f + pop 64 (p.x &&& p.z) + q.f + pop 64 (q.x &&& q.z) + 2 * pop 64 (p.z &&& q.x) + 3 * pop 64 ((p.x ^^^ q.x) &&& (p.z ^^^ q.z))) % 4 := rfl
  unfold PS.mul
  generalize mulF p.x p.z p.f q.x q.z q.f = F at *
  generalize pop 64 (p.x &&& p.z) = a at *
  generalize pop 64 (q.x &&& q.z) = b at *
  generalize pop 64 (p.z &&& q.x) = c at *
  generalize pop 64 ((p.x ^^^ q.x) &&& (p.z ^^^ q.z)) = d at *
  have e9 : bits .and .i64 ((p.f : Int) + (a : Int) + (q.f : Int) + (b : Int) + 2 * (c : Int) - (d : Int)) 3 = (F : Int) := by rw [and3]; omega
  have s1 : IntKind.i64.wrap ((p.f : Int) + (a : Int)) = (p.f : Int) + (a : Int) := by rw [IntKind.wrap_i64]; omega
  have s2 : IntKind.i64.wrap ((p.f : Int) + (a : Int) + (q.f : Int)) = (p.f : Int) + (a : Int) + (q.f : Int) := by rw [IntKind.wrap_i64]; omega
  have s3 : IntKind.i64.wrap ((p.f : Int) + (a : Int) + (q.f : Int) + (b : Int)) = (p.f : Int) + (a : Int) + (q.f : Int) + (b : Int) := by rw [IntKind.wrap_i64]; omega
  have s4 : IntKind.i64.wrap (2 * (c : Int)) = 2 * (c : Int) := by rw [IntKind.wrap_i64]; omega
  have s5 : IntKind.i64.wrap ((p.f : Int) + (a : Int) + (q.f : Int) + (b : Int) + 2 * (c : Int)) = (p.f : Int) + (a : Int) + (q.f : Int) + (b : Int) + 2 * (c : Int) := by rw [IntKind.wrap_i64]; omega
  clear hR hn hp hq
  obtain ⟨n, x, z, f⟩ := p
  obtain ⟨n', x', z', f'⟩ := q
  generalize hX : x ^^^ x' = X at *
  generalize hZ : z ^^^ z' = Z at *
  clear hX hZ
  obtain ⟨hW, b1, b2, b3⟩ := three_boxes w n x z f n' x' z' f' 0 0 0 0
  go_enter Try.func33, Try.ntmps33
  go_upto_region 5 with (go_at_call 57; (with_reducible refine (h _).mono ?_); rintro r w1 ⟨rfl, hN⟩; obtain ⟨c0, c1, c2, c3, f0, f1, f2, f3⟩ := b1.below hN; obtain ⟨d0, d1, d2, d3, g0, g1, g2, g3⟩ := b2.below hN)
  have hV := Below.refl (w1.alloc (pc n X Z 0)).heap.size (w1.alloc (pc n X Z 0))
  obtain ⟨c0, c1, c2, c3, f0, f1, f2, f3⟩ := (b1.below hN).alloc (pc n X Z 0)
  obtain ⟨d0, d1, d2, d3, g0, g1, g2, g3⟩ := (b2.below hN).alloc (pc n X Z 0)
  go_region_held3 (fun w' => Below (w1.alloc (pc n X Z 0)).heap.size (w1.alloc (pc n X Z 0)) w' ∧ w'.cell? ⟨w.heap.size, 0, none⟩ = some (.int .i64 n) ∧ w'.cell? ⟨w.heap.size, 1, none⟩ = some (.int .u64 (x : Int)) ∧ w'.cell? ⟨w.heap.size, 2, none⟩ = some (.int .u64 (z : Int)) ∧ w'.cell? ⟨w.heap.size, 3, none⟩ = some (.int .i64 f) ∧ w'.cell? ⟨w.heap.size + 1, 0, none⟩ = some (.int .i64 n') ∧ w'.cell? ⟨w.heap.size + 1, 1, none⟩ = some (.int .u64 (x' : Int)) ∧ w'.cell? ⟨w.heap.size + 1, 2, none⟩ = some (.int .u64 (z' : Int)) ∧ w'.cell? ⟨w.heap.size + 1, 3, none⟩ = some (.int .i64 f'))
    ((first | exact ⟨below_drew hV, c0, c1, c2, c3, d0, d1, d2, d3⟩ | exact keep8 (by assumption) hN2 | assumption))
    (first
      | (go_at_call 58; (with_reducible refine (Y1 _).mono ?_); rintro e w2 ⟨rfl, hN2⟩; have hK := btr (below_drew hV) hN2)
      | (go_at_call 58; (with_reducible refine (Y2 _).mono ?_); rintro e w3 ⟨rfl, hN2⟩; have hK := btr hK hN2)
      | (go_at_call 59; (with_reducible refine (C _).mono ?_); rintro e w4 ⟨rfl, rfl⟩))
  clear c0 c1 c2 c3 f0 f1 f2 f3 d0 d1 d2 d3 g0 g1 g2 g3
  obtain ⟨c0, c1, c2, c3, f0, f1, f2, f3⟩ := (PB.new w1 n X Z 0).below hK
  have b4 := (((b3.below hN).alloc (pc n X Z 0)).below hK)
  have b5 := (PB.new w1 n X Z 0).below hK
  have hs : w.heap.size + 1 + 1 + 1 ≤ w1.heap.size := by have := hN.size; simpa using this
  have n1 : ¬ w1.heap.size = w.heap.size + 1 + 1 := by omega
  have n2 : ¬ w.heap.size + 1 + 1 = w1.heap.size := by omega
  have n3 : w.heap.size ≤ w1.heap.size := by omega
  have n4 : w.heap.size ≤ w.heap.size + 1 + 1 := by omega
  have hB := btr (bal (btr hW hN) (pc n X Z 0)) hK
  go_wp2_with (go_at_call 58; (with_reducible refine (Y3 _).mono ?_); rintro e w5 ⟨rfl, hN5⟩; obtain ⟨d0, d1, d2, d3, g0, g1, g2, g3⟩ := b4.below hN5; obtain ⟨u0, u1, u2, u3, v0, v1, v2, v3⟩ := b5.below hN5)
  refine bodyPost_ret (v := .tuple #[pv n X Z F, .int .i64 0]) (by simp [results, Try.results33, go_sem, d0, d1, d2, d3]) rfl ⟨rfl, ?_⟩
  repeat (first | exact btr hB hN5 | refine Below.setCell ?_ (by first | exact n3 | exact n4) _)

end Go.Proofs.Ytoddbaljnlhhaaa.PL
