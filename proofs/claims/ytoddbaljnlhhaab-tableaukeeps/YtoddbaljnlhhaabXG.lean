/-
  Put together of: PR1 PR2 PR3.
-/
import Derived.Test.YtoddbaljnlhhaabXF
namespace Go.Proofs.Ytoddbaljnlhhaab.PL
open Go.RowKit Go.Sort

theorem at_any (n : Int) (x z : Nat) (f : Int) (j : Nat) (w : World) (hx : x < 18446744073709551616) (hz : z < 18446744073709551616) (hj : j < 64) :
    Calls Try.prog 65 #[pv n x z f, .int .i64 j] w fun e w' => e = .returned (.int .i64 (atK (bt x j) (bt z j) : Nat)) ∧ Below w.heap.size w w' := by
  have e1 := i_bit x j hx
  have e2 := i_bit z j hz
  rcases bt01 x j with h | h <;> rcases bt01 z j with g | g <;> rw [h] at e1 <;> rw [g] at e2 <;> rw [h, g]
  · show Calls Try.prog 65 #[pv n x z f, .int .i64 j] w fun e w' => e = .returned (.int .i64 0) ∧ Below w.heap.size w w'
    clear h g
    go_enter Try.func65, Try.ntmps65
    go_wp2
    go_ret
    exact ⟨rfl, bal (Below.refl _ _) _⟩
  · show Calls Try.prog 65 #[pv n x z f, .int .i64 j] w fun e w' => e = .returned (.int .i64 3) ∧ Below w.heap.size w w'
    clear h g
    go_enter Try.func65, Try.ntmps65
    go_wp2
    go_ret
    exact ⟨rfl, bal (Below.refl _ _) _⟩
  · show Calls Try.prog 65 #[pv n x z f, .int .i64 j] w fun e w' => e = .returned (.int .i64 1) ∧ Below w.heap.size w w'
    clear h g
    go_enter Try.func65, Try.ntmps65
    go_wp2
    go_ret
    exact ⟨rfl, bal (Below.refl _ _) _⟩
  · show Calls Try.prog 65 #[pv n x z f, .int .i64 j] w fun e w' => e = .returned (.int .i64 2) ∧ Below w.heap.size w w'
    clear h g
    go_enter Try.func65, Try.ntmps65
    go_wp2
    go_ret
    exact ⟨rfl, bal (Below.refl _ _) _⟩

theorem product_any (a b : Nat) (w : World) (ha : a ≤ 3) (hb : b ≤ 3) :
    Calls Try.prog 64 #[.int .i64 a, .int .i64 b] w fun e w' => e = .returned (.tuple #[.int .i64 (prodK a b : Nat), .int .i64 (prodF a b : Nat)]) ∧ w' = w := by
  have h1 : a = 0 ∨ a = 1 ∨ a = 2 ∨ a = 3 := by omega
  have h2 : b = 0 ∨ b = 1 ∨ b = 2 ∨ b = 3 := by omega
  rcases h1 with rfl | rfl | rfl | rfl <;> rcases h2 with rfl | rfl | rfl | rfl
  all_goals
    go_enter Try.func64, Try.ntmps64
    go_wp2
    go_ret2
    exact ⟨rfl, rfl⟩

end Go.Proofs.Ytoddbaljnlhhaab.PL
namespace Go.Proofs.Ytoddbaljnlhhaab.PL
open Go.RowKit Go.Sort

section
variable {W : World} {B : Nat} {n : Int} {x z : Nat} {f : Int}
theorem PB.set0 (h : PB W B n x z f) (m : Int) : PB (W.setCell ⟨B, 0, none⟩ (.int .i64 m)) B m x z f where
  c0 := World.cell?_setCell_same _ _ _ h.c0
  c1 := (World.cell?_setCell_other _ _ _ _ (fun e => by injection e with _ e2; cases e2)).trans h.c1
  c2 := (World.cell?_setCell_other _ _ _ _ (fun e => by injection e with _ e2; cases e2)).trans h.c2
  c3 := (World.cell?_setCell_other _ _ _ _ (fun e => by injection e with _ e2; cases e2)).trans h.c3
  f0 := by simpa using h.f0
  f1 := by simpa using h.f1
  f2 := by simpa using h.f2
  f3 := by simpa using h.f3
theorem PB.set1 (h : PB W B n x z f) (m : Nat) : PB (W.setCell ⟨B, 1, none⟩ (.int .u64 (m : Int))) B n m z f where
  c0 := (World.cell?_setCell_other _ _ _ _ (fun e => by injection e with _ e2; cases e2)).trans h.c0
  c1 := World.cell?_setCell_same _ _ _ h.c1
  c2 := (World.cell?_setCell_other _ _ _ _ (fun e => by injection e with _ e2; cases e2)).trans h.c2
  c3 := (World.cell?_setCell_other _ _ _ _ (fun e => by injection e with _ e2; cases e2)).trans h.c3
  f0 := by simpa using h.f0
  f1 := by simpa using h.f1
  f2 := by simpa using h.f2
  f3 := by simpa using h.f3
theorem PB.set2 (h : PB W B n x z f) (m : Nat) : PB (W.setCell ⟨B, 2, none⟩ (.int .u64 (m : Int))) B n x m f where
  c0 := (World.cell?_setCell_other _ _ _ _ (fun e => by injection e with _ e2; cases e2)).trans h.c0
  c1 := (World.cell?_setCell_other _ _ _ _ (fun e => by injection e with _ e2; cases e2)).trans h.c1
  c2 := World.cell?_setCell_same _ _ _ h.c2
  c3 := (World.cell?_setCell_other _ _ _ _ (fun e => by injection e with _ e2; cases e2)).trans h.c3
  f0 := by simpa using h.f0
  f1 := by simpa using h.f1
  f2 := by simpa using h.f2
  f3 := by simpa using h.f3
theorem PB.set3 (h : PB W B n x z f) (m : Int) : PB (W.setCell ⟨B, 3, none⟩ (.int .i64 m)) B n x z m where
  c0 := (World.cell?_setCell_other _ _ _ _ (fun e => by injection e with _ e2; cases e2)).trans h.c0
  c1 := (World.cell?_setCell_other _ _ _ _ (fun e => by injection e with _ e2; cases e2)).trans h.c1
  c2 := (World.cell?_setCell_other _ _ _ _ (fun e => by injection e with _ e2; cases e2)).trans h.c2
  c3 := World.cell?_setCell_same _ _ _ h.c3
  f0 := by simpa using h.f0
  f1 := by simpa using h.f1
  f2 := by simpa using h.f2
  f3 := by simpa using h.f3
theorem PB.far (h : PB W B n x z f) {R : Nat} (hR : R ≠ B) (o : Nat) (v : Value) : PB (W.setCell ⟨R, o, none⟩ v) B n x z f where
  c0 := (World.cell?_setCell_far _ _ _ _ hR).trans h.c0
  c1 := (World.cell?_setCell_far _ _ _ _ hR).trans h.c1
  c2 := (World.cell?_setCell_far _ _ _ _ hR).trans h.c2
  c3 := (World.cell?_setCell_far _ _ _ _ hR).trans h.c3
  f0 := by simpa using h.f0
  f1 := by simpa using h.f1
  f2 := by simpa using h.f2
  f3 := by simpa using h.f3
end
theorem keep2 {V W W' : World} {A B : Nat} {n : Int} {x z : Nat} {f : Int} {n' : Int} {x' z' : Nat} {f' : Int}
    (h : Below V.heap.size V W ∧ C4 W A n x z f ∧ C4 W B n' x' z' f') (hN : Below W.heap.size W W') :
    Below V.heap.size V W' ∧ C4 W' A n x z f ∧ C4 W' B n' x' z' f' := ⟨btr h.1 hN, C4.below h.2.1 hN, C4.below h.2.2 hN⟩

/-- Mul's memory: its two arguments, the result's cells, the product so far. -/
structure MS (w : World) (n x z : Nat) (f : Int) (x' z' : Nat) (f' : Int) (B : Nat) (X Z : Nat) (P : Int) (W : World) : Prop where
  below : Below w.heap.size w W
  a : PB W w.heap.size n x z f
  b : PB W (w.heap.size + 1) n x' z' f'
  r : PB W (w.heap.size + 1 + 1) 0 0 0 0
  p : PB W B n X Z P
theorem MS.on {w : World} {n x z : Nat} {f : Int} {x' z' : Nat} {f' : Int} {B : Nat} {X Z : Nat} {P : Int} {W W' : World} (h : MS w n x z f x' z' f' B X Z P W) (hN : Below W.heap.size W W') : MS w n x z f x' z' f' B X Z P W' :=
  ⟨btr h.below hN, h.a.below hN, h.b.below hN, h.r.below hN, h.p.below hN⟩
theorem MS.put {w : World} {n x z : Nat} {f : Int} {x' z' : Nat} {f' : Int} {B : Nat} {X Z : Nat} {P : Int} {W : World} (h : MS w n x z f x' z' f' B X Z P W) (hB : w.heap.size + 1 + 1 + 1 ≤ B) (X' Z' : Nat) (P' Q : Int) :
    MS w n x z f x' z' f' B X' Z' Q (((((W.setCell ⟨B, 0, none⟩ (.int .i64 (n : Int))).setCell ⟨B, 1, none⟩ (.int .u64 (X' : Int))).setCell ⟨B, 2, none⟩ (.int .u64 (Z' : Int))).setCell ⟨B, 3, none⟩ (.int .i64 P')).setCell ⟨B, 3, none⟩ (.int .i64 Q)) := by
  have e1 : B ≠ w.heap.size := by omega
  have e2 : B ≠ w.heap.size + 1 := by omega
  have e3 : B ≠ w.heap.size + 1 + 1 := by omega
  have hb : w.heap.size ≤ B := by omega
  exact ⟨bset (bset (bset (bset (bset h.below _ _ _ hb) _ _ _ hb) _ _ _ hb) _ _ _ hb) _ _ _ hb, ((((h.a.far e1 _ _).far e1 _ _).far e1 _ _).far e1 _ _).far e1 _ _,
    ((((h.b.far e2 _ _).far e2 _ _).far e2 _ _).far e2 _ _).far e2 _ _, ((((h.r.far e3 _ _).far e3 _ _).far e3 _ _).far e3 _ _).far e3 _ _, ((((h.p.set0 n).set1 X').set2 Z').set3 P').set3 Q⟩

set_option maxHeartbeats 2000000 in
theorem rmul_yes (p q : PS) (w : World) (hp : p.ok) (hq : q.ok) (hn : p.n = q.n) :
    Calls Try.prog 42 #[p.v, q.v] w fun r w' => r = .returned (.tuple #[(p.mul q).v, .int .i64 0]) ∧ Below w.heap.size w w' := by
  have K1 := rcheck_yes p hp
  have K2 := rcheck_yes q hq
  have A1 := fun (j : Nat) w (hj : j < 64) => at_any p.n p.x p.z p.f j w hp.xl hp.zl hj
  have A2 := fun (j : Nat) w (hj : j < 64) => at_any q.n q.x q.z q.f j w hq.xl hq.zl hj
  have hF := phs_mul p.f q.f hp.x1 hp.z1 (show q.x < 2 ^ p.n from hn ▸ hq.x1) (z' := q.z) hp.n1
  have hX : (p.x ^^^ q.x) % 2 ^ p.n = p.x ^^^ q.x := Nat.mod_eq_of_lt (xor_ltn hp.x1 (hn ▸ hq.x1))
  have hZ : (p.z ^^^ q.z) % 2 ^ p.n = p.z ^^^ q.z := Nat.mod_eq_of_lt (xor_ltn hp.z1 (hn ▸ hq.z1))
  have hXl : ∀ k, (p.x ^^^ q.x) % 2 ^ k < 18446744073709551616 := fun k => Nat.lt_of_le_of_lt (Nat.mod_le _ _) (xor_lt hp.xl hq.xl)
  have hZl : ∀ k, (p.z ^^^ q.z) % 2 ^ k < 18446744073709551616 := fun k => Nat.lt_of_le_of_lt (Nat.mod_le _ _) (xor_lt hp.zl hq.zl)
  have hn64 := hp.n1
  have hf := hp.f1
  have hf' := hq.f1
  unfold PS.mul
  rw [← hX, ← hZ, ← hF]
  clear hp hq hF hX hZ
  obtain ⟨n, x, z, f⟩ := p
  obtain ⟨n', x', z', f'⟩ := q
  simp only at hn
  subst hn
  simp only at A1 A2 hXl hZl hn64 hf hf' ⊢
  obtain ⟨hW, b1, b2, b3⟩ := three_boxes w n x z f n x' z' f' 0 0 0 0
  have s1 : IntKind.i64.wrap ((f : Int) + (f' : Int)) = (f : Int) + (f' : Int) := by rw [IntKind.wrap_i64]; omega
  go_enter Try.func42, Try.ntmps42
  go_upto_region 5 with (first
    | (go_at_call 35; (with_reducible refine (K1 _).mono ?_); rintro e w1 ⟨rfl, hN⟩; replace hW := btr hW hN; replace b1 := b1.below hN; replace b2 := b2.below hN; replace b3 := b3.below hN; have ⟨c0, c1, c2, c3, _, _, _, _⟩ := b2)
    | (go_at_call 35; (with_reducible refine (K2 _).mono ?_); rintro e w2 ⟨rfl, hN⟩; replace hW := btr hW hN; replace b1 := b1.below hN; replace b2 := b2.below hN; replace b3 := b3.below hN; have ⟨a0, a1, a2, a3, _, _, _, _⟩ := b1; have ⟨c0, c1, c2, c3, _, _, _, _⟩ := b2))
  have hs : w.heap.size + 1 + 1 + 1 ≤ w2.heap.size := by
    have := b3.lt
    omega
  have b4 : PB (w2.alloc (pc n 0 0 ((f : Int) + (f' : Int)))) w2.heap.size n 0 0 ((f : Int) + (f' : Int)) := PB.new w2 n 0 0 ((f : Int) + (f' : Int))
  have hM : Hid (MS w n x z f x' z' f' w2.heap.size 0 0 ((f : Int) + (f' : Int)) (w2.alloc (pc n 0 0 ((f : Int) + (f' : Int))))) := ⟨bal hW _, b1.alloc _, b2.alloc _, b3.alloc _, b4⟩
  generalize hB6 : w2.heap.size = B6 at *
  go_upto_region 7 with (fail)
  clear K1 K2 hW b1 b2 b3 b4 s1
  go_loopw [7] (fun i wr => ∃ k : Nat, k ≤ n ∧ i = .int .i64 k ∧ Hid (MS w n x z f x' z' f' B6 ((x ^^^ x') % 2 ^ k) ((z ^^^ z') % 2 ^ k) (((f + f' + phs x z x' z' k : Nat)) : Int) wr)) (fun i _ => n - (intOf i).toNat)
  case atStart =>
    refine ⟨0, by omega, rfl, ?_⟩
    have := hM.out
    simp only [Nat.pow_zero, Nat.mod_one, phs, Nat.add_zero]
    rw [show ((f + f' : Nat) : Int) = (f : Int) + (f' : Int) by omega]
    exact this
  case round =>
    clear hM
    obtain ⟨k, hk, rfl, hH⟩ := hrel
    by_cases hlt : k < n
    · have Ak1 := fun w => A1 k w (by omega)
      have Ak2 := fun w => A2 k w (by omega)
      have PR := fun w => product_any (atK (bt x k) (bt z k)) (atK (bt x' k) (bt z' k)) w (atK_le _ _) (atK_le _ _)
      have hphs := phs_le x z x' z' k
      have hpf := prodF_le (atK (bt x k) (bt z k)) (atK (bt x' k) (bt z' k))
      have HS : Hid (phs x z x' z' (k + 1) = phs x z x' z' k + prodF (atK (bt x k) (bt z k)) (atK (bt x' k) (bt z' k))) := rfl
      have ST := fun w => set_any n ((x ^^^ x') % 2 ^ k) ((z ^^^ z') % 2 ^ k) (((f + f' + phs x z x' z' k : Nat)) : Int) k (prodK (atK (bt x k) (bt z k)) (atK (bt x' k) (bt z' k))) w (hXl k) (hZl k) (by omega) (prodK_le (atK_le _ _) (atK_le _ _))
      rw [setX_step, setZ_step] at ST
      generalize atK (bt x k) (bt z k) = t1 at *
      generalize atK (bt x' k) (bt z' k) = t2 at *
      generalize prodK t1 t2 = kk at *
      generalize prodF t1 t2 = pf at *
      obtain ⟨X', hX'⟩ : ∃ X', Hid (X' = (x ^^^ x') % 2 ^ (k + 1)) := ⟨_, rfl⟩
      obtain ⟨Z', hZ'⟩ : ∃ Z', Hid (Z' = (z ^^^ z') % 2 ^ (k + 1)) := ⟨_, rfl⟩
      rw [← hX'.out, ← hZ'.out] at ST
      generalize (x ^^^ x') % 2 ^ k = X at *
      generalize (z ^^^ z') % 2 ^ k = Z at *
      have hP : f + f' + phs x z x' z' k ≤ 198 := by omega
      have HP : Hid (f + f' + phs x z x' z' (k + 1) = f + f' + phs x z x' z' k + pf) := by show _ = _; rw [HS.out]; omega
      generalize f + f' + phs x z x' z' k = P at *
      clear hphs HS A1 A2 hXl hZl
      have u1 := hH.out.a.c4
      have u2 := hH.out.b.c4
      obtain ⟨p0, p1, p2, p3, _, _, _, _⟩ := hH.out.p
      obtain ⟨a0, _, _, _, _, _, _, _⟩ := hH.out.a
      have hV := Below.refl wr.heap.size wr
      go_upto_region 9 with (fail)
      go_region_held3 (fun w' => Below wr.heap.size wr w' ∧ C4 w' w.heap.size n x z f ∧ C4 w' (w.heap.size + 1) n x' z' f')
        ((first | exact ⟨below_drew hV, u1, u2⟩ | exact keep2 (by assumption) hN | assumption))
        (first
          | (go_at_call 65; (with_reducible refine (Ak1 _).mono ?_); rintro e w3 ⟨rfl, hN⟩; have hK := btr (below_drew hV) hN)
          | (go_at_call 65; (with_reducible refine (Ak2 _).mono ?_); rintro e w4 ⟨rfl, hN⟩; have hK := btr hK hN)
          | (go_at_call 64; (with_reducible refine (PR _).mono ?_); rintro e w5 ⟨rfl, hE⟩; subst hE))
      have hM4 : Hid (MS w n x z f x' z' f' B6 X Z (P : Int) _) := hH.out.on hK
      obtain ⟨q0, q1, q2, q3, _, _, _, _⟩ := hM4.out.p
      clear p0 p1 p2 p3 u1 u2 a0
      have hw : IntKind.i64.wrap ((P : Int) + (pf : Int)) = (P : Int) + (pf : Int) := by rw [IntKind.wrap_i64]; omega
      go_wp2_with (go_at_call 66; (with_reducible refine (ST _).mono ?_); rintro e w6 ⟨rfl, hN6⟩; have hM6 : Hid (MS w n x z f x' z' f' B6 X Z (P : Int) w6) := hM4.out.on hN6; obtain ⟨r0, r1, r2, r3, g0, g1, g2, g3⟩ := hM6.out.p)
      go_roundw
      case rel =>
        refine ⟨k + 1, by omega, by go_num, ?_⟩
        rw [HP.out, ← hX'.out, ← hZ'.out, show ((P + pf : Nat) : Int) = (P : Int) + (pf : Int) by omega]
        exact hM6.out.put hs X' Z' _ _
      case measure => simp [intOf]; omega
    · obtain rfl : k = n := by omega
      have hP := phs_le x z x' z' k
      clear A1 A2 hXl hZl
      obtain ⟨X, hX⟩ : ∃ X, Hid (X = (x ^^^ x') % 2 ^ k) := ⟨_, rfl⟩
      obtain ⟨Z, hZ⟩ : ∃ Z, Hid (Z = (z ^^^ z') % 2 ^ k) := ⟨_, rfl⟩
      obtain ⟨P, hP'⟩ : ∃ P, Hid (P = f + f' + phs x z x' z' k) := ⟨_, rfl⟩
      rw [← hX.out, ← hZ.out, ← hP'.out] at hH
      have hP2 : P ≤ 198 := by have := hP'.out; omega
      clear hP
      obtain ⟨p0, p1, p2, p3, g0, g1, g2, g3⟩ := hH.out.p
      obtain ⟨a0, _, _, _, _, _, _, _⟩ := hH.out.a
      obtain ⟨r0, r1, r2, r3, k0, k1, k2, k3⟩ := hH.out.r
      have n1 : ¬ B6 = w.heap.size + 1 + 1 := by omega
      have n2 : ¬ w.heap.size + 1 + 1 = B6 := by omega
      go_wp2
      refine bodyPost_ret (v := .tuple #[pv k X Z ((P % 4 : Nat) : Int), .int .i64 0]) (by simp [results, Try.results42, go_sem, r0, r1, r2, r3]) rfl ⟨by rw [hX.out, hZ.out, hP'.out], ?_⟩
      repeat (first | exact hH.out.below | refine bset ?_ _ _ _ (by omega))

set_option maxHeartbeats 400000 in
theorem rmul_a (n : Int) (x z : Nat) (f : Int) (n' : Int) (x' z' : Nat) (f' : Int) (w : World) (hx : x < 18446744073709551616) (hz : z < 18446744073709551616) (h : ¬ Good n x z f) :
    Calls Try.prog 42 #[pv n x z f, pv n' x' z' f'] w fun r w' => r = .returned (.tuple #[pv 0 0 0 0, .int .i64 70]) ∧ Below w.heap.size w w' := by
  have K1 := fun w => rcheck_no n x z f w hx hz h
  obtain ⟨hW, b1, b2, b3⟩ := three_boxes w n x z f n' x' z' f' 0 0 0 0
  go_enter Try.func42, Try.ntmps42
  go_wp2_with (go_at_call 35; (with_reducible refine (K1 _).mono ?_); rintro e w1 ⟨rfl, hN⟩; replace hW := btr hW hN; obtain ⟨c0, c1, c2, c3, _, _, _, _⟩ := b3.below hN)
  refine bodyPost_ret (v := .tuple #[pv 0 0 0 0, .int .i64 70]) (by simp [results, Try.results42, go_sem, c0, c1, c2, c3]) rfl ⟨rfl, ?_⟩
  repeat (first | exact hW | refine bset ?_ _ _ _ (by omega))
set_option maxHeartbeats 400000 in
theorem rmul_b (p : PS) (hp : p.ok) (n' : Int) (x' z' : Nat) (f' : Int) (w : World) (hx : x' < 18446744073709551616) (hz : z' < 18446744073709551616) (h : ¬ Good n' x' z' f') :
    Calls Try.prog 42 #[p.v, pv n' x' z' f'] w fun r w' => r = .returned (.tuple #[pv 0 0 0 0, .int .i64 70]) ∧ Below w.heap.size w w' := by
  have K1 := rcheck_yes p hp
  have K2 := fun w => rcheck_no n' x' z' f' w hx hz h
  obtain ⟨n, x, z, f⟩ := p
  obtain ⟨hW, b1, b2, b3⟩ := three_boxes w n x z f n' x' z' f' 0 0 0 0
  go_enter Try.func42, Try.ntmps42
  go_wp2_with (first
    | (go_at_call 35; (with_reducible refine (K1 _).mono ?_); rintro e w1 ⟨rfl, hN⟩; replace hW := btr hW hN; replace b2 := b2.below hN; replace b3 := b3.below hN; have ⟨d0, d1, d2, d3, _, _, _, _⟩ := b2)
    | (go_at_call 35; (with_reducible refine (K2 _).mono ?_); rintro e w2 ⟨rfl, hN⟩; replace hW := btr hW hN; obtain ⟨c0, c1, c2, c3, _, _, _, _⟩ := b3.below hN))
  refine bodyPost_ret (v := .tuple #[pv 0 0 0 0, .int .i64 70]) (by simp [results, Try.results42, go_sem, c0, c1, c2, c3]) rfl ⟨rfl, ?_⟩
  repeat (first | exact hW | refine bset ?_ _ _ _ (by omega))
set_option maxHeartbeats 400000 in
theorem rmul_n (p q : PS) (w : World) (hp : p.ok) (hq : q.ok) (hn : ¬ p.n = q.n) :
    Calls Try.prog 42 #[p.v, q.v] w fun r w' => r = .returned (.tuple #[pv 0 0 0 0, .int .i64 2]) ∧ Below w.heap.size w w' := by
  have K1 := rcheck_yes p hp
  have K2 := rcheck_yes q hq
  obtain ⟨n, x, z, f⟩ := p
  obtain ⟨n', x', z', f'⟩ := q
  have hm : ((n : Int) == (n' : Int)) = false := by simp at hn ⊢; omega
  obtain ⟨hW, b1, b2, b3⟩ := three_boxes w n x z f n' x' z' f' 0 0 0 0
  go_enter Try.func42, Try.ntmps42
  go_wp2_with (first
    | (go_at_call 35; (with_reducible refine (K1 _).mono ?_); rintro e w1 ⟨rfl, hN⟩; replace hW := btr hW hN; replace b1 := b1.below hN; replace b2 := b2.below hN; replace b3 := b3.below hN; have ⟨d0, d1, d2, d3, _, _, _, _⟩ := b2)
    | (go_at_call 35; (with_reducible refine (K2 _).mono ?_); rintro e w2 ⟨rfl, hN⟩; replace hW := btr hW hN; obtain ⟨c0, c1, c2, c3, _, _, _, _⟩ := b3.below hN; obtain ⟨a0, a1, a2, a3, _, _, _, _⟩ := b1.below hN; obtain ⟨d0, d1, d2, d3, _, _, _, _⟩ := b2.below hN))
  refine bodyPost_ret (v := .tuple #[pv 0 0 0 0, .int .i64 2]) (by simp [results, Try.results42, go_sem, c0, c1, c2, c3]) rfl ⟨rfl, ?_⟩
  repeat (first | exact hW | refine bset ?_ _ _ _ (by omega))

end Go.Proofs.Ytoddbaljnlhhaab.PL
namespace Go.Proofs.Ytoddbaljnlhhaab.PL
open Go.RowKit Go.Sort

set_option maxHeartbeats 400000 in
theorem rcommute_no (n : Int) (x z : Nat) (f : Int) (n' : Int) (x' z' : Nat) (f' : Int) (e : Int) (Q : PS) (e' : Int) (w : World) (he : ¬ e = 0)
    (M1 : Cal 42 #[pv n x z f, pv n' x' z' f'] ⟨0, 0, 0, 0⟩ e) (M2 : Cal 42 #[pv n' x' z' f', pv n x z f] Q e') :
    Calls Try.prog 62 #[pv n x z f, pv n' x' z' f'] w fun r w' => r = .returned (.tuple #[.bool false, .int .i64 e]) ∧ Below w.heap.size w w' := by
  have he' : (e == 0) = false := by simp [he]
  obtain ⟨hW, b1, b2⟩ := two_boxes w n x z f n' x' z' f'
  go_enter Try.func62, Try.ntmps62
  go_upto_region 2 with (go_at_call 42; (refine (M1 _).mono ?_); rintro r w1 ⟨rfl, h1⟩; replace hW := btr hW h1; replace b1 := b1.below h1; replace b2 := b2.below h1)
  have ⟨a0, a1, a2, a3, _, _, _, _⟩ := b1
  have ⟨c0, c1, c2, c3, _, _, _, _⟩ := b2
  have l1 := b1.lt
  have l2 := b2.lt
  go_wp2_with (go_at_call 42; (with_reducible refine (M2 _).mono ?_); rintro r w2 ⟨rfl, h2⟩)
  go_ret2
  exact ⟨rfl, bal (btr (bal hW _) h2) _⟩
set_option maxHeartbeats 400000 in
theorem rcommute_core (n : Int) (x z : Nat) (f : Int) (n' : Int) (x' z' : Nat) (f' : Int) (m X Z F G : Nat) (w : World)
    (M1 : ∀ w, Calls Try.prog 42 #[pv n x z f, pv n' x' z' f'] w fun r w' => r = .returned (.tuple #[pv m X Z F, .int .i64 0]) ∧ Below w.heap.size w w') (M2 : ∀ w, Calls Try.prog 42 #[pv n' x' z' f', pv n x z f] w fun r w' => r = .returned (.tuple #[pv m X Z G, .int .i64 0]) ∧ Below w.heap.size w w') :
    Calls Try.prog 62 #[pv n x z f, pv n' x' z' f'] w fun r w' => r = .returned (.tuple #[.bool (decide (F = G)), .int .i64 0]) ∧ Below w.heap.size w w' := by
  obtain ⟨hW, b1, b2⟩ := two_boxes w n x z f n' x' z' f'
  by_cases hFG : F = G
  · subst hFG
    rw [show decide (F = F) = true from decide_eq_true rfl]
    go_enter Try.func62, Try.ntmps62
    go_upto_region 2 with (go_at_call 42; (with_reducible refine (M1 _).mono ?_); rintro r w1 ⟨rfl, h1⟩; replace hW := btr hW h1; replace b1 := b1.below h1; replace b2 := b2.below h1)
    have ⟨a0, a1, a2, a3, _, _, _, _⟩ := b1
    have ⟨c0, c1, c2, c3, _, _, _, _⟩ := b2
    have l1 := b1.lt
    have l2 := b2.lt
    go_wp2_with (go_at_call 42; (with_reducible refine (M2 _).mono ?_); rintro r w2 ⟨rfl, h2⟩; obtain ⟨d0, d1, d2, d3, _, _, _, _⟩ := (PB.new w1 m X Z F).below h2; have l3 := ((PB.new w1 m X Z F).below h2).lt)
    go_ret2
    exact ⟨rfl, bal (btr (bal hW _) h2) _⟩
  · rw [show decide (F = G) = false from decide_eq_false hFG]
    have hFG' : ((F : Int) == (G : Int)) = false := by simp; omega
    go_enter Try.func62, Try.ntmps62
    go_upto_region 2 with (go_at_call 42; (with_reducible refine (M1 _).mono ?_); rintro r w1 ⟨rfl, h1⟩; replace hW := btr hW h1; replace b1 := b1.below h1; replace b2 := b2.below h1)
    have ⟨a0, a1, a2, a3, _, _, _, _⟩ := b1
    have ⟨c0, c1, c2, c3, _, _, _, _⟩ := b2
    have l1 := b1.lt
    have l2 := b2.lt
    go_wp2_with (go_at_call 42; (with_reducible refine (M2 _).mono ?_); rintro r w2 ⟨rfl, h2⟩; obtain ⟨d0, d1, d2, d3, _, _, _, _⟩ := (PB.new w1 m X Z F).below h2; have l3 := ((PB.new w1 m X Z F).below h2).lt)
    go_ret2
    exact ⟨rfl, bal (btr (bal hW _) h2) _⟩
theorem mul_v (p q : PS) : (p.mul q).v = pv p.n (p.x ^^^ q.x) (p.z ^^^ q.z) (mulF p.x p.z p.f q.x q.z q.f : Nat) := rfl
theorem com_dec (x z f x' z' f' : Nat) : decide (comB x z x' z' = 0) = decide (mulF x z f x' z' f' = mulF x' z' f' x z f) := by
  have h := mulF_comm_iff x z f x' z' f'
  by_cases g : comB x z x' z' = 0
  · rw [decide_eq_true g, decide_eq_true (h.2 g)]
  · rw [decide_eq_false g, decide_eq_false (fun e => g (h.1 e))]
theorem rcommute_yes (p q : PS) (w : World) (hp : p.ok) (hq : q.ok) (hn : p.n = q.n) :
    Calls Try.prog 62 #[p.v, q.v] w fun r w' => r = .returned (.tuple #[.bool (decide (comB p.x p.z q.x q.z = 0)), .int .i64 0]) ∧ Below w.heap.size w w' := by
  have M1 := fun w => rmul_yes p q w hp hq hn
  have M2 := fun w => rmul_yes q p w hq hp hn.symm
  rw [mul_v] at M1 M2
  rw [Nat.xor_comm q.x, Nat.xor_comm q.z, ← hn] at M2
  have hd := com_dec p.x p.z p.f q.x q.z q.f
  rw [hd]
  clear hd
  generalize mulF p.x p.z p.f q.x q.z q.f = F at *
  generalize mulF q.x q.z q.f p.x p.z p.f = G at *
  exact rcommute_core p.n p.x p.z p.f q.n q.x q.z q.f p.n (p.x ^^^ q.x) (p.z ^^^ q.z) F G w M1 M2

end Go.Proofs.Ytoddbaljnlhhaab.PL
