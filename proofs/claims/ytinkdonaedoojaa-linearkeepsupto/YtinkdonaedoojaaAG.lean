/-
  The reference's Mul.
-/
import Derived.Test.YtinkdonaedoojaaAF
namespace Go.Proofs.Ytinkdonaedoojaa
open Go.RowKit Go.Sort

/-- A row of the reference's product, as far as k. -/
def mmN (x : Nat) (T : Nat → Nat) (k : Nat) : Nat := mk (fun j => par (x &&& T j)) k
theorem mmN_step (x : Nat) (T : Nat → Nat) (k : Nat) (hk : k < 64) : bits .or .u64 (mmN x T k : Int) (IntKind.u64.wrap ((par (x &&& T k) : Int) * 2 ^ k)) = (mmN x T (k + 1) : Int) := mk_step (fun j => par (x &&& T j)) (fun _ => par_le _) k hk
theorem mmN_lt (x : Nat) (T : Nat → Nat) (k : Nat) (hk : k ≤ 64) : mmN x T k < 18446744073709551616 := mk_lt _ k hk
set_option maxHeartbeats 4000000 in
set_option maxRecDepth 100000 in
theorem rmul_good (n : Nat) (a a' : Option Addr) (c c' : Nat) (f g : Nat → Nat) (w : World) (H : RR w a n f) (H' : RR w a' n g) (hf : Gd n n f) (hg : Gd n n g) :
    Calls Try.prog 15 #[lv n a n c, lv n a' n c'] w fun e w' => LR w w' e n n (fun i => mmN (f i) (fun j => trN g j n) n) 0 := by
  obtain ⟨i7, hi7, hz7, hs7, hb7⟩ := info_parts Try.info25
  have HI7 := hid hi7
  clear hi7
  have hn : n ≤ 64 := by have := hf.2.1; omega
  obtain ⟨hB0, hK0, hK1, hK2⟩ := boxes3 w (lcs n a n c) (lcs n a' n c') zl
  have C1 := fun w' (h : Below w.heap.size w w') => rcheck_good n a c f w' (H.below h) hn hf.2.2.2
  have C2 := fun w' (h : Below w.heap.size w w') => rcheck_good n a' c' g w' (H'.below h) hn hg.2.2.2
  have C3 := fun w' (h : Below w.heap.size w w') => turned_any n a' c' g w' (H'.below h) hn
  have HLT := hid H.lt
  have HH := hid H
  have C4 := fun k (x : Nat) w' (h : k < n) => odd_any (f k &&& x) w' (and_lt x (H.lt k h))
  have hTL := hid (fun j => trN_lt g j n hn)
  clear H H' hf hg
  have HB0 := hid hB0
  have HK0 := hid hK0
  have HK1 := hid hK1
  have HK2 := hid hK2
  clear hB0 hK0 hK1 hK2
  go_enter Try.func15, Try.ntmps15
  go_upto_region 3 with (first
    | (go_at_call 10; (with_reducible refine (C1 _ HB0.out).mono ?_); rintro e w1 ⟨rfl, hN⟩; (have HB1 := hid (btr HB0.out hN)); (have K0 := hid (bk_on HK0.out hN)); (have K1 := hid (bk_on HK1.out hN)); (have K2 := hid (bk_on HK2.out hN)); clear hN; (have d0 := K0.out.cell); (have l0 := K0.out.lt); (have d1 := K1.out.cell); (have l1 := K1.out.lt))
    | (go_at_call 10; (with_reducible refine (C2 _ HB1.out).mono ?_); rintro e w2 ⟨rfl, hN⟩; (have HB2 := hid (btr HB1.out hN)); (have M0 := hid (bk_on K0.out hN)); (have M1 := hid (bk_on K1.out hN)); (have M2 := hid (bk_on K2.out hN)); clear hN; (have e0 := M0.out.cell); (have m0 := M0.out.lt); (have e1 := M1.out.cell); (have m1 := M1.out.lt)))
  clear HB0 HB1 HK0 HK1 HK2 K0 K1 K2 d0 l0 d1 l1 C1 C2
  go_upto_region 4 with (go_at_call 25; (with_reducible refine (C3 _ HB2.out).mono ?_); rintro e w3 ⟨v3, rfl, hO3, hN⟩; obtain ⟨aT, cT, rfl⟩ := os_shape hO3)
  have HB3 := hid (btr HB2.out hN)
  have N0 := hid (bk_on M0.out hN)
  have N2 := hid (bk_on M2.out hN)
  have K6 := hid ((bk_new w3 (lcs n aT n cT) 24).alloc (.cells #[.int .i64 (n : Int), .slice none 0 0] 24))
  have K7 := hid (bk_box1 (w := w3) (cs := lcs n aT n cT) (T := 24) #[.int .i64 (n : Int), .slice none 0 0] 24)
  have HB4 := hid (bal (bal (Below.refl w3.heap.size w3) (.cells (lcs n aT n cT) 24)) (.cells #[.int .i64 (n : Int), .slice none 0 0] 24))
  obtain ⟨T, hT⟩ : ∃ T, Hid (T = fun j => trN g j n) := ⟨_, rfl⟩
  have HT : Hid (RR w3 aT n T) := by
    obtain ⟨a', c', e, hr⟩ := hO3.rr
    cases e
    rw [hT.out]
    exact hr
  have hz : w.heap.size + 2 < w3.heap.size := N2.out.lt
  have k0 := N0.out.cell
  have k1 := N0.out.lt
  clear M0 M1 M2 e0 e1 m0 m1 hN hO3 HB2 C3
  go_wp2
  clear k0 k1
  go_loopw [8] (fun v8 wx => ∃ (q : Nat) (v : Value), q ≤ n ∧ v8 = .int .i64 (q : Nat) ∧ Hid (BK wx w3.heap.size (lcs n aT n cT) 24) ∧ Hid (BK wx (w3.heap.size + 1) #[.int .i64 (n : Nat), v] 24) ∧ Hid (wx.ownsRow w3.heap.size 25 1 v q (xsl q (fun i => mmN (f i) T n))) ∧ Hid (Below w3.heap.size w3 wx)) (fun v8 _ => n - (intOf v8).toNat)
  case atStart => exact ⟨0, .slice none 0 0, Nat.zero_le _, rfl, K6, K7, World.ownsRow_nil _ _ _ _, HB4⟩
  case round =>
    clear K6 K7 HB4
    obtain ⟨q, v, hq, rfl, K6, K7, HO, HB⟩ := hrel
    have d0 := (bk_on N0.out HB.out).cell
    have l0 := (bk_on N0.out HB.out).lt
    have d7 := K7.out.cell
    have l7 := K7.out.lt
    obtain ⟨a1, c1, rfl⟩ := own_shape HO.out
    by_cases hlq : q < n
    case neg =>
      obtain rfl : n = q := by omega
      have KR := bk_on N2.out HB.out
      have f1 := KR.free
      have d1 := KR.cell
      have l1 := KR.lt
      have HOS := (os_own HO.out (fun i hi => mmN_lt (f i) T n (by omega))).mono (show w.heap.size ≤ w3.heap.size by omega)
      obtain ⟨q0, q1⟩ := two_set KR (.int .i64 (n : Int)) (.slice a1 n c1)
      have hE := lr_end (E := 0) (M := (n : Int)) HOS KR (by omega) (btr HB3.out HB.out)
      rw [hT.out] at hE
      go_wp2
      exact bodyPost_ret (v := .tuple #[.agg #[.int .i64 (n : Int), .slice a1 n c1], .int .i64 0]) (by simp [results, Try.results15, go_sem, q0, q1]) rfl hE
    go_wp2
    go_loopw [9, 10] (fun y i wx => ∃ k : Nat, k ≤ n ∧ i = .int .i64 k ∧ y = .int .u64 (mmN (f q) T k : Nat) ∧ Hid (BK wx w3.heap.size (lcs n aT n cT) 24) ∧ Hid (BK wx (w3.heap.size + 1) #[.int .i64 (n : Nat), .slice a1 q c1] 24) ∧ Hid (wx.ownsRow w3.heap.size 25 1 (.slice a1 q c1) q (xsl q (fun i => mmN (f i) T n))) ∧ Hid (Below w3.heap.size w3 wx)) (fun _ i _ => n - (intOf i).toNat)
    case atStart => exact ⟨0, Nat.zero_le _, rfl, rfl, K6, K7, HO, HB⟩
    case round =>
      clear K6 K7 HO HB d0 l0 d7 l7
      obtain ⟨k, hk, rfl, rfl, K6, K7, HO, HB⟩ := hrel
      have d0 := (bk_on N0.out HB.out).cell
      have l0 := (bk_on N0.out HB.out).lt
      have hBd : ∀ n, Below wr.heap.size wr (wr.drewN n) := fun n => below_drewN (Below.refl _ _) n
      by_cases hlt : k < n
      · have d6 := K6.out.cell
        have l6 := K6.out.lt
        obtain ⟨b, o, rfl, hc, hb⟩ := (HH.out.below (btr HB3.out HB.out)).at_ q hlq
        obtain ⟨b', o', rfl, hc', hb'⟩ := (HT.out.below HB.out).at_ k hlt
        have CC := fun w' => C4 q (T k) w' hlq
        have HS := hid (mmN_step (f q) T k (by omega))
        have hpl := par_le (f q &&& T k)
        have ha := u64_and_nat (f q) (T k) (HLT.out q hlq) (HT.out.lt k hlt)
        generalize par (f q &&& T k) = P at *
        generalize f q &&& T k = Y at *
        go_wp2
        go_quiet ((go_at_call 30; exact Calls.quiet_of_same (CC _)))
        go_wp2
        exact ⟨⟨k + 1, by omega, by go_num, by rw [HS.out], bk_on K6.out (hBd _), bk_on K7.out (hBd _), own_below HO.out (hBd _), btr HB.out (hBd _)⟩, by simp only [intOf]; omega⟩
      obtain rfl : k = n := by omega
      have d7 := K7.out.cell
      have l7 := K7.out.lt
      have HSX : Hid (xsl (q + 1) (fun i => mmN (f i) T k) = xsl q (fun i => mmN (f i) T k) ++ [.int .u64 (mmN (f q) T k : Int)]) := xsl_succ q _
      generalize xsl q (fun i => mmN (f i) T k) = L at *
      generalize mmN (f q) T k = P at *
      go_wp2_with (at_builtin; refine Hid.out ?_)
      refine hid ?_
      have hB2 := bal (Below.refl wr.heap.size wr) (.cells #[.int .u64 (P : Int)] 25)
      have hO3 := own_below HO.out hB2
      have hnew : ∀ j u, [Value.int .u64 (P : Int)][j]? = some u → (wr.alloc (.cells #[.int .u64 (P : Int)] 25)).cell? ((⟨wr.heap.size, 0, none⟩ : Addr).add j) = some u := fun j u hj => by
        have h := bk_new wr #[.int .u64 (P : Int)] 25
        rw [WideShapes.add_plain, Nat.zero_add]
        rw [h.cell j, ← hj]
        exact List.getElem?_toArray
      refine wpList_append_own_at _ rfl _ _ 22 rfl w3.heap.size 25 i7 _ 1 8 Try.underlying22 HI7.out hz7 hs7 hb7 rfl (by decide) _ q L rfl hO3 _ 1 1 [.int .u64 (P : Int)] rfl rfl hnew (by intro u hu; simp at hu; rcases hu with rfl; rfl) (by unfold maxLen; omega) (by omega) (by have h1 := HB.out.size; have h2 := hB2.size; exact Nat.le_trans h1 h2) ?_
      intro v6 w6 hown6 hgrow6 _ _
      have hown7 := hid hown6
      obtain ⟨a6, c6, rfl⟩ := own_shape hown6
      have HB6 := hid (below_own (btr HB.out hB2) hO3 hgrow6)
      have M6 := hid (bk_grown hO3 hgrow6 (bk_on K6.out hB2) (by decide))
      have M7 := hid (bk_grown hO3 hgrow6 (bk_on K7.out hB2) (by decide))
      clear hgrow6 hown6 hO3 hB2 hnew d0 l0 d7 l7 K6 K7 HO HB
      have d2 := M7.out.cell
      have f2 := M7.out.free
      have l2 := M7.out.lt
      have HO7 := hid (own_put hown7.out M7.out (by decide) 1 (.slice a6 (q + 1) c6))
      rw [← HSX.out] at HO7
      go_wp2
      exact ⟨⟨q + 1, .slice a6 (q + 1) c6, by omega, by go_num, M6.out.far (c := w3.heap.size + 1) (by omega) _ _, M7.out.set 1 _, HO7, bset HB6.out (w3.heap.size + 1) 1 _ (by omega)⟩, by simp only [intOf]; omega⟩
end Go.Proofs.Ytinkdonaedoojaa
