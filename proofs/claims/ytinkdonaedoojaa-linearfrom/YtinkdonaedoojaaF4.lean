/-
  The reference's From.
-/
import Derived.Test.YtinkdonaedoojaaF2
import Derived.Test.YtinkdonaedoojaaCD4
import Derived.Test.YtinkdonaedoojaaAE
namespace Go.Proofs.Ytinkdonaedoojaa
open Go.RowKit

/-- Rows that may be none at all. -/
def OZr (W : World) (B M : Nat) (a : Option Addr) (g n : Nat) (f : Nat → Nat) : Prop := n = 0 ∨ (a = some ⟨g, 0, none⟩ ∧ B ≤ g ∧ g < M ∧ OR W g n f)
theorem OZr.on {W W' : World} {B M g n : Nat} {a : Option Addr} {f : Nat → Nat} (h : OZr W B M a g n f) (hb : Below W.heap.size W W') : OZr W' B M a g n f := h.imp id fun ⟨e, h1, h2, h3⟩ => ⟨e, h1, h2, h3.on hb⟩
theorem OZr.os {W : World} {B M g n c : Nat} {a : Option Addr} {f : Nat → Nat} (h : OZr W B M a g n f) (hc : n ≤ c) (hm : c ≤ 9223372036854775807) : OS W B (.slice a n c) n f :=
  ⟨a, c, rfl, hc, hm, h.imp id fun ⟨e, h1, _, h3⟩ => ⟨g, e, h1, h3⟩⟩
theorem ozr_of {W : World} {B n : Nat} {v : Value} {f : Nat → Nat} (h : OS W B v n f) : ∃ a c g, v = .slice a n c ∧ n ≤ c ∧ c ≤ 9223372036854775807 ∧ OZr W B W.heap.size a g n f := by
  obtain ⟨a, c, e, h1, h2, h3⟩ := h
  rcases h3 with h3 | ⟨g, e2, hg, hO⟩
  · exact ⟨a, c, 0, e, h1, h2, .inl h3⟩
  · exact ⟨a, c, g, e, h1, h2, .inr ⟨e2, hg, hO.gl, hO⟩⟩
set_option maxHeartbeats 8000000 in
set_option maxRecDepth 100000 in
theorem rfrom_any (c : CL.Ci) (a : Option Addr) (cp : Nat) (A : Nat → Option Addr) (C : Nat → Nat) (w : World) (H : CL.OS w a cp c.ops A C) :
    Calls Try.prog 23 #[CL.civ c a cp] w fun e w' => LR w w' e (frR c).1 (frR c).2.1 (frR c).2.2.1 (frR c).2.2.2 := by
  have CK := fun w1 h => CL.rcheck_any c a cp A C w1 h
  have HB0 := hid (bal (bal (Below.refl w.heap.size w) (.cells (CL.cic c a cp) 50)) (.cells zl 24))
  have HK0 := hid ((bk_new w (CL.cic c a cp) 50).alloc (.cells zl 24))
  have HK1 := hid (bk_box1 (w := w) (cs := CL.cic c a cp) (T := 50) zl 24)
  have HO := hid H
  by_cases hE : (CL.lk c).2.2 ≠ 0
  · have eR : frR c = frE (CL.lk c).2.2 := by unfold frR; rw [if_pos hE]
    rw [eR]
    clear eR H
    have hE1 : (((CL.lk c).2.2 : Int) != 0) = true := bne_iff_ne.2 (by omega)
    generalize (CL.lk c).2.2 = E at *
    generalize (CL.lk c).1 = E1 at *
    go_enter Try.func23, Try.ntmps23
    go_wp2_with (go_at_call 37; (with_reducible refine (CK _ (HO.out.below HB0.out)).mono ?_); rintro e w1 ⟨rfl, hN⟩; (have K1 := bk_on HK1.out hN); (have s4 := K1.cell); (have s5 := K1.lt); (have s6 := K1.free))
    have HB3 := btr HB0.out hN
    obtain ⟨q0, q1⟩ := two_set K1 (.int .i64 0) (.slice none 0 0)
    exact bodyPost_ret (v := .tuple #[.agg #[.int .i64 0, .slice none 0 0], .int .i64 E]) (by simp [results, Try.results23, go_sem, q0, q1]) rfl (lr_zero _ (bset (bset HB3 (w.heap.size + 1) 0 _ (by omega)) (w.heap.size + 1) 1 _ (by omega)))
  have hE0 : (CL.lk c).2.2 = 0 := by omega
  obtain ⟨z1, z2, z3⟩ := lk_ok hE0
  have HR : Hid (frR c = frG c.q (frF c.ops (fun i => 2 ^ i))) := by show _ = _; unfold frR; rw [if_neg hE]
  generalize frR c = R at *
  have HT := hid z3
  have hl := H.l
  obtain ⟨q, b, os⟩ := c
  simp only at z1 z2 hl
  obtain ⟨n, rfl⟩ := Int.eq_ofNat_of_zero_le z1
  have hn : n ≤ 64 := by omega
  rw [hE0] at CK
  generalize (CL.lk ⟨(n : Int), b, os⟩).1 = E1 at *
  have EY := fun w => reye_good n w hn
  clear H hE hE0 z1 z2 z3
  simp only [Int.toNat_natCast] at HT
  go_enter Try.func23, Try.ntmps23
  go_upto_region 4 with (go_at_call 37; (with_reducible refine (CK _ (HO.out.below HB0.out)).mono ?_); rintro e w1 ⟨rfl, hN⟩)
  have HB1 := hid (btr HB0.out hN)
  have K0 := hid (bk_on HK0.out hN)
  have K1 := hid (bk_on HK1.out hN)
  clear HB0 HK0 HK1 hN CK
  have d0 := K0.out.cell
  have l0 := K0.out.lt
  have hz1 : w.heap.size + 1 < w1.heap.size := K1.out.lt
  go_upto_region 5 with (go_at_call 12; (with_reducible refine (EY _).mono ?_); rintro e w2 ⟨v6, rfl, hO, hN⟩; obtain ⟨a6, c6, g, rfl, hc6, hm6, hZ⟩ := ozr_of hO)
  have hA2 : Below w2.heap.size w2 (w2.alloc (.cells #[.int .i64 (n : Int), .slice a6 n c6] 24)) := bal (Below.refl _ _) _
  have HB2 := hid (btr (btr HB1.out hN) (hA2.mono (Nat.le_refl _)))
  replace K0 := hid ((bk_on K0.out hN).alloc (.cells #[.int .i64 (n : Int), .slice a6 n c6] 24))
  replace K1 := hid ((bk_on K1.out hN).alloc (.cells #[.int .i64 (n : Int), .slice a6 n c6] 24))
  have K6 := hid (bk_new w2 #[.int .i64 (n : Int), .slice a6 n c6] 24)
  have HZ := hid (hZ.on hA2)
  have hM : w.heap.size + 1 < w2.heap.size := by have := hN.size; omega
  clear HB1 hN EY d0 l0 hO hZ hA2
  generalize hV : w2.alloc (.cells #[.int .i64 (n : Int), .slice a6 n c6] 24) = V at *
  clear hV
  generalize w2.heap.size = M at *
  generalize w1.heap.size = B1 at *
  have HF : Hid (frF os (fun i => 2 ^ i) = frF (os.drop 0) (fun i => 2 ^ i)) := by show _ = _; rw [List.drop_zero]
  generalize frF os (fun i => 2 ^ i) = G at *
  have d0 := K0.out.cell
  have l0 := K0.out.lt
  go_wp2
  go_loopw [8] (fun v8 wx => ∃ (k : Nat) (f : Nat → Nat), k ≤ os.length ∧ v8 = .int .i64 k ∧ Hid (BK wx w.heap.size (CL.cic ⟨(n : Int), b, os⟩ a cp) 50) ∧ Hid (BK wx (w.heap.size + 1) zl 24) ∧ Hid (BK wx M #[.int .i64 (n : Int), .slice a6 n c6] 24) ∧ Hid (OZr wx B1 M a6 g n f) ∧ Hid (Below w.heap.size w wx) ∧ Hid (G = frF (os.drop k) f)) (fun v8 _ => os.length - (intOf v8).toNat)
  case atStart => exact ⟨0, _, Nat.zero_le _, rfl, K0, K1, K6, HZ, HB2, HF⟩
  case round =>
    clear K0 K1 K6 HZ HB2 HF d0 l0
    obtain ⟨k, f, hk, rfl, K0, K1, K6, HZ, HB, HF⟩ := hrel
    have d0 := K0.out.cell
    have l0 := K0.out.lt
    have d1 := K1.out.cell
    have l1 := K1.out.lt
    have f1 := K1.out.free
    have d6 := K6.out.cell
    have l6 := K6.out.lt
    by_cases hlt : k < os.length
    case neg =>
      obtain rfl : k = os.length := by omega
      obtain rfl : G = some f := by rw [HF.out, List.drop_of_length_le (Nat.le_refl _)]; rfl
      obtain rfl : R = ((n : Int), n, f, (0 : Int)) := HR.out
      have hO3 := (HZ.out.os hc6 hm6)
      obtain ⟨q0, q1⟩ := two_set K1.out (.int .i64 (n : Int)) (.slice a6 n c6)
      go_wp2
      exact bodyPost_ret (v := .tuple #[.agg #[.int .i64 (n : Int), .slice a6 n c6], .int .i64 0]) (by simp [results, Try.results23, go_sem, q0, q1]) rfl (lr_end (hO3.mono (by omega)) K1.out (by omega) HB.out)
    have hO := HO.out.below HB.out
    obtain ⟨b', o', rfl, r⟩ := hO.at_ k hlt
    have hQ := hO.qs k hlt
    have hT := HT.out os[k] (List.getElem_mem hlt)
    have m0 := r.c0 k hlt
    have m1 := r.c1 k hlt
    have m2 := r.c2 k hlt
    have m3 := r.c3 k hlt
    have m4 := r.c4 k hlt
    have m5 := r.c5 k hlt
    have m6 := r.c6 k hlt
    have hbl := r.lt
    have hF2 := HF.out
    rw [fr_drop hlt] at hF2
    clear r hO HF
    generalize os[k] = o at *
    generalize A k = ak at *
    generalize C k = ck at *
    have HF2 := hid hF2
    clear hF2
    by_cases hkb : kB o = true
    · have HF3 : Hid (G = frF (os.drop (k + 1)) (tn o f)) := by show _ = _; rw [HF2.out, if_pos hkb]
      obtain ⟨t1, t2, t3⟩ := kb_name hkb
      have ht := hT hkb
      have hln : o.qs.length = 2 := by rw [ht.qs]; rfl
      obtain ⟨bq, oq, rfl, r⟩ := hQ.at_ 0 (by omega)
      have r0 := r.c 0 (by omega)
      have r1 := r.c 1 (by omega)
      have e0 : o.qs[0]'(by omega) = (qa o : Int) := by
        have := congrArg (fun l => l.getD 0 0) ht.qs
        simpa [List.getD, List.getElem?_eq_getElem (show 0 < o.qs.length by omega)] using this
      have e1 : o.qs[1]'(by omega) = (qb o : Int) := by
        have := congrArg (fun l => l.getD 1 0) ht.qs
        simpa [List.getD, List.getElem?_eq_getElem (show 1 < o.qs.length by omega)] using this
      rw [e0, Nat.add_zero] at r0
      rw [e1] at r1
      have hqb := r.lt
      rw [t1] at m0
      rw [t2] at m4
      rw [hln] at m2
      have ha := ht.a
      have hb := ht.b
      obtain ⟨rfl, hBg, hgM, hOR⟩ : a6 = some ⟨g, 0, none⟩ ∧ B1 ≤ g ∧ g < M ∧ OR wr g n f := by
        rcases HZ.out with h | h
        · omega
        · exact h
      have hA : ∀ cs, Below wr.heap.size wr (wr.alloc (.cells cs 58)) := fun cs => bal (Below.refl _ _) _
      rcases t3 with e | ⟨e, e2⟩
      · rw [tn_cx e] at HF3
        rw [e] at m1
        clear e t1 t2 e0 e1 ht r hQ hT HF2 hkb hln
        generalize qa o = qx at *
        generalize qb o = qy at *
        generalize o.b = ob at *
        generalize o.m = om at *
        generalize o.v = ov at *
        go_upto_region 11 with (fail)
        have hA1 := hA (ocs 1 cxN (some ⟨bq, oq, none⟩) 2 ck ob false om ov)
        have y0 := (hA1.cell (p := ⟨bq, oq, none⟩) hqb).trans r0
        have y1 := (hA1.cell (p := ⟨bq, oq + 1, none⟩) hqb).trans r1
        have hqb1 := Nat.lt_of_lt_of_le hqb hA1.size
        have K9 := bk_new wr (ocs 1 cxN (some ⟨bq, oq, none⟩) 2 ck ob false om ov) 58
        have k0 := bk_on K0.out hA1
        have k1 := bk_on K1.out hA1
        have k6 := bk_on K6.out hA1
        have kO := hOR.on hA1
        have kB := btr HB.out hA1
        clear m0 m1 m2 m3 m4 m5 m6 hbl r0 r1 hqb d0 d1 d6 l0 l1 l6 f1 K0 K1 K6 HZ hOR HB hA hA1
        generalize wr.alloc (.cells (ocs 1 cxN (some ⟨bq, oq, none⟩) 2 ck ob false om ov) 58) = V at *
        have d9 := K9.cell
        have l9 := K9.lt
        have d6 := k6.cell
        have l6 := k6.lt
        go_region
        all_goals
          clear y0 y1 hqb1 d9 l9 d6 l6
          have hD : Below V.heap.size V V.drew := below_drew (Below.refl _ _)
          have K9' := bk_on K9 hD
          have k0' := bk_on k0 hD
          have k1' := bk_on k1 hD
          have k6' := bk_on k6 hD
          have kO' := kO.on hD
          have kB' := btr kB hD
          clear K9 k0 k1 k6 kO kB hD
          generalize V.drew = X at *
          have d9 := K9'.cell
          have l9 := K9'.lt
          have d6 := k6'.cell
          have l6 := k6'.lt
          have x1 := kO'.cell ha
          have x2 := kO'.cell hb
          have x3 := kO'.free qy
          have x4 := kO'.gl
          have u1 := kO'.lt qy hb
          have u2 := kO'.lt qx ha
          have v1 := i_xor (f qy) (f qx) u1 u2
          have HO1 := hid (kO'.set qy _ (Nat.xor_lt_two_pow (n := 64) u1 u2)).drew
          have HK0 := hid ((k0'.far (c := g) (by omega) qy (.int .u64 ((f qy ^^^ f qx : Nat) : Int))).drew)
          have HK1 := hid ((k1'.far (c := g) (by omega) qy (.int .u64 ((f qy ^^^ f qx : Nat) : Int))).drew)
          have HK6 := hid ((k6'.far (c := g) (by omega) qy (.int .u64 ((f qy ^^^ f qx : Nat) : Int))).drew)
          have HBB := hid (below_drew (bset kB' g qy (.int .u64 ((f qy ^^^ f qx : Nat) : Int)) (by omega)))
          clear kO' k0' k1' k6' kB'
          go_upto_region 14 with (fail)
          go_region
          all_goals
            go_wp2
            go_roundw
            case rel => exact ⟨k + 1, _, by omega, by go_num, HK0, HK1, HK6, hid (.inr ⟨rfl, hBg, hgM, HO1.out⟩), HBB, HF3⟩
            case measure => simp [intOf]; omega
      · rw [tn_sw e] at HF3
        rw [e2] at m1
        clear e e2 t1 t2 e0 e1 ht r hQ hT HF2 hkb hln
        generalize qa o = qx at *
        generalize qb o = qy at *
        generalize o.b = ob at *
        generalize o.m = om at *
        generalize o.v = ov at *
        go_upto_region 11 with (fail)
        have hA1 := hA (ocs 1 swN (some ⟨bq, oq, none⟩) 2 ck ob false om ov)
        have y0 := (hA1.cell (p := ⟨bq, oq, none⟩) hqb).trans r0
        have y1 := (hA1.cell (p := ⟨bq, oq + 1, none⟩) hqb).trans r1
        have hqb1 := Nat.lt_of_lt_of_le hqb hA1.size
        have K9 := bk_new wr (ocs 1 swN (some ⟨bq, oq, none⟩) 2 ck ob false om ov) 58
        have k0 := bk_on K0.out hA1
        have k1 := bk_on K1.out hA1
        have k6 := bk_on K6.out hA1
        have kO := hOR.on hA1
        have kB := btr HB.out hA1
        clear m0 m1 m2 m3 m4 m5 m6 hbl r0 r1 hqb d0 d1 d6 l0 l1 l6 f1 K0 K1 K6 HZ hOR HB hA hA1
        generalize wr.alloc (.cells (ocs 1 swN (some ⟨bq, oq, none⟩) 2 ck ob false om ov) 58) = V at *
        have d9 := K9.cell
        have l9 := K9.lt
        have d6 := k6.cell
        have l6 := k6.lt
        go_region
        all_goals
          clear y0 y1 hqb1 d9 l9 d6 l6
          have hD : Below V.heap.size V V.drew := below_drew (Below.refl _ _)
          have K9' := bk_on K9 hD
          have k0' := bk_on k0 hD
          have k1' := bk_on k1 hD
          have k6' := bk_on k6 hD
          have kO' := kO.on hD
          have kB' := btr kB hD
          clear K9 k0 k1 k6 kO kB hD
          generalize V.drew = X at *
          have d9 := K9'.cell
          have l9 := K9'.lt
          have d6 := k6'.cell
          have l6 := k6'.lt
          have x1 := kO'.cell ha
          have x2 := kO'.cell hb
          have x3 := kO'.free qx
          have x4 := kO'.gl
          have x5 := kO'.free qy
          have y1 : ((X.setCell ⟨g, qx, none⟩ (.int .u64 (f qy : Int))).drew).cell? ⟨g, qy, none⟩ = some (.int .u64 (up f qx (f qy) qy : Int)) := (kO'.set qx _ (kO'.lt qy hb)).cell hb
          have y2 : ((X.setCell ⟨g, qx, none⟩ (.int .u64 (f qy : Int))).drew).frozen? ⟨g, qy, none⟩ = false := (kO'.set qx _ (kO'.lt qy hb)).free qy
          have HO1 := hid (swp_set kO' ha hb).drew
          have HK0 := hid (BK.drew ((k0'.far (c := g) (by omega) qx (.int .u64 (f qy : Int))).far (c := g) (by omega) qy (.int .u64 (f qx : Int))))
          have HK1 := hid (BK.drew ((k1'.far (c := g) (by omega) qx (.int .u64 (f qy : Int))).far (c := g) (by omega) qy (.int .u64 (f qx : Int))))
          have HK6 := hid (BK.drew ((k6'.far (c := g) (by omega) qx (.int .u64 (f qy : Int))).far (c := g) (by omega) qy (.int .u64 (f qx : Int))))
          have HBB := hid (below_drew (bset (bset kB' g qx (.int .u64 (f qy : Int)) (by omega)) g qy (.int .u64 (f qx : Int)) (by omega)))
          clear kO' k0' k1' k6' kB'
          go_upto_region 13 with (fail)
          go_region
          all_goals
            go_wp2
            go_roundw
            case rel => exact ⟨k + 1, _, by omega, by go_num, HK0, HK1, HK6, hid (.inr ⟨rfl, hBg, hgM, HO1.out⟩), HBB, HF3⟩
            case measure => simp [intOf]; omega
    · obtain rfl : G = none := by rw [HF2.out, if_neg hkb]
      obtain rfl : R = frG (n : Int) none := HR.out
      have hcs : (o.k != 1) = true ∨ (o.k = 1 ∧ o.f = true) ∨ (o.k = 1 ∧ o.f = false ∧ (o.n.toList == [99, 120]) = false ∧ (o.n.toList == [115, 119, 97, 112]) = false) := by
        unfold kB at hkb
        by_cases c1 : o.k = 1
        · cases hf : o.f
          · right; right
            rw [c1, hf] at hkb
            simp at hkb
            refine ⟨c1, rfl, ?_, ?_⟩ <;> simp [hkb]
          · right; left; exact ⟨c1, rfl⟩
        · left; simpa using c1
      clear HF2 hkb hT hQ
      have hA : ∀ cs, Below wr.heap.size wr (wr.alloc (.cells cs 58)) := fun cs => bal (Below.refl _ _) _
      have K2 := fun cs => bk_on K1.out (hA cs)
      have s4 := fun cs => (K2 cs).cell
      have s5 := fun cs => (K2 cs).lt
      have s6 := fun cs => (K2 cs).free
      have HB3 := fun cs => btr HB.out (hA cs)
      generalize o.k = ok at *
      generalize o.n = onm at *
      generalize o.f = of at *
      generalize o.b = ob at *
      generalize o.m = om at *
      generalize o.v = ov at *
      rcases hcs with h | ⟨rfl, rfl⟩ | ⟨rfl, rfl, h3, h4⟩
      · go_wp2
        have K2 := ((K1.out.set 0 (.int .i64 0)).set 1 (.slice none 0 0)).alloc (.cells (ocs ok onm ak o.qs.length ck ob of om ov) 58)
        have q0 : (((wr.setCell ⟨w.heap.size + 1, 0, none⟩ (.int .i64 0)).setCell ⟨w.heap.size + 1, 1, none⟩ (.slice none 0 0)).alloc (.cells (ocs ok onm ak o.qs.length ck ob of om ov) 58)).cell? ⟨w.heap.size + 1, 0, none⟩ = some (.int .i64 0) := K2.cell 0
        have q1 : (((wr.setCell ⟨w.heap.size + 1, 0, none⟩ (.int .i64 0)).setCell ⟨w.heap.size + 1, 1, none⟩ (.slice none 0 0)).alloc (.cells (ocs ok onm ak o.qs.length ck ob of om ov) 58)).cell? ⟨w.heap.size + 1, 1, none⟩ = some (.slice none 0 0) := K2.cell 1
        exact bodyPost_ret (v := .tuple #[.agg #[.int .i64 0, .slice none 0 0], .int .i64 120]) (by simp [results, Try.results23, go_sem, q0, q1]) rfl (lr_zero _ (bal (bset (bset HB.out (w.heap.size + 1) 0 _ (by omega)) (w.heap.size + 1) 1 _ (by omega)) _))
      · go_wp2
        have K2 := ((K1.out.set 0 (.int .i64 0)).set 1 (.slice none 0 0)).alloc (.cells (ocs 1 onm ak o.qs.length ck ob true om ov) 58)
        have q0 : (((wr.setCell ⟨w.heap.size + 1, 0, none⟩ (.int .i64 0)).setCell ⟨w.heap.size + 1, 1, none⟩ (.slice none 0 0)).alloc (.cells (ocs 1 onm ak o.qs.length ck ob true om ov) 58)).cell? ⟨w.heap.size + 1, 0, none⟩ = some (.int .i64 0) := K2.cell 0
        have q1 : (((wr.setCell ⟨w.heap.size + 1, 0, none⟩ (.int .i64 0)).setCell ⟨w.heap.size + 1, 1, none⟩ (.slice none 0 0)).alloc (.cells (ocs 1 onm ak o.qs.length ck ob true om ov) 58)).cell? ⟨w.heap.size + 1, 1, none⟩ = some (.slice none 0 0) := K2.cell 1
        exact bodyPost_ret (v := .tuple #[.agg #[.int .i64 0, .slice none 0 0], .int .i64 120]) (by simp [results, Try.results23, go_sem, q0, q1]) rfl (lr_zero _ (bal (bset (bset HB.out (w.heap.size + 1) 0 _ (by omega)) (w.heap.size + 1) 1 _ (by omega)) _))
      · go_wp2
        have K2 := ((K1.out.set 0 (.int .i64 0)).set 1 (.slice none 0 0)).alloc (.cells (ocs 1 onm ak o.qs.length ck ob false om ov) 58)
        have q0 : (((wr.setCell ⟨w.heap.size + 1, 0, none⟩ (.int .i64 0)).setCell ⟨w.heap.size + 1, 1, none⟩ (.slice none 0 0)).alloc (.cells (ocs 1 onm ak o.qs.length ck ob false om ov) 58)).cell? ⟨w.heap.size + 1, 0, none⟩ = some (.int .i64 0) := K2.cell 0
        have q1 : (((wr.setCell ⟨w.heap.size + 1, 0, none⟩ (.int .i64 0)).setCell ⟨w.heap.size + 1, 1, none⟩ (.slice none 0 0)).alloc (.cells (ocs 1 onm ak o.qs.length ck ob false om ov) 58)).cell? ⟨w.heap.size + 1, 1, none⟩ = some (.slice none 0 0) := K2.cell 1
        exact bodyPost_ret (v := .tuple #[.agg #[.int .i64 0, .slice none 0 0], .int .i64 120]) (by simp [results, Try.results23, go_sem, q0, q1]) rfl (lr_zero _ (bal (bset (bset HB.out (w.heap.size + 1) 0 _ (by omega)) (w.heap.size + 1) 1 _ (by omega)) _))
end Go.Proofs.Ytinkdonaedoojaa
