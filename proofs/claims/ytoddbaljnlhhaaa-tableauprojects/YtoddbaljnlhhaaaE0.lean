/-
  tableau: Zero.
-/
import Derived.Test.YtoddbaljnlhhaaaA9
namespace Go.Proofs.Ytoddbaljnlhhaaa
open Go.RowKit Go.Sort
open PL (pv PS bt)

theorem bk_grown {W W' : World} {B b n : Nat} {v : Value} {xs : List Value} {cs : Array Value} {T : TypeId} (ho : W.ownsRow B 27 4 v n xs) (hg : W.grownBy W' v.ownBlock) (hb : BK W b cs T) (hT : 27 ≠ T) : BK W' b cs T :=
  (hg.block b hb.lt (fun e => own_ne ho hb hT b e.symm rfl)).trans hb
/-- Row q of the destabilizers (i = 0), of the stabilizers. -/
def zRow (N i q : Nat) : Pr := if i = 0 then ⟨N, 2 ^ q, 0, 0⟩ else ⟨N, 0, 2 ^ q, 0⟩
def zPart (N i q : Nat) : List Pr := (List.range q).map (zRow N i)
/-- The rows made when the loops stand at i and q. -/
def zUp (N : Nat) : Nat → List Pr
  | 0 => []
  | i + 1 => zUp N i ++ zPart N i N
theorem zPart_succ (N i q : Nat) : zPart N i (q + 1) = zPart N i q ++ [zRow N i q] := by unfold zPart; rw [List.range_succ, List.map_append]; rfl
theorem zPart_len (N i q : Nat) : (zPart N i q).length = q := by simp [zPart]
theorem zUp_len (N : Nat) : ∀ i, (zUp N i).length = i * N
  | 0 => by simp [zUp]
  | i + 1 => by rw [zUp, List.length_append, zUp_len N i, zPart_len, Nat.succ_mul]
def zkb (i : Nat) : Nat := if i = 0 then 88 else 90
theorem zRow_lt {N q : Nat} (i : Nat) (hN : N ≤ 64) (hq : q < N) : (zRow N i q).w64 := by
  have h : (2 : Nat) ^ q < 18446744073709551616 := PL.pow_lt (by omega)
  unfold zRow
  split
  · exact ⟨h, by show 0 < 18446744073709551616; omega⟩
  · exact ⟨by show 0 < 18446744073709551616; omega, h⟩
theorem OT.app {W W' : World} {B : Nat} {v v' : Value} {rs : List Pr} {r : Pr} (_h : OT W B v rs) (ho : W'.ownsRow B 27 4 v' (rs.length + 1) (prz rs ++ r.cs)) (hr : r.w64) (hw : ∀ k (h : k < rs.length), rs[k].w64) (hl : rs.length + 1 ≤ 1000) : OT W' B v' (rs ++ [r]) := by
  refine ⟨?_, ?_, by rw [List.length_append]; exact hl⟩
  · rw [List.length_append, prz_app]
    have e : prz [r] = r.cs := by unfold prz; simp
    rw [e]
    exact ho
  · intro k hk
    by_cases h : k < rs.length
    · rw [List.getElem_append_left h]; exact hw k h
    · rw [List.getElem_append_right (by omega)]
      have e : k - rs.length = 0 := by rw [List.length_append] at hk; simp at hk; omega
      simp only [e, List.getElem_cons_zero]
      exact hr
theorem OT.nil (W : World) (B : Nat) : OT W B (.slice none 0 0) [] := ⟨World.ownsRow_nil _ _ _ _, fun _ h => absurd h (Nat.not_lt_zero _), Nat.zero_le _⟩
theorem one_i (N i q : Nat) (w : World) (hN : N ≤ 64) (hq : q < N) : Calls Try.prog 41 #[.int .i64 (N : Nat), .int .i64 (q : Nat), .int .u8 (zkb i : Nat)] w fun e w' => e = .returned (.tuple #[pv (zRow N i q).n (zRow N i q).x (zRow N i q).z (zRow N i q).f, .int .i64 0]) ∧ Below w.heap.size w w' := by
  unfold zRow zkb
  by_cases h : i = 0
  · simp only [if_pos h]; exact PL.one_x N q w hN hq
  · simp only [if_neg h]; exact PL.one_z N q w hN hq
set_option maxHeartbeats 2000000 in
set_option maxRecDepth 100000 in
theorem zero_yes (N : Nat) (w : World) (hN : N ≤ 64) : Calls Try.prog 14 #[.int .i64 (N : Nat)] w fun e w' => ∃ v, e = .returned (.tuple #[.agg #[.int .i64 (N : Nat), v], .int .i64 0]) ∧ OT w' w.heap.size v (zUp N 2) ∧ Below w.heap.size w w' := by
  obtain ⟨i7, hi7, hz7, hs7, hb7⟩ := info_parts Try.info27
  have HI7 := hid hi7
  have SZ := fun w => sized_any (N : Nat) w
  rw [decide_eq_true (show (0 : Int) ≤ (N : Nat) ∧ ((N : Nat) : Int) ≤ 64 by omega)] at SZ
  have ON := fun i q w (h : q < N) => one_i N i q w hN h
  have hk0 : zkb 0 = 88 := rfl
  have hk1 : zkb 1 = 90 := rfl
  clear hi7
  have hd0 : ((0 : Nat) : Int) = 0 := rfl
  have B0 : Below w.heap.size w (((w.alloc (.cells #[.int .i64 0, .slice none 0 0] 24)).alloc (.cells #[.int .i64 (N : Nat), .slice none 0 0] 24)).alloc (.cells #[.int .u8 88, .int .u8 90] 5)) := bal (bal (bal (Below.refl _ _) _) _) _
  have K0 : BK (((w.alloc (.cells #[.int .i64 0, .slice none 0 0] 24)).alloc (.cells #[.int .i64 (N : Nat), .slice none 0 0] 24)).alloc (.cells #[.int .u8 88, .int .u8 90] 5)) w.heap.size #[.int .i64 0, .slice none 0 0] 24 := ((bk_new w _ _).alloc _).alloc _
  have K1 : BK (((w.alloc (.cells #[.int .i64 0, .slice none 0 0] 24)).alloc (.cells #[.int .i64 (N : Nat), .slice none 0 0] 24)).alloc (.cells #[.int .u8 88, .int .u8 90] 5)) (w.heap.size + 1) #[.int .i64 (N : Nat), .slice none 0 0] 24 := by
    have h := bk_new (w.alloc (.cells #[.int .i64 0, .slice none 0 0] 24)) #[.int .i64 (N : Nat), .slice none 0 0] 24
    rw [PL.alz] at h
    exact h.alloc _
  have K2 : BK (((w.alloc (.cells #[.int .i64 0, .slice none 0 0] 24)).alloc (.cells #[.int .i64 (N : Nat), .slice none 0 0] 24)).alloc (.cells #[.int .u8 88, .int .u8 90] 5)) (w.heap.size + 2) #[.int .u8 88, .int .u8 90] 5 := by
    have h := bk_new ((w.alloc (.cells #[.int .i64 0, .slice none 0 0] 24)).alloc (.cells #[.int .i64 (N : Nat), .slice none 0 0] 24)) #[.int .u8 88, .int .u8 90] 5
    rw [PL.alz, PL.alz] at h
    exact h
  go_enter Try.func14, Try.ntmps14
  go_wp2_with (go_at_call 40; (with_reducible refine (SZ _).mono ?_); rintro e w1 ⟨rfl, rfl⟩)
  go_loopw [18] (fun v18 wx => ∃ (i : Nat) (v : Value), i ≤ 2 ∧ v18 = .int .i64 (i : Nat) ∧ Hid (BK wx w.heap.size #[.int .i64 0, .slice none 0 0] 24) ∧ Hid (BK wx (w.heap.size + 1) #[.int .i64 (N : Nat), v] 24) ∧ Hid (BK wx (w.heap.size + 2) #[.int .u8 88, .int .u8 90] 5) ∧ Hid (OT wx w.heap.size v (zUp N i)) ∧ Hid (Below w.heap.size w wx)) (fun v18 _ => 2 - (intOf v18).toNat)
  case atStart => exact ⟨0, .slice none 0 0, Nat.zero_le _, rfl, K0, K1, K2, OT.nil _ _, B0⟩
  case round =>
    clear K0 K1 K2 B0 SZ
    obtain ⟨i, v, hi, rfl, K0, K1, K2, HO, HB⟩ := hrel
    have d2 := K2.out.cell
    have l2 := K2.out.lt
    have l1 := K1.out.lt
    by_cases hlt : i < 2
    case neg =>
      obtain rfl : i = 2 := by omega
      have d1 := K1.out.cell
      have f0 := K0.out.free
      have d0 := K0.out.cell
      have l0 := K0.out.lt
      obtain ⟨L, hL⟩ : ∃ L, Hid (L = zUp N 2) := ⟨_, rfl⟩
      rw [← hL.out] at HO
      obtain ⟨a1, c1, rfl⟩ := own_shape HO.out.own
      have r0 := K0.out.set 0 (.int .i64 (N : Nat))
      have r1 := r0.set 1 (.slice a1 L.length c1)
      have HO2 := hid ((HO.out.put K0.out (by decide) 0 (.int .i64 (N : Nat))).put r0 (by decide) 1 (.slice a1 L.length c1))
      have HB2 := hid (bset (bset HB.out w.heap.size 0 (.int .i64 (N : Nat)) (Nat.le_refl _)) w.heap.size 1 (.slice a1 L.length c1) (Nat.le_refl _))
      have q0 := r1.cell 0
      have q1 := r1.cell 1
      go_wp2
      have q0 : ((wr.setCell ⟨w.heap.size, 0, none⟩ (.int .i64 (N : Nat))).setCell ⟨w.heap.size, 1, none⟩ (.slice a1 L.length c1)).cell? ⟨w.heap.size, 0, none⟩ = some (.int .i64 (N : Nat)) := r1.cell 0
      have q1 : ((wr.setCell ⟨w.heap.size, 0, none⟩ (.int .i64 (N : Nat))).setCell ⟨w.heap.size, 1, none⟩ (.slice a1 L.length c1)).cell? ⟨w.heap.size, 1, none⟩ = some (.slice a1 L.length c1) := r1.cell 1
      exact bodyPost_ret (v := .tuple #[.agg #[.int .i64 (N : Nat), .slice a1 L.length c1], .int .i64 0]) (by simp [results, Try.results14, go_sem, q0, q1]) rfl ⟨_, rfl, by rw [← hL.out]; exact HO2.out, HB2.out⟩
    have hkb : (#[Value.int .u8 88, .int .u8 90] : Array Value)[i]? = some (.int .u8 (zkb i : Nat)) := by
      rcases (show i = 0 ∨ i = 1 by omega) with rfl | rfl <;> rfl
    have d2i := (K2.out.cell i).trans hkb
    obtain ⟨U, hU⟩ : ∃ U, Hid (U = zUp N i) := ⟨_, rfl⟩
    rw [← hU.out] at HO
    have HZ : Hid (∀ q, (zPart N i q).length = q) := zPart_len N i
    have hdi : decide ((i : Int) < 2) = true := decide_eq_true (by omega)
    clear hkb d2
    go_wp2
    go_loopw [23] (fun v23 wx => ∃ (q : Nat) (v : Value), q ≤ N ∧ v23 = .int .i64 (q : Nat) ∧ Hid (BK wx w.heap.size #[.int .i64 0, .slice none 0 0] 24) ∧ Hid (BK wx (w.heap.size + 1) #[.int .i64 (N : Nat), v] 24) ∧ Hid (BK wx (w.heap.size + 2) #[.int .u8 88, .int .u8 90] 5) ∧ Hid (OT wx w.heap.size v (U ++ zPart N i q)) ∧ Hid (Below w.heap.size w wx)) (fun v23 _ => N - (intOf v23).toNat)
    case atStart => exact ⟨0, v, Nat.zero_le _, rfl, K0, K1, K2, by show OT _ _ _ (U ++ []); rw [List.append_nil]; exact HO.out, HB⟩
    case round =>
      clear K0 K1 K2 HO HB d2i l1 l2
      obtain ⟨q, v, hq, rfl, K0, K1, K2, HO, HB⟩ := hrel
      by_cases hlq : q < N
      case neg =>
        obtain rfl : q = N := by omega
        have HO2 : Hid (OT wr w.heap.size v (zUp q (i + 1))) := by
          show OT _ _ _ (zUp q i ++ zPart q i q)
          rw [← hU.out]
          exact HO.out
        go_wp2
        exact ⟨⟨i + 1, v, by omega, rfl, K0, K1, K2, HO2, HB⟩, by simp only [intOf]; omega⟩
      have R := fun w => ON i q w hlq
      have hw := zRow_lt i hN hlq
      have HP : Hid (zPart N i (q + 1) = zPart N i q ++ [zRow N i q]) := zPart_succ N i q
      have HUL : Hid (U.length + q ≤ 128) := by
        show _ ≤ 128
        rw [hU.out, zUp_len]
        rcases (show i = 0 ∨ i = 1 by omega) with rfl | rfl <;> omega
      obtain ⟨L, hL⟩ : ∃ L, Hid (L = U ++ zPart N i q) := ⟨_, rfl⟩
      rw [← hL.out] at HO
      have HLL : Hid (L.length ≤ 128) := by
        show _ ≤ 128
        rw [hL.out, List.length_append, HZ.out]
        exact HUL.out
      clear ON
      generalize zRow N i q = r at *
      obtain ⟨rn, rx, rz, rf⟩ := r
      simp only at *
      obtain ⟨a1, c1, rfl⟩ := own_shape HO.out.own
      have d2i := (K2.out.cell i).trans (show (#[Value.int .u8 88, .int .u8 90] : Array Value)[i]? = some (.int .u8 (zkb i : Nat)) by rcases (show i = 0 ∨ i = 1 by omega) with rfl | rfl <;> rfl)
      have l1 := K1.out.lt
      go_wp2_with (first
        | (go_at_call 41; (with_reducible refine (R _).mono ?_); rintro e w1 ⟨rfl, hB1⟩; (have k1 := (bk_on K1.out hB1).alloc (PL.pc rn rx rz rf)); (have d1 := k1.cell); (have f1 := k1.free); (have g1 := k1.lt); (have hp := PL.PB.new w1 rn rx rz rf); obtain ⟨c0, c1', c2, c3, _, _, _, _⟩ := hp)
        | (at_builtin; refine Hid.out ?_))
      refine hid ?_
      have hB2 := bal (bal hB1 (PL.pc rn rx rz rf)) (PL.pc rn rx rz rf)
      have hO2 := HO.out.own
      have hO3 := own_below hO2 hB2
      have hK1 := bk_on K1.out hB2
      have hnew : ∀ j u, (Pr.cs ⟨rn, rx, rz, rf⟩)[j]? = some u → ((w1.alloc (PL.pc rn rx rz rf)).alloc (PL.pc rn rx rz rf)).cell? ((⟨w1.heap.size + 1, 0, none⟩ : Addr).add j) = some u := fun j u hj => by
        have h := bk_new (w1.alloc (PL.pc rn rx rz rf)) #[.int .i64 rn, .int .u64 (rx : Int), .int .u64 (rz : Int), .int .i64 rf] 27
        rw [PL.alz] at h
        rw [WideShapes.add_plain, Nat.zero_add]
        rw [h.cell j, ← hj]
        exact List.getElem?_toArray
      have hLL := HLL.out
      refine wpList_append_own_at _ rfl _ _ 22 rfl w.heap.size 27 i7 _ 4 32 Try.underlying22 HI7.out hz7 hs7 hb7 rfl (by decide) _ L.length (prz L) rfl hO3 _ 1 1 (Pr.cs ⟨rn, rx, rz, rf⟩) rfl rfl hnew (by intro u hu; simp [Pr.cs] at hu; rcases hu with rfl | rfl | rfl | rfl <;> rfl) (by unfold maxLen; omega) (by omega) (by have h1 := HB.out.size; have h2 := hB2.size; exact Nat.le_trans h1 h2) ?_
      intro v6 w6 hown6 hgrow6 _ _
      have hO6 := OT.app HO.out hown6 hw HO.out.w64 (by omega)
      obtain ⟨a6, c6, rfl⟩ := own_shape hown6
      have hB6 := below_own (btr HB.out hB2) hO3 hgrow6
      have k0 := bk_grown hO3 hgrow6 (bk_on K0.out hB2) (by decide)
      have k1' := bk_grown hO3 hgrow6 hK1 (by decide)
      have k2 := bk_grown hO3 hgrow6 (bk_on K2.out hB2) (by decide)
      have d6 := k1'.cell
      have f6 := k1'.free
      have l6 := k1'.lt
      have HF : Hid (L ++ [⟨rn, rx, rz, rf⟩] = U ++ zPart N i (q + 1)) := by show _ = _; rw [hL.out, HP.out, List.append_assoc]
      have hO7 := hO6.put k1' (by decide) 1 (.slice a6 (L.length + 1) c6)
      rw [HF.out] at hO7
      clear hgrow6 hown6 hO6 hO3 hO2
      go_wp2
      exact ⟨⟨q + 1, .slice a6 (L.length + 1) c6, by omega, rfl, k0.far (c := w.heap.size + 1) (by omega) _ _, k1'.set 1 _, k2.far (c := w.heap.size + 1) (by omega) _ _, hO7, bset hB6 (w.heap.size + 1) 1 _ (by omega)⟩, by simp only [intOf]; omega⟩
set_option maxHeartbeats 1000000 in
theorem zero_no (n : Int) (w : World) (h : ¬ (0 ≤ n ∧ n ≤ 64)) : Calls Try.prog 14 #[.int .i64 n] w fun e w' => e = .returned (.tuple #[.agg #[.int .i64 0, .slice none 0 0], .int .i64 2]) ∧ Below w.heap.size w w' := by
  have SZ := fun w => sized_any n w
  rw [decide_eq_false h] at SZ
  have k0 := bk_new w #[.int .i64 0, .slice none 0 0] 24
  have r1 := (k0.set 0 (.int .i64 0)).set 1 (.slice none 0 0)
  go_enter Try.func14, Try.ntmps14
  go_wp2_with (go_at_call 40; (with_reducible refine (SZ _).mono ?_); rintro e w1 ⟨rfl, rfl⟩)
  exact bodyPost_ret (v := .tuple #[.agg #[.int .i64 0, .slice none 0 0], .int .i64 2]) (by simp [results, Try.results14, go_sem]) rfl ⟨rfl, bal (Below.refl _ _) _⟩
end Go.Proofs.Ytoddbaljnlhhaaa
