/-
  Put together of: PQ2 E2.
-/
import Derived.Test.YtoddbaljnlhhaabXR
import Derived.Test.YtoddbaljnlhhaabXM
import Derived.Test.YtoddbaljnlhhaabXQ
namespace Go.Proofs.Ytoddbaljnlhhaab.PL
open Go.RowKit Go.Sort

set_option maxHeartbeats 1000000 in
theorem parse_long (L : List UInt8) (w : World) (hl : L.length ≤ 9223372036854775807) (ha : AllLet (cutS L).2) (h64 : 64 < (cutS L).2.length) :
    Calls Try.prog 56 #[.string ⟨L.toArray⟩] w fun e w' => e = .returned (.tuple #[pv 0 0 0 0, .int .i64 1]) ∧ Below w.heap.size w w' := by
  have CS := fun w => cutSign_any L w
  have hr : (cutS L).2.length ≤ 9223372036854775807 := Nat.le_trans (cutS_len L) hl
  have hf := cutS_f L
  generalize (cutS L).2 = R at *
  generalize (cutS L).1 = F at *
  have KD := fun (k : Nat) w => kind_any (gl R k) w (gl_lt R k)
  obtain ⟨hW, b1⟩ := one_box w 0 0 0 0
  obtain ⟨B, c, W1, CV0, hB1, hc, hBb, hC⟩ := conv_rd R (w.alloc (pc 0 0 0 0))
  have CV : (convert 9 55 (.string ⟨R.toArray⟩)).run Try.prog (w.alloc (.cells #[.int .i64 0, .int .u64 0, .int .u64 0, .int .i64 0] 29)) = .ok (.slice (some ⟨B, 0, none⟩) R.length c) W1 := CV0
  have b2 := b1.below hB1
  clear CV0
  have HC : Hid (∀ j, j < R.length → W1.cell? ⟨B, j, none⟩ = some (.int .u8 (gl R j : Nat))) := hC
  have HA : Hid (AllLet R) := ha
  clear hC ha hl
  go_enter Try.func56, Try.ntmps56
  go_upto_region 3 with (go_at_call 76; (with_reducible refine (CS _).mono ?_); rintro e w1 ⟨rfl, rfl⟩)
  clear CV CS
  go_loop [20] (fun i => ∃ k : Nat, k ≤ R.length ∧ i = .int .i64 k) (fun i => R.length - (intOf i).toNat)
  case atStart => exact ⟨0, by omega, rfl⟩
  case round =>
    obtain ⟨k, hk, rfl⟩ := hrel
    by_cases hlt : k < R.length
    · have hcell := HC.out k hlt
      have KDk := fun w => KD k w
      have hkd := kd_let (HA.out k hlt)
      generalize kd (gl R k) = kk at *
      have hkd' : ¬ kk < 0 := by omega
      clear KD
      go_wp2_with (go_at_call 44; (with_reducible refine (KDk _).mono ?_); rintro e w1 ⟨rfl, rfl⟩)
      go_round
      case rel => exact ⟨k + 1, by omega, by go_num⟩
      case measure => simp [intOf]; omega
    · obtain rfl : k = R.length := by omega
      obtain ⟨d0, d1, d2, d3, g0, g1, g2, g3⟩ := b2
      have hsz : (⟨R.toArray⟩ : ByteArray).size = R.length := rfl
      go_wp2
      refine bodyPost_ret (v := .tuple #[pv 0 0 0 0, .int .i64 1]) (by simp [results, Try.results56, go_sem, d0, d1, d2, d3]) rfl ⟨rfl, ?_⟩
      repeat (first | exact btr hW hB1 | refine bset ?_ _ _ _ (by omega))

/-- What Parse reads. -/
def rdP (L : List UInt8) : PS := ⟨(cutS L).2.length, prs (xs (cutS L).2) (cutS L).2.length, prs (zs (cutS L).2) (cutS L).2.length, (cutS L).1⟩
theorem push_x (X c : Nat) (hX : X < 9223372036854775808) (hc : isLet c) : bits .or .u64 ((X : Int) * 2) (IntKind.u64.wrap (bits .and .i64 (kd c) 1)) = ((2 * X + xd c : Nat) : Int) := by
  rcases hc with rfl | rfl | rfl | rfl
  · exact i_push X 0 hX (by decide)
  · exact i_push X 1 hX (by decide)
  · exact i_push X 1 hX (by decide)
  · exact i_push X 0 hX (by decide)
theorem push_z (X c : Nat) (hX : X < 9223372036854775808) (hc : isLet c) : bits .or .u64 ((X : Int) * 2) (IntKind.u64.wrap (kd c / 2)) = ((2 * X + zd c : Nat) : Int) := by
  rcases hc with rfl | rfl | rfl | rfl
  · exact i_push X 0 hX (by decide)
  · exact i_push X 0 hX (by decide)
  · exact i_push X 1 hX (by decide)
  · exact i_push X 1 hX (by decide)
/-- Parse's memory. -/
structure MP (w : World) (B8 B : Nat) (R : List UInt8) (X Z F : Nat) (W : World) : Prop where
  below : Below w.heap.size w W
  r : PB W w.heap.size 0 0 0 0
  p : PB W B8 R.length X Z F
  t : ∀ j, j < R.length → W.cell? ⟨B, j, none⟩ = some (.int .u8 (gl R j : Nat))
theorem MP.put {w : World} {B8 B : Nat} {R : List UInt8} {X Z F : Nat} {W : World} (h : MP w B8 B R X Z F W) (h1 : w.heap.size < B8) (h2 : B8 ≠ B) (X' Z' : Nat) :
    MP w B8 B R X' Z' F ((W.setCell ⟨B8, 1, none⟩ (.int .u64 (X' : Int))).setCell ⟨B8, 2, none⟩ (.int .u64 (Z' : Int))) :=
  ⟨bset (bset h.below _ _ _ (by omega)) _ _ _ (by omega), (h.r.far (by omega) _ _).far (by omega) _ _, (h.p.set1 X').set2 Z', fun j hj => by
    rw [World.cell?_setCell_far _ _ _ _ h2, World.cell?_setCell_far _ _ _ _ h2]; exact h.t j hj⟩

set_option maxHeartbeats 4000000 in
set_option maxRecDepth 100000 in
theorem parse_good (L : List UInt8) (w : World) (hl : L.length ≤ 9223372036854775807) (ha : AllLet (cutS L).2) (h64 : (cutS L).2.length ≤ 64) :
    Calls Try.prog 56 #[.string ⟨L.toArray⟩] w fun e w' => e = .returned (.tuple #[(rdP L).v, .int .i64 0]) ∧ Below w.heap.size w w' := by
  unfold rdP
  have CS := fun w => cutSign_any L w
  have hr : (cutS L).2.length ≤ 9223372036854775807 := Nat.le_trans (cutS_len L) hl
  have hf := cutS_f L
  generalize (cutS L).2 = R at *
  generalize (cutS L).1 = F at *
  have KD := fun (k : Nat) w => kind_any (gl R k) w (gl_lt R k)
  obtain ⟨hW, b1⟩ := one_box w 0 0 0 0
  obtain ⟨B, c, W1, CV0, hB1, hc, hBb, hC⟩ := conv_rd R (w.alloc (pc 0 0 0 0))
  have CV : (convert 9 55 (.string ⟨R.toArray⟩)).run Try.prog (w.alloc (.cells #[.int .i64 0, .int .u64 0, .int .u64 0, .int .i64 0] 29)) = .ok (.slice (some ⟨B, 0, none⟩) R.length c) W1 := CV0
  have b2 := b1.below hB1
  clear CV0
  have HC : Hid (∀ j, j < R.length → W1.cell? ⟨B, j, none⟩ = some (.int .u8 (gl R j : Nat))) := hC
  have HA : Hid (AllLet R) := ha
  have h65 : ¬ (64 : Int) < (R.length : Int) := by omega
  have h66 : ¬ 64 < R.length := by omega
  clear hC ha hl
  go_enter Try.func56, Try.ntmps56
  go_upto_region 3 with (go_at_call 76; (with_reducible refine (CS _).mono ?_); rintro e w1 ⟨rfl, rfl⟩)
  clear CV CS
  go_loop [20] (fun i => ∃ k : Nat, k ≤ R.length ∧ i = .int .i64 k) (fun i => R.length - (intOf i).toNat)
  case atStart => exact ⟨0, by omega, rfl⟩
  case round =>
    obtain ⟨k, hk, rfl⟩ := hrel
    by_cases hlt : k < R.length
    · have hcell := HC.out k hlt
      have KDk := fun w => KD k w
      have hkd := kd_let (HA.out k hlt)
      generalize kd (gl R k) = kk at *
      have hkd' : ¬ kk < 0 := by omega
      clear KD
      go_wp2_with (go_at_call 44; (with_reducible refine (KDk _).mono ?_); rintro e w1 ⟨rfl, rfl⟩)
      go_round
      case rel => exact ⟨k + 1, by omega, by go_num⟩
      case measure => simp [intOf]; omega
    · obtain rfl : k = R.length := by omega
      obtain ⟨B2, c', W2, CV2, hB2, hc2, hBb2, hC2⟩ := conv_rd R (W1.alloc (pc R.length 0 0 F))
      have CV3 : (convert 9 55 (.string ⟨R.toArray⟩)).run Try.prog (W1.alloc (.cells #[.int .i64 (R.length : Int), .int .u64 0, .int .u64 0, .int .i64 (F : Int)] 29)) = .ok (.slice (some ⟨B2, 0, none⟩) R.length c') W2 := CV2
      have hs1 := b2.lt
      have hM : Hid (MP w W1.heap.size B2 R 0 0 F W2) := ⟨btr (bal (btr hW hB1) _) hB2, (b2.alloc _).below hB2, (PB.new W1 R.length 0 0 F).below hB2, hC2⟩
      have hne : W1.heap.size ≠ B2 := by rw [alz] at hBb2; omega
      clear CV2 hC2 HC b1 b2 hB2 hBb2 hBb
      generalize hB8 : W1.heap.size = B8 at *
      go_upto_region 12 with (fail)
      clear CV3
      go_loopw [40] (fun i wr => ∃ k : Nat, k ≤ R.length ∧ i = .int .i64 k ∧ Hid (MP w B8 B2 R (prs (xs R) k) (prs (zs R) k) F wr)) (fun i _ => R.length - (intOf i).toNat)
      case atStart => exact ⟨0, by omega, rfl, hM⟩
      case round =>
        clear hM
        obtain ⟨k, hk, rfl, hH⟩ := hrel
        by_cases hlt : k < R.length
        · have hcell := hH.out.t k hlt
          have KDk := fun w => KD k w
          have hX := prs_small (xs_le R) (show k < 64 by omega)
          have hZ := prs_small (zs_le R) (show k < 64 by omega)
          have PX := push_x (prs (xs R) k) (gl R k) hX (HA.out k hlt)
          have PZ := push_z (prs (zs R) k) (gl R k) hZ (HA.out k hlt)
          have EX : Hid (prs (xs R) (k + 1) = 2 * prs (xs R) k + xd (gl R k)) := rfl
          have EZ : Hid (prs (zs R) (k + 1) = 2 * prs (zs R) k + zd (gl R k)) := rfl
          have hkd := kd_let (HA.out k hlt)
          obtain ⟨X', hX'⟩ : ∃ X', Hid (X' = 2 * prs (xs R) k + xd (gl R k)) := ⟨_, rfl⟩
          obtain ⟨Z', hZ'⟩ : ∃ Z', Hid (Z' = 2 * prs (zs R) k + zd (gl R k)) := ⟨_, rfl⟩
          rw [← hX'.out] at PX EX
          rw [← hZ'.out] at PZ EZ
          generalize prs (xs R) k = X at *
          generalize prs (zs R) k = Z at *
          generalize kd (gl R k) = kk at *
          have hwX : IntKind.u64.wrap ((X : Int) * 2) = (X : Int) * 2 := by rw [IntKind.wrap_u64]; omega
          have hwZ : IntKind.u64.wrap ((Z : Int) * 2) = (Z : Int) * 2 := by rw [IntKind.wrap_u64]; omega
          obtain ⟨p0, p1, p2, p3, g0, g1, g2, g3⟩ := hH.out.p
          clear KD
          go_wp2_with (go_at_call 44; (with_reducible refine (KDk _).mono ?_); rintro e w1 ⟨rfl, rfl⟩)
          go_roundw
          case rel =>
            refine ⟨k + 1, by omega, by go_num, ?_⟩
            rw [EX.out, EZ.out]
            exact hH.out.put hs1 hne X' Z'
          case measure => simp [intOf]; omega
        · obtain rfl : k = R.length := by omega
          obtain ⟨p0, p1, p2, p3, g0, g1, g2, g3⟩ := hH.out.p
          obtain ⟨r0, r1, r2, r3, k0, k1, k2, k3⟩ := hH.out.r
          obtain ⟨X, eX⟩ : ∃ X, Hid (X = prs (xs R) R.length) := ⟨_, rfl⟩
          obtain ⟨Z, eZ⟩ : ∃ Z, Hid (Z = prs (zs R) R.length) := ⟨_, rfl⟩
          rw [← eX.out] at p1
          rw [← eZ.out] at p2
          have n1 : ¬ B8 = w.heap.size := by omega
          have n2 : ¬ w.heap.size = B8 := by omega
          go_wp2
          refine bodyPost_ret (v := .tuple #[pv R.length X Z F, .int .i64 0]) (by simp [results, Try.results56, go_sem, r0, r1, r2, r3]) rfl ⟨by rw [eX.out, eZ.out], ?_⟩
          repeat (first | exact hH.out.below | refine bset ?_ _ _ _ (by omega))

end Go.Proofs.Ytoddbaljnlhhaab.PL
namespace Go.Proofs.Ytoddbaljnlhhaab
open Go.RowKit Go.Sort
open PL (pv PS bt cgk cgT)

def letB (L : List UInt8) : Bool := (List.range L.length).all fun i => PL.gl L i == 73 || (PL.gl L i == 88 || (PL.gl L i == 89 || PL.gl L i == 90))
theorem letB_all {L : List UInt8} (h : letB L = true) : PL.AllLet L := fun i hi => by
  have h1 := PL.all_range h hi
  simp only [Bool.or_eq_true, beq_iff_eq] at h1
  exact h1
theorem cgx_ok : ∀ i, i < 17 → ∀ j, j < 2 * cgk i → (cgX i j).length ≤ 10 ∧ letB (PL.cutS (cgX i j)).2 = true ∧ (PL.cutS (cgX i j)).2.length ≤ 64 ∧ (PL.rdP (cgX i j)).n = cgk i ∧ (PL.rdP (cgX i j)).x = (cgT i j).1 ∧ (PL.rdP (cgX i j)).z = (cgT i j).2.1 ∧ (PL.rdP (cgX i j)).f = (cgT i j).2.2 := by decide +kernel
/-- A gate's turns as rows. -/
def cgRow (i j : Nat) : Pr := ⟨cgk i, (cgT i j).1, (cgT i j).2.1, (cgT i j).2.2⟩
def cgRows (i m : Nat) : List Pr := (List.range m).map (cgRow i)
theorem cgRows_succ (i m : Nat) : cgRows i (m + 1) = cgRows i m ++ [cgRow i m] := by unfold cgRows; rw [List.range_succ, List.map_append]; rfl
theorem cgRows_len (i m : Nat) : (cgRows i m).length = m := by simp [cgRows]
theorem cgRow_lt (i j : Nat) (hi : i < 17) : (cgRow i j).w64 := by
  have h := PL.cgT_sm i hi j
  exact ⟨Nat.lt_of_lt_of_le h.1 (by decide), Nat.lt_of_lt_of_le h.2 (by decide)⟩
set_option maxHeartbeats 2000000 in
set_option maxRecDepth 100000 in
theorem turnsOf_any (i : Nat) (hi : i < 17) (w : World) : Calls Try.prog 31 #[.string (cgN i)] w fun e w' => ∃ v, e = .returned v ∧ OT w' w.heap.size v (cgRows i (2 * cgk i)) ∧ Below w.heap.size w w' := by
  obtain ⟨i7, hi7, hz7, hs7, hb7⟩ := info_parts Try.info29
  have HI7 := hid hi7
  clear hi7
  have TT := fun w => tt_any i hi w
  have hk4 : 2 * cgk i ≤ 4 := by rcases (PL.cgk_is i hi).1 with h | h <;> omega
  obtain ⟨M, hM⟩ : ∃ M, Hid (M = 2 * cgk i) := ⟨_, rfl⟩
  have HX : Hid (∀ j, j < M → ∀ w, Calls Try.prog 56 #[.string ⟨(cgX i j).toArray⟩] w fun e w' => e = .returned (.tuple #[pv (cgRow i j).n (cgRow i j).x (cgRow i j).z (cgRow i j).f, .int .i64 0]) ∧ Below w.heap.size w w') := fun j hj w => by
    rw [hM.out] at hj
    obtain ⟨h1, h2, h3, h4, h5, h6, h7⟩ := cgx_ok i hi j hj
    have h := PL.parse_good (cgX i j) w (by omega) (letB_all h2) h3
    have e : (PL.rdP (cgX i j)).v = pv (cgRow i j).n (cgRow i j).x (cgRow i j).z (cgRow i j).f := by
      show pv _ _ _ _ = _
      rw [h4, h5, h6, h7]
      rfl
    rw [e] at h
    exact h
  rw [← hM.out] at TT hk4
  have HT : Hid (∀ w' B, TX w' B i → ∀ j, j < M → B < w'.heap.size ∧ w'.cell? ⟨B, j, none⟩ = some (.string ⟨(cgX i j).toArray⟩)) := fun w' B h j hj => ⟨h.lt, h.at_ (by rw [← hM.out]; exact hj)⟩
  go_enter Try.func31, Try.ntmps31
  go_wp2_with (go_at_call 55; (with_reducible refine (TT _).mono ?_); rintro e w1 ⟨rfl, hB1, hT1⟩)
  have HB1 := hid hB1
  have HT1 := hid hT1
  clear TT hB1 hT1
  go_loopw [3, 11] (fun v3 v11 wx => ∃ j : Nat, j ≤ M ∧ v11 = .int .i64 (j : Nat) ∧ Hid (OT wx w.heap.size v3 (cgRows i j)) ∧ Hid (TX wx w.heap.size i) ∧ Hid (Below w.heap.size w wx)) (fun _ v11 _ => M - (intOf v11).toNat)
  case atStart => exact ⟨0, Nat.zero_le _, rfl, OT.nil _ _, HT1, HB1⟩
  case round =>
    clear HT1 HB1
    obtain ⟨j, hj, rfl, HO, HT1, HB⟩ := hrel
    obtain ⟨L, hL⟩ : ∃ L, Hid (L = cgRows i j) := ⟨_, rfl⟩
    rw [← hL.out] at HO
    obtain ⟨a1, c1, rfl⟩ := own_shape HO.out.own
    have HLL : Hid (L.length = j) := by show _ = _; rw [hL.out, cgRows_len]
    by_cases hlt : j < M
    case neg =>
      obtain rfl : j = M := by omega
      go_wp2
      go_ret
      exact ⟨_, rfl, by rw [← hM.out, ← hL.out]; exact HO.out, HB.out⟩
    obtain ⟨hbl, hcl⟩ := HT.out _ _ HT1.out j hlt
    have R := HX.out j hlt
    have hw := cgRow_lt i j hi
    have HP : Hid (cgRows i (j + 1) = cgRows i j ++ [cgRow i j]) := cgRows_succ i j
    generalize cgRow i j = r at *
    generalize (⟨(cgX i j).toArray⟩ : ByteArray) = tx at *
    obtain ⟨rn, rx, rz, rf⟩ := r
    simp only at *
    go_wp2_with (first
      | (go_at_call 56; (with_reducible refine (R _).mono ?_); rintro e w1 ⟨rfl, hB1⟩; (have hp := PL.PB.new w1 rn rx rz rf); obtain ⟨c0, c1', c2, c3, _, _, _, _⟩ := hp)
      | (at_builtin; refine Hid.out ?_))
    refine hid ?_
    have hB2 := bal (bal hB1 (PL.pc rn rx rz rf)) (PL.pc rn rx rz rf)
    have hO3 := own_below HO.out.own hB2
    have hnew : ∀ j u, (Pr.cs ⟨rn, rx, rz, rf⟩)[j]? = some u → ((w1.alloc (PL.pc rn rx rz rf)).alloc (PL.pc rn rx rz rf)).cell? ((⟨w1.heap.size + 1, 0, none⟩ : Addr).add j) = some u := fun j u hj => by
      have h := bk_new (w1.alloc (PL.pc rn rx rz rf)) #[.int .i64 rn, .int .u64 (rx : Int), .int .u64 (rz : Int), .int .i64 rf] 29
      rw [PL.alz] at h
      rw [WideShapes.add_plain, Nat.zero_add]
      rw [h.cell j, ← hj]
      exact List.getElem?_toArray
    have hLL := HLL.out
    refine wpList_append_own_at _ rfl _ _ 22 rfl w.heap.size 29 i7 _ 4 32 Try.underlying22 HI7.out hz7 hs7 hb7 rfl (by decide) _ L.length (prz L) rfl hO3 _ 1 1 (Pr.cs ⟨rn, rx, rz, rf⟩) rfl rfl hnew (by intro u hu; simp [Pr.cs] at hu; rcases hu with rfl | rfl | rfl | rfl <;> rfl) (by unfold maxLen; omega) (by omega) (by have h1 := HB.out.size; have h2 := hB2.size; exact Nat.le_trans h1 h2) ?_
    intro v6 w6 hown6 hgrow6 _ _
    have hO6 := OT.app HO.out hown6 hw HO.out.w64 (by omega)
    have hB6 := below_own (btr HB.out hB2) hO3 hgrow6
    have hT6 : TX w6 w.heap.size i := by
      obtain ⟨cs, h1, h2⟩ := HT1.out
      exact ⟨cs, bk_grown hO3 hgrow6 (bk_on h1 hB2) (by decide), h2⟩
    rw [hL.out, ← HP.out] at hO6
    have HO6 := hid hO6
    clear hgrow6 hown6 hO3 hO6 hLL
    go_wp2
    exact ⟨⟨j + 1, by omega, rfl, HO6, hT6, hB6⟩, by simp only [intOf]; omega⟩
end Go.Proofs.Ytoddbaljnlhhaab
