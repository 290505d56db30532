/-
  The law GateEntries answers true of each gate of 3 qubits.
-/
import Derived.Test.YtjmgcgjmaemgdaaV1
namespace Go.Proofs.Ytjmgcgjmaemgdaa
open Go.RowKit Go.Sort

set_option maxRecDepth 100000 in
set_option maxHeartbeats 8000000 in
theorem ge_3 (k : Int) (i : Nat) (hi : i < 25) (hq : qOf i = 3) (hk : (k.tmod 25 + 25).tmod 25 = (i : Int)) (t1 : -25 < k.tmod 25) (t2 : k.tmod 25 < 25) (w : World) : Calls Try.prog 6 #[.int .i64 k] w fun e w' => e = .returned (.bool true) ∧ Below w.heap.size w w' := by
  have AL := alive_any w
  have NC := fun w => names_any w
  have CN : ∀ wr : World, (wr.alloc (.cells NA 9)).cell? ⟨wr.heap.size, i, none⟩ = some (.string (nm i)) := fun wr => cell_of (MapKept.heap_alloc wr (.cells NA 9)).1 (NA_at hi)
  generalize NA = na at NC CN
  have hN : 2 ^ qOf i = 8 := by rw [hq]
  have G := gate_ok i hi
  have MA := fun w => matrix_all i hi w
  have CO := fun y (hy : y < 2 ^ qOf i) w => column_all i y hi hy w
  have AR := fun w => arity_all i hi w
  have HA := fun w => halves_all i hi w
  have DI := fun w => diagonal_all i hi w
  have HC : ∀ x y, matA (ens i) (2 ^ qOf i) x y = cellsO (ec i x y) := mat_c _ _
  have gfin := G.fin
  have gdia := G.dia
  have gh0 := G.h0
  have gh1 := G.h1
  have gcol := G.col
  have gcell := G.cell
  have gnat := fun y hy => (G.col y hy).nat
  have gnhs := fun y hy => (G.col y hy).nhs
  have gnss := fun y hy => (G.col y hy).nss
  simp only [hN] at MA CO HC gfin gdia gcol gcell gnat gnhs gnss
  rw [hq] at AR
  have GC := hidG gcol
  have GX := hidG gcell
  have G1 := hidG gnat
  have G2 := hidG gnhs
  have G3 := hidG gnss
  have G4 := hidG gfin
  have G5 := hidG gdia
  have HM := hidG HC
  have HO := hidG CO
  clear gcol gcell HC CO G hN hq gnat gnhs gnss gfin gdia
  generalize nm i = s at *
  generalize matA (ens i) 8 = A at *
  go_enter Try.func6, Try.ntmps6
  go_upto_region 8 with (first
    | (go_at_call 7; (with_reducible refine AL.mono ?_); rintro e w1 ⟨rfl, hN1⟩; have cn := CN w1)
    | (go_at_call 24; (with_reducible refine (NC _).mono ?_); rintro e w2 ⟨rfl, rfl⟩)
    | (go_at_call 18; (with_reducible refine (MA _).mono ?_); rintro e w3 ⟨M, rfl, hM⟩)
    | (go_at_call 8; (with_reducible refine (AR _).mono ?_); rintro e w4 ⟨rfl, hN4⟩))
  have hI := hidG ((hM.base (bal hN1 _)).on hN4)
  clear AL NC CN MA AR hN1 cn hM hN4 hk t1 t2
  go_upto_region 10 with (fail)
  go_loopw [7, 8, 9] (fun v7 v8 v9 wr => ∃ y : Nat, y ≤ 8 ∧ v9 = .int .i64 y ∧ v7 = .int .i64 (hsS i y 0) ∧ v8 = .bool (ssS i y 0) ∧ Hid (MX w wr M 8 A)) (fun _ _ v9 _ => 8 - (intOf v9).toNat)
  case atStart => exact ⟨0, by omega, rfl, rfl, rfl, hI⟩
  case round =>
    clear hI
    obtain ⟨y, hy, rfl, rfl, rfl, hH⟩ := hrel
    by_cases hlt : y < 8
    · have CK := HO.out y hlt
      have cc := GC.out y hlt
      have n1 := cc.l1
      have n2 := cc.l2
      have nh := cc.lh
      have c1 := hidG (G1.out y hlt)
      have c2 := hidG (G2.out y hlt)
      have c3 := hidG (G3.out y hlt)
      have CV : ∀ w2 e, CR wr w2 (ens i y).length (enR (ens i y)) (enH (ens i y)) (fun j => mo (enP (ens i y) j)) e → ∃ g c g' c', e = .returned (.tuple #[.slice (some ⟨g, 0, none⟩) (ens i y).length c, .slice (some ⟨g', 0, none⟩) (ens i y).length c', .int .i64 0]) ∧ VJ w w2 M 8 A g g' (ens i y).length (enR (ens i y)) (enH (ens i y)) (fun j => mo (enP (ens i y) j)) := fun w2 e H => vj_of hH.out H (by omega)
      have HX : Hid (∀ x, x < 8 → (0 ≤ hsS i y x ∧ hsS i y x ≤ 64 ∧ atS i y x ≤ 8) ∧ ((∃ m h, ec i x y = some (m, h) ∧ SomeAt i y x m h) ∨ (ec i x y = none ∧ NoneAt i y x))) := fun x hx => GX.out y x hlt hx
      have HMy : Hid (∀ x, A x y = cellsO (ec i x y)) := fun x => HM.out x y
      clear cc
      generalize hL : ens i y = L at *
      clear hH
      go_upto_region 15 with (first
        | (go_at_call 21; (with_reducible refine (CK _).mono ?_); rintro e w5 hcr; obtain ⟨g, c, g', c', rfl, hJ⟩ := CV _ _ hcr; clear CV hcr)
        | (go_at_call 10; (with_reducible refine (HA _).mono ?_); rintro e w6 ⟨rfl, hN6⟩))
      have hK := hidG (hJ.on hN6)
      clear hJ hN6 CK nh n1 n2
      go_upto_region 17 with (fail)
      go_loopw [7, 8, 13, 14] (fun v7 v8 v13 v14 wr => ∃ x : Nat, x ≤ 8 ∧ v14 = .int .i64 x ∧ v7 = .int .i64 (hsS i y x) ∧ v8 = .bool (ssS i y x) ∧ v13 = .int .i64 (atS i y x) ∧ Hid (VJ w wr M 8 A g g' L.length (enR L) (enH L) (fun j => mo (enP L j)))) (fun _ _ _ v14 _ => 8 - (intOf v14).toNat)
      case atStart => exact ⟨0, by omega, rfl, rfl, rfl, rfl, hK⟩
      case round =>
        clear hK
        obtain ⟨x, hx, rfl, rfl, rfl, rfl, hV⟩ := hrel
        by_cases hxN : x < 8
        · obtain ⟨⟨b1, b2, b3⟩, hcase⟩ := HX.out x hxN
          have m0 := hV.out.mx.m x hxN
          rcases hcase with ⟨m, h, he, hs⟩ | ⟨he, hn⟩
          · have hA := HMy.out x
            rw [he] at hA
            have e0 : wr.cell? ⟨M + 1 + x, y * 3, none⟩ = some (cx (tA m 1 0 0 0) (tB m 1 0 0 0)) := hV.out.mx.c x y 0 _ hxN hlt (by rw [hA]; rfl)
            have e1 : wr.cell? ⟨M + 1 + x, y * 3 + 1, none⟩ = some (cx (tC m 1 0 0 0) (tD m 1 0 0 0)) := hV.out.mx.c x y 1 _ hxN hlt (by rw [hA]; rfl)
            have e2 : wr.cell? ⟨M + 1 + x, y * 3 + 2, none⟩ = some (.int .i64 h) := hV.out.mx.c x y 2 _ hxN hlt (by rw [hA]; rfl)
            have QZ := run_un_zero m hs.m8 h
            have QN := run_un_nne m hs.m8 h
            have UN := fun w => unit_any m hs.m8 h w
            have ha : atS i y x < L.length := hL ▸ hs.at_
            have hr : enR L (atS i y x) = (x : Int) := hL ▸ hs.row
            have hp : mo (enP L (atS i y x)) = m := hL ▸ hs.pw
            have hf : enH L (atS i y x) = h := hL ▸ hs.hf
            have r0 := hV.out.rc _ ha
            have a0 := hV.out.a0 _ ha
            have a1 := hV.out.a1 _ ha
            have a2 := hV.out.a2 _ ha
            simp only [hr, hp, hf] at r0 a0 a1 a2
            have s0 := hs.h0
            have s1 := hs.h1
            have s2 : ¬ hOf i < h := by have := hs.hh; omega
            have z1 := hidG hs.nat
            have z2 := hidG hs.nhs
            have z3 := hidG hs.nss
            clear hs hA hr hp hf he
            generalize atS i y x = at_ at *
            generalize hsS i y x = H at *
            generalize ssS i y x = S at *
            have hS0 : SF wr wr g at_ g' M x y (x : Int) (cx (tA m 1 0 0 0) (tB m 1 0 0 0)) (cx (tC m 1 0 0 0) (tD m 1 0 0 0)) (.int .i64 h) (.slice (some ⟨M + 1 + x, 0, none⟩) 8 8) := ⟨Below.refl _ _, r0, a0, a1, a2, m0, e0, e1, e2⟩
            have g1 : ¬ L.length ≤ at_ := by omega
            have g2 : decide (L.length ≤ at_) = false := decide_eq_false g1
            have g3 : decide ((L.length : Int) ≤ (at_ : Int)) = false := decide_eq_false (by omega)
            have g4 : decide (hOf i < h) = false := decide_eq_false s2
            go_upto_region 20 with (fail)
            go_region_held3 (fun w' => SF wr w' g at_ g' M x y (x : Int) (cx (tA m 1 0 0 0) (tB m 1 0 0 0)) (cx (tC m 1 0 0 0) (tD m 1 0 0 0)) (.int .i64 h) (.slice (some ⟨M + 1 + x, 0, none⟩) 8 8))
              ((first | exact sf_keep hS0 (below_drew (Below.refl _ _)) | exact sf_keep (by assumption) hN | assumption))
              (first
                | (go_at_call 10; (with_reducible refine (HA _).mono ?_); rintro e w7 ⟨rfl, hN⟩; have hKK := btr (below_drew (Below.refl _ _)) hN)
                | (go_at_call 29; (with_reducible refine (UN _).mono ?_); rintro e w8 ⟨rfl, hN⟩; have hKK := btr hKK hN))
            have hV2 := hidG (hV.out.on hKK)
            have m1 := hV2.out.mx.m x hxN
            have e3 := (hKK.cell (World.block_lt_of_cell? wr _ e2)).trans e2
            clear hV hS0 r0 a0 a1 a2 e0 e1 e2 m0 QZ QN UN hKK
            by_cases hxy : x = y
            · subst hxy
              rw [show (S && x == x) = S by simp] at z3
              cases S
              all_goals
                go_wp2
                go_roundw
                case rel => exact ⟨x + 1, by omega, by go_num, by rw [z2.out], by rw [z3.out], by rw [z1.out]; go_num, hV2⟩
                case measure => simp [intOf]; omega
            · rw [show (S && x == y) = false by simp [hxy]] at z3
              have hne : ((x : Int) == (y : Int)) = false := by simp; omega
              cases S
              all_goals
                go_wp2
                go_roundw
                case rel => exact ⟨x + 1, by omega, by go_num, by rw [z2.out], by rw [z3.out], by rw [z1.out]; go_num, hV2⟩
                case measure => simp [intOf]; omega
          · have hA := HMy.out x
            rw [he] at hA
            have e0 : wr.cell? ⟨M + 1 + x, y * 3, none⟩ = some (.complex .f64 0 0) := hV.out.mx.c x y 0 _ hxN hlt (by rw [hA]; rfl)
            have e1 : wr.cell? ⟨M + 1 + x, y * 3 + 1, none⟩ = some (.complex .f64 0 0) := hV.out.mx.c x y 1 _ hxN hlt (by rw [hA]; rfl)
            have e2 : wr.cell? ⟨M + 1 + x, y * 3 + 2, none⟩ = some (.int .i64 0) := hV.out.mx.c x y 2 _ hxN hlt (by rw [hA]; rfl)
            have QZ := run_zero
            have z1 := hidG hn.nat
            have z2 := hidG hn.nhs
            have z3 := hidG hn.nss
            clear hn hA he
            go_wp2
            go_roundw
            case rel => exact ⟨x + 1, by omega, by go_num, by rw [z2.out], by rw [z3.out], by rw [z1.out], hV⟩
            case measure => simp [intOf]; omega
        · obtain rfl : x = 8 := by omega
          have d1 := c1.out
          have d2 := hidG c2.out
          have d3 := hidG c3.out
          rw [d1]
          go_wp2
          go_roundw
          case rel => exact ⟨y + 1, by omega, by go_num, by rw [d2.out], by rw [d3.out], hV.out.mx⟩
          case measure => simp [intOf]; omega
    · obtain rfl : y = 8 := by omega
      have d4 := G4.out
      have d5 := G5.out
      rw [d5]
      have hW := hidG hH.out.below
      clear hH G4 G5 HO HM GX GC G1 G2 G3 d5
      generalize hsS i 8 0 = H at *
      generalize dOf i = D at *
      generalize hOf i = O at *
      by_cases hz : 0 < H
      · have ho : O = 1 := by
          rw [decide_eq_true hz] at d4
          exact of_decide_eq_true d4.symm
        clear d4
        subst ho
        go_wp2_with (first
          | (go_at_call 10; (with_reducible refine (HA _).mono ?_); rintro e w7 ⟨rfl, hN7⟩)
          | (go_at_call 14; (with_reducible refine (DI _).mono ?_); rintro e w8 ⟨rfl, hN8⟩))
        go_ret
        exact ⟨by simp, btr (btr hW.out hN7) hN8⟩
      · have ho : O = 0 := by
          rw [decide_eq_false hz] at d4
          have := of_decide_eq_false d4.symm
          omega
        clear d4
        subst ho
        go_wp2_with (first
          | (go_at_call 10; (with_reducible refine (HA _).mono ?_); rintro e w7 ⟨rfl, hN7⟩)
          | (go_at_call 14; (with_reducible refine (DI _).mono ?_); rintro e w8 ⟨rfl, hN8⟩))
        go_ret
        exact ⟨by simp, btr (btr hW.out hN7) hN8⟩
end Go.Proofs.Ytjmgcgjmaemgdaa
