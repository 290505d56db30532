/-
  Put together of: JH.
-/
import Derived.Test.YtoddbaljnlhhaaaYF
import Derived.Test.YtoddbaljnlhhaaaYD
import Derived.Test.YtoddbaljnlhhaaaYB
namespace Go.Proofs.Ytoddbaljnlhhaaa
open Go.RowKit Go.Sort
open PL (pv PS bt)

/-- What the law asks of a string that Value takes. -/
structure VQ (w : World) (b o c N l : Nat) (x pn : Int) (px pz : Nat) (pf : Int) (Pn Pf : Nat) (R : Nat → PS) (cm fr : Nat → Bool) : Prop where
  hn : pn = (Pn : Nat)
  hf : pf = (Pf : Nat)
  f4 : Pf < 4
  lo : -1 ≤ x
  hi : x ≤ 1
  f0 : fr 0 = false
  fs : ∀ j, j < N → fr (j + 1) = (fr j || !cm j)
  fx : fr N = (x == 0)
  rw : ∀ j, j < N → ∀ W, RowKit.Below w.heap.size w W → W.cell? ⟨b, o + (N + j) * 4, none⟩ = some (.int .i64 ((R j).n : Int)) ∧ W.cell? ⟨b, o + (N + j) * 4 + 1, none⟩ = some (.int .u64 ((R j).x : Int)) ∧ W.cell? ⟨b, o + (N + j) * 4 + 2, none⟩ = some (.int .u64 ((R j).z : Int)) ∧ W.cell? ⟨b, o + (N + j) * 4 + 3, none⟩ = some (.int .i64 ((R j).f : Int)) ∧ b < W.heap.size
  cc : ∀ j, j < N → ∀ w', Calls Try.prog 34 #[(R j).v, pv (Pn : Nat) px pz (Pf : Nat)] w' fun e w'' => e = .returned (.tuple #[.bool (cm j), .int .i64 0]) ∧ RowKit.Below w'.heap.size w' w''
  vq : ∀ w', RowKit.Below w.heap.size w w' → Calls Try.prog 16 #[.agg #[.int .i64 (N : Nat), .slice (some ⟨b, o, none⟩) l c], pv (Pn : Nat) px pz ((Pf + 2) % 4 : Nat)] w' fun e w'' => e = .returned (.tuple #[.int .i64 (-x), .int .i64 0]) ∧ RowKit.Below w'.heap.size w' w''
/-- A row that can be read, by its numbers. -/
structure RW (W : World) (b o L : Nat) (n x z f : Nat) : Prop where
  c0 : W.cell? ⟨b, o + L * 4, none⟩ = some (.int .i64 (n : Int))
  c1 : W.cell? ⟨b, o + L * 4 + 1, none⟩ = some (.int .u64 (x : Int))
  c2 : W.cell? ⟨b, o + L * 4 + 2, none⟩ = some (.int .u64 (z : Int))
  c3 : W.cell? ⟨b, o + L * 4 + 3, none⟩ = some (.int .i64 (f : Int))
  lt : b < W.heap.size
theorem RW.on {W W' : World} {b o L n x z f : Nat} (h : RW W b o L n x z f) (hb : RowKit.Below W.heap.size W W') : RW W' b o L n x z f := by
  have e := fun k => hb.cell (p := ⟨b, k, none⟩) h.lt
  exact ⟨(e _).trans h.c0, (e _).trans h.c1, (e _).trans h.c2, (e _).trans h.c3, Nat.lt_of_lt_of_le h.lt hb.size⟩
theorem rw_of {W : World} {a : Option Addr} {c N : Nat} {rs : List Pr} (H : TS W a c rs) (hR : Rt ⟨(N : Nat), rs⟩) {L : Nat} (hL : L < rs.length) : ∃ b o, a = some ⟨b, o, none⟩ ∧ RW W b o L (nthP rs L).n (nthP rs L).x (nthP rs L).z (nthP rs L).f := by
  obtain ⟨b, o, e, r⟩ := H.at_ L hL
  have hr : rs[L] = _ := (hR.ps (k := L) hL).2.2
  have h0 := r.c0 L hL
  have h1 := r.c1 L hL
  have h2 := r.c2 L hL
  have h3 := r.c3 L hL
  rw [hr] at h0 h1 h2 h3
  exact ⟨b, o, e, h0, h1, h2, h3, r.lt⟩
set_option maxHeartbeats 4000000 in
set_option maxRecDepth 100000 in
theorem values_walk (N I K L1 L2 : Nat) (rs : List Pr) (l : Nat) (hrl : Hid (rs.length = l)) (p : Pr) (b o c : Nat) (i k : Int) (A B M : PS) (w : World) (hn : 0 < N) (hn64 : N ≤ 64) (hl : l ≤ 128) (hNN : N + N ≤ l) (hL1l : L1 < l) (hL2l : L2 < l) (hIl : I < l) (hKl : K < l) (hI : I < N) (hK : K < N) (hL1 : ((N : Nat) : Int) + (I : Int) = (L1 : Int)) (hL2 : ((N : Nat) : Int) + (K : Int) = (L2 : Int)) (hcap : l ≤ c)
    (CK : Hid (∀ w', RowKit.Below w.heap.size w w' → Calls Try.prog 19 #[.agg #[.int .i64 (N : Nat), .slice (some ⟨b, o, none⟩) l c]] w' fun e w'' => e = .returned (.int .i64 0) ∧ RowKit.Below w'.heap.size w' w''))
    (PI : Hid (∀ w, Calls Try.prog 32 #[.int .i64 i, .int .i64 (N : Nat)] w fun e w' => e = .returned (.int .i64 (I : Nat)) ∧ w' = w))
    (PK : Hid (∀ w, Calls Try.prog 32 #[.int .i64 k, .int .i64 (N : Nat)] w fun e w' => e = .returned (.int .i64 (K : Nat)) ∧ w' = w))
    (VA : Hid (∀ w', RowKit.Below w.heap.size w w' → Calls Try.prog 16 #[.agg #[.int .i64 (N : Nat), .slice (some ⟨b, o, none⟩) l c], A.v] w' fun e w'' => e = .returned (.tuple #[.int .i64 1, .int .i64 0]) ∧ RowKit.Below w'.heap.size w' w''))
    (MU : Hid (∀ w', Calls Try.prog 33 #[A.v, B.v] w' fun e w'' => e = .returned (.tuple #[M.v, .int .i64 0]) ∧ RowKit.Below w'.heap.size w' w''))
    (VM : Hid (∀ w', RowKit.Below w.heap.size w w' → Calls Try.prog 16 #[.agg #[.int .i64 (N : Nat), .slice (some ⟨b, o, none⟩) l c], M.v] w' fun e w'' => e = .returned (.tuple #[.int .i64 1, .int .i64 0]) ∧ RowKit.Below w'.heap.size w' w''))
    (x er : Int) (VP : Hid (∀ w', RowKit.Below w.heap.size w w' → Calls Try.prog 16 #[.agg #[.int .i64 (N : Nat), .slice (some ⟨b, o, none⟩) l c], p.v] w' fun e w'' => e = .returned (.tuple #[.int .i64 x, .int .i64 er]) ∧ RowKit.Below w'.heap.size w' w''))
    (HV : Hid ((er == 0) = false ∨ (er = 0 ∧ ∃ (Pn Pf : Nat) (R : Nat → PS) (cm fr : Nat → Bool), VQ w b o c N l x p.n p.x p.z p.f Pn Pf R cm fr)))
    (CP : Hid (∀ w', RowKit.Below w.heap.size w w' → Calls Try.prog 35 #[.agg #[.int .i64 (N : Nat), .slice (some ⟨b, o, none⟩) l c]] w' fun e w'' => ∃ v, e = .returned (.agg #[.int .i64 (N : Nat), v]) ∧ OT w'' w'.heap.size v rs ∧ RowKit.Below w'.heap.size w' w''))
    (U : List Pr) (SU : Hid (∀ w' a' c', RowKit.Below w.heap.size w w' → TS w' a' c' U → Calls Try.prog 17 #[.agg #[.int .i64 (N : Nat), .slice (some ⟨b, o, none⟩) l c], .agg #[.int .i64 (N : Nat), .slice a' l c']] w' fun e w'' => e = .returned (.tuple #[.bool true, .int .i64 0]) ∧ RowKit.Below w'.heap.size w' w''))
    (ST : Hid (∀ w', RowKit.Below w.heap.size w w' → Calls Try.prog 17 #[.agg #[.int .i64 (N : Nat), .slice (some ⟨b, o, none⟩) l c], .agg #[.int .i64 (N : Nat), .slice (some ⟨b, o, none⟩) l c]] w' fun e w'' => e = .returned (.tuple #[.bool true, .int .i64 0]) ∧ RowKit.Below w'.heap.size w' w''))
    (X Y D : PS) (MD : Hid (∀ w', Calls Try.prog 33 #[X.v, Y.v] w' fun e w'' => e = .returned (.tuple #[D.v, .int .i64 0]) ∧ RowKit.Below w'.heap.size w' w''))
    (HU : Hid ((I = K ∧ U = rs) ∨ (I ≠ K ∧ U = (rs.set L1 (prP M)).set K (prP D)))) (hDf : Hid (D.f % 2 = 0)) (hMw : Hid (prP M).w64) (hDw : Hid (prP D).w64)
    (RX : Hid (RW w b o K X.n X.x X.z X.f)) (RY : Hid (RW w b o I Y.n Y.x Y.z Y.f))
    (RA : Hid (RW w b o L1 A.n A.x A.z A.f)) (RB : Hid (RW w b o L2 B.n B.x B.z B.f)) :
    Calls Try.prog 8 #[.agg #[.int .i64 (N : Nat), .slice (some ⟨b, o, none⟩) l c], p.v, .int .i64 i, .int .i64 k] w fun e w' => e = .returned (.bool true) ∧ RowKit.Below w.heap.size w w' := by
  have AW := hid (fun w' => awake_any w')
  obtain ⟨hB0, hK0, hP0⟩ := tp_boxes w (N : Nat) (.slice (some ⟨b, o, none⟩) l c) p.n p.f p.x p.z
  have HB := hid hB0
  have K4 := hid hK0
  have P5 := hid hP0
  replace RA := hid (RA.out.on hB0)
  replace RB := hid (RB.out.on hB0)
  clear hB0 hK0 hP0
  obtain ⟨pn, px, pz, pf⟩ := p
  obtain ⟨an, ax, az, af⟩ := A
  obtain ⟨bn, bx, bz, bf⟩ := B
  obtain ⟨mn, mx, mz, mf⟩ := M
  obtain ⟨xn, xx, xz, xf⟩ := X
  obtain ⟨yn, yx, yz, yf⟩ := Y
  obtain ⟨dn, dx, dz, df⟩ := D
  simp only at *
  have hnz : (((N : Nat) : Int) == 0) = false := by simp; omega
  go_enter Try.func8, Try.ntmps8
  go_wp2_with (go_at_call 9; refine Hid.out ?_)
  refine hid ?_
  refine (AW.out _).mono ?_
  rintro e w1 ⟨rfl, hN⟩
  replace HB := hid (btr HB.out hN)
  replace K4 := hid (bk_on K4.out hN)
  replace P5 := hid (P5.out.below hN)
  replace RA := hid (RA.out.on hN)
  replace RB := hid (RB.out.on hN)
  clear hN AW
  have d4 := K4.out.cell
  have l4 := K4.out.lt
  go_wp2_with (go_at_call 19; refine Hid.out ?_)
  refine hid ?_
  refine (CK.out _ HB.out).mono ?_
  rintro e w2 ⟨rfl, hN⟩
  replace HB := hid (btr HB.out hN)
  replace K4 := hid (bk_on K4.out hN)
  replace P5 := hid (P5.out.below hN)
  replace RA := hid (RA.out.on hN)
  replace RB := hid (RB.out.on hN)
  clear hN d4 l4
  have d4 := K4.out.cell
  have l4 := K4.out.lt
  go_upto_region 5 with (fail)
  go_quiet (first | (go_at_call 32; with_reducible exact Calls.quiet_of_same (PI.out _)) | (go_at_call 32; with_reducible exact Calls.quiet_of_same (PK.out _)))
  have hD := below_drewN (RowKit.Below.refl w2.heap.size w2) nq
  replace HB := hid (btr HB.out hD)
  replace K4 := hid (bk_on K4.out hD)
  replace P5 := hid (P5.out.below hD)
  replace RA := hid (RA.out.on hD)
  replace RB := hid (RB.out.on hD)
  clear hD d4 l4 PI PK CK
  generalize w2.drewN nq = W at *
  have d4 := K4.out.cell
  have l4 := K4.out.lt
  have u0 := RA.out.c0
  have u1 := RA.out.c1
  have u2 := RA.out.c2
  have u3 := RA.out.c3
  have ul := RA.out.lt
  have v0 := RB.out.c0
  have v1 := RB.out.c1
  have v2 := RB.out.c2
  have v3 := RB.out.c3
  have hw1 : IntKind.i64.wrap (L1 : Int) = (L1 : Int) := by rw [IntKind.wrap_i64]; omega
  have hw2 : IntKind.i64.wrap (L2 : Int) = (L2 : Int) := by rw [IntKind.wrap_i64]; omega
  go_upto_region 6 with (fail)
  go_cut [9, 10] from 50 to 65 (fun v9 v10 X => ∃ b9 b10, v9 = Value.pointer (some ⟨b9, 0, none⟩) ∧ v10 = Value.pointer (some ⟨b10, 0, none⟩) ∧ RowKit.Below W.heap.size W X ∧ PL.PB X b9 (an : Nat) ax az (af : Nat) ∧ PL.PB X b10 (bn : Nat) bx bz (bf : Nat) ∧ w.heap.size ≤ b9)
  case first =>
    have h0 := HB.out.size
    have Z1 := ((PL.PB.new W (an : Nat) ax az (af : Nat)).alloc (PL.pc (bn : Nat) bx bz (bf : Nat))).drew
    have Z2 := (PL.PB.new (W.alloc (PL.pc (an : Nat) ax az (af : Nat))) (bn : Nat) bx bz (bf : Nat)).drew
    have Y1 := ((PL.PB.new W (bn : Nat) bx bz (bf : Nat)).alloc (PL.pc (an : Nat) ax az (af : Nat))).drew
    have Y2 := (PL.PB.new (W.alloc (PL.pc (bn : Nat) bx bz (bf : Nat))) (an : Nat) ax az (af : Nat)).drew
    rw [PL.alz] at Z2 Y2
    have Z1 := hid Z1
    have Z2 := hid Z2
    have Y1 := hid Y1
    have Y2 := hid Y2
    have hZB := hid (below_drew (bal (bal (RowKit.Below.refl W.heap.size W) (PL.pc (an : Nat) ax az (af : Nat))) (PL.pc (bn : Nat) bx bz (bf : Nat))))
    have hYB := hid (below_drew (bal (bal (RowKit.Below.refl W.heap.size W) (PL.pc (bn : Nat) bx bz (bf : Nat))) (PL.pc (an : Nat) ax az (af : Nat))))
    clear HB K4 P5 RA RB
    go_region
    all_goals
      go_wp2
      go_meet
      case rel =>
        first
        | exact ⟨_, _, rfl, rfl, hZB.out, Z1.out, Z2.out, by omega⟩
        | exact ⟨_, _, rfl, rfl, hYB.out, Y2.out, Y1.out, by omega⟩
  obtain ⟨b9, b10, rfl, rfl, hN, P9, P10, hb9⟩ := hcut
  clear d4 l4 u0 u1 u2 u3 ul v0 v1 v2 v3 hw1 hw2
  replace HB := hid (btr HB.out hN)
  replace K4 := hid (bk_on K4.out hN)
  replace P5 := hid (P5.out.below hN)
  have P9 := hid P9
  have P10 := hid P10
  clear hN RA RB
  have d4 := K4.out.cell
  have l4 := K4.out.lt
  obtain ⟨u0, u1, u2, u3, _, _, _, _⟩ := P9.out
  have ul := P9.out.lt
  go_upto_region 8 with (go_at_call 16; (with_reducible refine (VA.out _ HB.out).mono ?_); rintro e w3 ⟨rfl, hN⟩)
  replace HB := hid (btr HB.out hN)
  replace K4 := hid (bk_on K4.out hN)
  replace P5 := hid (P5.out.below hN)
  replace P9 := hid (P9.out.below hN)
  replace P10 := hid (P10.out.below hN)
  clear hN d4 l4 u0 u1 u2 u3 ul VA
  obtain ⟨u0, u1, u2, u3, _, _, _, _⟩ := P9.out
  have ul := P9.out.lt
  obtain ⟨v0, v1, v2, v3, _, _, _, _⟩ := P10.out
  have vl := P10.out.lt
  go_upto_region 9 with (go_at_call 33; (with_reducible refine (MU.out _).mono ?_); rintro e w4 ⟨rfl, hN⟩)
  have hA := bal (RowKit.Below.refl w4.heap.size w4) (PL.pc (mn : Nat) mx mz (mf : Nat))
  have hNA := btr hN hA
  have P13 := hid (PL.PB.new w4 (mn : Nat) mx mz (mf : Nat))
  have P5z : Hid (w.heap.size + 1 < w4.heap.size) := (P5.out.below hN).lt
  replace HB := hid (btr HB.out hNA)
  replace K4 := hid (bk_on K4.out hNA)
  replace P5 := hid (P5.out.below hNA)
  clear hN hA hNA u0 u1 u2 u3 ul v0 v1 v2 v3 vl MU P9 P10
  obtain ⟨V, hV⟩ : ∃ V, V = w4.alloc (PL.pc (mn : Nat) mx mz (mf : Nat)) := ⟨_, rfl⟩
  have hVV : V = w4.alloc (.cells #[.int .i64 (mn : Int), .int .u64 (mx : Int), .int .u64 (mz : Int), .int .i64 (mf : Int)] 27) := hV
  rw [← hV] at HB K4 P5 P13
  rw [← hVV]
  clear hV hVV
  have H13 : Hid (w.heap.size + 1 < w4.heap.size) := by
    have h := P5z.out
    exact h
  generalize w4.heap.size = b13 at *
  have d4 := K4.out.cell
  have l4 := K4.out.lt
  obtain ⟨u0, u1, u2, u3, _, _, _, _⟩ := P13.out
  have ul := P13.out.lt
  go_upto_region 12 with (go_at_call 16; (with_reducible refine (VM.out _ HB.out).mono ?_); rintro e w5 ⟨rfl, hN⟩)
  replace HB := hid (btr HB.out hN)
  replace K4 := hid (bk_on K4.out hN)
  replace P5 := hid (P5.out.below hN)
  replace P13 := hid (P13.out.below hN)
  clear hN d4 l4 u0 u1 u2 u3 ul VM
  have d4 := K4.out.cell
  have l4 := K4.out.lt
  obtain ⟨y0, y1, y2, y3, _, _, _, _⟩ := P5.out
  have yl := P5.out.lt
  go_upto_region 13 with (go_at_call 16; (with_reducible refine (VP.out _ HB.out).mono ?_); rintro e w6 ⟨rfl, hN⟩)
  replace HB := hid (btr HB.out hN)
  replace K4 := hid (bk_on K4.out hN)
  replace P5 := hid (P5.out.below hN)
  replace P13 := hid (P13.out.below hN)
  clear hN d4 l4 y0 y1 y2 y3 yl VP
  have HL : Hid (N + N ≤ l) := hNN
  go_upto_if 109 with (fail)
  go_cut [17] from 110 to 168 (fun v17 X => RowKit.Below w.heap.size w X ∧ BK X w.heap.size #[.int .i64 (N : Nat), .slice (some ⟨b, o, none⟩) l c] 24 ∧ PL.PB X b13 (mn : Nat) mx mz (mf : Nat))
  case first =>
    rcases HV.out with hE | ⟨rfl, Pn, Pf, R, cm, fr, hQ⟩
    · go_wp2
      go_meet
      case rel => exact ⟨HB.out, K4.out, P13.out⟩
    · have hwn : ∀ k : Nat, k < 64 → (((k : Nat) : Int) < (N : Int) ↔ k < N) := fun k _ => by omega
      clear hwn
      have HQ := hid hQ
      obtain rfl : pn = (Pn : Nat) := hQ.hn
      obtain rfl : pf = (Pf : Nat) := hQ.hf
      have f0 := hQ.f0
      have hE0 : ((0 : Int) == 0) = true := rfl
      clear hQ HV
      go_wp2
      go_loopw [19, 20] (fun v19 v20 wx => ∃ (j : Nat), j ≤ N ∧ v20 = .int .i64 j ∧ v19 = .bool (fr j) ∧ Hid (RowKit.Below w.heap.size w wx) ∧ Hid (BK wx w.heap.size #[.int .i64 (N : Nat), .slice (some ⟨b, o, none⟩) l c] 24) ∧ Hid (PL.PB wx (w.heap.size + 1) (Pn : Nat) px pz (Pf : Nat)) ∧ Hid (PL.PB wx b13 (mn : Nat) mx mz (mf : Nat))) (fun _ v20 _ => N - (intOf v20).toNat)
      case atStart => exact ⟨0, Nat.zero_le _, rfl, by rw [f0], HB, K4, P5, P13⟩
      case round =>
        clear HB K4 P5 P13 f0
        obtain ⟨j, hj, rfl, rfl, HB, K4, P5, P13⟩ := hrel
        have d4 := K4.out.cell
        have l4 := K4.out.lt
        by_cases hlt : j < N
        case neg =>
          obtain rfl : j = N := by omega
          have hfx := HQ.out.fx
          have hlo := HQ.out.lo
          have hhi := HQ.out.hi
          have hf4 := HQ.out.f4
          have hneg : IntKind.i64.wrap (-x) = -x := by rw [IntKind.wrap_i64]; omega
          have hnn : (-x != -x) = false := bne_self_eq_false' _
          have hp2 : IntKind.i64.wrap ((Pf : Int) + 2) = (Pf : Int) + 2 := by rw [IntKind.wrap_i64]; omega
          obtain ⟨F, hF⟩ : ∃ F, Hid (F = (Pf + 2) % 4) := ⟨_, rfl⟩
          have hF4 : F < 4 := by rw [hF.out]; exact Nat.mod_lt _ (by omega)
          have hrm : ((Pf : Int) + 2).tmod 4 = (F : Int) := by rw [hF.out, Int.tmod_eq_emod_of_nonneg (by omega)]; omega
          have hwF : IntKind.i64.wrap (F : Int) = (F : Int) := by rw [IntKind.wrap_i64]; omega
          have VV := hid HQ.out.vq
          rw [← hF.out] at VV
          have h1 : ¬ x < -1 := by omega
          have h2 : ¬ 1 < x := by omega
          obtain ⟨y0, y1, y2, y3, z0, z1, z2, z3⟩ := P5.out
          have yl := P5.out.lt
          have P52 := hid (P5.out.set3 (F : Int))
          have K42 := hid (K4.out.far (c := w.heap.size + 1) (by omega) 3 (.int .i64 (F : Int)))
          have hne13 : w.heap.size + 1 ≠ b13 := by
            have := H13.out
            omega
          have P132 := hid (P13.out.far hne13 3 (.int .i64 (F : Int)))
          have HB2 := hid (bset HB.out (w.heap.size + 1) 3 (.int .i64 (F : Int)) (by omega))
          clear HB K4 P5 P13 HQ hF
          cases hxx : (x == 0)
          all_goals
            rw [hxx] at hfx
            have hx3 : (x == 0) = _ := hxx
            go_upto_region 23 with (fail)
            generalize wr.setCell ⟨w.heap.size + 1, 3, none⟩ (.int .i64 (F : Int)) = V2 at *
            clear y0 y1 y2 y3 z0 z1 z2 z3 yl d4 l4
            have d4 := K42.out.cell
            have l4 := K42.out.lt
            obtain ⟨y0, y1, y2, y3, _, _, _, _⟩ := P52.out
            have yl := P52.out.lt
            go_wp2_with (go_at_call 16; (with_reducible refine (VV.out _ HB2.out).mono ?_); rintro e w8 ⟨rfl, hN⟩)
            go_meet
            case rel => exact ⟨btr HB2.out hN, bk_on K42.out hN, P132.out.below hN⟩
        obtain ⟨u0, u1, u2, u3, ul⟩ := HQ.out.rw j hlt wr HB.out
        have CC := HQ.out.cc j hlt
        have hfs := HQ.out.fs j hlt
        obtain ⟨y0, y1, y2, y3, _, _, _, _⟩ := P5.out
        have yl := P5.out.lt
        obtain ⟨Lj, hLj⟩ : ∃ Lj, Hid (Lj = N + j) := ⟨_, rfl⟩
        rw [← hLj.out] at u0 u1 u2 u3
        have hLI : ((N : Nat) : Int) + (j : Int) = (Lj : Int) := by rw [hLj.out]; omega
        have hLl : Lj < l := by rw [hLj.out]; have := HL.out; omega
        have hwl : IntKind.i64.wrap (Lj : Int) = (Lj : Int) := by rw [IntKind.wrap_i64]; omega
        generalize R j = r at *
        obtain ⟨rn, rx, rz, rf⟩ := r
        simp only at u0 u1 u2 u3 CC
        have hN64 : ((j : Nat) : Int) < (N : Int) := by omega
        clear HQ
        go_upto_region 18 with (fail)
        go_cut [21, 22] from 116 to 128 (fun v21 v22 X => v21 = Value.bool (cm j) ∧ v22 = Value.int .i64 0 ∧ RowKit.Below wr.heap.size wr X)
        case first =>
          clear HB K4 P5 P13 hfs
          go_region_with (go_at_call 34; (with_reducible refine (CC _).mono ?_); rintro e w8 ⟨rfl, hN⟩)
          all_goals
            go_wp2
            go_meet
            case rel => exact ⟨rfl, rfl, by first | exact btr (drew_ofr (W := wr)) hN | exact hN⟩
        obtain ⟨rfl, rfl, hN⟩ := hcut
        replace HB := hid (btr HB.out hN)
        replace K4 := hid (bk_on K4.out hN)
        replace P5 := hid (P5.out.below hN)
        replace P13 := hid (P13.out.below hN)
        clear hN d4 l4 u0 u1 u2 u3 ul y0 y1 y2 y3 yl CC
        have HFS := hid hfs
        clear hfs
        generalize hfj : fr j = fj at *
        generalize hcj : cm j = cj at *
        clear hfj hcj
        cases fj <;> cases cj
        all_goals
          go_wp2
          exact ⟨⟨j + 1, by omega, by go_num, by rw [HFS.out]; rfl, HB, K4, P5, P13⟩, by simp only [intOf]; omega⟩
  obtain ⟨HB, K4, P13⟩ := hcut
  have HB := hid HB
  have K4 := hid K4
  have P13 := hid P13
  clear HV H13
  have d4 := K4.out.cell
  have l4 := K4.out.lt
  go_upto_region 27 with (go_at_call 35; (with_reducible refine (CP.out _ HB.out).mono ?_); rintro e w9 ⟨v, rfl, hO, hN⟩; obtain ⟨a2, c2, rfl⟩ := own_shape hO.own)
  have hA := bal (RowKit.Below.refl w9.heap.size w9) (.cells #[.int .i64 (N : Nat), .slice a2 rs.length c2] 24)
  have hNA := btr hN hA
  have HBp := HB
  have hNp := hN
  have K25 := hid (bk_new w9 #[.int .i64 (N : Nat), .slice a2 rs.length c2] 24)
  have O25 := hid ((hO.below hA).mono (show w.heap.size ≤ wc.heap.size from HB.out.size))
  replace HB := hid (btr HB.out hNA)
  replace K4 := hid (bk_on K4.out hNA)
  replace P13 := hid (P13.out.below hNA)
  have hw9 : w.heap.size ≤ w9.heap.size := Nat.le_trans HBp.out.size hNp.size
  clear hN hA hNA hO CP d4 l4 HBp hNp
  generalize w9.alloc (.cells #[.int .i64 (N : Nat), .slice a2 rs.length c2] 24) = V at *
  have h25 : Hid (w.heap.size ≤ w9.heap.size) := hw9
  generalize w9.heap.size = b25 at *
  obtain ⟨g, cg, eg, hc2, _, _, hgB, hgl⟩ := own_at O25.out.own (by rw [hrl.out]; omega)
  injection eg with e1 _ e3
  subst e1
  subst e3
  have GB : Hid (w.heap.size ≤ g) := hgB
  have hgl := hid hgl
  rw [hrl.out] at O25 K25 hc2 ⊢
  have hc2 := hid hc2
  clear hgB
  go_upto_if 173 with (fail)
  go_cut [28] from 171 to 211 (fun v28 Z => RowKit.Below w.heap.size w Z ∧ BK Z w.heap.size #[.int .i64 (N : Nat), .slice (some ⟨b, o, none⟩) l c] 24 ∧ BK Z b25 #[.int .i64 (N : Nat), .slice (some ⟨g, 0, none⟩) l c2] 24 ∧ TS Z (some ⟨g, 0, none⟩) c2 U)
  case first =>
    clear SU ST
    rcases HU.out with ⟨hik, hU⟩ | ⟨hik, hU⟩
    · have hii : ((I : Int) != (K : Int)) = false := by rw [hik]; exact bne_self_eq_false' _
      have hU := hid hU
      clear hik HU
      go_wp2
      go_meet
      case rel =>
        refine ⟨HB.out, K4.out, K25.out, ?_⟩
        obtain ⟨a', c', e, h⟩ := O25.out.ts
        cases e
        rw [hU.out]
        exact h
    · have hii : ((I : Int) != (K : Int)) = true := bne_iff_ne.2 (by omega)
      have HU2 := hid hU
      have hL1r : L1 < rs.length := by rw [hrl.out]; exact hL1l
      have hlr := hrl.out
      have hO := (show OT V w.heap.size (.slice (some ⟨g, 0, none⟩) rs.length c2) rs from by rw [hlr]; exact O25.out)
      obtain ⟨fz, q0, q1, q2, q3, _, ql⟩ := hO.at_ hL1r
      have hO2 := hO.set hL1r ⟨(mn : Nat), mx, mz, (mf : Nat)⟩ hMw.out
      have hl2 : (rs.set L1 ⟨(mn : Nat), mx, mz, (mf : Nat)⟩).length = l := by rw [List.length_set]; exact hlr
      rw [hlr] at hO2
      have O28 := hid hO2
      have HL2 := hid hl2
      have n25 : g ≠ b25 := fun e => own_ne hO.own K25.out (by decide) g rfl (by rw [e])
      have n4 : g ≠ w.heap.size := fun e => own_ne hO.own K4.out (by decide) g rfl (by rw [e])
      have K28 := hid ((((K25.out.far n25 (L1 * 4) (.int .i64 (mn : Int))).far n25 (L1 * 4 + 1) (.int .u64 (mx : Int))).far n25 (L1 * 4 + 2) (.int .u64 (mz : Int))).far n25 (L1 * 4 + 3) (.int .i64 (mf : Int)))
      have K48 := hid ((((K4.out.far n4 (L1 * 4) (.int .i64 (mn : Int))).far n4 (L1 * 4 + 1) (.int .u64 (mx : Int))).far n4 (L1 * 4 + 2) (.int .u64 (mz : Int))).far n4 (L1 * 4 + 3) (.int .i64 (mf : Int)))
      have HB8 := hid (bset (bset (bset (bset HB.out g (L1 * 4) (.int .i64 (mn : Int)) GB.out) g (L1 * 4 + 1) (.int .u64 (mx : Int)) GB.out) g (L1 * 4 + 2) (.int .u64 (mz : Int)) GB.out) g (L1 * 4 + 3) (.int .i64 (mf : Int)) GB.out)
      have d4 := K4.out.cell
      have l4 := K4.out.lt
      have d25 := K25.out.cell
      have l25 := K25.out.lt
      obtain ⟨u0, u1, u2, u3, _, _, _, _⟩ := P13.out
      have ul := P13.out.lt
      have hcc := hc2.out
      have hw1 : IntKind.i64.wrap (L1 : Int) = (L1 : Int) := by rw [IntKind.wrap_i64]; omega
      generalize rs[L1] = r1 at q0 q1 q2 q3
      obtain ⟨r10, r11, r12, r13⟩ := r1
      simp only at q0 q1 q2 q3
      clear hO hO2 hl2 hlr n25 n4 hU O25 K25 K4 HB
      generalize rs.set L1 ⟨(mn : Nat), mx, mz, (mf : Nat)⟩ = MS at *
      go_upto_region 29 with (fail)
      generalize (((V.setCell ⟨g, L1 * 4, none⟩ (.int .i64 (mn : Int))).setCell ⟨g, L1 * 4 + 1, none⟩ (.int .u64 (mx : Int))).setCell ⟨g, L1 * 4 + 2, none⟩ (.int .u64 (mz : Int))).setCell ⟨g, L1 * 4 + 3, none⟩ (.int .i64 (mf : Int)) = V8 at *
      clear q0 q1 q2 q3 fz ql u0 u1 u2 u3 ul d4 l4 d25 l25 P13
      have d4 := K48.out.cell
      have l4 := K48.out.lt
      have RX8 := hid (RX.out.on HB8.out)
      have RY8 := hid (RY.out.on HB8.out)
      obtain ⟨x0, x1, x2, x3, xl⟩ := RX8.out
      obtain ⟨y0, y1, y2, y3, yl⟩ := RY8.out
      clear hii hik
      go_cut [26, 27] from 173 to 195 (fun v26 v27 Z => ∃ b26, v26 = Value.pointer (some ⟨b26, 0, none⟩) ∧ v27 = Value.int .i64 0 ∧ RowKit.Below V8.heap.size V8 Z ∧ PL.PB Z b26 (dn : Nat) dx dz (df : Nat) ∧ V8.heap.size ≤ b26)
      case first =>
        clear HB8 K28 O28 HU2 HL2 x0 x1 x2 x3 xl y0 y1 y2 y3 yl d4 l4
        refine wp_region_noPanic ?_
        refine region_z (S := fun W => RowKit.Below V8.heap.size V8 W) 16 (by kernel_rfl) (below_drew (RowKit.Below.refl _ _)) (fun hHeld => ?_)
        clear hHeld
        have HX : Hid (RowKit.Below V8.heap.size V8 V8.drew) := hid (below_drew (RowKit.Below.refl _ _))
        generalize V8.drew = X at *
        refine zAny_take (i := 0) (oi := { dst := some 183, op := Op.fieldAddr 24 (Operand.tmp 4) 1, type := 0, pos := "law.go:193", after := #[], guard := none }) (v := ?_) rfl (by kernel_rfl) (by kernel_rfl) (by kernel_rfl) (by kernel_rfl) (fun _ _ _ h => h) (Or.inl ⟨by rfl, ?_⟩) HX.out ?_
        rotate_left
        (intro w0 hSw; clear hSw; go_simp; try (with_reducible rfl))
        (try simp only [Act.put, List.setIfInBounds_toArray, List.set_cons_zero, List.set_cons_succ])
        refine zAny_take (i := 1) (oi := { dst := some 184, op := Op.load 22 (Operand.tmp 183), type := 22, pos := "law.go:193", after := #[{ on := 0, ground := Ground.data }], guard := none }) (v := ?_) rfl (by kernel_rfl) (by kernel_rfl) (by kernel_rfl) (by kernel_rfl) (fun _ _ _ h => h) (Or.inl ⟨by rfl, ?_⟩) HX.out ?_
        rotate_left
        (intro w0 hSw; have e4 := (bk_on K48.out hSw).cell; clear hSw; go_simp; try (with_reducible rfl))
        (try simp only [Act.put, List.setIfInBounds_toArray, List.set_cons_zero, List.set_cons_succ])
        refine zAny_take (i := 2) (oi := { dst := some 185, op := Op.move (Operand.tmp 3), type := 3, pos := "law.go:193", after := #[], guard := none }) (v := ?_) rfl (by kernel_rfl) (by kernel_rfl) (by kernel_rfl) (by kernel_rfl) (fun _ _ _ h => h) (Or.inl ⟨by rfl, ?_⟩) HX.out ?_
        rotate_left
        (intro w0 hSw; clear hSw; go_simp; try (with_reducible rfl))
        (try simp only [Act.put, List.setIfInBounds_toArray, List.set_cons_zero, List.set_cons_succ])
        refine zAny_take (i := 3) (oi := { dst := some 186, op := Op.indexAddr 22 (Operand.tmp 184) (Operand.tmp 185), type := 0, pos := "law.go:193", after := #[{ on := 1, ground := Ground.data }, { on := 2, ground := Ground.data }], guard := none }) (v := ?_) rfl (by kernel_rfl) (by kernel_rfl) (by kernel_rfl) (by kernel_rfl) (fun _ _ _ h => h) (Or.inl ⟨by rfl, ?_⟩) HX.out ?_
        rotate_left
        (intro w0 hSw; clear hSw; go_simp; try (with_reducible rfl))
        (try simp only [Act.put, List.setIfInBounds_toArray, List.set_cons_zero, List.set_cons_succ])
        refine zAny_take (i := 4) (oi := { dst := some 187, op := Op.load 27 (Operand.tmp 186), type := 27, pos := "law.go:193", after := #[{ on := 3, ground := Ground.data }], guard := none }) (v := ?_) rfl (by kernel_rfl) (by kernel_rfl) (by kernel_rfl) (by kernel_rfl) (fun _ _ _ h => h) (Or.inl ⟨by rfl, ?_⟩) HX.out ?_
        rotate_left
        (intro w0 hSw; obtain ⟨x0, x1, x2, x3, xl⟩ := RX8.out.on hSw; clear hSw; go_simp; try (with_reducible rfl))
        (try simp only [Act.put, List.setIfInBounds_toArray, List.set_cons_zero, List.set_cons_succ])
        refine zAny_take (i := 5) (oi := { dst := some 188, op := Op.fieldAddr 24 (Operand.tmp 4) 1, type := 0, pos := "law.go:193", after := #[], guard := none }) (v := ?_) rfl (by kernel_rfl) (by kernel_rfl) (by kernel_rfl) (by kernel_rfl) (fun _ _ _ h => h) (Or.inl ⟨by rfl, ?_⟩) HX.out ?_
        rotate_left
        (intro w0 hSw; clear hSw; go_simp; try (with_reducible rfl))
        (try simp only [Act.put, List.setIfInBounds_toArray, List.set_cons_zero, List.set_cons_succ])
        refine zAny_take (i := 6) (oi := { dst := some 189, op := Op.load 22 (Operand.tmp 188), type := 22, pos := "law.go:193", after := #[{ on := 5, ground := Ground.data }], guard := none }) (v := ?_) rfl (by kernel_rfl) (by kernel_rfl) (by kernel_rfl) (by kernel_rfl) (fun _ _ _ h => h) (Or.inl ⟨by rfl, ?_⟩) HX.out ?_
        rotate_left
        (intro w0 hSw; have e4 := (bk_on K48.out hSw).cell; clear hSw; go_simp; try (with_reducible rfl))
        (try simp only [Act.put, List.setIfInBounds_toArray, List.set_cons_zero, List.set_cons_succ])
        refine zAny_take (i := 7) (oi := { dst := some 190, op := Op.move (Operand.tmp 2), type := 3, pos := "law.go:193", after := #[], guard := none }) (v := ?_) rfl (by kernel_rfl) (by kernel_rfl) (by kernel_rfl) (by kernel_rfl) (fun _ _ _ h => h) (Or.inl ⟨by rfl, ?_⟩) HX.out ?_
        rotate_left
        (intro w0 hSw; clear hSw; go_simp; try (with_reducible rfl))
        (try simp only [Act.put, List.setIfInBounds_toArray, List.set_cons_zero, List.set_cons_succ])
        refine zAny_take (i := 8) (oi := { dst := some 191, op := Op.indexAddr 22 (Operand.tmp 189) (Operand.tmp 190), type := 0, pos := "law.go:193", after := #[{ on := 6, ground := Ground.data }, { on := 7, ground := Ground.data }], guard := none }) (v := ?_) rfl (by kernel_rfl) (by kernel_rfl) (by kernel_rfl) (by kernel_rfl) (fun _ _ _ h => h) (Or.inl ⟨by rfl, ?_⟩) HX.out ?_
        rotate_left
        (intro w0 hSw; clear hSw; go_simp; try (with_reducible rfl))
        (try simp only [Act.put, List.setIfInBounds_toArray, List.set_cons_zero, List.set_cons_succ])
        refine zAny_take (i := 9) (oi := { dst := some 192, op := Op.load 27 (Operand.tmp 191), type := 27, pos := "law.go:193", after := #[{ on := 8, ground := Ground.data }], guard := none }) (v := ?_) rfl (by kernel_rfl) (by kernel_rfl) (by kernel_rfl) (by kernel_rfl) (fun _ _ _ h => h) (Or.inl ⟨by rfl, ?_⟩) HX.out ?_
        rotate_left
        (intro w0 hSw; obtain ⟨y0, y1, y2, y3, yl⟩ := RY8.out.on hSw; clear hSw; go_simp; try (with_reducible rfl))
        (try simp only [Act.put, List.setIfInBounds_toArray, List.set_cons_zero, List.set_cons_succ])
        refine zAny_ready (rs := [10, 14]) (by kernel_rfl) (by simp) (zReady.cons (o := { dst := some 193, op := Op.call { callee := Callee.value (Operand.func 33), args := #[Operand.tmp 187, Operand.tmp 192], argTypes := #[27, 27] }, type := 77, pos := "law.go:193", after := #[{ on := 4, ground := Ground.data }, { on := 9, ground := Ground.data }], guard := none }) rfl (fun K hK => ?_) (zReady.cons (o := { dst := some 26, op := Op.alloc 27, type := 0, pos := "law.go:193", after := #[], guard := none }) rfl (fun K hK => ?_) zReady.nil))
        · skip
          go_simp
          refine (MD.out _).mono ?_
          rintro e w10 ⟨rfl, hN⟩
          have HX2 := hid (btr HX.out hN)
          refine hK.out _ _ (fun _ => HX2.out) (fun _ => ?_)
          clear hK K
          (try simp only [Act.put, List.setIfInBounds_toArray, List.set_cons_zero, List.set_cons_succ])
          refine zAny_take (i := 11) (oi := { dst := some 182, op := Op.move (Operand.tmp 193), type := 77, pos := "law.go:193", after := #[{ on := 10, ground := Ground.data }], guard := none }) (v := ?_) rfl (by kernel_rfl) (by kernel_rfl) (by kernel_rfl) (by kernel_rfl) (fun _ _ _ h => h) (Or.inl ⟨by rfl, ?_⟩) HX2.out ?_
          rotate_left
          (intro w0 hSw; clear hSw; go_simp; try (with_reducible rfl))
          (try simp only [Act.put, List.setIfInBounds_toArray, List.set_cons_zero, List.set_cons_succ])
          refine zAny_take (i := 12) (oi := { dst := some 194, op := Op.extract (Operand.tmp 182) 0, type := 27, pos := "law.go:193", after := #[{ on := 11, ground := Ground.data }], guard := none }) (v := ?_) rfl (by kernel_rfl) (by kernel_rfl) (by kernel_rfl) (by kernel_rfl) (fun _ _ _ h => h) (Or.inl ⟨by rfl, ?_⟩) HX2.out ?_
          rotate_left
          (intro w0 hSw; clear hSw; go_simp; try (with_reducible rfl))
          (try simp only [Act.put, List.setIfInBounds_toArray, List.set_cons_zero, List.set_cons_succ])
          refine zAny_take (i := 13) (oi := { dst := some 195, op := Op.extract (Operand.tmp 182) 1, type := 37, pos := "law.go:193", after := #[{ on := 11, ground := Ground.data }, { on := 15, ground := Ground.gcOnly Departure.lateStores }], guard := none }) (v := ?_) rfl (by kernel_rfl) (by kernel_rfl) (by kernel_rfl) (by kernel_rfl) (fun _ _ _ h => h) (Or.inl ⟨by rfl, ?_⟩) HX2.out ?_
          rotate_left
          (intro w0 hSw; clear hSw; go_simp; try (with_reducible rfl))
          (try simp only [Act.put, List.setIfInBounds_toArray, List.set_cons_zero, List.set_cons_succ])
          refine zAny_ready (rs := [14]) (by kernel_rfl) (by simp) (zReady.cons (o := { dst := some 26, op := Op.alloc 27, type := 0, pos := "law.go:193", after := #[], guard := none }) rfl (fun K hK => ?_) zReady.nil)
          go_simp
          refine hK.out _ _ (fun _ => bal HX2.out _) (fun _ => ?_)
          clear hK K
          (try simp only [Act.put, List.setIfInBounds_toArray, List.set_cons_zero, List.set_cons_succ])
          have hbz : V8.heap.size ≤ w10.heap.size := HX2.out.size
          have zn := hid (PL.PB.new w10 0 0 0 0)
          refine zAny_ready (rs := [15]) (by kernel_rfl) (by simp) (zReady.cons (o := { dst := none, op := Op.store 27 (Operand.tmp 26) (Operand.tmp 194), type := 0, pos := "law.go:193", after := #[{ on := 14, ground := Ground.data }, { on := 12, ground := Ground.data }, { on := 10, ground := Ground.chain }, { on := 0, ground := Ground.phase }, { on := 1, ground := Ground.phase }, { on := 2, ground := Ground.phase }, { on := 3, ground := Ground.phase }, { on := 4, ground := Ground.phase }, { on := 5, ground := Ground.phase }, { on := 6, ground := Ground.phase }, { on := 7, ground := Ground.phase }, { on := 8, ground := Ground.phase }, { on := 9, ground := Ground.phase }, { on := 10, ground := Ground.phase }, { on := 11, ground := Ground.phase }, { on := 12, ground := Ground.phase }, { on := 13, ground := Ground.textOnly Departure.lateStores }, { on := 14, ground := Ground.phase }], guard := none }) rfl (fun K hK => ?_) zReady.nil)
          have z0 := zn
          obtain ⟨a0, a1, a2, a3, b0, b1, b2, b3⟩ := z0.out
          have zl := z0.out.lt
          go_simp
          have HX4 := hid (bset (bset (bset (bset (bal HX2.out (.cells #[.int .i64 0, .int .u64 0, .int .u64 0, .int .i64 0] 27)) w10.heap.size 0 (.int .i64 (dn : Int)) hbz) w10.heap.size 1 (.int .u64 (dx : Int)) hbz) w10.heap.size 2 (.int .u64 (dz : Int)) hbz) w10.heap.size 3 (.int .i64 (df : Int)) hbz)
          have Z4 := hid ((((z0.out.set0 (dn : Nat)).set1 dx).set2 dz).set3 (df : Nat))
          refine hK.out _ _ (fun _ => bal HX2.out _) (fun _ => ?_)
          clear hK K a0 a1 a2 a3 b0 b1 b2 b3 zl
          (try simp only [Act.put, List.setIfInBounds_toArray, List.set_cons_zero, List.set_cons_succ])
          refine zAny_ready (rs := [16]) (by kernel_rfl) (by simp) (zReady.cons (o := { dst := some 27, op := Op.assign (Operand.tmp 195), type := 37, pos := "law.go:193", after := #[{ on := 13, ground := Ground.data }, { on := 15, ground := Ground.chain }, { on := 0, ground := Ground.phase }, { on := 1, ground := Ground.phase }, { on := 2, ground := Ground.phase }, { on := 3, ground := Ground.phase }, { on := 4, ground := Ground.phase }, { on := 5, ground := Ground.phase }, { on := 6, ground := Ground.phase }, { on := 7, ground := Ground.phase }, { on := 8, ground := Ground.phase }, { on := 9, ground := Ground.phase }, { on := 10, ground := Ground.phase }, { on := 11, ground := Ground.phase }, { on := 12, ground := Ground.phase }, { on := 13, ground := Ground.phase }, { on := 14, ground := Ground.phase }, { on := 15, ground := Ground.phase }], guard := none }) rfl (fun K hK => ?_) zReady.nil)
          go_simp
          refine hK.out _ _ (fun h => absurd rfl h) (fun _ => ?_)
          clear hK K
          (try simp only [Act.put, List.setIfInBounds_toArray, List.set_cons_zero, List.set_cons_succ])
          refine zAny_done (by kernel_rfl) ?_ _
          refine NoPanic.normal ?_
          go_wp2
          go_meet
          case rel => exact ⟨_, rfl, rfl, bal HX2.out _, PL.PB.new w10 (dn : Nat) dx dz (df : Nat), hbz⟩
        · go_simp
          refine hK.out _ _ (fun _ => bal HX.out _) (fun _ => ?_)
          clear hK K
          (try simp only [Act.put, List.setIfInBounds_toArray, List.set_cons_zero, List.set_cons_succ])
          have hbz : V8.heap.size ≤ X.heap.size := HX.out.size
          have zn := hid (PL.PB.new X 0 0 0 0)
          replace HX := hid (bal HX.out (.cells #[.int .i64 0, .int .u64 0, .int .u64 0, .int .i64 0] 27))
          refine zAny_ready (rs := [10]) (by kernel_rfl) (by simp) (zReady.cons (o := { dst := some 193, op := Op.call { callee := Callee.value (Operand.func 33), args := #[Operand.tmp 187, Operand.tmp 192], argTypes := #[27, 27] }, type := 77, pos := "law.go:193", after := #[{ on := 4, ground := Ground.data }, { on := 9, ground := Ground.data }], guard := none }) rfl (fun K hK => ?_) zReady.nil)
          go_simp
          refine (MD.out _).mono ?_
          rintro e w10 ⟨rfl, hN⟩
          have HX2 := hid (btr HX.out hN)
          refine hK.out _ _ (fun _ => HX2.out) (fun _ => ?_)
          clear hK K
          (try simp only [Act.put, List.setIfInBounds_toArray, List.set_cons_zero, List.set_cons_succ])
          refine zAny_take (i := 11) (oi := { dst := some 182, op := Op.move (Operand.tmp 193), type := 77, pos := "law.go:193", after := #[{ on := 10, ground := Ground.data }], guard := none }) (v := ?_) rfl (by kernel_rfl) (by kernel_rfl) (by kernel_rfl) (by kernel_rfl) (fun _ _ _ h => h) (Or.inl ⟨by rfl, ?_⟩) HX2.out ?_
          rotate_left
          (intro w0 hSw; clear hSw; go_simp; try (with_reducible rfl))
          (try simp only [Act.put, List.setIfInBounds_toArray, List.set_cons_zero, List.set_cons_succ])
          refine zAny_take (i := 12) (oi := { dst := some 194, op := Op.extract (Operand.tmp 182) 0, type := 27, pos := "law.go:193", after := #[{ on := 11, ground := Ground.data }], guard := none }) (v := ?_) rfl (by kernel_rfl) (by kernel_rfl) (by kernel_rfl) (by kernel_rfl) (fun _ _ _ h => h) (Or.inl ⟨by rfl, ?_⟩) HX2.out ?_
          rotate_left
          (intro w0 hSw; clear hSw; go_simp; try (with_reducible rfl))
          (try simp only [Act.put, List.setIfInBounds_toArray, List.set_cons_zero, List.set_cons_succ])
          refine zAny_take (i := 13) (oi := { dst := some 195, op := Op.extract (Operand.tmp 182) 1, type := 37, pos := "law.go:193", after := #[{ on := 11, ground := Ground.data }, { on := 15, ground := Ground.gcOnly Departure.lateStores }], guard := none }) (v := ?_) rfl (by kernel_rfl) (by kernel_rfl) (by kernel_rfl) (by kernel_rfl) (fun _ _ _ h => h) (Or.inl ⟨by rfl, ?_⟩) HX2.out ?_
          rotate_left
          (intro w0 hSw; clear hSw; go_simp; try (with_reducible rfl))
          (try simp only [Act.put, List.setIfInBounds_toArray, List.set_cons_zero, List.set_cons_succ])
          have zn2 := hid (zn.out.below hN)
          refine zAny_ready (rs := [15]) (by kernel_rfl) (by simp) (zReady.cons (o := { dst := none, op := Op.store 27 (Operand.tmp 26) (Operand.tmp 194), type := 0, pos := "law.go:193", after := #[{ on := 14, ground := Ground.data }, { on := 12, ground := Ground.data }, { on := 10, ground := Ground.chain }, { on := 0, ground := Ground.phase }, { on := 1, ground := Ground.phase }, { on := 2, ground := Ground.phase }, { on := 3, ground := Ground.phase }, { on := 4, ground := Ground.phase }, { on := 5, ground := Ground.phase }, { on := 6, ground := Ground.phase }, { on := 7, ground := Ground.phase }, { on := 8, ground := Ground.phase }, { on := 9, ground := Ground.phase }, { on := 10, ground := Ground.phase }, { on := 11, ground := Ground.phase }, { on := 12, ground := Ground.phase }, { on := 13, ground := Ground.textOnly Departure.lateStores }, { on := 14, ground := Ground.phase }], guard := none }) rfl (fun K hK => ?_) zReady.nil)
          have z0 := zn2
          obtain ⟨a0, a1, a2, a3, b0, b1, b2, b3⟩ := z0.out
          have zl := z0.out.lt
          go_simp
          have HX4 := hid (bset (bset (bset (bset HX2.out X.heap.size 0 (.int .i64 (dn : Int)) hbz) X.heap.size 1 (.int .u64 (dx : Int)) hbz) X.heap.size 2 (.int .u64 (dz : Int)) hbz) X.heap.size 3 (.int .i64 (df : Int)) hbz)
          have Z4 := hid ((((z0.out.set0 (dn : Nat)).set1 dx).set2 dz).set3 (df : Nat))
          refine hK.out _ _ (fun _ => HX4.out) (fun _ => ?_)
          clear hK K a0 a1 a2 a3 b0 b1 b2 b3 zl
          (try simp only [Act.put, List.setIfInBounds_toArray, List.set_cons_zero, List.set_cons_succ])
          refine zAny_ready (rs := [16]) (by kernel_rfl) (by simp) (zReady.cons (o := { dst := some 27, op := Op.assign (Operand.tmp 195), type := 37, pos := "law.go:193", after := #[{ on := 13, ground := Ground.data }, { on := 15, ground := Ground.chain }, { on := 0, ground := Ground.phase }, { on := 1, ground := Ground.phase }, { on := 2, ground := Ground.phase }, { on := 3, ground := Ground.phase }, { on := 4, ground := Ground.phase }, { on := 5, ground := Ground.phase }, { on := 6, ground := Ground.phase }, { on := 7, ground := Ground.phase }, { on := 8, ground := Ground.phase }, { on := 9, ground := Ground.phase }, { on := 10, ground := Ground.phase }, { on := 11, ground := Ground.phase }, { on := 12, ground := Ground.phase }, { on := 13, ground := Ground.phase }, { on := 14, ground := Ground.phase }, { on := 15, ground := Ground.phase }], guard := none }) rfl (fun K hK => ?_) zReady.nil)
          go_simp
          refine hK.out _ _ (fun h => absurd rfl h) (fun _ => ?_)
          clear hK K
          (try simp only [Act.put, List.setIfInBounds_toArray, List.set_cons_zero, List.set_cons_succ])
          refine zAny_done (by kernel_rfl) ?_ _
          refine NoPanic.normal ?_
          go_wp2
          go_meet
          case rel => exact ⟨_, rfl, rfl, HX4.out, Z4.out, hbz⟩
      obtain ⟨b26, rfl, rfl, hN, P26, hb26⟩ := hcut
      have P26 := hid P26
      have K25 := hid (bk_on K28.out hN)
      have K4 := hid (bk_on K48.out hN)
      have HB := hid (btr HB8.out hN)
      have hO3 := (show OT _ w.heap.size (.slice (some ⟨g, 0, none⟩) l c2) MS from O28.out.below hN)
      have hKr : K < MS.length := by rw [HL2.out]; exact hKl
      obtain ⟨fz, q0, q1, q2, q3, _, ql⟩ := hO3.at_ hKr
      have hO3' : OT wc w.heap.size (.slice (some ⟨g, 0, none⟩) MS.length c2) MS := by rw [HL2.out]; exact hO3
      have hO4 := hO3'.set hKr ⟨(dn : Nat), dx, dz, (df : Nat)⟩ hDw.out
      have hl4 : (MS.set K ⟨(dn : Nat), dx, dz, (df : Nat)⟩).length = l := by rw [List.length_set]; exact HL2.out
      rw [HL2.out] at hO4
      rw [← HU2.out] at hO4 hl4
      have O34 := hid hO4
      have HL4 := hid hl4
      have n25 : g ≠ b25 := fun e => own_ne hO3.own K25.out (by decide) g rfl (by rw [e])
      have n4 : g ≠ w.heap.size := fun e => own_ne hO3.own K4.out (by decide) g rfl (by rw [e])
      have K25e := hid ((((K25.out.far n25 (K * 4) (.int .i64 (dn : Int))).far n25 (K * 4 + 1) (.int .u64 (dx : Int))).far n25 (K * 4 + 2) (.int .u64 (dz : Int))).far n25 (K * 4 + 3) (.int .i64 (df : Int)))
      have K4e := hid ((((K4.out.far n4 (K * 4) (.int .i64 (dn : Int))).far n4 (K * 4 + 1) (.int .u64 (dx : Int))).far n4 (K * 4 + 2) (.int .u64 (dz : Int))).far n4 (K * 4 + 3) (.int .i64 (df : Int)))
      have HBe := hid (bset (bset (bset (bset HB.out g (K * 4) (.int .i64 (dn : Int)) GB.out) g (K * 4 + 1) (.int .u64 (dx : Int)) GB.out) g (K * 4 + 2) (.int .u64 (dz : Int)) GB.out) g (K * 4 + 3) (.int .i64 (df : Int)) GB.out)
      clear d4 l4 x0 x1 x2 x3 xl y0 y1 y2 y3 yl
      have d25 := K25.out.cell
      have l25 := K25.out.lt
      obtain ⟨u0, u1, u2, u3, _, _, _, _⟩ := P26.out
      have ul := P26.out.lt
      have hdm : ((df : Int)).tmod 2 = 0 := by have := hDf.out; rw [Int.tmod_eq_emod_of_nonneg (by omega)]; omega
      have hw0 : IntKind.i64.wrap 0 = 0 := rfl
      generalize MS[K] = r2 at q0 q1 q2 q3
      obtain ⟨r20, r21, r22, r23⟩ := r2
      simp only at q0 q1 q2 q3
      clear hO3 hO3' hO4 hl4 n25 n4 hN K25 K4 HB O28 K28 K48 HB8 HU2 HL2 P26
      go_wp2
      go_meet
      case rel =>
        refine ⟨HBe.out, K4e.out, K25e.out, ?_⟩
        obtain ⟨a', c', e, h⟩ := (show OT _ w.heap.size (.slice (some ⟨g, 0, none⟩) U.length c2) U from by rw [HL4.out]; exact O34.out).ts
        cases e
        exact h
  obtain ⟨HB, K4, K25, T25⟩ := hcut
  have HB := hid HB
  have K4 := hid K4
  have K25 := hid K25
  have T25 := hid T25
  clear P13 HU
  have d4 := K4.out.cell
  have l4 := K4.out.lt
  have d25 := K25.out.cell
  have l25 := K25.out.lt
  go_upto_region 36 with (go_at_call 17; (with_reducible refine (SU.out _ _ _ HB.out T25.out).mono ?_); rintro e w10 ⟨rfl, hN⟩)
  replace HB := hid (btr HB.out hN)
  replace K4 := hid (bk_on K4.out hN)
  clear hN d4 l4 d25 l25 K25 T25 SU
  have d4 := K4.out.cell
  have l4 := K4.out.lt
  go_wp2_with (go_at_call 17; (with_reducible refine (ST.out _ HB.out).mono ?_); rintro e w11 ⟨rfl, hN⟩)
  go_ret
  exact ⟨rfl, btr HB.out hN⟩
end Go.Proofs.Ytoddbaljnlhhaaa
