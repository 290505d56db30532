/-
  Put together of: JS.
-/
import Derived.Test.YtoddbaljnlhhaabYI
namespace Go.Proofs.Ytoddbaljnlhhaab
open Go.RowKit Go.Sort
open PL (pv PS bt cgk cgT)
open BL (pickN putN)

theorem smp_lt {i : Nat} (h : smp i) : i < 17 := by rcases h with h | rfl | rfl | rfl <;> omega
theorem smp_pr {i : Nat} (h : smp i) : prG i = [] := by
  rcases h with h | rfl | rfl | rfl
  · rcases (show i = 0 ∨ i = 1 ∨ i = 2 ∨ i = 3 ∨ i = 4 ∨ i = 5 ∨ i = 6 ∨ i = 7 ∨ i = 8 ∨ i = 9 ∨ i = 10 by omega) with rfl | rfl | rfl | rfl | rfl | rfl | rfl | rfl | rfl | rfl | rfl <;> rfl
  · rfl
  · rfl
  · rfl
theorem trS_ok {p : PS} (hp : p.ok) (j : Nat) : (trS p j).ok := by
  have key : ∀ x, x < 2 ^ p.n → trX x j < 2 ^ p.n := fun x hx => Nat.lt_pow_two_of_testBit _ fun m hm => by
    have h := bt_trX x j m
    have h2 := bt_low hx hm
    have h3 : bt (trX x j) m = 0 := by rw [h]; split <;> first | exact h2 | rfl
    unfold PL.bt at h3
    cases e : (trX x j).testBit m with
    | false => rfl
    | true => rw [e] at h3; cases h3
  exact ⟨hp.n1, key _ hp.x1, key _ hp.z1, hp.f1⟩
/-- What one round of Turn's loop asks and tells: by the two bits. -/
structure RD (w : World) (nm : ByteArray) (sl : Value) (N j : Nat) (bx bz : Bool) (A A' : PS) : Prop where
  n : A.n = N
  f : A.f < 4
  m : A'.n = N
  st : (bx = false ∧ bz = false ∧ A' = A) ∨
    (bx = true ∧ bz = false ∧ ∃ G : PS, (∀ W, Below w.heap.size w W → Calls Try.prog 40 #[.int .i64 (N : Nat), .string nm, sl, .int .i64 (j : Nat), .bool true] W fun e w' => e = .returned G.v ∧ Below W.heap.size W w') ∧ (∀ W, Calls Try.prog 21 #[pv (N : Nat) A.x A.z (A.f : Nat), G.v] W fun e w' => e = .returned (pv (N : Nat) A'.x A'.z (A'.f : Nat)) ∧ Below W.heap.size W w')) ∨
    (bx = false ∧ bz = true ∧ ∃ G : PS, (∀ W, Below w.heap.size w W → Calls Try.prog 40 #[.int .i64 (N : Nat), .string nm, sl, .int .i64 (j : Nat), .bool false] W fun e w' => e = .returned G.v ∧ Below W.heap.size W w') ∧ (∀ W, Calls Try.prog 21 #[pv (N : Nat) A.x A.z (A.f : Nat), G.v] W fun e w' => e = .returned (pv (N : Nat) A'.x A'.z (A'.f : Nat)) ∧ Below W.heap.size W w')) ∨
    (bx = true ∧ bz = true ∧ ∃ G H C : PS, C.n = N ∧ (∀ W, Below w.heap.size w W → Calls Try.prog 40 #[.int .i64 (N : Nat), .string nm, sl, .int .i64 (j : Nat), .bool true] W fun e w' => e = .returned G.v ∧ Below W.heap.size W w') ∧ (∀ W, Calls Try.prog 21 #[pv (N : Nat) A.x A.z ((A.f + 1) % 4 : Nat), G.v] W fun e w' => e = .returned (pv (N : Nat) C.x C.z (C.f : Nat)) ∧ Below W.heap.size W w') ∧
      (∀ W, Below w.heap.size w W → Calls Try.prog 40 #[.int .i64 (N : Nat), .string nm, sl, .int .i64 (j : Nat), .bool false] W fun e w' => e = .returned H.v ∧ Below W.heap.size W w') ∧ (∀ W, Calls Try.prog 21 #[pv (N : Nat) C.x C.z (C.f : Nat), H.v] W fun e w' => e = .returned (pv (N : Nat) A'.x A'.z (A'.f : Nat)) ∧ Below W.heap.size W w'))
set_option maxHeartbeats 4000000 in
set_option maxRecDepth 100000 in
theorem rturn_walk (nm : ByteArray) (N px pz pf : Nat) (hN : N ≤ 64) (hx : px < 18446744073709551616) (hz : pz < 18446744073709551616) (sa : Option Addr) (sl sc : Nat) (w : World)
    (PT : ∀ W, Calls Try.prog 39 #[.string nm] W fun e w' => e = .returned (.tuple #[.slice none 0 0, .slice none 0 0]) ∧ w' = W)
    (S : Nat → PS) (S0 : S 0 = ⟨N, 0, 0, pf⟩) (SN : (S N).n = N)
    (HR : Hid (∀ j, j < N → RD w nm (.slice sa sl sc) N j (bt px j == 1) (bt pz j == 1) (S j) (S (j + 1)))) :
    Calls Try.prog 18 #[pv (N : Nat) px pz (pf : Nat), .string nm, .slice sa sl sc] w fun e w' => e = .returned (S N).v ∧ Below w.heap.size w w' := by
  obtain ⟨hB0, hP3, hP6⟩ := PL.two_boxes w (N : Nat) px pz (pf : Nat) 0 0 0 0
  have HB := hid hB0
  have P3 := hid hP3
  have P6 := hid hP6
  have hv : (S N).v = pv (N : Nat) (S N).x (S N).z ((S N).f : Nat) := by show pv _ _ _ _ = _; rw [SN]
  rw [hv]
  have HS0 := hid S0
  clear hB0 hP3 hP6 hv SN S0
  obtain ⟨c0, c1, c2, c3, _, _, _, _⟩ := P3.out
  have cl := P3.out.lt
  go_enter Try.func18, Try.ntmps18
  go_wp2_with (go_at_call 39; (with_reducible refine (PT _).mono ?_); rintro e w1 ⟨rfl, rfl⟩)
  have P11 := hid (PL.PB.new ((w.alloc (PL.pc (N : Nat) px pz (pf : Nat))).alloc (PL.pc 0 0 0 0)) (N : Nat) 0 0 (pf : Nat))
  rw [PL.alz, PL.alz] at P11
  have P32 := hid (P3.out.alloc (PL.pc (N : Nat) 0 0 (pf : Nat)))
  have P62 := hid (P6.out.alloc (PL.pc (N : Nat) 0 0 (pf : Nat)))
  have HB2 := hid (bal HB.out (PL.pc (N : Nat) 0 0 (pf : Nat)))
  clear c0 c1 c2 c3 cl P3 P6 HB PT
  go_loopw [12] (fun v12 wx => ∃ (j : Nat), j ≤ N ∧ v12 = .int .i64 (j : Nat) ∧ Hid (Below w.heap.size w wx) ∧ Hid (PL.PB wx (w.heap.size + 1 + 1) (N : Nat) (S j).x (S j).z ((S j).f : Nat)) ∧ Hid (PL.PB wx w.heap.size (N : Nat) px pz (pf : Nat)) ∧ Hid (PL.PB wx (w.heap.size + 1) 0 0 0 0)) (fun v12 _ => N - (intOf v12).toNat)
  case atStart => exact ⟨0, Nat.zero_le _, rfl, HB2, by rw [HS0.out]; exact P11, P32, P62⟩
  case round =>
    clear HB2 P11 P32 P62 HS0
    obtain ⟨j, hj, rfl, HB, P11, P3, P6⟩ := hrel
    by_cases hlt : j < N
    case neg =>
      obtain rfl : j = N := by omega
      obtain ⟨c0, c1, c2, c3, _, _, _, _⟩ := P3.out
      have cl := P3.out.lt
      obtain ⟨a0, a1, a2, a3, _, _, _, _⟩ := P11.out
      have al := P11.out.lt
      obtain ⟨y0, y1, y2, y3, z0, z1, z2, z3⟩ := P6.out
      have yl := P6.out.lt
      have r := (((P6.out.set0 (j : Nat)).set1 (S j).x).set2 (S j).z).set3 ((S j).f : Nat)
      obtain ⟨q0, q1, q2, q3, _, _, _, _⟩ := r
      have HBf := hid (bset (bset (bset (bset HB.out (w.heap.size + 1) 0 (.int .i64 (j : Int)) (by omega)) (w.heap.size + 1) 1 (.int .u64 ((S j).x : Int)) (by omega)) (w.heap.size + 1) 2 (.int .u64 ((S j).z : Int)) (by omega)) (w.heap.size + 1) 3 (.int .i64 ((S j).f : Int)) (by omega))
      clear HR
      go_wp2
      exact bodyPost_ret (v := pv (j : Nat) (S j).x (S j).z ((S j).f : Nat)) (by simp [results, Try.results18, go_sem, q0, q1, q2, q3]) rfl ⟨rfl, HBf.out⟩
    have ex := PL.i_bit px j hx
    have ez := PL.i_bit pz j hz
    obtain ⟨hn, hf, hm, hst⟩ := HR.out j hlt
    obtain ⟨A', hA'⟩ : ∃ A', Hid (A' = S (j + 1)) := ⟨_, rfl⟩
    rw [← hA'.out] at hst hm
    generalize S j = A at *
    clear HR
    obtain ⟨c0, c1, c2, c3, _, _, _, _⟩ := P3.out
    have cl := P3.out.lt
    have one : ∀ x : Nat, (bt x j == 1) = true → bt x j = 1 := fun x h => beq_iff_eq.1 h
    have nil : ∀ x : Nat, (bt x j == 1) = false → bt x j = 0 := fun x h => by
      rcases PL.bt01 x j with g | g
      · exact g
      · rw [g] at h; cases h
    have hj64 : j < 64 := by omega
    have HST := hid hst
    have HOX := hid (one px)
    have HOZ := hid (one pz)
    have HNX := hid (nil px)
    have HNZ := hid (nil pz)
    clear hst one nil hn hm
    obtain ⟨an, ax, az, af⟩ := A
    simp only at *
    rcases HST.out with ⟨b1, b2, e⟩ | ⟨b1, b2, G, I1, M1⟩ | ⟨b1, b2, G, I1, M1⟩ | ⟨b1, b2, G, G2, C, hC, I1, M1, I2, M2⟩
    · rw [HNX.out b1] at ex
      rw [HNZ.out b2] at ez
      have HE := hid e
      clear HST HOX HOZ HNX HNZ b1 b2 e
      go_upto_region 21 with (fail)
      go_quiet (fail)
      have HBn := hid (below_drewN HB.out nq)
      have P11n := hid (P11.out.drewN nq)
      have P3n := hid (P3.out.drewN nq)
      have P6n := hid (P6.out.drewN nq)
      clear HB P11 P3 P6
      go_wp2
      exact ⟨⟨j + 1, by omega, by go_num, HBn, by rw [← hA'.out, HE.out]; exact P11n, P3n, P6n⟩, by simp only [intOf]; omega⟩
    · rw [HOX.out b1] at ex
      rw [HNZ.out b2] at ez
      have I1 := hid I1
      have M1 := hid M1
      clear HST HOX HOZ HNX HNZ b1 b2
      obtain ⟨gn, gx, gz, gf⟩ := G
      try simp only at *
      go_upto_region 21 with (fail)
      go_quiet (fail)
      replace HB := hid (below_drewN HB.out nq)
      replace P11 := hid (P11.out.drewN nq)
      replace P3 := hid (P3.out.drewN nq)
      replace P6 := hid (P6.out.drewN nq)
      generalize World.drewN _ nq = V at *
      clear c0 c1 c2 c3 cl ex ez
      go_upto_region 25 with (fail)
      go_cut [110] from 104 to 111 (fun vv X => Below w.heap.size w X ∧ PL.PB X (w.heap.size + 1 + 1) (N : Nat) A'.x A'.z (A'.f : Nat) ∧ PL.PB X w.heap.size (N : Nat) px pz (pf : Nat) ∧ PL.PB X (w.heap.size + 1) 0 0 0 0)
      case first =>
        obtain ⟨c0, c1, c2, c3, _, _, _, _⟩ := P3.out
        have cl := P3.out.lt
        obtain ⟨a0, a1, a2, a3, _, _, _, _⟩ := P11.out
        have al := P11.out.lt
        have hD := drew_of HB.out
        have HBD := hid (btr HB.out hD)
        go_region_with (first
          | (go_at_call 40; (with_reducible refine (I1.out _ HBD.out).mono ?_); rintro e w3 ⟨rfl, hN3⟩; (have hh3 := btr hD hN3); (obtain ⟨c0, c1, c2, c3, _, _, _, _⟩ := P3.out.below hh3); obtain ⟨a0, a1, a2, a3, _, _, _, _⟩ := P11.out.below hh3)
          | (go_at_call 21; (with_reducible refine (M1.out _).mono ?_); rintro e w4 ⟨rfl, hN4⟩; (have hh4 := btr hh3 hN4); obtain ⟨a0, a1, a2, a3, g0, g1, g2, g3⟩ := P11.out.below hh4))
        all_goals
          have hne3 : (w.heap.size + 1 + 1) ≠ w.heap.size := by omega
          have hne6 : (w.heap.size + 1 + 1) ≠ w.heap.size + 1 := by omega
          have R11 := hid (((((P11.out.below hh4).set0 (N : Nat)).set1 A'.x).set2 A'.z).set3 (A'.f : Nat))
          have R3 := hid (((((P3.out.below hh4).far hne3 0 (.int .i64 (N : Int))).far hne3 1 (.int .u64 (A'.x : Int))).far hne3 2 (.int .u64 (A'.z : Int))).far hne3 3 (.int .i64 (A'.f : Int)))
          have R6 := hid (((((P6.out.below hh4).far hne6 0 (.int .i64 (N : Int))).far hne6 1 (.int .u64 (A'.x : Int))).far hne6 2 (.int .u64 (A'.z : Int))).far hne6 3 (.int .i64 (A'.f : Int)))
          have RB := hid (bset (bset (bset (bset (btr HB.out hh4) (w.heap.size + 1 + 1) 0 (.int .i64 (N : Int)) (by omega)) (w.heap.size + 1 + 1) 1 (.int .u64 (A'.x : Int)) (by omega)) (w.heap.size + 1 + 1) 2 (.int .u64 (A'.z : Int)) (by omega)) (w.heap.size + 1 + 1) 3 (.int .i64 (A'.f : Int)) (by omega))
          clear hne3 hne6
          go_wp2
          go_meet
          case rel => exact ⟨RB.out, R11.out, R3.out, R6.out⟩
      obtain ⟨HB, P11, P3, P6⟩ := hcut
      have HB := hid HB
      have P11 := hid P11
      have P3 := hid P3
      have P6 := hid P6
      go_wp2
      exact ⟨⟨j + 1, by omega, by go_num, HB, by rw [← hA'.out]; exact P11, P3, P6⟩, by simp only [intOf]; omega⟩
    · rw [HNX.out b1] at ex
      rw [HOZ.out b2] at ez
      have I1 := hid I1
      have M1 := hid M1
      clear HST HOX HOZ HNX HNZ b1 b2
      obtain ⟨gn, gx, gz, gf⟩ := G
      try simp only at *
      go_upto_region 21 with (fail)
      go_quiet (fail)
      replace HB := hid (below_drewN HB.out nq)
      replace P11 := hid (P11.out.drewN nq)
      replace P3 := hid (P3.out.drewN nq)
      replace P6 := hid (P6.out.drewN nq)
      generalize World.drewN _ nq = V at *
      clear c0 c1 c2 c3 cl ex ez
      go_upto_region 27 with (fail)
      obtain ⟨c0, c1, c2, c3, _, _, _, _⟩ := P3.out
      have cl := P3.out.lt
      obtain ⟨a0, a1, a2, a3, _, _, _, _⟩ := P11.out
      have al := P11.out.lt
      have hD := drew_of HB.out
      have HBD := hid (btr HB.out hD)
      go_region_with (first
        | (go_at_call 40; (with_reducible refine (I1.out _ HBD.out).mono ?_); rintro e w3 ⟨rfl, hN3⟩; (have hh3 := btr hD hN3); (obtain ⟨c0, c1, c2, c3, _, _, _, _⟩ := P3.out.below hh3); obtain ⟨a0, a1, a2, a3, _, _, _, _⟩ := P11.out.below hh3)
        | (go_at_call 21; (with_reducible refine (M1.out _).mono ?_); rintro e w4 ⟨rfl, hN4⟩; (have hh4 := btr hh3 hN4); obtain ⟨a0, a1, a2, a3, g0, g1, g2, g3⟩ := P11.out.below hh4))
      all_goals
        have hne3 : (w.heap.size + 1 + 1) ≠ w.heap.size := by omega
        have hne6 : (w.heap.size + 1 + 1) ≠ w.heap.size + 1 := by omega
        have R11 := hid (((((P11.out.below hh4).set0 (N : Nat)).set1 A'.x).set2 A'.z).set3 (A'.f : Nat))
        have R3 := hid (((((P3.out.below hh4).far hne3 0 (.int .i64 (N : Int))).far hne3 1 (.int .u64 (A'.x : Int))).far hne3 2 (.int .u64 (A'.z : Int))).far hne3 3 (.int .i64 (A'.f : Int)))
        have R6 := hid (((((P6.out.below hh4).far hne6 0 (.int .i64 (N : Int))).far hne6 1 (.int .u64 (A'.x : Int))).far hne6 2 (.int .u64 (A'.z : Int))).far hne6 3 (.int .i64 (A'.f : Int)))
        have RB := hid (bset (bset (bset (bset (btr HB.out hh4) (w.heap.size + 1 + 1) 0 (.int .i64 (N : Int)) (by omega)) (w.heap.size + 1 + 1) 1 (.int .u64 (A'.x : Int)) (by omega)) (w.heap.size + 1 + 1) 2 (.int .u64 (A'.z : Int)) (by omega)) (w.heap.size + 1 + 1) 3 (.int .i64 (A'.f : Int)) (by omega))
        clear hne3 hne6
        go_wp2
        exact ⟨⟨j + 1, by omega, by go_num, RB, by rw [← hA'.out]; exact R11, R3, R6⟩, by simp only [intOf]; omega⟩
    · rw [HOX.out b1] at ex
      rw [HOZ.out b2] at ez
      have I1 := hid I1
      have M1 := hid M1
      have I2 := hid I2
      have M2 := hid M2
      clear HST HOX HOZ HNX HNZ b1 b2
      obtain ⟨gn, gx, gz, gf⟩ := G
      obtain ⟨kn, kx, kz, kf⟩ := G2
      try simp only at *
      go_upto_region 21 with (fail)
      go_quiet (fail)
      replace HB := hid (below_drewN HB.out nq)
      replace P11 := hid (P11.out.drewN nq)
      replace P3 := hid (P3.out.drewN nq)
      replace P6 := hid (P6.out.drewN nq)
      generalize World.drewN _ nq = V at *
      clear c0 c1 c2 c3 cl ex ez
      obtain ⟨FF, hFF⟩ : ∃ FF, Hid (FF = (af + 1) % 4) := ⟨_, rfl⟩
      rw [← hFF.out] at M1
      have hF4 : FF < 4 := by rw [hFF.out]; exact Nat.mod_lt _ (by omega)
      have hp1 : IntKind.i64.wrap ((af : Int) + 1) = (af : Int) + 1 := by rw [IntKind.wrap_i64]; omega
      have hrm : ((af : Int) + 1).tmod 4 = (FF : Int) := by rw [hFF.out, Int.tmod_eq_emod_of_nonneg (by omega)]; omega
      have hwF : IntKind.i64.wrap (FF : Int) = (FF : Int) := by rw [IntKind.wrap_i64]; omega
      obtain ⟨a0, a1, a2, a3, g0, g1, g2, g3⟩ := P11.out
      have al := P11.out.lt
      have hne3 : (w.heap.size + 1 + 1) ≠ w.heap.size := by omega
      have hne6 : (w.heap.size + 1 + 1) ≠ w.heap.size + 1 := by omega
      replace P11 := hid (P11.out.set3 (FF : Nat))
      replace P3 := hid (P3.out.far hne3 3 (.int .i64 (FF : Int)))
      replace P6 := hid (P6.out.far hne6 3 (.int .i64 (FF : Int)))
      replace HB := hid (bset HB.out (w.heap.size + 1 + 1) 3 (.int .i64 (FF : Int)) (by omega))
      clear hne3 hne6
      go_upto_region 25 with (fail)
      generalize World.setCell _ ⟨w.heap.size + 1 + 1, 3, none⟩ (.int .i64 (FF : Int)) = V1 at *
      clear a0 a1 a2 a3 g0 g1 g2 g3 al hp1 hrm hwF hFF
      go_cut [110] from 104 to 111 (fun vv X => Below w.heap.size w X ∧ PL.PB X (w.heap.size + 1 + 1) (N : Nat) C.x C.z (C.f : Nat) ∧ PL.PB X w.heap.size (N : Nat) px pz (pf : Nat) ∧ PL.PB X (w.heap.size + 1) 0 0 0 0)
      case first =>
        obtain ⟨c0, c1, c2, c3, _, _, _, _⟩ := P3.out
        have cl := P3.out.lt
        obtain ⟨a0, a1, a2, a3, _, _, _, _⟩ := P11.out
        have al := P11.out.lt
        have hD := drew_of HB.out
        have HBD := hid (btr HB.out hD)
        go_region_with (first
          | (go_at_call 40; (with_reducible refine (I1.out _ HBD.out).mono ?_); rintro e w3 ⟨rfl, hN3⟩; (have hh3 := btr hD hN3); (obtain ⟨c0, c1, c2, c3, _, _, _, _⟩ := P3.out.below hh3); obtain ⟨a0, a1, a2, a3, _, _, _, _⟩ := P11.out.below hh3)
          | (go_at_call 21; (with_reducible refine (M1.out _).mono ?_); rintro e w4 ⟨rfl, hN4⟩; (have hh4 := btr hh3 hN4); obtain ⟨a0, a1, a2, a3, g0, g1, g2, g3⟩ := P11.out.below hh4))
        all_goals
          have hne3 : (w.heap.size + 1 + 1) ≠ w.heap.size := by omega
          have hne6 : (w.heap.size + 1 + 1) ≠ w.heap.size + 1 := by omega
          have R11 := hid (((((P11.out.below hh4).set0 (N : Nat)).set1 C.x).set2 C.z).set3 (C.f : Nat))
          have R3 := hid (((((P3.out.below hh4).far hne3 0 (.int .i64 (N : Int))).far hne3 1 (.int .u64 (C.x : Int))).far hne3 2 (.int .u64 (C.z : Int))).far hne3 3 (.int .i64 (C.f : Int)))
          have R6 := hid (((((P6.out.below hh4).far hne6 0 (.int .i64 (N : Int))).far hne6 1 (.int .u64 (C.x : Int))).far hne6 2 (.int .u64 (C.z : Int))).far hne6 3 (.int .i64 (C.f : Int)))
          have RB := hid (bset (bset (bset (bset (btr HB.out hh4) (w.heap.size + 1 + 1) 0 (.int .i64 (N : Int)) (by omega)) (w.heap.size + 1 + 1) 1 (.int .u64 (C.x : Int)) (by omega)) (w.heap.size + 1 + 1) 2 (.int .u64 (C.z : Int)) (by omega)) (w.heap.size + 1 + 1) 3 (.int .i64 (C.f : Int)) (by omega))
          clear hne3 hne6
          go_wp2
          go_meet
          case rel => exact ⟨RB.out, R11.out, R3.out, R6.out⟩
      obtain ⟨HB, P11, P3, P6⟩ := hcut
      have HB := hid HB
      have P11 := hid P11
      have P3 := hid P3
      have P6 := hid P6
      go_upto_region 27 with (fail)
      obtain ⟨c0, c1, c2, c3, _, _, _, _⟩ := P3.out
      have cl := P3.out.lt
      obtain ⟨a0, a1, a2, a3, _, _, _, _⟩ := P11.out
      have al := P11.out.lt
      have hD := drew_of HB.out
      have HBD := hid (btr HB.out hD)
      go_region_with (first
        | (go_at_call 40; (with_reducible refine (I2.out _ HBD.out).mono ?_); rintro e w3 ⟨rfl, hN3⟩; (have hh3 := btr hD hN3); (obtain ⟨c0, c1, c2, c3, _, _, _, _⟩ := P3.out.below hh3); obtain ⟨a0, a1, a2, a3, _, _, _, _⟩ := P11.out.below hh3)
        | (go_at_call 21; (with_reducible refine (M2.out _).mono ?_); rintro e w4 ⟨rfl, hN4⟩; (have hh4 := btr hh3 hN4); obtain ⟨a0, a1, a2, a3, g0, g1, g2, g3⟩ := P11.out.below hh4))
      all_goals
        have hne3 : (w.heap.size + 1 + 1) ≠ w.heap.size := by omega
        have hne6 : (w.heap.size + 1 + 1) ≠ w.heap.size + 1 := by omega
        have R11 := hid (((((P11.out.below hh4).set0 (N : Nat)).set1 A'.x).set2 A'.z).set3 (A'.f : Nat))
        have R3 := hid (((((P3.out.below hh4).far hne3 0 (.int .i64 (N : Int))).far hne3 1 (.int .u64 (A'.x : Int))).far hne3 2 (.int .u64 (A'.z : Int))).far hne3 3 (.int .i64 (A'.f : Int)))
        have R6 := hid (((((P6.out.below hh4).far hne6 0 (.int .i64 (N : Int))).far hne6 1 (.int .u64 (A'.x : Int))).far hne6 2 (.int .u64 (A'.z : Int))).far hne6 3 (.int .i64 (A'.f : Int)))
        have RB := hid (bset (bset (bset (bset (btr HB.out hh4) (w.heap.size + 1 + 1) 0 (.int .i64 (N : Int)) (by omega)) (w.heap.size + 1 + 1) 1 (.int .u64 (A'.x : Int)) (by omega)) (w.heap.size + 1 + 1) 2 (.int .u64 (A'.z : Int)) (by omega)) (w.heap.size + 1 + 1) 3 (.int .i64 (A'.f : Int)) (by omega))
        clear hne3 hne6
        go_wp2
        exact ⟨⟨j + 1, by omega, by go_num, RB, by rw [← hA'.out]; exact R11, R3, R6⟩, by simp only [intOf]; omega⟩
end Go.Proofs.Ytoddbaljnlhhaab
