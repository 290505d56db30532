/-
  The reference's shifted.
-/
import Derived.Test.YtalaacfoaelipaaDoorQ4
namespace Go.Proofs.YtalaacfoaelipaaDoor
open Go.RowKit Go.Sort

/-- What shifted has between two rounds. -/
structure ShS (w W : World) (z : Int) (a : Option Addr) (n c : Nat) : Prop where
  below : Below w.heap.size w W
  bp : Bx W w.heap.size (sgn z) a n c
  br : Bx W (w.heap.size + 1) 0 none 0 0
  ip : II W a n c z
theorem ShS.start {w : World} {z : Int} {a : Option Addr} {n c : Nat} (h : II w a n c z) : ShS w ((w.alloc (.cells #[.int .i64 (sgn z), .slice a n c] 60)).alloc (.cells #[.int .i64 0, .slice none 0 0] 60)) z a n c := by
  have b3 : Below w.heap.size w ((w.alloc (.cells #[.int .i64 (sgn z), .slice a n c] 60)).alloc (.cells #[.int .i64 0, .slice none 0 0] 60)) := bal (bal (Below.refl _ _) _) _
  refine ⟨b3, (Bx.new w _ _ _ _).alloc _, ?_, h.below b3⟩
  have := Bx.new (w.alloc (.cells #[.int .i64 (sgn z), .slice a n c] 60)) 0 none 0 0
  simpa using this
theorem ShS.step {w W : World} {z : Int} {a : Option Addr} {n c : Nat} (h : ShS w W z a n c) {V : World} (hK : Below W.heap.size W V) {y : Int} {b : Option Addr} {m d : Nat} (hI : II V b m d y) :
    ShS w (st2 V w.heap.size (sgn y) b m d) y b m d := by
  have bp := h.bp.below hK
  have br := h.br.below hK
  exact ⟨below_st2 (btr h.below hK) (Nat.le_refl _) _ _ _ _, bp.put _ _ _ _, br.far (by omega) _ _ _ _, hI.st bp.ty _ _ _ _⟩
theorem abs_le_shift (z : Int) (j : Nat) : z.natAbs ≤ (z * 2 ^ j).natAbs := by
  rw [Int.natAbs_mul, Int.natAbs_pow]
  exact Nat.le_mul_of_pos_right _ (Nat.pow_pos (by decide))
set_option maxHeartbeats 4000000 in
theorem shifted_any (z : Int) (k : Nat) (a : Option Addr) (n c : Nat) (w : World) (h : II w a n c z) (hk : k ≤ 1000) (hb : (z * 2 ^ k).natAbs < 65536 ^ 90) :
    Calls Tryd.prog 64 #[.agg #[.int .i64 (sgn z), .slice a n c], .int .i64 k] w fun e w' => IRet (z * 2 ^ k) e w' ∧ Below w.heap.size w w' := by
  have P0 : Hid _ := ShS.start h
  obtain ⟨T, HT⟩ : ∃ T, Hid (T = z * 2 ^ k) := ⟨_, rfl⟩
  rw [← HT.out] at hb ⊢
  have HB : Hid (T.natAbs < 65536 ^ 90) := hb
  obtain ⟨s, HS⟩ : ∃ s, Hid (s = sgn z) := ⟨_, rfl⟩
  rw [← HS.out] at P0 ⊢
  clear h hb
  go_enter Tryd.func64, Tryd.ntmps64
  go_wp2
  go_loopw [1] (fun v wr => ∃ (j : Nat) (y : Int) (b : Option Addr) (m d : Nat), j ≤ 1000 ∧ v = .int .i64 j ∧ Hid (ShS w wr y b m d) ∧ Hid (y * 2 ^ j = T)) (fun v _ => (intOf v).toNat)
  case atStart => exact ⟨k, z, a, n, c, hk, rfl, P0, HT.out.symm⟩
  case round =>
    clear P0 HT HS
    obtain ⟨j, y, b, m, d, hj, rfl, hS, hy⟩ := hrel
    obtain ⟨x0, x1, xf0, xf1, _⟩ := hS.out.bp
    obtain ⟨r0, r1, rf0, rf1, rt⟩ := hS.out.br
    have lp := hS.out.bp.lt
    have lr := hS.out.br.lt
    have hW := hS.out.below
    by_cases hj0 : j = 0
    · subst hj0
      obtain rfl : y = T := by have := hy.out; simpa using this
      have hI : Hid (II wr b m d y) := hS.out.ip
      go_wp2
      exact bodyPost_ret (v := .agg #[.int .i64 (sgn y), .slice b m d]) (by simp [results, Tryd.results64, go_sem, r0, r1]) rfl ⟨⟨_, _, _, rfl, hI.out.put2 rt _ _⟩, (hW.setCell (by simp) _).setCell (by simp) _⟩
    · have hZ := Below.refl wr.heap.size wr
      have hm : m ≤ 90 := hS.out.ip.len (by have := abs_le_shift y j; rw [hy.out] at this; have := HB.out; omega)
      have TM : ∀ (q : Nat) (V : World), q ≤ 15 → Below wr.heap.size wr V → ∀ a4 n4 c4, II V a4 n4 c4 (2 ^ q) → Calls Tryd.prog 41 #[.agg #[.int .i64 (sgn y), .slice b m d], .agg #[.int .i64 (sgn (2 ^ q)), .slice a4 n4 c4]] V fun e w' => IRet (y * 2 ^ q) e w' ∧ Below V.heap.size V w' :=
        fun q V hq h a4 n4 c4 h4 => times_any y (2 ^ q) b m d a4 n4 c4 V (hS.out.ip.below h) h4 (by omega) (h4.len (by
          have h1 : ((2 : Int) ^ q).natAbs = 2 ^ q := by rw [Int.natAbs_pow]; rfl
          rw [h1]
          have : 2 ^ q ≤ 2 ^ 15 := Nat.pow_le_pow_right (by decide) hq
          omega))
      by_cases h15 : 15 < j
      · have OF := fun w => of_any 32768 w (by omega) (by omega)
        have TM15 := fun V h => TM 15 V (by omega) h
        rw [show (2 : Int) ^ 15 = 32768 from rfl] at TM15
        clear TM
        have ee : IntKind.i64.wrap (2 ^ min (IntKind.u64.wrap 15).toNat 64) = 32768 := by decide
        go_upto_region 5 with (fail)
        go_region_with (first
          | (go_at_call 32; (with_reducible refine (OF _).mono ?_); rintro e w2 ⟨⟨a4, n4, c4, rfl, hI4⟩, hN⟩; have hK := btr (below_drew hZ) hN; obtain ⟨hc, hf⟩ := bcell hK)
          | (go_at_call 41; (with_reducible refine (TM15 _ hK _ _ _ hI4).mono ?_); rintro e w3 ⟨⟨a5, n5, c5, rfl, hI5⟩, hN⟩; have hK := btr hK hN; obtain ⟨hc, hf⟩ := bcell hK))
        all_goals
          have hnew : Hid _ := hS.out.step hK hI5
          have hval : Hid (y * 32768 * 2 ^ (j - 15) = T) := by
            show _ = _
            rw [← hy.out, Int.mul_assoc, show (32768 : Int) = 2 ^ 15 from rfl, ← Int.pow_add, show 15 + (j - 15) = j by omega]
          go_wp2
          go_roundw
          case rel => exact ⟨j - 15, y * 32768, a5, n5, c5, by omega, by go_num, hnew, hval⟩
          case measure => simp [intOf]; omega
      · have OF := fun w => of_any (2 ^ j) w (by have := pow_pos' j; omega) (by
          have h1 : ((2 : Int) ^ j).natAbs = 2 ^ j := by rw [Int.natAbs_pow]; rfl
          have : 2 ^ j ≤ 2 ^ 15 := Nat.pow_le_pow_right (by decide) (by omega)
          omega)
        have TMJ := fun V h => TM j V (by omega) h
        have ee : IntKind.i64.wrap (2 ^ min (IntKind.u64.wrap (j : Int)).toNat 64) = 2 ^ j := by
          have e1 : (IntKind.u64.wrap (j : Int)).toNat = j := by rw [IntKind.wrap_u64]; omega
          rw [e1, Nat.min_eq_left (by omega), IntKind.wrap_i64]
          have h1 : ((2 : Int) ^ j).natAbs = 2 ^ j := by rw [Int.natAbs_pow]; rfl
          have : 2 ^ j ≤ 2 ^ 15 := Nat.pow_le_pow_right (by decide) (by omega)
          have := pow_pos' j
          omega
        obtain ⟨Q, HQ⟩ : ∃ Q : Int, Hid (Q = 2 ^ j) := ⟨_, rfl⟩
        rw [← HQ.out] at OF TMJ ee
        clear TM
        have hsub : ((j : Int) - (j : Int)) = 0 := Int.sub_self _
        go_upto_region 5 with (fail)
        go_region_with (first
          | (go_at_call 32; (with_reducible refine (OF _).mono ?_); rintro e w2 ⟨⟨a4, n4, c4, rfl, hI4⟩, hN⟩; have hK := btr (below_drew hZ) hN; obtain ⟨hc, hf⟩ := bcell hK)
          | (go_at_call 41; (with_reducible refine (TMJ _ hK _ _ _ hI4).mono ?_); rintro e w3 ⟨⟨a5, n5, c5, rfl, hI5⟩, hN⟩; have hK := btr hK hN; obtain ⟨hc, hf⟩ := bcell hK))
        all_goals
          have hnew : Hid _ := hS.out.step hK hI5
          have hval : Hid (y * Q * 2 ^ 0 = T) := by
            show _ = _
            rw [Int.pow_zero, Int.mul_one, HQ.out]; exact hy.out
          clear ee
          go_wp2
          go_roundw
          case rel => exact ⟨0, y * Q, a5, n5, c5, by omega, by simp, hnew, hval⟩
          case measure => simp [intOf]; omega
end Go.Proofs.YtalaacfoaelipaaDoor
