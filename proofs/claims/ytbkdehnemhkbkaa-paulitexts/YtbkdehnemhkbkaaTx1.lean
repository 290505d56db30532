/-
  The law PauliTexts answers true, whatever the arguments.
-/
import Derived.Test.YtbkdehnemhkbkaaM6
import Derived.Test.YtbkdehnemhkbkaaT4
namespace Go.Proofs.Ytbkdehnemhkbkaa
open Go.RowKit Go.Sort

/-- What Parse tells of a text, and what Text tells of that. -/
theorem parse_all (s : ByteArray) (hs : s.size ≤ 9223372036854775807) : ∃ (n : Int) (x z : Nat) (f e : Int),
    (∀ w, Calls Try.prog 26 #[.string s] w fun r w' => r = .returned (.tuple #[pv n x z f, .int .i64 e]) ∧ Below w.heap.size w w') ∧
    ((e = 0 ∧ ∃ t : ByteArray, (∀ w, Calls Try.prog 19 #[pv n x z f] w fun r w' => r = .returned (.tuple #[.string t, .int .i64 0]) ∧ Below w.heap.size w w') ∧ 1 ≤ t.size ∧ (∀ h : 0 < s.size, s[0].toNat = 43 ∨ s[0].toNat = 45 → t = s)) ∨
      (e ≠ 0 ∧ n = 0 ∧ x = 0 ∧ z = 0 ∧ f = 0)) := by
  have hl : s.data.toList.length ≤ 9223372036854775807 := hs
  have es : (⟨s.data.toList.toArray⟩ : ByteArray) = s := rfl
  by_cases ha : AllLet (cutS s.data.toList).2
  · by_cases h : 64 < (cutS s.data.toList).2.length
    · have P := fun w => parse_long s.data.toList w hl ha h
      rw [es] at P
      exact ⟨0, 0, 0, 0, 1, P, .inr ⟨by decide, rfl, rfl, rfl, rfl⟩⟩
    · have P := fun w => parse_good s.data.toList w hl ha (by omega)
      rw [es] at P
      have ok := rd_ok (L := s.data.toList) (by omega)
      refine ⟨_, _, _, _, 0, P, .inl ⟨rfl, ⟨(rdP s.data.toList).text.toArray⟩, fun w => text_yes _ w ok, text_pos _, fun h0 hc => ?_⟩⟩
      have e : (rdP s.data.toList).text = s.data.toList := text_rd ha (by
        rcases first_byte s 0 with ⟨h1, e⟩ | ⟨h1, _⟩
        · rw [List.drop_zero] at e
          exact ⟨_, _, e, hc.imp (fun g => u8_eq.2 g) (fun g => u8_eq.2 g)⟩
        · omega)
      rw [e]
  · have P := fun w => parse_bad s.data.toList w hl ha
    rw [es] at P
    exact ⟨0, 0, 0, 0, 70, P, .inr ⟨by decide, rfl, rfl, rfl, rfl⟩⟩

set_option maxHeartbeats 8000000 in
set_option maxRecDepth 100000 in
theorem texts_any (s : ByteArray) (n : Int) (x z : Nat) (f : Int) (n' : Int) (x' z' : Nat) (f' : Int) (w : World) (hs : s.size ≤ 9223372036854775807)
    (hx : x < 18446744073709551616) (hz : z < 18446744073709551616) (hx' : x' < 18446744073709551616) (hz' : z' < 18446744073709551616) :
    Calls Try.prog 7 #[pv n x z f, pv n' x' z' f', .string s] w fun r w' => r = .returned (.bool true) ∧ Below w.heap.size w w' := by
  obtain ⟨N, X, Z, F, E, CP, HG0⟩ := parse_all s hs
  have HG := hidIt HG0
  clear HG0
  obtain ⟨hW, rA, rB⟩ := two_boxes w n x z f n' x' z' f'
  have AW := awake_any ((w.alloc (pc n x z f)).alloc (pc n' x' z' f'))
  go_enter Try.func7, Try.ntmps7
  go_upto_region 3 with (go_at_call 8; (with_reducible refine AW.mono ?_); rintro e w1 ⟨rfl, hN⟩; replace hW := btr hW hN; replace rA := rA.below hN; replace rB := rB.below hN)
  clear AW
  go_cut [7, 8] from 24 to 28 (fun vp ve W => (∃ B : Nat, vp = Value.pointer (some ⟨B, 0, none⟩) ∧ ve = Value.int .i64 E ∧ PB W B N X Z F) ∧ Below w.heap.size w W ∧ PB W w.heap.size n x z f ∧ PB W (w.heap.size + 1) n' x' z' f')
  case first =>
    go_wp2_with (go_at_call 26; (with_reducible refine (CP _).mono ?_); rintro e w2 ⟨rfl, hN⟩)
    go_meet
    case rel => exact ⟨⟨_, rfl, rfl, PB.new _ _ _ _ _⟩, bal (btr hW hN) _, (rA.below hN).alloc _, (rB.below hN).alloc _⟩
  clear hW rA rB CP
  obtain ⟨⟨B7, rfl, rfl, r7⟩, hW, rA, rB⟩ := hcut
  go_upto_if 30 with (fail)
  go_cut [9, 10] from 30 to 65 (fun v9 v10 W => Below w.heap.size w W ∧ PB W w.heap.size n x z f ∧ PB W (w.heap.size + 1) n' x' z' f')
  case first =>
    have ⟨d0, d1, d2, d3, _, _, _, _⟩ := r7
    rcases HG.out with ⟨rfl, t, CT, ht1, ht2⟩ | ⟨hE, rfl, rfl, rfl, rfl⟩
    · clear HG
      have ht3 : ¬ t.size < 1 := by omega
      have ht4 : ¬ t.size = 0 := by omega
      by_cases h0 : 0 < s.size
      · have ht5 := ht2 h0
        clear ht2
        by_cases h1 : s[0].toNat = 43
        · obtain rfl := ht5 (.inl h1)
          clear ht5
          go_wp2_with (go_at_call 19; (with_reducible refine (CT _).mono ?_); rintro e w2 ⟨rfl, hN⟩)
          go_meet
          case rel => exact ⟨btr hW hN, rA.below hN, rB.below hN⟩
        · by_cases h2 : s[0].toNat = 45
          · obtain rfl := ht5 (.inr h2)
            clear ht5
            go_wp2_with (go_at_call 19; (with_reducible refine (CT _).mono ?_); rintro e w2 ⟨rfl, hN⟩)
            go_meet
            case rel => exact ⟨btr hW hN, rA.below hN, rB.below hN⟩
          · have e1 : ((s[0].toNat : Int) == 45) = false := by simp; omega
            have e2 : ((s[0].toNat : Int) == 43) = false := by simp; omega
            clear h1 h2 ht5
            go_wp2_with (go_at_call 19; (with_reducible refine (CT _).mono ?_); rintro e w2 ⟨rfl, hN⟩)
            go_meet
            case rel => exact ⟨btr hW hN, rA.below hN, rB.below hN⟩
      · clear ht2
        have h0' : s.size = 0 := by omega
        go_wp2_with (go_at_call 19; (with_reducible refine (CT _).mono ?_); rintro e w2 ⟨rfl, hN⟩)
        go_meet
        case rel => exact ⟨btr hW hN, rA.below hN, rB.below hN⟩
    · have hE' : (E == 0) = false := by simpa using hE
      clear HG
      go_wp2
      go_meet
      case rel => exact ⟨hW, rA, rB⟩
  clear hW rA rB r7 HG
  obtain ⟨hW, rA, rB⟩ := hcut
  have ⟨a0, a1, a2, a3, _, _, _, _⟩ := rA
  by_cases ga : Good n x z f
  · obtain ⟨p, hp, _, rfl, rfl, rfl, rfl⟩ := ga.ps
    have K1 := hp.check
    by_cases gb : Good n' x' z' f'
    · obtain ⟨q, hq, _, rfl, rfl, rfl, rfl⟩ := gb.ps
      have K2 := hq.check
      have CT := fun w => text_yes p w hp
      have CP := fun w => parse_good p.text w (Nat.le_trans (text_le hp) (by decide)) (text_let hp).1 (text_let hp).2
      rw [rd_text hp] at CP
      have HO := hidIt (And.intro hp hq)
      clear ga gb hx hz hx' hz' hp hq
      go_upto_region 12 with (first
        | (go_at_call 13; (with_reducible refine (K1 _).mono ?_); rintro e w1 ⟨rfl, hN⟩; replace hW := btr hW hN; replace rA := rA.below hN; replace rB := rB.below hN; have ⟨b0, b1, b2, b3, _, _, _, _⟩ := rB)
        | (go_at_call 13; (with_reducible refine (K2 _).mono ?_); rintro e w2 ⟨rfl, hN⟩; replace hW := btr hW hN; replace rA := rA.below hN; replace rB := rB.below hN))
      clear K1 K2
      go_cut [11, 8] from 74 to 78 (fun v11 v8 W => v11 = Value.string ⟨p.text.toArray⟩ ∧ v8 = Value.int .i64 0 ∧ Below w.heap.size w W ∧ PB W w.heap.size p.n p.x p.z p.f ∧ PB W (w.heap.size + 1) q.n q.x q.z q.f)
      case first =>
        have ⟨u0, u1, u2, u3, _, _, _, _⟩ := rA
        go_wp2_with (go_at_call 19; (with_reducible refine (CT _).mono ?_); rintro e w2 ⟨rfl, hN⟩)
        go_meet
        case rel => exact ⟨rfl, rfl, btr hW hN, rA.below hN, rB.below hN⟩
      clear hW rA rB CT
      obtain ⟨rfl, rfl, hW, rA, rB⟩ := hcut
      go_upto_region 13 with (fail)
      go_cut [12, 13] from 79 to 83 (fun vp ve W => (∃ B : Nat, vp = Value.pointer (some ⟨B, 0, none⟩) ∧ ve = Value.int .i64 0 ∧ PB W B p.n p.x p.z p.f) ∧ Below w.heap.size w W ∧ PB W w.heap.size p.n p.x p.z p.f ∧ PB W (w.heap.size + 1) q.n q.x q.z q.f)
      case first =>
        go_wp2_with (go_at_call 26; (with_reducible refine (CP _).mono ?_); rintro e w2 ⟨rfl, hN⟩)
        go_meet
        case rel => exact ⟨⟨_, rfl, rfl, PB.new _ _ _ _ _⟩, bal (btr hW hN) _, (rA.below hN).alloc _, (rB.below hN).alloc _⟩
      clear hW rA rB CP
      obtain ⟨⟨B12, rfl, rfl, r12⟩, hW, rA, rB⟩ := hcut
      have ⟨u0, u1, u2, u3, _, _, _, _⟩ := rA
      have ⟨v0, v1, v2, v3, _, _, _, _⟩ := rB
      have ⟨t0, t1, t2, t3, _, _, _, _⟩ := r12
      go_upto_region 16 with (fail)
      clear t0 t1 t2 t3 r12
      by_cases hn : p.n = q.n
      · have MU := fun w => mul_yes p q w HO.out.1 HO.out.2 hn
        have W1 := fun w => weight_yes p w HO.out.1
        have W2 := fun w => weight_yes q w HO.out.2
        have W3 := fun w => weight_yes (p.mul q) w (HO.out.1.mul HO.out.2 hn)
        have l1 : wgt (p.mul q).x (p.mul q).z ≤ wgt p.x p.z + wgt q.x q.z := wgt_mul p.x p.z q.x q.z
        have l2 : wgt p.x p.z ≤ wgt (p.mul q).x (p.mul q).z + wgt q.x q.z := wgt_mul' p.x p.z q.x q.z
        have l3 : wgt p.x p.z ≤ p.n := wgt_le HO.out.1.x1 HO.out.1.z1 HO.out.1.n1
        have l4 : wgt q.x q.z ≤ q.n := wgt_le HO.out.2.x1 HO.out.2.z1 HO.out.2.n1
        have l5 := HO.out.1.n1
        have l6 := HO.out.2.n1
        clear HO
        generalize p.mul q = m at *
        generalize wgt p.x p.z = A at *
        generalize wgt q.x q.z = B at *
        generalize wgt m.x m.z = C at *
        have hn' : (p.n : Int) = (q.n : Int) := by omega
        go_upto_region 19 with (fail)
        clear hn hn'
        go_cut [16, 8] from 108 to 113 (fun vp ve W => (∃ B : Nat, vp = Value.pointer (some ⟨B, 0, none⟩) ∧ ve = Value.int .i64 0 ∧ PB W B m.n m.x m.z m.f) ∧ Below w.heap.size w W ∧ PB W w.heap.size p.n p.x p.z p.f ∧ PB W (w.heap.size + 1) q.n q.x q.z q.f)
        case first =>
          go_wp2_with (go_at_call 15; (with_reducible refine (MU _).mono ?_); rintro e w2 ⟨rfl, hN⟩)
          go_meet
          case rel => exact ⟨⟨_, rfl, rfl, PB.new _ _ _ _ _⟩, bal (btr hW hN) _, (rA.below hN).alloc _, (rB.below hN).alloc _⟩
        clear hW rA rB MU u0 u1 u2 u3 v0 v1 v2 v3
        obtain ⟨⟨B16, rfl, rfl, r16⟩, hW, rA, rB⟩ := hcut
        go_upto_region 20 with (fail)
        go_cut [17, 13] from 114 to 118 (fun vp ve W => vp = Value.int .i64 (A : Int) ∧ ve = Value.int .i64 0 ∧ PB W B16 m.n m.x m.z m.f ∧ Below w.heap.size w W ∧ PB W w.heap.size p.n p.x p.z p.f ∧ PB W (w.heap.size + 1) q.n q.x q.z q.f)
        case first =>
          have ⟨u0, u1, u2, u3, _, _, _, _⟩ := rA
          go_wp2_with (go_at_call 17; (with_reducible refine (W1 _).mono ?_); rintro e w2 ⟨rfl, hN⟩)
          go_meet
          case rel => exact ⟨rfl, rfl, r16.below hN, btr hW hN, rA.below hN, rB.below hN⟩
        clear hW rA rB W1 r16
        obtain ⟨rfl, rfl, r16, hW, rA, rB⟩ := hcut
        go_upto_region 21 with (fail)
        go_cut [18, 19] from 119 to 123 (fun vp ve W => vp = Value.int .i64 (B : Int) ∧ ve = Value.int .i64 0 ∧ PB W B16 m.n m.x m.z m.f ∧ Below w.heap.size w W ∧ PB W w.heap.size p.n p.x p.z p.f ∧ PB W (w.heap.size + 1) q.n q.x q.z q.f)
        case first =>
          have ⟨u0, u1, u2, u3, _, _, _, _⟩ := rB
          go_wp2_with (go_at_call 17; (with_reducible refine (W2 _).mono ?_); rintro e w2 ⟨rfl, hN⟩)
          go_meet
          case rel => exact ⟨rfl, rfl, r16.below hN, btr hW hN, rA.below hN, rB.below hN⟩
        clear hW rA rB W2 r16
        obtain ⟨rfl, rfl, r16, hW, rA, rB⟩ := hcut
        go_upto_region 22 with (fail)
        go_cut [20, 21] from 124 to 128 (fun vp ve W => vp = Value.int .i64 (C : Int) ∧ ve = Value.int .i64 0 ∧ Below w.heap.size w W ∧ PB W w.heap.size p.n p.x p.z p.f)
        case first =>
          have ⟨u0, u1, u2, u3, _, _, _, _⟩ := r16
          go_wp2_with (go_at_call 17; (with_reducible refine (W3 _).mono ?_); rintro e w2 ⟨rfl, hN⟩)
          go_meet
          case rel => exact ⟨rfl, rfl, btr hW hN, rA.below hN⟩
        clear hW rA rB W3 r16
        obtain ⟨rfl, rfl, hW, rA⟩ := hcut
        have ⟨u0, u1, u2, u3, _, _, _, _⟩ := rA
        have i1 : (C : Int) ≤ (A : Int) + (B : Int) := by omega
        have i2 : (A : Int) ≤ (p.n : Int) := by omega
        have i3 : (A : Int) - (B : Int) ≤ (C : Int) := by omega
        have w1 : IntKind.i64.wrap ((A : Int) + (B : Int)) = (A : Int) + (B : Int) := by rw [IntKind.wrap_i64]; omega
        have w2 : IntKind.i64.wrap ((A : Int) - (B : Int)) = (A : Int) - (B : Int) := by rw [IntKind.wrap_i64]; omega
        go_wp2
        go_ret
        exact ⟨rfl, hW⟩
      · have hB := both_ok p q HO.out.1 HO.out.2
        rw [if_neg hn] at hB
        have MU := fun w => mul_no _ _ _ _ _ _ _ _ 2 w hB (by decide)
        have hn' : ¬ (p.n : Int) = (q.n : Int) := by omega
        clear hB HO
        go_wp2_with (go_at_call 15; (with_reducible refine (MU _).mono ?_); rintro e w2 ⟨rfl, hN⟩)
        go_ret
        exact ⟨rfl, bal (btr hW hN) _⟩
    · have K2 := fun w => check_no n' x' z' f' w hx' hz' gb
      clear ga gb hx hz hx' hz' hp
      go_wp2_with (first
        | (go_at_call 13; (with_reducible refine (K1 _).mono ?_); rintro e w1 ⟨rfl, hN⟩; replace hW := btr hW hN; replace rB := rB.below hN; have ⟨b0, b1, b2, b3, _, _, _, _⟩ := rB)
        | (go_at_call 13; (with_reducible refine (K2 _).mono ?_); rintro e w2 ⟨rfl, hN⟩; replace hW := btr hW hN))
      go_ret
      exact ⟨rfl, hW⟩
  · have K1 := fun w => check_no n x z f w hx hz ga
    clear ga hx hz hx' hz'
    go_wp2_with (go_at_call 13; (with_reducible refine (K1 _).mono ?_); rintro e w1 ⟨rfl, hN⟩; replace hW := btr hW hN)
    go_ret
    exact ⟨rfl, hW⟩
end Go.Proofs.Ytbkdehnemhkbkaa
