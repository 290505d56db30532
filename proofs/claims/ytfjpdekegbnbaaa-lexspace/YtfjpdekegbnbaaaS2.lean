/-
  The law LexSpace.
-/
import Derived.Test.YtfjpdekegbnbaaaS1
import Derived.Deep.CutBlock
namespace Go.Proofs.Ytfjpdekegbnbaaa
open Go.RowKit Go.Sort

theorem SL.form3 {W : World} {v : Value} {l : List Tk} {n : Nat} (h : SL W v l) (e : l.length = n) : ∃ a c, v = .slice a n c ∧ n ≤ c ∧ ∀ k, k < n → ∃ b o, a = some ⟨b, o, none⟩ ∧ RT W b o l := by
  subst e
  exact h.form
theorem rem_nat (n m : Nat) : (n : Int).tmod (m : Int) = ((n % m : Nat) : Int) := by
  rw [Int.tmod_eq_emod_of_nonneg (by omega)]
  rfl

set_option maxHeartbeats 4000000 in
set_option maxRecDepth 100000 in
theorem space_any (s : ByteArray) (y : Int) (vb : Value) (nb : Nat) (t : ByteArray) (w : World) (hs : s.size ≤ 9223372036854775807) (ht : t.size ≤ 9223372036854775807) (hy : -9223372036854775808 ≤ y) (hy2 : y ≤ 9223372036854775807)
    (hb : SB w vb nb) (hnb : nb ≤ 9223372036854775807) :
    Calls Try.prog 7 #[.string s, .int .i64 y, vb, .string t] w fun e w' => e = .returned (.bool true) ∧ Below w.heap.size w w' := by
  have AW := fun w => awake_any w
  obtain ⟨l, a, e, ho⟩ := out_ex s
  have S1 := fun w => scan_any s l a e w hs ho
  obtain ⟨ab, cb', rfl, hcb, hrb⟩ := hb
  have HRB : Hid (∀ k, k < nb → ∃ (b o x : Nat), ab = some ⟨b, o, none⟩ ∧ w.cell? ⟨b, o + k, none⟩ = some (.int .u8 (x : Int)) ∧ x < 256) := hrb
  clear hrb
  rcases ho with ⟨_, rfl, rfl, rfl⟩ | ⟨h6, hp, rfl, rfl⟩ | ⟨_, rfl, rfl, _, _, _, hbad⟩
  · go_enter Try.func7, Try.ntmps7
    go_wp2_with (first
      | (go_at_call 8; (with_reducible refine (AW _).mono ?_); rintro e w1 ⟨rfl, hN1⟩)
      | (go_at_call 10; (with_reducible refine (S1 _).mono ?_); rintro e w2 ⟨v, rfl, hI⟩; obtain ⟨a, c, rfl⟩ := hI.shape))
    go_ret
    exact ⟨rfl, btr hN1 hI.below⟩
  · have hcn := hp.count
    have HP : Hid (Pre s s.size l) := hp
    clear hp
    by_cases hl0 : l.length = 0
    · go_enter Try.func7, Try.ntmps7
      go_wp2_with (first
        | (go_at_call 8; (with_reducible refine (AW _).mono ?_); rintro e w1 ⟨rfl, hN1⟩)
        | (go_at_call 10; (with_reducible refine (S1 _).mono ?_); rintro e w2 ⟨v, rfl, hI⟩; obtain ⟨a, c, rfl⟩ := hI.shape))
      go_ret
      exact ⟨rfl, btr hN1 hI.below⟩
    · have hl1 : ((l.length : Int) == 0) = false := beq_false_of_ne (by omega)
      have hpos : 0 < l.length := by omega
      clear hl0
      go_enter Try.func7, Try.ntmps7
      go_upto_if 38 with (first
        | (go_at_call 8; (with_reducible refine (AW _).mono ?_); rintro e w1 ⟨rfl, hN1⟩)
        | (go_at_call 10; (with_reducible refine (S1 _).mono ?_); rintro e w2 ⟨v, rfl, hI⟩; obtain ⟨av, cv, rfl, hc, hr⟩ := hI.sl.form))
      have HR : Hid (∀ k, k < l.length → ∃ b o, av = some ⟨b, o, none⟩ ∧ RT w2 b o l) := hr
      have hB : Hid (Below w.heap.size w w2) := btr hN1 hI.below
      clear hr hI hN1 AW S1
      go_cut [1] from 38 to 41 (fun v1 W => W = w2 ∧ ∃ n : Nat, v1 = .int .i64 n ∧ n ≤ 9223372036854775807)
      case first =>
        by_cases hneg : y < 0
        · go_wp2
          go_meet
          case rel => exact ⟨rfl, (-(y + 1)).toNat, by go_num, by omega⟩
        · go_wp2
          go_meet
          case rel => exact ⟨rfl, y.toNat, by go_num, by omega⟩
      obtain ⟨rfl, n, rfl, hn⟩ := hcut
      have hrem := rem_nat n l.length
      have hkl : n % l.length < l.length := Nat.mod_lt _ hpos
      generalize n % l.length = k at *
      go_upto_block 0 with fail
      go_cut [13, 14] from 46 to 65 (fun v13 v14 W => ∃ (M : ByteArray), v13 = .string M ∧ Hid (∃ i, Bl M i ∧ i ≤ 50 ∧ Below wc.heap.size wc W))
      case first =>
        go_wp2_with fail
        go_loopw [13, 14] (fun v13 v14 wr => ∃ (i : Nat) (M : ByteArray), i ≤ nb ∧ i ≤ 50 ∧ v14 = .int .i64 i ∧ v13 = .string M ∧ Hid (Bl M i ∧ Below wc.heap.size wc wr)) (fun _ v14 _ => 50 - (intOf v14).toNat)
        case atStart => exact ⟨0, ⟨#[]⟩, by omega, by omega, rfl, rfl, Bl.nil, Below.refl _ _⟩
        case round =>
          obtain ⟨i, M, hin, hi5, rfl, rfl, hH⟩ := hrel
          by_cases hgo : i < nb ∧ i < 50
          · obtain ⟨hg1, hg2⟩ := hgo
            obtain ⟨b, o, x, rfl, d0, hx⟩ := HRB.out i hg1
            have d := ((btr hB.out hH.out.2).cell (p := ⟨b, o + i, none⟩) (World.block_lt_of_cell? w _ d0)).trans d0
            have hr4 : (x : Int).tmod 4 = ((x % 4 : Nat) : Int) := rem_nat x 4
            clear d0
            have h4 : x % 4 = 0 ∨ x % 4 = 1 ∨ x % 4 = 2 ∨ x % 4 = 3 := by omega
            rcases h4 with e4 | e4 | e4 | e4
            · rw [e4] at hr4
              have R1 := run_one wr ((⟨#[32, 9, 10, 13]⟩ : ByteArray)[0]'(by decide))
              have hZ : Hid (Bl (M ++ ⟨#[(⟨#[32, 9, 10, 13]⟩ : ByteArray)[0]'(by decide)]⟩) (i + 1)) := hH.out.1.put rfl (by decide)
              have hq1 : ¬ 9223372036854775807 < M.size + 1 := by have := hH.out.1.sz; omega
              clear e4
              go_wp2
              go_roundw
              case rel => exact ⟨i + 1, _, by omega, by omega, by go_num, rfl, hZ.out, bal hH.out.2 _⟩
              case measure => simp [intOf]; omega
            · rw [e4] at hr4
              have R1 := run_one wr ((⟨#[32, 9, 10, 13]⟩ : ByteArray)[1]'(by decide))
              have hZ : Hid (Bl (M ++ ⟨#[(⟨#[32, 9, 10, 13]⟩ : ByteArray)[1]'(by decide)]⟩) (i + 1)) := hH.out.1.put rfl (by decide)
              have hq1 : ¬ 9223372036854775807 < M.size + 1 := by have := hH.out.1.sz; omega
              clear e4
              go_wp2
              go_roundw
              case rel => exact ⟨i + 1, _, by omega, by omega, by go_num, rfl, hZ.out, bal hH.out.2 _⟩
              case measure => simp [intOf]; omega
            · rw [e4] at hr4
              have R1 := run_one wr ((⟨#[32, 9, 10, 13]⟩ : ByteArray)[2]'(by decide))
              have hZ : Hid (Bl (M ++ ⟨#[(⟨#[32, 9, 10, 13]⟩ : ByteArray)[2]'(by decide)]⟩) (i + 1)) := hH.out.1.put rfl (by decide)
              have hq1 : ¬ 9223372036854775807 < M.size + 1 := by have := hH.out.1.sz; omega
              clear e4
              go_wp2
              go_roundw
              case rel => exact ⟨i + 1, _, by omega, by omega, by go_num, rfl, hZ.out, bal hH.out.2 _⟩
              case measure => simp [intOf]; omega
            · rw [e4] at hr4
              have R1 := run_one wr ((⟨#[32, 9, 10, 13]⟩ : ByteArray)[3]'(by decide))
              have hZ : Hid (Bl (M ++ ⟨#[(⟨#[32, 9, 10, 13]⟩ : ByteArray)[3]'(by decide)]⟩) (i + 1)) := hH.out.1.put rfl (by decide)
              have hq1 : ¬ 9223372036854775807 < M.size + 1 := by have := hH.out.1.sz; omega
              clear e4
              go_wp2
              go_roundw
              case rel => exact ⟨i + 1, _, by omega, by omega, by go_num, rfl, hZ.out, bal hH.out.2 _⟩
              case measure => simp [intOf]; omega
          · by_cases hg1 : i < nb
            · have hg2 : ¬ i < 50 := fun g => hgo ⟨hg1, g⟩
              clear hgo
              go_wp2
              go_meet
              case rel => exact ⟨M, rfl, i, hH.out.1, hi5, hH.out.2⟩
            · clear hgo
              go_wp2
              go_meet
              case rel => exact ⟨M, rfl, i, hH.out.1, hi5, hH.out.2⟩
      clear HRB
      obtain ⟨M0, rfl, hM⟩ := hcut
      obtain ⟨i0, hBl, hi0, hBW⟩ := hM.out
      have hM0 := hBl.sz
      have HB0 : Hid (Bl M0 i0) := hBl
      have HBW := hBW
      have HB1 : Hid (Below w.heap.size w _) := btr hB.out hBW
      clear hM hBl hBW
      go_upto_region 14 with (fail)
      obtain ⟨q, hq⟩ : ∃ q : Bool, Hid (q = decide (0 < t.size ∧ t.size < 100)) := ⟨_, rfl⟩
      go_cut [72] from 66 to 71 (fun v72 W => W = wc ∧ v72 = Value.bool q)
      case first =>
        by_cases h0 : 0 < t.size
        · have hz := ne_empty h0
          by_cases h100 : t.size < 100
          · have hd : Hid (true = q) := by rw [hq.out]; exact (decide_eq_true ⟨h0, h100⟩).symm
            go_wp2
            go_meet
            case rel => exact ⟨rfl, by rw [← hd.out, decide_eq_true (show (t.size : Int) < 100 by omega)]⟩
          · have hd : Hid (false = q) := by rw [hq.out]; exact (decide_eq_false (fun g => h100 g.2)).symm
            go_wp2
            go_meet
            case rel => exact ⟨rfl, by rw [← hd.out, decide_eq_false (show ¬ (t.size : Int) < 100 by omega)]⟩
        · have hd : Hid (false = q) := by rw [hq.out]; exact (decide_eq_false (fun g => h0 g.1)).symm
          obtain rfl := empty_of h0
          go_wp2
          go_meet
          case rel => exact ⟨rfl, by rw [← hd.out]⟩
      obtain ⟨rfl, rfl⟩ := hcut
      go_upto_if 72 with fail
      go_cut [13, 15] from 72 to 93 (fun v13 v15 W => W = wc ∧ ∃ (M : ByteArray), v13 = .string M ∧ Hid (Pass M ∧ M.size ≤ 200))
      case first =>
        by_cases h0 : 0 < t.size
        · by_cases h100 : t.size < 100
          · obtain rfl : q = true := by rw [hq.out]; exact decide_eq_true ⟨h0, h100⟩
            clear hq
            have hq1 : ¬ 9223372036854775807 < M0.size + 1 := by omega
            have hR0 : Hid (Rm (M0 ++ ⟨#[35]⟩) i0 (i0 + 1)) := Rm.start HB0.out
            clear hM0
            go_upto_region 17 with (fail)
            go_loopw [13, 15] (fun v13 v15 wr => wr = wc ∧ ∃ (i : Nat) (M : ByteArray), i ≤ t.size ∧ v15 = .int .i64 i ∧ v13 = .string M ∧ Hid (Rm M i0 (i0 + 1 + i))) (fun _ v15 _ => t.size - (intOf v15).toNat)
            case atStart => exact ⟨rfl, 0, _, by omega, rfl, rfl, hR0⟩
            case round =>
              clear hR0
              obtain ⟨rfl, i, M, hit, rfl, rfl, hR⟩ := hrel
              by_cases hlt : i < t.size
              · by_cases h10 : t[i].toNat = 10
                · have hZ : Hid (Rm M i0 (i0 + 1 + (i + 1))) := hR.out.keep
                  go_wp2
                  go_roundw
                  case rel => exact ⟨trivial, i + 1, M, by omega, by go_num, rfl, hZ⟩
                  case measure => simp [intOf]; omega
                · have h11 : ((t[i].toNat : Int) == 10) = false := beq_false_of_ne (by omega)
                  have hzN : (t.extract i (i + 1)).size = 1 := by rw [size_ext _ _ _ hlt]; omega
                  have hcN : cb (t.extract i (i + 1)) 0 ≠ 10 := by rw [cb_ext hlt (by omega), Nat.add_zero, cb_at hlt]; exact h10
                  have hZ : Hid (Rm (M ++ t.extract i (i + 1)) i0 (i0 + 1 + (i + 1))) := hR.out.put hzN hcN
                  have hq2 : ¬ 9223372036854775807 < M.size + (t.extract i (i + 1)).size := by have := hR.out.sz; omega
                  have SS := fun w => run_sub1 t i hlt w
                  clear h10 hzN hcN
                  generalize t.extract i (i + 1) = N at *
                  go_wp2
                  go_roundw
                  case rel => exact ⟨trivial, i + 1, _, by omega, by go_num, rfl, hZ⟩
                  case measure => simp [intOf]; omega
              · obtain rfl : i = t.size := by omega
                have hq3 : ¬ 9223372036854775807 < M.size + 1 := by have := hR.out.sz; omega
                have hPs := hR.out.pass
                have HPs : Hid (Pass (M ++ ⟨#[10]⟩) ∧ (M ++ ⟨#[10]⟩).size ≤ 200) := ⟨hPs.1, by have := hPs.2; omega⟩
                clear hPs
                go_wp2
                go_meet
                case rel => exact ⟨rfl, _, rfl, HPs⟩
          · obtain rfl : q = false := by rw [hq.out]; exact decide_eq_false (fun g => h100 g.2)
            clear hq
            go_wp2
            go_meet
            case rel => exact ⟨rfl, M0, rfl, HB0.out.pass, by omega⟩
        · obtain rfl : q = false := by rw [hq.out]; exact decide_eq_false (fun g => h0 g.1)
          clear hq
          go_wp2
          go_meet
          case rel => exact ⟨rfl, M0, rfl, HB0.out.pass, by omega⟩
      clear HB0 hM0
      obtain ⟨rfl, M, rfl, hPM⟩ := hcut
      have hMz := hPM.out.2
      obtain ⟨p, kk, j, etk, _, htk⟩ := HP.out.starts k hkl
      have hpj := htk.lt
      have hjs := htk.sz
      obtain ⟨b, o, rfl, r0⟩ := HR.out k hkl
      have r := r0.below HBW
      have hlp : l[k].p = (p : Int) := by rw [etk]; rfl
      have d2 := r.c2 k hkl
      rw [hlp] at d2
      clear htk etk
      have hI := ins_law s M p (by omega)
      have hz := hI.sz
      by_cases hbig : 65536 < s.size + M.size
      · have g1 : (65536 : Int) < (s.size : Int) + (M.size : Int) := by omega
        clear hI hz
        go_wp2
        go_ret
        exact ⟨rfl, HB1.out⟩
      · have g1 : ¬ (65536 : Int) < (s.size : Int) + (M.size : Int) := by omega
        have hO := space_out HP.out hkl hlp hI hPM.out.1 (by rw [hz]; omega)
        obtain ⟨hll, hla⟩ := space_at l k M.size hkl
        have S3 := fun w => scan_any _ _ 0 0 w (by rw [hz]; omega) hO
        have SS1 : ∀ w, (Instr.slice 9 (.string s) none (some (.int .i64 (p : Int))) none).run Try.prog w = .ok (.string (s.extract 0 p)) w := fun w => by
          rw [run_slice_string_to_if w 9 s .i64 p Try.underlying9, if_pos ⟨by omega, by omega⟩]
          rfl
        have SS2 := fun w => run_from s p (by omega) w
        have z1 : (s.extract 0 p).size = p := by rw [size_ext _ _ _ (by omega)]; omega
        have z2 : (s.extract p s.size).size = s.size - p := size_ext _ _ _ (Nat.le_refl _)
        have c1 : ¬ 9223372036854775807 < (s.extract 0 p).size + M.size := by omega
        have c2 : ¬ 9223372036854775807 < (s.extract 0 p ++ M).size + (s.extract p s.size).size := by rw [app_size]; omega
        have c3 : ¬ 9223372036854775807 < (s.extract 0 p).size + M.size + (s.extract p s.size).size := by omega
        have HLA : Hid (∀ i (h : i < l.length) (h' : i < (l.take k ++ (l.drop k).map (shf M.size)).length), (l.take k ++ (l.drop k).map (shf M.size))[i] = if k ≤ i then shf M.size l[i] else l[i]) := hla
        have HLR : Hid (RT _ b o l) := r
        clear hO hI hz hla z1 z2 r r0
        generalize l.take k ++ (l.drop k).map (shf M.size) = m at *
        generalize s.extract 0 p = A at *
        generalize s.extract p s.size = C at *
        go_upto_region 25 with fail
        go_cut [17, 18, 19] from 105 to 118 (fun v17 v18 v19 W => v19 = .int .i64 0 ∧ ∃ a17 c17, v17 = .slice a17 l.length c17 ∧ Hid (Below wc.heap.size wc W ∧ l.length ≤ c17 ∧ ∀ k, k < l.length → ∃ b o, a17 = some ⟨b, o, none⟩ ∧ RT W b o m))
        case first =>
          go_region_with (go_at_call 10; (with_reducible refine (S3 _).mono ?_); rintro e w5 ⟨v17, rfl, hI5⟩)
          all_goals
            obtain ⟨a17, c17, rfl, hc17, hr17⟩ := hI5.sl.form3 hll
            have HZ : Hid (Below wc.heap.size wc w5 ∧ l.length ≤ c17 ∧ ∀ k, k < l.length → ∃ b o, a17 = some ⟨b, o, none⟩ ∧ RT w5 b o m) := ⟨btr (below_drew (Below.refl _ _)) hI5.below, hc17, hr17⟩
            clear hc17 hr17 hI5 S3
            go_wp2
            go_meet
            case rel => exact ⟨rfl, a17, c17, rfl, HZ⟩
        clear S3 SS1 SS2 c1 c2 c3 g1 d2
        obtain ⟨rfl, a17, c17, rfl, hZ⟩ := hcut
        have HB2 : Hid (Below w.heap.size w _) := btr HB1.out hZ.out.1
        have HL2 := HLR.out.below hZ.out.1
        have HL3 : Hid (RT _ b o l) := HL2
        have HM3 := hZ.out.2.2
        have HM4 : Hid (∀ k, k < l.length → ∃ b o, a17 = some ⟨b, o, none⟩ ∧ RT _ b o m) := HM3
        have hc17 := hZ.out.2.1
        clear HL2 HM3 hZ HB1 HBW HR hB HLR
        go_upto_region 29 with fail
        go_loopw [20] (fun v wr => ∃ i : Nat, i ≤ l.length ∧ v = .int .i64 i ∧ Hid (Below wc.heap.size wc wr)) (fun v _ => l.length - (intOf v).toNat)
        case atStart => exact ⟨0, by omega, rfl, Below.refl _ _⟩
        case round =>
          obtain ⟨i, hi, rfl, hH⟩ := hrel
          by_cases hlt : i < l.length
          · obtain ⟨b7, o7, rfl, q0⟩ := HM4.out i hlt
            have q := q0.below hH.out
            have rr := HL3.out.below hH.out
            have d0 := rr.c0 i hlt
            have d1 := rr.c1 i hlt
            have d2 := rr.c2 i hlt
            have e0 := q.c0 i (by omega)
            have e1 := q.c1 i (by omega)
            have e2 := q.c2 i (by omega)
            have em := HLA.out i hlt (by omega)
            rw [em] at e0 e1 e2
            have hb := rr.lt
            have hb7 := q.lt
            obtain ⟨pi, kk2, j2, etk2, _, htk2⟩ := HP.out.starts i hlt
            have hpj2 := htk2.lt
            have hjs2 := htk2.sz
            have hpi : l[i].p = (pi : Int) := by rw [etk2]; rfl
            by_cases hki : k ≤ i
            · rw [if_pos hki] at e0 e1 e2
              unfold shf at e0 e1 e2
              simp only at e0 e1 e2
              rw [hpi] at d2 e2
              have g2 : decide ((k : Int) ≤ (i : Int)) = true := decide_eq_true (by omega)
              have TN := fun w => run_tne l[i].k ((pi : Int) + (M.size : Int)) l[i].t w
              clear em etk2 htk2 hpi q q0 rr
              generalize l[i].k = x at *
              generalize l[i].t = z at *
              go_upto_region 34 with fail
              go_quiet (fail)
              go_wp2
              go_roundw
              case rel => exact ⟨i + 1, by omega, by go_num, below_drewN (bal hH.out _) _⟩
              case measure => simp [intOf]; omega
            · rw [if_neg hki] at e0 e1 e2
              have g2 : decide ((k : Int) ≤ (i : Int)) = false := decide_eq_false (by omega)
              have TN := fun w => run_tne l[i].k l[i].p l[i].t w
              clear em etk2 htk2 hpi q q0 rr
              generalize l[i].k = x at *
              generalize l[i].t = z at *
              generalize l[i].p = y2 at *
              go_upto_region 34 with fail
              go_quiet (fail)
              go_wp2
              go_roundw
              case rel => exact ⟨i + 1, by omega, by go_num, below_drewN (bal hH.out _) _⟩
              case measure => simp [intOf]; omega
          · obtain rfl : i = l.length := by omega
            go_wp2
            go_ret
            exact ⟨rfl, btr HB2.out hH.out⟩
  · go_enter Try.func7, Try.ntmps7
    go_wp2_with (first
      | (go_at_call 8; (with_reducible refine (AW _).mono ?_); rintro e w1 ⟨rfl, hN1⟩)
      | (go_at_call 10; (with_reducible refine (S1 _).mono ?_); rintro e w2 ⟨v, rfl, hI⟩; obtain ⟨a, c, rfl⟩ := hI.shape))
    go_ret
    exact ⟨rfl, btr hN1 hI.below⟩
end Go.Proofs.Ytfjpdekegbnbaaa
