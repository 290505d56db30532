/-
  The reference's Parse: the sign, and what is no text.
-/
import Derived.Test.YtbkdehnemhkbkaaQ2
namespace Go.Proofs.Ytbkdehnemhkbkaa
open Go.RowKit Go.Sort

theorem hp_cons (a b : UInt8) (r : List UInt8) : Lib.hasPrefix (b :: r) [a] = (a == b) := by simp [Lib.hasPrefix, List.isPrefixOf]
theorem hp_nil (a : UInt8) : Lib.hasPrefix [] [a] = false := rfl
theorem tp_hit (a : UInt8) (r : List UInt8) : Lib.trimPrefix (a :: r) [a] = r := by simp [Lib.trimPrefix, Lib.hasPrefix]
theorem tp_miss {a : UInt8} {l : List UInt8} (h : Lib.hasPrefix l [a] = false) : Lib.trimPrefix l [a] = l := by simp [Lib.trimPrefix, h]
/-- What the first byte of a text can be. -/
theorem first_byte (s : ByteArray) (i : Nat) : (∃ h : i < s.size, s.data.toList.drop i = s[i] :: s.data.toList.drop (i + 1)) ∨ s.size ≤ i ∧ s.data.toList.drop i = [] := by
  by_cases h : i < s.size
  · exact .inl ⟨h, by rw [List.drop_eq_getElem_cons (show i < s.data.toList.length from h)]; rfl⟩
  · exact .inr ⟨by omega, List.drop_eq_nil_of_le (by show s.data.toList.length ≤ i; simp only [Array.length_toList]; exact Nat.le_of_not_lt h)⟩
theorem u8_eq {a b : UInt8} : a = b ↔ a.toNat = b.toNat := UInt8.toNat_inj.symm
theorem cut1_cases (s : ByteArray) : (∃ h : 0 < s.size, s[0].toNat = 45 ∧ cut1 s.data.toList = (2, s.data.toList.drop 1)) ∨ (∃ h : 0 < s.size, s[0].toNat = 43 ∧ cut1 s.data.toList = (0, s.data.toList.drop 1)) ∨
    (∃ h : 0 < s.size, s[0].toNat ≠ 45 ∧ s[0].toNat ≠ 43 ∧ cut1 s.data.toList = (0, s.data.toList.drop 0)) ∨ (s.size = 0 ∧ cut1 s.data.toList = (0, s.data.toList.drop 0)) := by
  unfold cut1
  rcases first_byte s 0 with ⟨h, e⟩ | ⟨h, e⟩
  · rw [List.drop_zero] at e
    by_cases h1 : s[0] = 45
    · refine .inl ⟨h, by rw [h1]; rfl, ?_⟩
      rw [e, h1, hp_cons, tp_hit]; simp
    · have n1 : s[0].toNat ≠ 45 := fun g => h1 (u8_eq.2 g)
      have hf : Lib.hasPrefix s.data.toList [45] = false := by rw [e, hp_cons]; simp; exact fun g => h1 g.symm
      by_cases h2 : s[0] = 43
      · refine .inr (.inl ⟨h, by rw [h2]; rfl, ?_⟩)
        rw [hf, if_neg (by decide)]
        rw [e, h2, tp_hit]; simp
      · have n2 : s[0].toNat ≠ 43 := fun g => h2 (u8_eq.2 g)
        refine .inr (.inr (.inl ⟨h, n1, n2, ?_⟩))
        rw [hf, if_neg (by decide), tp_miss (by rw [e, hp_cons]; simp; exact fun g => h2 g.symm), List.drop_zero]
  · rw [List.drop_zero] at e
    refine .inr (.inr (.inr ⟨by omega, ?_⟩))
    rw [e]; rfl
theorem cutS_cases (s : ByteArray) (f i : Nat) (h1 : cut1 s.data.toList = (f, s.data.toList.drop i)) : (∃ h : i < s.size, s[i].toNat = 105 ∧ cutS s.data.toList = (f + 1, s.data.toList.drop (i + 1))) ∨
    (∃ h : i < s.size, s[i].toNat ≠ 105 ∧ cutS s.data.toList = (f, s.data.toList.drop i)) ∨ (s.size ≤ i ∧ cutS s.data.toList = (f, s.data.toList.drop i)) := by
  unfold cutS
  rw [h1]
  simp only
  rcases first_byte s i with ⟨h, e⟩ | ⟨h, e⟩
  · by_cases h2 : s[i] = 105
    · refine .inl ⟨h, by rw [h2]; rfl, ?_⟩
      rw [e, h2, hp_cons, tp_hit]; simp
    · refine .inr (.inl ⟨h, fun g => h2 (u8_eq.2 g), ?_⟩)
      rw [if_neg]
      rw [e, hp_cons]; simp; exact fun g => h2 g.symm
  · refine .inr (.inr ⟨h, ?_⟩)
    rw [if_neg]
    rw [e]; simp [Lib.hasPrefix]
theorem gl_drop (s : ByteArray) (i j : Nat) (h : i + j < s.size) : gl (s.data.toList.drop i) j = s[i + j].toNat := by
  have h' : i + j < s.data.toList.length := h
  unfold gl
  rw [List.getD_eq_getElem?_getD, List.getElem?_drop, List.getElem?_eq_getElem h']
  rfl

/-- Behind the sign. -/
structure RP (w : World) (F : Nat) (W : World) : Prop where
  below : Below w.heap.size w W
  r : PB W w.heap.size 0 0 0 0
  p : PB W (w.heap.size + 1) 0 0 0 F
theorem sign_data (s : ByteArray) : ∃ f0 i0 F i : Nat,
    Hid ((∃ h : 0 < s.size, s[0].toNat = 45 ∧ f0 = 2 ∧ i0 = 1) ∨ (∃ h : 0 < s.size, s[0].toNat = 43 ∧ f0 = 0 ∧ i0 = 1) ∨ (∃ h : 0 < s.size, s[0].toNat ≠ 45 ∧ s[0].toNat ≠ 43 ∧ f0 = 0 ∧ i0 = 0) ∨ (s.size = 0 ∧ f0 = 0 ∧ i0 = 0)) ∧
    Hid ((∃ h : i0 < s.size, s[i0].toNat = 105 ∧ F = f0 + 1 ∧ i = i0 + 1) ∨ (∃ h : i0 < s.size, s[i0].toNat ≠ 105 ∧ F = f0 ∧ i = i0) ∨ (s.size ≤ i0 ∧ F = f0 ∧ i = i0)) ∧
    Hid (cutS s.data.toList = (F, s.data.toList.drop i)) ∧ i ≤ s.size ∧ i ≤ 2 ∧ f0 ≤ 2 ∧ i0 ≤ 1 := by
  have two : ∀ f0 i0, cut1 s.data.toList = (f0, s.data.toList.drop i0) → i0 ≤ s.size → i0 ≤ 1 → ∃ F i, Hid ((∃ h : i0 < s.size, s[i0].toNat = 105 ∧ F = f0 + 1 ∧ i = i0 + 1) ∨ (∃ h : i0 < s.size, s[i0].toNat ≠ 105 ∧ F = f0 ∧ i = i0) ∨ (s.size ≤ i0 ∧ F = f0 ∧ i = i0)) ∧
      Hid (cutS s.data.toList = (F, s.data.toList.drop i)) ∧ i ≤ s.size ∧ i ≤ 2 := fun f0 i0 h hi h1 => by
    rcases cutS_cases s f0 i0 h with ⟨h, e, g⟩ | ⟨h, e, g⟩ | ⟨h, g⟩
    · exact ⟨_, _, .inl ⟨h, e, rfl, rfl⟩, g, by omega, by omega⟩
    · exact ⟨_, _, .inr (.inl ⟨h, e, rfl, rfl⟩), g, by omega, by omega⟩
    · exact ⟨_, _, .inr (.inr ⟨h, rfl, rfl⟩), g, by omega, by omega⟩
  rcases cut1_cases s with ⟨h, e, g⟩ | ⟨h, e, g⟩ | ⟨h, e, e', g⟩ | ⟨h, g⟩
  · obtain ⟨F, i, a, b, c, d⟩ := two _ _ g (by omega) (by omega)
    exact ⟨2, 1, F, i, .inl ⟨h, e, rfl, rfl⟩, a, b, c, d, by omega, by omega⟩
  · obtain ⟨F, i, a, b, c, d⟩ := two _ _ g (by omega) (by omega)
    exact ⟨0, 1, F, i, .inr (.inl ⟨h, e, rfl, rfl⟩), a, b, c, d, by omega, by omega⟩
  · obtain ⟨F, i, a, b, c, d⟩ := two _ _ g (by omega) (by omega)
    exact ⟨0, 0, F, i, .inr (.inr (.inl ⟨h, e, e', rfl, rfl⟩)), a, b, c, d, by omega, by omega⟩
  · obtain ⟨F, i, a, b, c, d⟩ := two _ _ g (by omega) (by omega)
    exact ⟨0, 0, F, i, .inr (.inr (.inr ⟨h, rfl, rfl⟩)), a, b, c, d, by omega, by omega⟩
theorem rp_new (w : World) (f : Nat) : RP w f ((w.alloc (pc 0 0 0 0)).alloc (pc 0 0 0 f)) := by
  obtain ⟨a, b, c⟩ := two_boxes w 0 0 0 0 0 0 0 f
  exact ⟨a, b, c⟩
theorem RP.put {w W : World} {f : Nat} (h : RP w f W) (g : Nat) : RP w g (W.setCell ⟨w.heap.size + 1, 3, none⟩ (.int .i64 (g : Int))) :=
  ⟨bset h.below _ _ _ (by omega), h.r.far (by omega) _ _, h.p.set3 g⟩

set_option maxHeartbeats 4000000 in
theorem rparse_bad (s : ByteArray) (w : World) (hs : s.size ≤ 9223372036854775807) (hb : ¬ AllLet (cutS s.data.toList).2) :
    Calls Try.prog 25 #[.string s] w fun e w' => e = .returned (.tuple #[pv 0 0 0 0, .int .i64 70]) ∧ Below w.heap.size w w' := by
  have HB : Hid (¬ AllLet (cutS s.data.toList).2) := hb
  clear hb
  obtain ⟨f0, i0, F, i, HD, HE, HS, hil, hi2, hf0, hi0⟩ := sign_data s
  have hR00 : Hid (RP w 0 ((w.alloc (pc 0 0 0 0)).alloc (pc 0 0 0 0))) := rp_new w 0
  go_enter Try.func25, Try.ntmps25
  go_upto_region 3 with (fail)
  go_cut [24] from 9 to 23 (fun v24 W => v24 = Value.bool (decide (i0 = 1)) ∧ Hid (RP w 0 W))
  case first =>
    rcases HD.out with ⟨h, e, rfl, rfl⟩ | ⟨h, e, rfl, rfl⟩ | ⟨h, e, e', rfl, rfl⟩ | ⟨h, rfl, rfl⟩
    · go_wp2
      go_meet
      case rel => exact ⟨rfl, hR00⟩
    · go_wp2
      go_meet
      case rel => exact ⟨rfl, hR00⟩
    · have e1 : ((s[0].toNat : Int) == 45) = false := by simp; omega
      have e2 : ((s[0].toNat : Int) == 43) = false := by simp; omega
      clear e e'
      go_wp2
      go_meet
      case rel => exact ⟨rfl, hR00⟩
    · go_wp2
      go_meet
      case rel => exact ⟨rfl, hR00⟩
  clear hR00
  obtain ⟨rfl, hR00⟩ := hcut
  go_upto_if 24 with (fail)
  go_cut [5] from 24 to 31 (fun v5 W => v5 = Value.int .i64 (i0 : Int) ∧ Hid (RP w f0 W))
  case first =>
    obtain ⟨p0, p1, p2, p3, g0, g1, g2, g3⟩ := hR00.out.p
    rcases HD.out with ⟨h, e, rfl, rfl⟩ | ⟨h, e, rfl, rfl⟩ | ⟨h, e, e', rfl, rfl⟩ | ⟨h, rfl, rfl⟩
    · go_wp2
      go_meet
      case rel => exact ⟨rfl, hR00.out.put 2⟩
    · go_wp2
      go_meet
      case rel => exact ⟨rfl, hR00⟩
    · go_wp2
      go_meet
      case rel => exact ⟨rfl, hR00⟩
    · go_wp2
      go_meet
      case rel => exact ⟨rfl, hR00⟩
  clear hR00 HD
  obtain ⟨rfl, hR0⟩ := hcut
  go_upto_region 7 with (fail)
  go_cut [41] from 32 to 40 (fun v41 W => v41 = Value.bool (decide (i = i0 + 1)) ∧ Hid (RP w f0 W))
  case first =>
    rcases HE.out with ⟨h, e, rfl, rfl⟩ | ⟨h, e, rfl, rfl⟩ | ⟨h, rfl, rfl⟩
    · go_wp2
      go_meet
      case rel => exact ⟨by simp, hR0⟩
    · have e1 : ((s[i].toNat : Int) == 105) = false := by simp; omega
      clear e
      go_wp2
      go_meet
      case rel => exact ⟨by simp, hR0⟩
    · have h' : ¬ i < s.size := by omega
      go_wp2
      go_meet
      case rel => exact ⟨by simp, hR0⟩
  clear hR0
  obtain ⟨rfl, hR0⟩ := hcut
  go_upto_if 41 with (fail)
  go_cut [5] from 41 to 47 (fun v5 W => v5 = Value.int .i64 (i : Int) ∧ Hid (RP w F W))
  case first =>
    obtain ⟨p0, p1, p2, p3, g0, g1, g2, g3⟩ := hR0.out.p
    rcases HE.out with ⟨h, e, rfl, rfl⟩ | ⟨h, e, rfl, rfl⟩ | ⟨h, rfl, rfl⟩
    · go_wp2
      go_meet
      case rel => exact ⟨by go_num, hR0.out.put (f0 + 1)⟩
    · have hd : decide (i = i + 1) = false := by simp
      go_wp2
      go_meet
      case rel => exact ⟨rfl, hR0⟩
    · have hd : decide (i = i + 1) = false := by simp
      go_wp2
      go_meet
      case rel => exact ⟨rfl, hR0⟩
  clear HE hR0 hf0 hi0
  obtain ⟨rfl, hR⟩ := hcut
  have HB2 : Hid (¬ ∀ k (h : k < s.size), i ≤ k → isLet s[k].toNat) := fun ha => HB.out (by
    rw [HS.out]
    intro j hj
    have hj2 : i + j < s.size := by
      have : j < (s.data.toList.drop i).length := hj
      rw [List.length_drop] at this
      have e : s.data.toList.length = s.size := rfl
      omega
    rw [gl_drop s i j hj2]
    exact ha (i + j) hj2 (by omega))
  clear HB HS
  go_upto_region 12 with (fail)
  go_loop [7] (fun v => ∃ k : Nat, i ≤ k ∧ k ≤ s.size ∧ v = .int .i64 k ∧ Hid (∀ j (h : j < s.size), i ≤ j → j < k → isLet s[j].toNat)) (fun v => s.size - (intOf v).toNat)
  case atStart => exact ⟨i, by omega, by omega, rfl, fun j h h1 h2 => by omega⟩
  case round =>
    obtain ⟨k, hik, hk, rfl, hall⟩ := hrel
    by_cases hlt : k < s.size
    · have HN : Hid (isLet s[k].toNat → ∀ j (h : j < s.size), i ≤ j → j < k + 1 → isLet s[j].toNat) := fun hl j h h1 h2 => if e : j < k then hall.out j h h1 e else by
        obtain rfl : j = k := by omega
        exact hl
      by_cases hlet : isLet s[k].toNat
      · have HL : Hid (isLet s[k].toNat) := hlet
        rcases hlet with hb | hb | hb | hb
        all_goals
          go_wp2
          go_round
          case rel => exact ⟨k + 1, by omega, by omega, by go_num, HN.out HL.out⟩
          case measure => simp [intOf]; omega
      · have n1 : ((s[k].toNat : Int) != 73) = true := bne_iff_ne.2 (fun e => hlet (.inl (by omega)))
        have n2 : ((s[k].toNat : Int) != 88) = true := bne_iff_ne.2 (fun e => hlet (.inr (.inl (by omega))))
        have n3 : ((s[k].toNat : Int) != 89) = true := bne_iff_ne.2 (fun e => hlet (.inr (.inr (.inl (by omega)))))
        have n4 : ((s[k].toNat : Int) != 90) = true := bne_iff_ne.2 (fun e => hlet (.inr (.inr (.inr (by omega)))))
        clear hlet
        obtain ⟨d0, d1, d2, d3, g0, g1, g2, g3⟩ := hR.out.r
        go_wp2
        refine bodyPost_ret (v := .tuple #[pv 0 0 0 0, .int .i64 70]) (by simp [results, Try.results25, go_sem, d0, d1, d2, d3]) rfl ⟨rfl, ?_⟩
        repeat (first | exact hR.out.below | refine bset ?_ _ _ _ (by omega))
    · obtain rfl : k = s.size := by omega
      exact absurd (fun j h h1 => hall.out j h h1 h) HB2.out
end Go.Proofs.Ytbkdehnemhkbkaa
