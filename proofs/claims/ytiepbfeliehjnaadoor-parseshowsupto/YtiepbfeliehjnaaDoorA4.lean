/-
  Scan of package lex.
-/
import Derived.Test.YtiepbfeliehjnaaDoorA3
import Derived.WalkMore
import Derived.Deep.LoopGhost
namespace Go.Proofs.YtiepbfeliehjnaaDoor
open Go.RowKit Go.Sort

/-- What is asked of the byte at a place. -/
structure Asked (c : Nat) (b l d g : Bool) : Prop where
  B : ∀ w, Calls Tryd.prog 28 #[.int .u8 c] w fun e w' => e = .returned (.bool b) ∧ w' = w
  L : ∀ w, Calls Tryd.prog 29 #[.int .u8 c] w fun e w' => e = .returned (.bool l) ∧ w' = w
  D : ∀ w, Calls Tryd.prog 31 #[.int .u8 c] w fun e w' => e = .returned (.bool d) ∧ w' = w
  G : ∀ w, Calls Tryd.prog 33 #[.int .u8 c] w fun e w' => e = .returned (.bool g) ∧ w' = w
theorem asked (c : Nat) {b l d g : Bool} (hb : isB c = b) (hl : isL c = l) (hd : isD c = d) (hg : isS c = g) : Asked c b l d g := by
  subst hb hl hd hg
  exact ⟨blank2_any c, letter2_any c, digit2_any c, sign2_any c⟩

theorem run_sub (s : ByteArray) (i j : Nat) (h1 : i ≤ j) (h2 : j ≤ s.size) (w : World) : (Instr.slice 9 (.string s) (some (.int .i64 (i : Int))) (some (.int .i64 (j : Int))) none).run Tryd.prog w = .ok (.string (s.extract i j)) w :=
  run_slice_string w 9 s .i64 .i64 i j Tryd.underlying9 (by omega) (by omega) (by omega)
theorem run_sub1 (s : ByteArray) (i : Nat) (h2 : i < s.size) (w : World) : (Instr.slice 9 (.string s) (some (.int .i64 (i : Int))) (some (.int .i64 ((i : Int) + 1))) none).run Tryd.prog w = .ok (.string (s.extract i (i + 1))) w :=
  run_sub s i (i + 1) (by omega) h2 w

set_option maxHeartbeats 4000000 in
set_option maxRecDepth 100000 in
theorem scan_any (s : ByteArray) (l : List Tk) (a e : Nat) (w : World) (hs : s.size ≤ 9223372036854775807) (ho : Out s l a e) :
    Calls Tryd.prog 17 #[.string s] w fun x w' => ∃ v, x = .returned (.tuple #[v, .int .i64 a, .int .i64 e]) ∧ SI w w' v l := by
  by_cases hbig : 65536 < s.size
  · obtain ⟨rfl, rfl, rfl⟩ : l = [] ∧ a = 0 ∧ e = 1 := by
      rcases ho with ⟨_, h⟩ | ⟨h, _⟩ | ⟨h, _⟩
      · exact h
      · omega
      · omega
    clear ho
    go_enter Tryd.func17, Tryd.ntmps17
    go_wp2
    go_step3
    go_wp2
    try rw [Exit.noGoto_ret]
    go_ret3
    exact ⟨_, rfl, SI.nil _⟩
  have hno : ¬ (65536 : Int) < (s.size : Int) := by omega
  have HU : Hid (∀ l' a' e', Out s l' a' e' → l = l' ∧ a = a' ∧ e = e') := fun l' a' e' h => ho.unique h
  have hs6 : s.size ≤ 65536 := by omega
  clear ho
  obtain ⟨i3, hi3, hz3, hs3, hb3⟩ := info_parts Tryd.info47
  go_enter Tryd.func17, Tryd.ntmps17
  go_wp2
  go_step3
  go_wp2
  go_step3
  go_wp2
  have hC : Hid (SI w w (.slice none 0 0) []) := SI.nil w
  go_loopg [5, 6] s.size (fun g v5 v6 wr => ∃ (i : Nat) (m : List Tk), i ≤ s.size ∧ g = s.size - i ∧ v6 = .int .i64 i ∧ Hid (Pre s i m) ∧ Hid (SI w wr v5 m))
  case atStart => exact ⟨0, [], by omega, by omega, rfl, Pre.zero s, hC⟩
  case round =>
    clear hC
    obtain ⟨i, m, hi, rfl, rfl, hP, hH⟩ := hrel
    have hml := hP.out.count
    by_cases hlt : i < s.size
    · rcases ways s i hlt with hb | ⟨hc, he⟩ | ⟨k, j, ht⟩ | ⟨j, hj⟩
      · have hP2 : Hid (Pre s (i + 1) m) := hP.out.blank hb
        rw [cb_at hlt] at hb
        obtain ⟨qB, _, _, _⟩ := asked s[i].toNat hb rfl rfl rfl
        clear hb
        go_wp2_with (go_at_call 28; (with_reducible refine (qB _).mono ?_); rintro e w1 ⟨rfl, rfl⟩)
        go_roundg (s.size - (i + 1))
        case measure => omega
        case rel => exact ⟨i + 1, m, by omega, rfl, by go_num, hP2, hH⟩
      · have hP2 : Hid (Pre s (run isR s i) m) := hP.out.remark hc he
        have hij := remark_lt hc he
        have hjs := he.sz
        generalize run isR s i = j at *
        have HE : Hid (End isR s i j) := he
        rw [cb_at hlt] at hc
        obtain ⟨qB, _, _, _⟩ := asked s[i].toNat (b := false) (by rw [hc]; decide) rfl rfl rfl
        clear he
        have h35 : ((s[i].toNat : Int) == 35) = true := by simp; omega
        clear hc
        go_wp2_with (go_at_call 28; (with_reducible refine (qB _).mono ?_); rintro e w1 ⟨rfl, rfl⟩)
        go_loopg [6] (j - i) (fun g v6 wr' => wr' = w1 ∧ ∃ k : Nat, i ≤ k ∧ k ≤ j ∧ g = j - k ∧ v6 = .int .i64 k)
        case atStart => exact ⟨rfl, i, by omega, by omega, rfl, rfl⟩
        case round =>
          obtain ⟨rfl, k, hik, hkj, rfl, rfl⟩ := hrel
          by_cases hk : k < j
          · have hks : k < s.size := by omega
            have h10 := (isR_p.1 (HE.out.all k hik hk)).1
            rw [cb_at hks] at h10
            have h11 : ((s[k].toNat : Int) == 10) = false := by simp; omega
            clear h10
            go_wp2
            go_roundg (j - (k + 1))
            case measure => omega
            case rel => exact ⟨rfl, k + 1, by omega, by omega, rfl, by go_num⟩
          · obtain rfl : k = j := by omega
            by_cases hks : k < s.size
            · have h10 := HE.out.no
              rw [cb_at hks] at h10
              have h11 : ((s[k].toNat : Int) == 10) = true := by
                have h12 : ¬ (s[k].toNat ≠ 10 ∧ s[k].toNat < 256) := fun g => absurd (isR_p.2 g) (by rw [h10]; decide)
                have := UInt8.toNat_lt s[k]
                simp
                omega
              clear h10
              go_wp2
              go_roundg (s.size - k)
              case measure => omega
              case rel => exact ⟨k, m, by omega, rfl, rfl, hP2, hH⟩
            · obtain rfl : k = s.size := by omega
              obtain ⟨rfl, rfl, rfl⟩ := HU.out m 0 0 (.inr (.inl ⟨hs6, hP2.out, rfl, rfl⟩))
              go_wp2
              try rw [Exit.noGoto_ret]
              go_ret3
              exact ⟨_, rfl, hH.out⟩
      · have hP2 : Hid (Pre s j (m ++ [tok s k i j])) := hP.out.put ht
        have hij := ht.lt
        have hjs := ht.sz
        have hxz : (s.extract i j).size ≤ 281474976710656 := by rw [ByteArray.size_extract]; omega
        rcases ht with ⟨rfl, h, he⟩ | ⟨rfl, h, he, hn⟩ | ⟨rfl, h, rfl⟩
        · obtain ⟨h1, h2, h3, h4⟩ := nB_of_L h
          rw [cb_at hlt] at h h1 h2
          obtain ⟨qB, qL, _, _⟩ := asked s[i].toNat (fls h1) h rfl rfl
          have NE := fun w => nameEnd_any s i j w hs he
          have h35 : ((s[i].toNat : Int) == 35) = false := by simp; omega
          clear h h1 h2 h3 h4 he
          have CL := fun w => clone_any (s.extract i j) w hxz
          have SS := fun w => run_sub s i j (by omega) hjs w
          go_wp2_with (first
            | (go_at_call 28; (with_reducible refine (qB _).mono ?_); rintro e w1 ⟨rfl, rfl⟩)
            | (go_at_call 29; (with_reducible refine (qL _).mono ?_); rintro e w1 ⟨rfl, rfl⟩)
            | (go_at_call 30; (with_reducible refine (NE _).mono ?_); rintro e w1 ⟨rfl, rfl⟩)
            | (go_at_call 34; (with_reducible refine (CL _).mono ?_); rintro e w4 ⟨rfl, hN4⟩; have hV : Hid (SI w (w4.alloc (.cells #[.int .i64 1, .string (s.extract i j), .int .i64 (i : Int)] 47)) _ m) := (hH.out.on hN4).alloc _)
            | (at_builtin; refine wpList_append_own_at _ rfl _ _ 40 rfl w.heap.size 47 i3 zTok 3 32 Tryd.underlying40 hi3 hz3 hs3 hb3 rfl (by decide) _ m.length (tks m) rfl hV.out.own ⟨w4.heap.size, 0, none⟩ 1 1 (tkc (tok s 1 i j)) rfl rfl (new_tok w4 _) (one_tok _) (by unfold maxLen; omega) (by omega) hV.out.below.size ?_; intro v5 w5 hown5 hgrow5 hnil5 hloc5; have hZ : Hid (SI w w5 v5 (m ++ [tok s 1 i j])) := hV.out.put hgrow5 hown5; clear hown5 hgrow5 hnil5 hloc5))
          go_roundg (s.size - j)
          case measure => omega
          case rel => exact ⟨j, m ++ [tok s 1 i j], hjs, rfl, rfl, hP2, hZ⟩
        · obtain ⟨h1, h2, h3, h4⟩ := nB_of_D h
          rw [cb_at hlt] at h h1 h2 h3
          obtain ⟨qB, qL, qD, _⟩ := asked s[i].toNat (fls h1) (fls h3) h rfl
          have NE := fun w => numberEnd_any s i j w hs he
          have h35 : ((s[i].toNat : Int) == 35) = false := by simp; omega
          clear h h1 h2 h3 h4 he
          by_cases hjl : j < s.size
          · rw [cb_at hjl] at hn
            have LJ := fun w => letter2_any s[j].toNat w
            rw [hn] at LJ
            clear hn
            have CL := fun w => clone_any (s.extract i j) w hxz
            have SS := fun w => run_sub s i j (by omega) hjs w
            go_wp2_with (first
              | (go_at_call 28; (with_reducible refine (qB _).mono ?_); rintro e w1 ⟨rfl, rfl⟩)
              | (go_at_call 29; (with_reducible refine (qL _).mono ?_); rintro e w1 ⟨rfl, rfl⟩)
              | (go_at_call 31; (with_reducible refine (qD _).mono ?_); rintro e w1 ⟨rfl, rfl⟩)
              | (go_at_call 32; (with_reducible refine (NE _).mono ?_); rintro e w1 ⟨rfl, rfl⟩)
              | (go_at_call 29; (with_reducible refine (LJ _).mono ?_); rintro e w1 ⟨rfl, rfl⟩)
              | (go_at_call 34; (with_reducible refine (CL _).mono ?_); rintro e w4 ⟨rfl, hN4⟩; have hV : Hid (SI w (w4.alloc (.cells #[.int .i64 2, .string (s.extract i j), .int .i64 (i : Int)] 47)) _ m) := (hH.out.on hN4).alloc _)
              | (at_builtin; refine wpList_append_own_at _ rfl _ _ 40 rfl w.heap.size 47 i3 zTok 3 32 Tryd.underlying40 hi3 hz3 hs3 hb3 rfl (by decide) _ m.length (tks m) rfl hV.out.own ⟨w4.heap.size, 0, none⟩ 1 1 (tkc (tok s 2 i j)) rfl rfl (new_tok w4 _) (one_tok _) (by unfold maxLen; omega) (by omega) hV.out.below.size ?_; intro v5 w5 hown5 hgrow5 hnil5 hloc5; have hZ : Hid (SI w w5 v5 (m ++ [tok s 2 i j])) := hV.out.put hgrow5 hown5; clear hown5 hgrow5 hnil5 hloc5))
            go_roundg (s.size - j)
            case measure => omega
            case rel => exact ⟨j, m ++ [tok s 2 i j], hjs, rfl, rfl, hP2, hZ⟩
          · clear hn
            obtain rfl : j = s.size := by omega
            have CL := fun w => clone_any (s.extract i s.size) w hxz
            have SS := fun w => run_sub s i s.size (by omega) (by omega) w
            go_wp2_with (first
              | (go_at_call 28; (with_reducible refine (qB _).mono ?_); rintro e w1 ⟨rfl, rfl⟩)
              | (go_at_call 29; (with_reducible refine (qL _).mono ?_); rintro e w1 ⟨rfl, rfl⟩)
              | (go_at_call 31; (with_reducible refine (qD _).mono ?_); rintro e w1 ⟨rfl, rfl⟩)
              | (go_at_call 32; (with_reducible refine (NE _).mono ?_); rintro e w1 ⟨rfl, rfl⟩)
              | (go_at_call 34; (with_reducible refine (CL _).mono ?_); rintro e w4 ⟨rfl, hN4⟩; have hV : Hid (SI w (w4.alloc (.cells #[.int .i64 2, .string (s.extract i s.size), .int .i64 (i : Int)] 47)) _ m) := (hH.out.on hN4).alloc _)
              | (at_builtin; refine wpList_append_own_at _ rfl _ _ 40 rfl w.heap.size 47 i3 zTok 3 32 Tryd.underlying40 hi3 hz3 hs3 hb3 rfl (by decide) _ m.length (tks m) rfl hV.out.own ⟨w4.heap.size, 0, none⟩ 1 1 (tkc (tok s 2 i s.size)) rfl rfl (new_tok w4 _) (one_tok _) (by unfold maxLen; omega) (by omega) hV.out.below.size ?_; intro v5 w5 hown5 hgrow5 hnil5 hloc5; have hZ : Hid (SI w w5 v5 (m ++ [tok s 2 i s.size])) := hV.out.put hgrow5 hown5; clear hown5 hgrow5 hnil5 hloc5))
            go_roundg (s.size - s.size)
            case measure => omega
            case rel => exact ⟨s.size, m ++ [tok s 2 i s.size], by omega, rfl, rfl, hP2, hZ⟩
        · obtain ⟨h1, h2, h3, h4⟩ := nB_of_S h
          rw [cb_at hlt] at h h1 h2 h3 h4
          obtain ⟨qB, qL, qD, qG⟩ := asked s[i].toNat (fls h1) (fls h3) (fls h4) h
          have h35 : ((s[i].toNat : Int) == 35) = false := by simp; omega
          clear h h1 h2 h3 h4
          have CL := fun w => clone_any (s.extract i (i + 1)) w hxz
          have SS := fun w => run_sub1 s i hlt w
          go_wp2_with (first
            | (go_at_call 28; (with_reducible refine (qB _).mono ?_); rintro e w1 ⟨rfl, rfl⟩)
            | (go_at_call 29; (with_reducible refine (qL _).mono ?_); rintro e w1 ⟨rfl, rfl⟩)
            | (go_at_call 31; (with_reducible refine (qD _).mono ?_); rintro e w1 ⟨rfl, rfl⟩)
            | (go_at_call 33; (with_reducible refine (qG _).mono ?_); rintro e w1 ⟨rfl, rfl⟩)
            | (go_at_call 34; (with_reducible refine (CL _).mono ?_); rintro e w4 ⟨rfl, hN4⟩; have hV : Hid (SI w (w4.alloc (.cells #[.int .i64 3, .string (s.extract i (i + 1)), .int .i64 (i : Int)] 47)) _ m) := (hH.out.on hN4).alloc _)
            | (at_builtin; refine wpList_append_own_at _ rfl _ _ 40 rfl w.heap.size 47 i3 zTok 3 32 Tryd.underlying40 hi3 hz3 hs3 hb3 rfl (by decide) _ m.length (tks m) rfl hV.out.own ⟨w4.heap.size, 0, none⟩ 1 1 (tkc (tok s 3 i (i + 1))) rfl rfl (new_tok w4 _) (one_tok _) (by unfold maxLen; omega) (by omega) hV.out.below.size ?_; intro v5 w5 hown5 hgrow5 hnil5 hloc5; have hZ : Hid (SI w w5 v5 (m ++ [tok s 3 i (i + 1)])) := hV.out.put hgrow5 hown5; clear hown5 hgrow5 hnil5 hloc5))
          go_roundg (s.size - (i + 1))
          case measure => omega
          case rel => exact ⟨i + 1, m ++ [tok s 3 i (i + 1)], hjs, rfl, by go_num, hP2, hZ⟩
      · obtain ⟨rfl, rfl, rfl⟩ := HU.out [] j 90 (.inr (.inr ⟨hs6, rfl, rfl, i, m, hP.out, hj⟩))
        have hjl := hj.sz
        rcases hj with ⟨h, he, hn⟩ | ⟨_, rfl, h1, h2, h3, h4, h5⟩
        · obtain ⟨h1, h2, h3, h4⟩ := nB_of_D h
          rw [cb_at hlt] at h h1 h2 h3
          rw [cb_at hjl] at hn
          obtain ⟨qB, qL, qD, _⟩ := asked s[i].toNat (fls h1) (fls h3) h rfl
          have NE := fun w => numberEnd_any s i a w hs he
          have LJ := fun w => letter2_any s[a].toNat w
          rw [hn] at LJ
          have h35 : ((s[i].toNat : Int) == 35) = false := by simp; omega
          clear h h1 h2 h3 h4 he hn
          go_wp2_with (first
            | (go_at_call 28; (with_reducible refine (qB _).mono ?_); rintro e w1 ⟨rfl, rfl⟩)
            | (go_at_call 29; (with_reducible refine (qL _).mono ?_); rintro e w1 ⟨rfl, rfl⟩)
            | (go_at_call 31; (with_reducible refine (qD _).mono ?_); rintro e w1 ⟨rfl, rfl⟩)
            | (go_at_call 32; (with_reducible refine (NE _).mono ?_); rintro e w1 ⟨rfl, rfl⟩)
            | (go_at_call 29; (with_reducible refine (LJ _).mono ?_); rintro e w1 ⟨rfl, rfl⟩))
          try rw [Exit.noGoto_ret]
          go_ret3
          exact ⟨_, rfl, hH.out.below, World.ownsRow_nil _ _ _ _⟩
        · rw [cb_at hlt] at h1 h2 h3 h4 h5
          obtain ⟨qB, qL, qD, qG⟩ := asked s[a].toNat h1 h3 h4 h5
          have h35 : ((s[a].toNat : Int) == 35) = false := by simp; omega
          clear h1 h2 h3 h4 h5
          go_wp2_with (first
            | (go_at_call 28; (with_reducible refine (qB _).mono ?_); rintro e w1 ⟨rfl, rfl⟩)
            | (go_at_call 29; (with_reducible refine (qL _).mono ?_); rintro e w1 ⟨rfl, rfl⟩)
            | (go_at_call 31; (with_reducible refine (qD _).mono ?_); rintro e w1 ⟨rfl, rfl⟩)
            | (go_at_call 33; (with_reducible refine (qG _).mono ?_); rintro e w1 ⟨rfl, rfl⟩))
          try rw [Exit.noGoto_ret]
          go_ret3
          exact ⟨_, rfl, hH.out.below, World.ownsRow_nil _ _ _ _⟩
    · obtain rfl : i = s.size := by omega
      obtain ⟨rfl, rfl, rfl⟩ := HU.out m 0 0 (.inr (.inl ⟨hs6, hP.out, rfl, rfl⟩))
      go_wp2
      try rw [Exit.noGoto_ret]
      go_ret3
      exact ⟨_, rfl, hH.out⟩
end Go.Proofs.YtiepbfeliehjnaaDoor
