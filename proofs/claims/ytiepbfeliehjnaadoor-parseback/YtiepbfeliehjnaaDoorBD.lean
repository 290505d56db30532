/-
  The law ParseBack.
-/
import Derived.Test.YtiepbfeliehjnaaDoorBC
import Derived.Test.YtiepbfeliehjnaaDoorQ2
namespace Go.Proofs.YtiepbfeliehjnaaDoor
open Go.RowKit Go.Sort

theorem rl_at {a b : List Rw} (h : RL a b) (k : Nat) (hk : k < a.length) (hk' : k < b.length) : rk a[k] = rk b[k] := by
  have h1 : (a.map rk)[k]? = (b.map rk)[k]? := by rw [show a.map rk = b.map rk from h]
  simpa [hk, hk'] using h1
theorem rl_same {a b : List Rw} (h : RL a b) : SameP false b a := ⟨h.len.symm, fun k hk hk' => by
  have e := rl_at h k hk' hk
  unfold rk at e
  injection e with e1 e2 e3 e4 e5
  exact ⟨e1.symm, e2.symm, e4.symm, e5.symm, (fun h => by cases h), e3.symm⟩⟩
theorem same_rl {a b : List Rw} (h : SameP true a b) : RL a b := by
  unfold RL
  refine List.ext_getElem (by simpa using h.1) (fun k hk hk' => ?_)
  simp only [List.length_map] at hk hk'
  obtain ⟨e1, e2, e3, e4, _, e6⟩ := h.2 k hk hk'
  simp only [List.getElem_map]
  unfold rk
  rw [e1, e2, e3, e4, e6]
theorem Szs.like {a b : List Rw} (h : Szs a) (hl : RL a b) : Szs b := fun r hr => by
  obtain ⟨k, hk, rfl⟩ := List.getElem_of_mem hr
  have hk' : k < a.length := by rw [hl.len]; exact hk
  have e := rl_at hl k hk' hk
  have := h a[k] (List.getElem_mem hk')
  unfold rk at e
  injection e with e1 e2 e3
  rw [e2, e3] at this
  exact this
theorem own_len3 {W : World} {B T c n : Nat} {v : Value} {xs : List Value} (h : W.ownsRow B T c v n xs) : n ≤ 9223372036854775807 := by
  rcases h.2 with ⟨_, e⟩ | ⟨g, cap, cur, _, _, _, hn, hm, _⟩
  · omega
  · unfold maxLen at hm; omega
theorem OR.lens3 {W : World} {B : Nat} {v : Value} {rs : List Rw} (h : OR W B v rs) : rs.length ≤ 9223372036854775807 ∧ ∀ k (h : k < rs.length), rs[k].args.length ≤ 9223372036854775807 := by
  obtain ⟨vs, h1, h2, h3⟩ := h
  exact ⟨own_len3 h2, fun k hk => own_len3 (h3 k hk (by omega))⟩
/-- What one of the law's two lists is: its rows in memory, their sizes. -/
structure LW (w0 : World) (lv : Value) (l : List Rw) : Prop where
  sr : SR w0 lv l
  len : l.length ≤ 9223372036854775807
  sz : Szs l
theorem str_ne_self (s : ByteArray) : (s.toList == s.toList) = true := by simp
set_option maxHeartbeats 4000000 in
set_option maxRecDepth 100000 in
theorem back_any (s : ByteArray) (rs : List Rw) (v : Value) (w : World) (hs : s.size ≤ 9223372036854775807) (hS : SR w v rs) (hv : VR w) (hl : rs.length ≤ 9223372036854775807) (hz : Szs rs) :
    Calls Tryd.prog 5 #[.string s, v] w fun e w' => e = .returned (.bool true) ∧ Below w.heap.size w w' := by
  obtain ⟨gs, ga, ge, hPO⟩ := pout_ex s
  have AW := awake_any w hv
  have PS : ∀ w1, VR w1 → Calls Tryd.prog 10 #[.string s] w1 fun x w' => ∃ v, x = .returned (.tuple #[v, .int .i64 ga, .int .i64 ge]) ∧ OR w' w1.heap.size v gs ∧ Below w1.heap.size w1 w' := fun w1 h => parse_any s gs ga ge w1 hs h hPO
  have HPO : Hid (POut s gs ga ge) := hPO
  have HV : Hid (VR w) := hv
  have HR : Hid (LW w v rs) := ⟨hS, hl, hz⟩
  obtain ⟨ra, rc, hvv⟩ : ∃ a c, v = .slice a rs.length c := by obtain ⟨a, c, _, e, _⟩ := hS; exact ⟨a, c, e⟩
  subst hvv
  clear hPO hv hS hz
  go_enter Tryd.func5, Tryd.ntmps5
  go_upto_region 5 with (first | (go_at_call 8; (with_reducible refine AW.mono ?_); rintro e w1 ⟨rfl, h1⟩) | (go_at_call 10; (with_reducible refine (PS w1 (HV.out.below h1)).mono ?_); rintro e w2 ⟨gv, rfl, hO, h2⟩; obtain ⟨gaa, gc, rfl⟩ := hO.shape))
  have h12 := btr h1 h2
  obtain ⟨X, hX⟩ : ∃ X, X = w2.alloc (.cells #[.slice gaa gs.length gc, .slice ra rs.length rc] 23) := ⟨_, rfl⟩
  have hXB : Below w2.heap.size w2 X := by rw [hX]; exact bal (Below.refl _ _) _
  have bX : BK X w2.heap.size #[.slice gaa gs.length gc, .slice ra rs.length rc] 23 := by rw [hX]; exact bk_new _ _ _
  have HL0 : Hid (LW X (.slice gaa gs.length gc) gs) := by
    obtain ⟨l1, l2⟩ := hO.lens3
    exact ⟨hO.sr.below hXB, l1, fun r hr => by
      obtain ⟨z1, z2⟩ := pout_sz HPO.out r hr
      obtain ⟨k, hk, rfl⟩ := List.getElem_of_mem hr
      exact ⟨by omega, l2 k hk, fun a ha => by have := z2 a ha; omega⟩⟩
  have HL1 : Hid (LW X (.slice ra rs.length rc) rs) := ⟨HR.out.sr.below (btr h12 hXB), HR.out.len, HR.out.sz⟩
  have hWX : Hid (Below w.heap.size w X) := btr h12 hXB
  have HVX : Hid (VR X) := HV.out.below hWX.out
  rw [← hX]
  have bXH : Hid (BK X w2.heap.size #[.slice gaa gs.length gc, .slice ra rs.length rc] 23) := bX
  clear hX hXB bX hO h12 h1 h2 AW PS HR HV
  go_loopw [29] (fun v29 wr => ∃ k : Nat, k ≤ 2 ∧ v29 = .int .i64 k ∧ Hid (Below X.heap.size X wr)) (fun v _ => 2 - (intOf v).toNat)
  case atStart => exact ⟨0, by omega, rfl, Below.refl _ _⟩
  case round =>
    obtain ⟨k, hk, rfl, hI⟩ := hrel
    by_cases hk2 : k < 2
    case neg =>
      obtain rfl : k = 2 := by omega
      go_wp2
      go_ret
      exact ⟨rfl, btr hWX.out hI.out⟩
    case pos =>
    have bw : BK wr w2.heap.size #[.slice gaa gs.length gc, .slice ra rs.length rc] 23 := (hI.out.block _ bXH.out.lt).trans bXH.out
    have hwl := bw.lt
    obtain ⟨l, la, lc, hcell, HL⟩ : ∃ l la lc, wr.cell? ⟨w2.heap.size, k, none⟩ = some (.slice la (List.length l) lc) ∧ Hid (LW X (.slice la (List.length l) lc) l) := by
      rcases Nat.eq_zero_or_pos k with rfl | hkp
      · exact ⟨gs, gaa, gc, bw.cell 0, HL0⟩
      · obtain rfl : k = 1 := by omega
        exact ⟨rs, ra, rc, bw.cell 1, HL1⟩
    clear bw
    obtain ⟨s1, f1, hSO⟩ := sout_ex l
    have GR := great_any l _ X wr HL.out.sr hI.out HL.out.len HL.out.sz
    have SH : ∀ w', Below X.heap.size X w' → Calls Tryd.prog 15 #[.slice la l.length lc] w' fun x w'' => x = .returned (.tuple #[.string s1, .int .i64 f1]) ∧ Below w'.heap.size w' w'' := fun w' h => show_any l _ s1 f1 w' (HL.out.sr.below h) (HVX.out.below h) HL.out.len HL.out.sz hSO
    go_upto_region 8 with (go_at_call 12; (with_reducible refine GR.mono ?_); rintro e w3 ⟨⟨gb, rfl⟩, h3⟩; cases gb)
    rotate_left
    · go_roundw
      case rel => exact ⟨k + 1, by omega, by go_num, btr hI.out h3⟩
      case measure => simp [intOf]; omega
    have hI3 := btr hI.out h3
    have SH3 := SH w3 hI3
    clear GR hcell
    have NXT : Hid (∀ {W' : World}, Below X.heap.size X W' → ∃ k' : Nat, k' ≤ 2 ∧ (Value.int .i64 ((k : Int) + 1)) = .int .i64 k' ∧ Hid (Below X.heap.size X W')) := fun h => ⟨k + 1, by omega, by go_num, h⟩
    -- the tests where Show refuses
    have SMA : ∀ w', Below X.heap.size X w' → Calls Tryd.prog 11 #[.slice la l.length lc, .slice gaa gs.length gc, .bool true] w' fun e w'' => SameR true l gs e ∧ Below w'.heap.size w' w'' := fun w' h =>
      same_any l gs _ _ true w' (HL.out.sr.below h) (HL0.out.sr.below h) HL.out.len (fun k hk => (HL.out.sz _ (List.getElem_mem hk)).2.1)
    by_cases hf0 : f1 = 0
    case neg =>
      have hs1 : s1 = ⟨#[]⟩ := by
        rcases hSO with ⟨_, h, _⟩ | ⟨_, _, h, _⟩ | ⟨_, _, _, h⟩
        · exact h
        · exact h
        · exact absurd h hf0
      have HBAD : Hid (∀ b : Bool, (b = true ↔ SameP true l gs) → b = true → f1 = 1) := fun b hb hbt => by
        rcases hSO with ⟨h, _, _⟩ | ⟨_, _, _, h⟩ | ⟨_, _, _, h⟩
        · have hr := same_rl (hb.1 hbt)
          rw [hr.chk, hr.len] at h
          rw [pout_chk HPO.out] at h
          cases h
        · exact h
        · exact absurd h hf0
      subst hs1
      have hf1 : ((f1 : Int) != 0) = true := by simp; omega
      clear hSO hf0 SH
      by_cases hge : ge = 0
      case neg =>
        have hg1 : ((ge : Int) == 0) = false := by simp; omega
        clear hge SMA
        go_wp2_with (go_at_call 15; (with_reducible refine SH3.mono ?_); rintro e w4 ⟨rfl, h4⟩)
        go_roundw
        case rel => exact ⟨k + 1, by omega, by go_num, btr hI3 h4⟩
        case measure => simp [intOf]; omega
      case pos =>
      have hg1 : ((ge : Int) == 0) = true := by simp; omega
      by_cases hln : l.length = gs.length
      case neg =>
        have hg2 : ((l.length : Int) == (gs.length : Int)) = false := by simp; omega
        clear hge SMA hln
        go_wp2_with (go_at_call 15; (with_reducible refine SH3.mono ?_); rintro e w4 ⟨rfl, h4⟩)
        go_roundw
        case rel => exact ⟨k + 1, by omega, by go_num, btr hI3 h4⟩
        case measure => simp [intOf]; omega
      case pos =>
        have hg2 : ((l.length : Int) == (gs.length : Int)) = true := by simp; omega
        by_cases hf2 : f1 = 1
        · have hg3 : ((f1 : Int) != 1) = false := by simp; omega
          clear hge hln hf2 HBAD
          go_wp2_with (first | (go_at_call 15; (with_reducible refine SH3.mono ?_); rintro e w4 ⟨rfl, h4⟩) | (go_at_call 11; (with_reducible refine (SMA _ (btr hI3 h4)).mono ?_); rintro e w5 ⟨⟨bb, rfl, _⟩, h5⟩; cases bb))
          all_goals
            go_roundw
            case rel => exact ⟨k + 1, by omega, by go_num, btr (btr hI3 h4) h5⟩
            case measure => simp [intOf]; omega
        · have SMB : ∀ w', Below X.heap.size X w' → Calls Tryd.prog 11 #[.slice la l.length lc, .slice gaa gs.length gc, .bool true] w' fun e w'' => e = .returned (.bool false) ∧ Below w'.heap.size w' w'' := fun w' h =>
            (SMA w' h).mono fun e w'' ⟨⟨bb, he, hb⟩, h5⟩ => ⟨by
              cases bb with
              | false => exact he
              | true => exact absurd (HBAD.out true hb rfl) hf2, h5⟩
          clear hge hln hf2 HBAD SMA
          go_wp2_with (first | (go_at_call 15; (with_reducible refine SH3.mono ?_); rintro e w4 ⟨rfl, h4⟩) | (go_at_call 11; (with_reducible refine (SMB _ (btr hI3 h4)).mono ?_); rintro e w5 ⟨rfl, h5⟩))
          go_roundw
          case rel => exact ⟨k + 1, by omega, by go_num, btr (btr hI3 h4) h5⟩
          case measure => simp [intOf]; omega
    case pos =>
      subst hf0
      obtain ⟨hc, hlen, hs1⟩ : chk l.length 0 l = true ∧ (bodyB l.length 0 l).length ≤ 65536 ∧ s1 = ⟨(bodyB l.length 0 l).toArray⟩ := by
        rcases hSO with ⟨_, _, h⟩ | ⟨_, _, _, h⟩ | ⟨h1, h2, h3, _⟩
        · cases h
        · cases h
        · exact ⟨h1, h2, h3⟩
      obtain ⟨bk, hPB, hRL⟩ := back_pout l hc hlen
      rw [← hs1] at hPB
      have hs1z : s1.size ≤ 9223372036854775807 := by
        rw [hs1]
        show (bodyB l.length 0 l).toArray.size ≤ _
        rw [List.size_toArray]
        omega
      have PB : ∀ w', Below X.heap.size X w' → Calls Tryd.prog 10 #[.string s1] w' fun x w'' => ∃ v, x = .returned (.tuple #[v, .int .i64 0, .int .i64 0]) ∧ OR w'' w'.heap.size v bk ∧ Below w'.heap.size w' w'' := fun w' h => parse_any s1 bk 0 0 w' hs1z (HVX.out.below h) hPB
      have hbl : bk.length ≤ 9223372036854775807 := by rw [← hRL.len]; exact HL.out.len
      have hbz := HL.out.sz.like hRL
      have SM : ∀ w' bv, Below X.heap.size X w' → SR w' bv bk → Calls Tryd.prog 11 #[bv, .slice la l.length lc, .bool false] w' fun e w'' => e = .returned (.bool true) ∧ Below w'.heap.size w' w'' := fun w' bv h hb =>
        (same_any bk l bv _ false w' hb (HL.out.sr.below h) hbl (fun k hk => (hbz _ (List.getElem_mem hk)).2.1)).mono fun e w'' ⟨⟨bb, he, hb⟩, h5⟩ => ⟨by rw [he, hb.2 (rl_same hRL)], h5⟩
      have SB : ∀ w' bv, Below X.heap.size X w' → SR w' bv bk → Calls Tryd.prog 15 #[bv] w' fun x w'' => x = .returned (.tuple #[.string s1, .int .i64 (0 : Nat)]) ∧ Below w'.heap.size w' w'' := fun w' bv h hb => show_any bk bv s1 0 w' hb (HVX.out.below h) hbl hbz (hSO.like hRL)
      have hss := str_ne_self s1
      clear hSO hc hlen hs1 hPB hRL SH SMA
      go_wp2_with (first
        | (go_at_call 15; (with_reducible refine SH3.mono ?_); rintro e w4 ⟨rfl, h4⟩; have hI4 := btr hI3 h4)
        | (go_at_call 10; (with_reducible refine (PB _ hI4).mono ?_); rintro e w5 ⟨bv, rfl, hOb, h5⟩; have hI5 := btr hI4 h5; have hRb := hOb.sr)
        | (go_at_call 11; (with_reducible refine (SM _ _ hI5 hRb).mono ?_); rintro e w6 ⟨rfl, h6⟩; have hI6 := btr hI5 h6)
        | (go_at_call 15; (with_reducible refine (SB _ _ hI6 (hRb.below h6)).mono ?_); rintro e w7 ⟨rfl, h7⟩; have hI7 := btr hI6 h7))
      go_roundw
      case rel => exact ⟨k + 1, by omega, by go_num, hI7⟩
      case measure => simp [intOf]; omega
end Go.Proofs.YtiepbfeliehjnaaDoor
