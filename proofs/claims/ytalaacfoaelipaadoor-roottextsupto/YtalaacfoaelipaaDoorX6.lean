/-
  The code's read and Parse, of any text.
-/
import Derived.Test.YtalaacfoaelipaaDoorX5
import Derived.Test.YtalaacfoaelipaaDoorV10
namespace Go.Proofs.YtalaacfoaelipaaDoor
open Go.RowKit Go.Sort

theorem cut_sizes (l sep : List UInt8) : (Lib.cut l sep).1.length ≤ l.length ∧ (Lib.cut l sep).2.1.length ≤ l.length := by
  unfold Lib.cut
  split
  · exact ⟨by rw [List.length_take]; omega, by rw [List.length_drop]; omega⟩
  · exact ⟨Nat.le_refl _, Nat.zero_le _⟩
/-- What read tells. -/
structure RDs (l : List UInt8) (p q k : Int) : Prop where
  yes : ∀ p' q' k', isRoot p' q' k' → l = textL p' q' k' → p = p' ∧ q = q' ∧ k = k'
theorem wh_of {l : List UInt8} {v n : Int} (h : WH l v) (g : Lib.parseIntB 64 l = .ok n ∨ (n = 0 ∧ Lib.parseIntB 64 l = Lib.parseIntB 64 [])) : v = n := by
  rcases g with g | ⟨g1, g2⟩
  · exact h.1 n g
  · rw [h.2.1 g2, g1]
theorem rds_of (l : List UInt8) {a b : ByteArray} {p q k : Int} (h : SP (Lib.cut l [47, 50, 94]).1 a b) (hp : WH a.data.toList p) (hq : WH b.data.toList q) (hk : WH (Lib.cut l [47, 50, 94]).2.1 k) : RDs l p q k := ⟨fun p' q' k' hr hl => by
  obtain ⟨h1, h2, h3, _⟩ := hr
  rw [text_tail] at hl
  obtain ⟨c1, c2⟩ := cut_body (bodyL p' q') (nb_body p' q' h1 h2) k'
  rw [← hl] at c1 c2
  rw [c1] at h
  rw [c2] at hk
  obtain ⟨s1, s2⟩ := split_body p' q' h1 h2 h
  refine ⟨wh_of hp s1, wh_of hq s2, wh_of hk ?_⟩
  by_cases h0 : k' = 0
  · rw [if_pos h0]; exact .inr ⟨h0, rfl⟩
  · rw [if_neg h0]; exact .inl (int_itoa k' (by omega))⟩
set_option maxHeartbeats 4000000 in
theorem read_any (s : ByteArray) (w : World) (hs : s.size ≤ 1048576) (hV : VR w) :
    Calls Tryd.prog 55 #[.string s] w fun e w' => (∃ p q k : Int, e = .returned (rv p q k) ∧ RDs s.data.toList p q k) ∧ Below w.heap.size w w' := by
  have CU : ∀ w, VR w → _ := fun w hV => Tryd.strings_Cut s ⟨#[47, 50, 94]⟩ hV.mx.choose w (by omega) hV.mx.choose_spec
  have hl : s.data.toList.length = s.size := rfl
  obtain ⟨z1, z2⟩ := cut_sizes s.data.toList [47, 50, 94]
  rw [hl] at z1 z2
  have HR : Hid (∀ (a b : ByteArray) (p q k : Int), SP (Lib.cut s.data.toList [47, 50, 94]).1 a b → WH a.data.toList p → WH b.data.toList q → WH (Lib.cut s.data.toList [47, 50, 94]).2.1 k → RDs s.data.toList p q k) := fun a b p q k => rds_of s.data.toList
  have CU2 : ∀ w, VR w → Calls Tryd.prog 76 #[.string s, .string ⟨#[47, 50, 94]⟩] w fun e w' => e = .returned (.tuple #[.string (Bt (Lib.cut s.data.toList [47, 50, 94]).1), .string (Bt (Lib.cut s.data.toList [47, 50, 94]).2.1), .bool (Lib.cut s.data.toList [47, 50, 94]).2.2]) ∧ ∃ n, w' = w.drewN n := CU
  have HV : Hid (VR w) := hV
  generalize (Lib.cut s.data.toList [47, 50, 94]).1 = V at *
  generalize (Lib.cut s.data.toList [47, 50, 94]).2.1 = P at *
  generalize (Lib.cut s.data.toList [47, 50, 94]).2.2 = fd at *
  have SA := fun w h => split_any (Bt V) w (by rw [bt_size]; omega) h
  have WA := fun (t : ByteArray) w (h : t.size ≤ 1048576) hw => whole_any t w (by omega) hw
  have bV : (Bt V).size = V.length := rfl
  have bP : (Bt P).size = P.length := rfl
  have SA2 : ∀ w, VR w → Calls Tryd.prog 77 #[.string (Bt V)] w fun e w' => (∃ a b, e = .returned (.tuple #[.string a, .string b]) ∧ SP V a b) ∧ Below w.heap.size w w' := SA
  have WP : ∀ w, VR w → Calls Tryd.prog 78 #[.string (Bt P)] w fun e w' => (∃ v : Int, e = .returned (.int .i64 v) ∧ WH P v) ∧ Below w.heap.size w w' := fun w hw => WA (Bt P) w (by omega) hw
  clear CU SA hV hl
  generalize Bt V = BV at *
  generalize Bt P = BP at *
  go_enter Tryd.func55, Tryd.ntmps55
  go_wp2_with (first
    | (go_at_call 76; (with_reducible refine (CU2 _ (HV.out.below (bal (Below.refl _ _) _))).mono ?_); rintro e w1 ⟨rfl, dn, rfl⟩)
    | (go_at_call 77; (with_reducible refine (SA2 _ (HV.out.below (below_drewN (bal (Below.refl _ _) _) _))).mono ?_); rintro e w2 ⟨⟨a, b, rfl, hab⟩, hN⟩))
  have HB2 : Hid (Below w.heap.size w w2) := btr (below_drewN (bal (Below.refl _ _) _) _) hN
  have WX : ∀ w, VR w → _ := fun w hw => WA a w (Nat.le_trans hab.za (by omega)) hw
  have WY : ∀ w, VR w → _ := fun w hw => WA b w (Nat.le_trans hab.zb (by omega)) hw
  have HX : Hid (∀ p q k : Int, WH a.data.toList p → WH b.data.toList q → WH P k → RDs s.data.toList p q k) := fun p q k => HR.out a b p q k hab
  clear HR hab SA2 CU2
  go_wp2_with (first
    | (go_at_call 78; (with_reducible refine (WX _ (HV.out.below HB2.out)).mono ?_); rintro e w3 ⟨⟨p, rfl, hp⟩, hN3⟩; have HB3 : Hid (Below w.heap.size w w3) := btr HB2.out hN3; clear WX)
    | (go_at_call 78; (with_reducible refine (WY _ (HV.out.below HB3.out)).mono ?_); rintro e w4 ⟨⟨q, rfl, hq⟩, hN4⟩; have HB4 : Hid (Below w.heap.size w w4) := btr HB3.out hN4; clear WY)
    | (go_at_call 78; (with_reducible refine (WP _ (HV.out.below HB4.out)).mono ?_); rintro e w5 ⟨⟨k, rfl, hk⟩, hN5⟩; obtain ⟨hc, hf⟩ := bcell (btr (btr (btr hN hN3) hN4) hN5)))
  have c0 := hc w.heap.size 0 (by simp)
  have c1 := hc w.heap.size 1 (by simp)
  have c2 := hc w.heap.size 2 (by simp)
  simp [go_sem] at c0 c1 c2
  exact bodyPost_ret (v := rv p q k) (by simp [results, Tryd.results55, go_sem, c0, c1, c2]; done) rfl ⟨⟨p, q, k, rfl, HX.out p q k hp hq hk⟩, (((btr HB4.out hN5).setCell (by simp) _).setCell (by simp) _).setCell (by simp) _⟩
theorem same_text (s : ByteArray) : (s.toList == s.toList) = true := beq_self_eq_true _
set_option maxHeartbeats 4000000 in
theorem cparse_yes (p q k : Int) (s : ByteArray) (w : World) (hr : isRoot p q k) (hs : s.data.toList = textL p q k) (hz : s.size ≤ 1048576) (hV : VR w) :
    Calls Tryd.prog 29 #[.string s] w fun e w' => e = .returned (.tuple #[rv p q k, .int .i64 0]) ∧ Below w.heap.size w w' := by
  have RD : ∀ w, VR w → Calls Tryd.prog 55 #[.string s] w fun e w' => e = .returned (rv p q k) ∧ Below w.heap.size w w' := fun w hV => (read_any s w hz hV).mono fun e w' ⟨⟨p', q', k', he, hd⟩, hB⟩ => ⟨by
    obtain ⟨rfl, rfl, rfl⟩ := hd.yes p q k hr hs
    exact he, hB⟩
  have TX : ∀ w, VR w → Calls Tryd.prog 27 #[.agg #[.int .i64 p, .int .i64 q, .int .i64 k]] w fun e w' => e = .returned (.tuple #[.string s, .int .i64 0]) ∧ Below w.heap.size w w' := fun w hV => (ctext_yes p q k w hV.tab hr).mono fun e w' ⟨he, hB⟩ => ⟨by rw [he, ← hs], hB⟩
  have HV : Hid (VR w) := hV
  have hq := same_text s
  clear hV hs
  go_enter Tryd.func29, Tryd.ntmps29
  go_wp2_with (first
    | (go_at_call 55; (with_reducible refine (RD _ (HV.out.below (bal (Below.refl _ _) _))).mono ?_); rintro e w1 ⟨rfl, hN⟩; obtain ⟨hc, hf⟩ := bcell hN)
    | (go_at_call 27; (with_reducible refine (TX _ (HV.out.below (bal (btr (bal (Below.refl _ _) _) hN) _))).mono ?_); rintro e w2 ⟨rfl, hN2⟩
       obtain ⟨hc2, hf2⟩ := bcell hN2
       obtain ⟨hc3, hf3⟩ := bcell (btr (bal hN _) hN2)
       have c0 := hc2 w1.heap.size 0 (by simp)
       have c1 := hc2 w1.heap.size 1 (by simp)
       have c2 := hc2 w1.heap.size 2 (by simp)
       have d0 := hc3 w.heap.size 0 (by simp)
       have d1 := hc3 w.heap.size 1 (by simp)
       have d2 := hc3 w.heap.size 2 (by simp)
       have e0 := hf3 w.heap.size 0 (by simp)
       have e1 := hf3 w.heap.size 1 (by simp)
       have e2 := hf3 w.heap.size 2 (by simp)
       simp [go_sem] at c0 c1 c2 d0 d1 d2 e0 e1 e2
       clear hc hf hc2 hf2 hc3 hf3))
  exact bodyPost_ret (v := .tuple #[rv p q k, .int .i64 0]) (by simp [results, Tryd.results29, go_sem, d0, d1, d2]; done) rfl ⟨rfl, (((btr (bal (btr (bal (Below.refl _ _) _) hN) _) hN2).setCell (by simp) _).setCell (by simp) _).setCell (by simp) _⟩
set_option maxHeartbeats 4000000 in
theorem cparse_no (s : ByteArray) (w : World) (hs : ∀ p q k, isRoot p q k → s ≠ ⟨(textL p q k).toArray⟩) (hz : s.size ≤ 1048576) (hV : VR w) :
    Calls Tryd.prog 29 #[.string s] w fun e w' => e = .returned (.tuple #[rv 0 0 0, .int .i64 22]) ∧ Below w.heap.size w w' := by
  have RD : ∀ w, VR w → Calls Tryd.prog 55 #[.string s] w fun e w' => (∃ p q k : Int, e = .returned (rv p q k)) ∧ Below w.heap.size w w' := fun w hV => (read_any s w hz hV).mono fun e w' ⟨⟨p', q', k', he, hd⟩, hB⟩ => ⟨⟨p', q', k', he⟩, hB⟩
  have TX : ∀ p q k w, VR w → Calls Tryd.prog 27 #[.agg #[.int .i64 p, .int .i64 q, .int .i64 k]] w fun e w' => (∃ t er, e = .returned (.tuple #[.string t, .int .i64 er]) ∧ (er = 2 ∨ (er = 0 ∧ (t.toList == s.toList) = false))) ∧ Below w.heap.size w w' := fun p q k w hV => by
    by_cases hr : isRoot p q k
    · exact (ctext_yes p q k w hV.tab hr).mono fun _ _ ⟨he, hB⟩ => ⟨⟨_, 0, he, .inr ⟨rfl, other_text _ _ (hs p q k hr)⟩⟩, hB⟩
    · exact (ctext_no p q k w hr).mono fun _ _ ⟨he, hB⟩ => ⟨⟨_, 2, he, .inl rfl⟩, hB⟩
  have HV : Hid (VR w) := hV
  clear hV hs
  go_enter Tryd.func29, Tryd.ntmps29
  go_wp2_with (first
    | (go_at_call 55; (with_reducible refine (RD _ (HV.out.below (bal (Below.refl _ _) _))).mono ?_); rintro e w1 ⟨⟨p, q, k, rfl⟩, hN⟩; obtain ⟨hc, hf⟩ := bcell hN)
    | (go_at_call 27; (with_reducible refine (TX _ _ _ _ (HV.out.below (bal (btr (bal (Below.refl _ _) _) hN) _))).mono ?_); rintro e w2 ⟨⟨t, er, rfl, ht⟩, hN2⟩
       obtain ⟨hc3, hf3⟩ := bcell (btr (bal hN _) hN2)
       have d0 := hc3 w.heap.size 0 (by simp)
       have d1 := hc3 w.heap.size 1 (by simp)
       have d2 := hc3 w.heap.size 2 (by simp)
       have e0 := hf3 w.heap.size 0 (by simp)
       have e1 := hf3 w.heap.size 1 (by simp)
       have e2 := hf3 w.heap.size 2 (by simp)
       simp [go_sem] at d0 d1 d2 e0 e1 e2
       clear hc hf hc3 hf3
       rcases ht with rfl | ⟨rfl, ht⟩))
  all_goals
    exact bodyPost_ret (v := .tuple #[rv 0 0 0, .int .i64 22]) (by simp [results, Tryd.results29, go_sem, d0, d1, d2]; done) rfl ⟨rfl, (((btr (bal (btr (bal (Below.refl _ _) _) hN) _) hN2).setCell (by simp) _).setCell (by simp) _).setCell (by simp) _⟩
end Go.Proofs.YtalaacfoaelipaaDoor
