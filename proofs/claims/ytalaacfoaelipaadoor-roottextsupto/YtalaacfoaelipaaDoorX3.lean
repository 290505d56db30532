/-
  strings.LastIndexAny of the two signs, of any text.
-/
import Derived.Test.YtalaacfoaelipaaDoorX2
namespace Go.Proofs.YtalaacfoaelipaaDoor
open Go.RowKit Go.Sort

theorem take_bt (s : ByteArray) (n : Nat) : (s.extract 0 n).data.toList = s.data.toList.take n := by
  rw [ByteArray.data_extract, Array.toList_extract, List.extract_eq_take_drop, List.drop_zero, Nat.sub_zero]
theorem byt_data (s : ByteArray) (n : Nat) (h : n < s.size) : ∃ b : UInt8, s.data.toList[n]? = some b ∧ b.toNat = byt s n := by
  have hz : s.data.toList.length = s.size := rfl
  refine ⟨s[n], ?_, byt_at s n h⟩
  rw [List.getElem?_eq_getElem (by rw [hz]; exact h)]
  rfl
/-- What is decoded at the end of the first n bytes. -/
theorem dec_last (s : ByteArray) (n : Nat) (h0 : 0 < n) (hn : n ≤ s.size) : ∃ r wd : Nat, Lib.decodeLastL (s.extract 0 n).data.toList = (r, wd) ∧ 1 ≤ wd ∧ wd ≤ n ∧ r ≤ 1114111 ∧ (Asc s → wd = 1 ∧ r = byt s (n - 1)) := by
  have hz : s.data.toList.length = s.size := rfl
  have hl : (s.data.toList.take n).length = n := by rw [List.length_take]; omega
  rw [take_bt]
  have h1 := Lib.decodeLastL_width (s.data.toList.take n) (by omega)
  have h2 := Lib.decodeLastL_rune (s.data.toList.take n)
  rw [hl] at h1
  suffices g : Asc s → Lib.decodeLastL (s.data.toList.take n) = (byt s (n - 1), 1) by
    generalize Lib.decodeLastL (s.data.toList.take n) = d at *
    obtain ⟨r, wd⟩ := d
    exact ⟨r, wd, rfl, h1.1, h1.2, h2, fun ha => by
      have := g ha
      exact ⟨(Prod.mk.inj this).2, (Prod.mk.inj this).1⟩⟩
  intro ha
  obtain ⟨b, hb, hb2⟩ := byt_data s (n - 1) (by omega)
  have e : s.data.toList.take n = s.data.toList.take (n - 1) ++ [b] := by
    have := List.take_succ_eq_append_getElem (l := s.data.toList) (i := n - 1) (by omega)
    rw [show n - 1 + 1 = n by omega] at this
    rw [this]
    congr 2
    have h3 := List.getElem?_eq_getElem (l := s.data.toList) (i := n - 1) (by omega)
    rw [hb] at h3
    exact (Option.some.inj h3).symm
  have hlt := ha (n - 1) (by omega)
  rw [e, Lib.decodeLastL_ascii _ b (by omega), hb2]

set_option maxHeartbeats 4000000 in
set_option maxRecDepth 1000000 in
theorem last_short (s : ByteArray) (w : World) (h8 : s.size ≤ 8) (hT : Lib.Utf8Tabs 7 8 w) :
    Calls Tryd.prog 88 #[.string s, .string ⟨#[43, 45]⟩] w fun e w' => (∃ i : Int, e = .returned (.int .i64 i) ∧ -1 ≤ i ∧ i < s.size ∧ (Asc s → LS s i)) ∧ Below w.heap.size w w' := by
  by_cases h1 : s.size = 1
  · have h0 : 0 < s.size := by omega
    have h1z : ((s.size : Int) == 1) = true := by rw [h1]; rfl
    have hb := byt_at s 0 h0
    have hlt := UInt8.toNat_lt s[0]
    by_cases ha : s[0].toNat < 128
    · have RA := fun w => rune_any s[0].toNat w (by omega)
      have HF : Hid (∀ i : Int, (s[0].toNat < 128 → (0 ≤ i ↔ sgn2 s[0].toNat)) → (0 ≤ i → LS s 0) ∧ (¬ 0 ≤ i → LS s (-1))) := fun i hi => ⟨fun g => ⟨by omega, by omega, fun j h3 h4 => by omega, fun _ => by
          show sgn2 (byt s (0 : Int).toNat)
          rw [Int.toNat_zero, ← hb]; exact (hi ha).1 g⟩,
        fun g => ⟨by omega, by omega, fun j h3 h4 => by
          obtain rfl : j = 0 := by omega
          rw [← hb]; exact fun g2 => g ((hi ha).2 g2), fun g2 => absurd g2 (by decide)⟩⟩
      have g1 : ¬ (128 : Int) ≤ (s[0].toNat : Int) := by omega
      clear hb h1
      go_enter Tryd.func88, Tryd.ntmps88
      go_wp2_with (go_at_call 98; (with_reducible refine (RA _).mono ?_); rintro e w1 ⟨⟨i, rfl, hi⟩, hN⟩)
      all_goals
        go_ret
        first
          | exact ⟨⟨0, rfl, by omega, by omega, fun _ => (HF.out i hi).1 (by omega)⟩, hN⟩
          | exact ⟨⟨-1, rfl, by omega, by omega, fun _ => (HF.out i hi).2 (by omega)⟩, hN⟩
    · have RA := fun w => rune_any 65533 w (by omega)
      have RA2 : ∀ w, Calls Tryd.prog 98 #[.string ⟨#[43, 45]⟩, .int .i32 65533] w fun e w' => (∃ i : Int, e = .returned (.int .i64 i) ∧ (65533 < 128 → (0 ≤ i ↔ sgn2 65533))) ∧ Below w.heap.size w w' := RA
      have HF : Hid (¬ Asc s) := fun g => by have := g 0 h0; rw [← hb] at this; exact ha this
      have g1 : (128 : Int) ≤ (s[0].toNat : Int) := by omega
      clear hb h1 RA
      go_enter Tryd.func88, Tryd.ntmps88
      go_wp2_with (go_at_call 98; (with_reducible refine (RA2 _).mono ?_); rintro e w1 ⟨⟨i, rfl, hi⟩, hN⟩)
      all_goals
        go_ret
        first
          | exact ⟨⟨0, rfl, by omega, by omega, fun g => absurd g HF.out⟩, hN⟩
          | exact ⟨⟨-1, rfl, by omega, by omega, fun g => absurd g HF.out⟩, hN⟩
  · have h1z : ((s.size : Int) == 1) = false := beq_false_of_ne (by omega)
    have SU : ∀ w, Calls Tryd.prog 99 #[.int .i64 (s.size : Int)] w fun e w' => e = .returned (.bool false) ∧ w' = w := fun w => by
      have g : decide ((8 : Int) < (s.size : Int)) = false := decide_eq_false (by omega)
      go_enter Tryd.func99, Tryd.ntmps99
      go_wp2
      go_ret
      exact ⟨rfl, rfl⟩
    go_enter Tryd.func88, Tryd.ntmps88
    go_wp2_with (go_at_call 99; (with_reducible refine (SU _).mono ?_); rintro e w1 ⟨rfl, rfl⟩)
    go_loopg [13] s.size (fun g v wr => ∃ n : Nat, n ≤ s.size ∧ Hid (g = n) ∧ v = .int .i64 n ∧ Hid (Below w1.heap.size w1 wr ∧ (Asc s → ∀ j, n ≤ j → j < s.size → ¬ sgn2 (byt s j))))
    case atStart => exact ⟨s.size, Nat.le_refl _, rfl, rfl, Below.refl _ _, fun _ j h3 h4 => absurd h4 (by omega)⟩
    case round =>
      obtain ⟨n, hn, hg, rfl, hH⟩ := hrel
      by_cases h0 : 0 < n
      · obtain ⟨r, wd, hd, hw1, hw2, hr, hA⟩ := dec_last s n h0 hn
        have DC := Tryd.utf8_DecodeLastRuneInString (s.extract 0 n) wr (by rw [ByteArray.size_extract]; omega) (tabs_below hT hH.out.1)
        rw [hd] at DC
        have RA := fun w => rune_any r w hr
        have SS : ∀ w, (Instr.slice 9 (.string s) none (some (.int .i64 (n : Int))) none).run Tryd.prog w = .ok (.string (s.extract 0 n)) w := fun w => by
          rw [run_slice_string_to_if w 9 s .i64 n Tryd.underlying9, if_pos ⟨by omega, by omega⟩]
          rfl
        have HF : Hid (∀ i : Int, (r < 128 → (0 ≤ i ↔ sgn2 r)) → (0 ≤ i → Asc s → LS s ((n : Int) - wd)) ∧ (¬ 0 ≤ i → Asc s → ∀ j, n - wd ≤ j → j < s.size → ¬ sgn2 (byt s j))) := fun i hi =>
          ⟨fun g ha => by
            obtain ⟨e1, e2⟩ := hA ha
            subst e1
            have hb := ha (n - 1) (by omega)
            refine ⟨by omega, by omega, fun j h3 h4 => hH.out.2 ha j (by omega) h4, fun _ => ?_⟩
            rw [show ((n : Int) - ((1 : Nat) : Int)).toNat = n - 1 by omega, ← e2]
            exact (hi (by omega)).1 g,
           fun g ha j h3 h4 => by
            obtain ⟨e1, e2⟩ := hA ha
            have hb := ha (n - 1) (by omega)
            by_cases e : j = n - 1
            · subst e
              rw [← e2]
              exact fun g2 => g ((hi (by omega)).2 g2)
            · exact hH.out.2 ha j (by omega) h4⟩
        clear hd hA
        generalize s.extract 0 n = t at *
        go_wp2_with (first
          | (go_at_call 102; (with_reducible refine DC.mono ?_); rintro e w2 ⟨rfl, hN2⟩)
          | (go_at_call 98; (with_reducible refine (RA _).mono ?_); rintro e w3 ⟨⟨i, rfl, hi⟩, hN3⟩))
        · go_ret
          exact ⟨⟨(n : Int) - wd, rfl, by omega, by omega, (HF.out i hi).1 (by omega)⟩, btr (btr hH.out.1 hN2) hN3⟩
        · go_roundg (n - wd)
          case measure => have := hg.out; omega
          case rel => exact ⟨n - wd, by omega, rfl, by go_num, btr (btr hH.out.1 hN2) hN3, (HF.out i hi).2 (by omega)⟩
      · have g0 : ¬ (0 : Int) < (n : Int) := by omega
        have HN : Hid (Asc s → LS s (-1)) := fun ha => ⟨by omega, by omega, fun j _ h2 => hH.out.2 ha j (by omega) h2, fun g => absurd g (by decide)⟩
        go_wp2
        go_ret
        exact ⟨⟨-1, rfl, by omega, by omega, HN.out⟩, hH.out.1⟩
end Go.Proofs.YtalaacfoaelipaaDoor
