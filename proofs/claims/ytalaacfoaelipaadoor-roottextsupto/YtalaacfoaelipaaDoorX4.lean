/-
  whole and split, of any text.
-/
import Derived.Test.YtalaacfoaelipaaDoorX3
import Derived.Lib.ParseIntBTie
namespace Go.Proofs.YtalaacfoaelipaaDoor
open Go.RowKit Go.Sort

theorem last_any (s : ByteArray) (w : World) (hs : s.size ≤ 4294967280) (hT : Lib.Utf8Tabs 7 8 w) :
    Calls Tryd.prog 88 #[.string s, .string ⟨#[43, 45]⟩] w fun e w' => (∃ i : Int, e = .returned (.int .i64 i) ∧ -1 ≤ i ∧ i < s.size ∧ (Asc s → LS s i)) ∧ Below w.heap.size w w' := by
  by_cases h : 8 < s.size
  · exact (last_long s w h hs).mono fun e w' ⟨⟨i, he, hl⟩, hb⟩ => ⟨⟨i, he, hl.lo, hl.hi, fun _ => hl⟩, hb⟩
  · exact last_short s w (by omega) hT
/-- A variable that holds an error. -/
def Ev (w : World) (n : String) : Prop := ∃ te pe, w.var? Tryd.prog n = some #[.iface te pe]
structure VR (w : World) : Prop where
  tab : Tab w
  mx : ∃ m, w.cell? ⟨3, 0, none⟩ = some (.int .i64 m)
  sy : Ev w "strconv.ErrSyntax"
  ra : Ev w "strconv.ErrRange"
  utf : Lib.Utf8Tabs 7 8 w
theorem Ev.below {w w' : World} {n : String} {g : Nat} (hg : Tryd.prog.globalNamed n = some g) (h : Ev w n) (hb : Below w.heap.size w w') : Ev w' n := by
  obtain ⟨te, pe, h1⟩ := h
  exact ⟨te, pe, Go.Joins.var_stays hg h1 hb (Nat.le_refl _)⟩
theorem VR.below {w w' : World} (h : VR w) (hb : Below w.heap.size w w') : VR w' := by
  obtain ⟨m, hm⟩ := h.mx
  have l := World.block_lt_of_cell? w _ hm
  exact ⟨h.tab.below hb, ⟨m, (hb.cell (p := ⟨3, 0, none⟩) l).trans hm⟩, Ev.below (g := 5) (by kernel_rfl) h.sy hb, Ev.below (g := 6) (by kernel_rfl) h.ra hb, tabs_below h.utf hb⟩
/-- What whole tells. -/
def WH (l : List UInt8) (v : Int) : Prop := (∀ u, Lib.parseIntB 64 l = .ok u → v = u) ∧ (Lib.parseIntB 64 l = Lib.parseIntB 64 [] → v = 0) ∧ -9223372036854775808 ≤ v ∧ v ≤ 9223372036854775807
theorem whole_any (s : ByteArray) (w : World) (hs : s.size ≤ 281474976710656) (hV : VR w) :
    Calls Tryd.prog 78 #[.string s] w fun e w' => (∃ v : Int, e = .returned (.int .i64 v) ∧ WH s.data.toList v) ∧ Below w.heap.size w w' := by
  have HV : Hid (VR w) := hV
  clear hV
  cases h : Lib.parseIntB 64 s.data.toList
  case ok v =>
    have P := Tryd.strconv_ParseInt_10_at64_ok s (by omega) v h w
    have hb := Lib.parseIntB_bounds h
    have HW : Hid (WH s.data.toList v) := ⟨fun u hu => by (rw [h] at hu; injection hu with hu), fun hu => by (rw [h] at hu; cases hu), by omega, by omega⟩
    go_enter Tryd.func78, Tryd.ntmps78
    go_wp2_with (go_at_call 89; (with_reducible refine P.mono ?_); rintro e w1 ⟨rfl, hN⟩)
    go_ret
    refine ⟨⟨v, rfl, HW.out⟩, ?_⟩
    rcases hN with rfl | ⟨t, rfl⟩
    · exact Below.refl _ _
    · exact Lib.bytesWorld_below _ _ _
  case range =>
    obtain ⟨te, pe, he⟩ := HV.out.ra
    have P := Tryd.parseInt_big s (by omega) h te pe w he
    have HW : Hid (WH s.data.toList 0) := ⟨fun u hu => by (rw [h] at hu; cases hu), fun hu => rfl, by omega, by omega⟩
    clear h he
    go_enter Tryd.func78, Tryd.ntmps78
    go_wp2_with (go_at_call 89; (with_reducible refine P.mono ?_); rintro e w1 ⟨N, rfl, hN, hN2, hN3⟩)
    go_ret
    exact ⟨⟨0, rfl, HW.out⟩, hN3⟩
  · obtain ⟨te, pe, he⟩ := HV.out.sy
    have P := Tryd.parseInt_bad s (by omega) h te pe w he
    have HW : Hid (WH s.data.toList 0) := ⟨fun u hu => by (rw [h] at hu; cases hu), fun hu => rfl, by omega, by omega⟩
    clear h he
    go_enter Tryd.func78, Tryd.ntmps78
    go_wp2_with (go_at_call 89; (with_reducible refine P.mono ?_); rintro e w1 ⟨N, rfl, hN, hN2, hN3⟩)
    go_ret
    exact ⟨⟨0, rfl, HW.out⟩, hN3⟩
theorem suf_r (l : List UInt8) (h : Lib.hasSuffix l [114] = true) : ∃ x, l = x ++ [114] := by
  unfold Lib.hasSuffix at h
  obtain ⟨x, hx⟩ := List.isSuffixOf_iff_suffix.1 h
  exact ⟨x, hx.symm⟩
/-- What split tells. -/
structure SP (l : List UInt8) (a b : ByteArray) : Prop where
  za : a.size ≤ l.length
  zb : b.size ≤ l.length
  no : Lib.hasSuffix l [114] = false → a = Bt l ∧ b = ⟨#[]⟩
  at0 : ∀ (x r : List UInt8) (c : UInt8), l = x ++ (c :: r) ++ [114] → (∀ y ∈ x ++ (c :: r), y.toNat < 128) → (∀ y ∈ r, ¬ sgn2 y.toNat) → (x = [] ∨ sgn2 c.toNat) → a = Bt x ∧ b = Bt (c :: r)
theorem byt_bt (l : List UInt8) (i : Nat) (h : i < l.length) : byt (Bt l) i = (l[i]).toNat := by
  rw [byt_list, List.getElem?_eq_getElem h]; rfl
theorem split_sp (b : List UInt8) (i : Int) (n : Nat) (h1 : -1 ≤ i) (h2 : (n : Int) = max i 0) (h3 : n ≤ b.length) (h4 : Asc (Bt b) → LS (Bt b) i) :
    SP (b ++ [114]) ((Bt b).extract 0 n) ((Bt b).extract n (Bt b).size) where
  za := by rw [ByteArray.size_extract, bt_size, List.length_append]; omega
  zb := by rw [ByteArray.size_extract, bt_size, List.length_append]; omega
  no := fun h => by
    exfalso
    have : Lib.hasSuffix (b ++ [114]) [114] = true := List.isSuffixOf_iff_suffix.2 ⟨b, rfl⟩
    rw [h] at this; cases this
  at0 := fun x r c hl ha hr hx => by
    have e : b = x ++ (c :: r) := List.append_cancel_right hl
    subst e
    have hz : (Bt (x ++ c :: r)).size = x.length + (r.length + 1) := by rw [bt_size, List.length_append, List.length_cons]
    have L := h4 (fun j hj => by
      have hj2 : j < (x ++ c :: r).length := hj
      rw [byt_bt _ _ hj2]
      exact ha _ (List.getElem_mem hj2))
    have en : n = x.length := by
      have b1 : ∀ j, x.length < j → j < (x ++ c :: r).length → ¬ sgn2 (byt (Bt (x ++ c :: r)) j) := fun j h5 h6 => by
        rw [byt_bt _ _ h6, List.getElem_append_right (by omega)]
        obtain ⟨k, hk⟩ : ∃ k, j - x.length = k + 1 := ⟨j - x.length - 1, by omega⟩
        have hkl : k < r.length := by rw [List.length_append, List.length_cons] at h6; omega
        have e2 : (c :: r)[j - x.length]'(by rw [List.length_cons]; omega) = r[k] := by simp only [hk, List.getElem_cons_succ]
        rw [e2]
        exact hr _ (List.getElem_mem hkl)
      have b2 : ¬ (x.length : Int) < i := fun g => by
        have := L.hi
        exact b1 i.toNat (by omega) (by rw [← bt_size]; omega) (L.at0 (by omega))
      rcases hx with rfl | hc
      · have : ([] : List UInt8).length = 0 := rfl
        omega
      · have : ¬ i < (x.length : Int) := fun g => by
          refine L.no x.length g (by omega) ?_
          rw [byt_bt _ _ (by rw [List.length_append, List.length_cons]; omega), List.getElem_append_right (Nat.le_refl _)]
          simp only [Nat.sub_self, List.getElem_cons_zero]
          exact hc
        omega
    subst en
    exact ⟨bt_ext0 _ _, bt_ext _ _⟩
set_option maxHeartbeats 4000000 in
theorem split_any (s : ByteArray) (w : World) (hs : s.size ≤ 1048576) (hV : VR w) :
    Calls Tryd.prog 77 #[.string s] w fun e w' => (∃ a b, e = .returned (.tuple #[.string a, .string b]) ∧ SP s.data.toList a b) ∧ Below w.heap.size w w' := by
  have CS := Tryd.strings_CutSuffix s ⟨#[114]⟩ w (by omega)
  cases h : Lib.hasSuffix s.data.toList [114] with
  | false =>
    have e : Lib.trimSuffix s.data.toList [114] = s.data.toList := by unfold Lib.trimSuffix; rw [h]; rfl
    have CS2 : Calls Tryd.prog 87 #[.string s, .string ⟨#[114]⟩] w fun e w' => e = .returned (.tuple #[.string s, .bool false]) ∧ w' = w := CS.mono fun e0 w' ⟨h1, h2⟩ => ⟨by
      rw [h1]
      show Ending.returned (.tuple #[.string ⟨(Lib.trimSuffix s.data.toList [114]).toArray⟩, .bool (Lib.hasSuffix s.data.toList [114])]) = _
      rw [e, h], h2⟩
    have HS : Hid (SP s.data.toList s ⟨#[]⟩) := ⟨Nat.le_refl _, Nat.zero_le _, fun _ => ⟨rfl, rfl⟩, fun x r c hl _ _ _ => by
      exfalso
      have : Lib.hasSuffix s.data.toList [114] = true := List.isSuffixOf_iff_suffix.2 ⟨x ++ c :: r, hl.symm⟩
      rw [h] at this; cases this⟩
    clear CS h e
    go_enter Tryd.func77, Tryd.ntmps77
    go_wp2_with (go_at_call 87; (with_reducible refine CS2.mono ?_); rintro e w1 ⟨rfl, rfl⟩)
    exact bodyPost_ret (v := .tuple #[.string s, .string ⟨#[]⟩]) (by simp [results, Tryd.results77, go_sem]; done) rfl ⟨⟨s, ⟨#[]⟩, rfl, HS.out⟩, Below.refl _ _⟩
  | true =>
    obtain ⟨b, hb⟩ := suf_r _ h
    have hl : s.data.toList.length = s.size := rfl
    have hbl : b.length < s.size := by rw [← hl, hb]; simp
    have CS2 : Calls Tryd.prog 87 #[.string s, .string ⟨#[114]⟩] w fun e w' => e = .returned (.tuple #[.string (Bt b), .bool true]) ∧ w' = w := CS.mono fun e0 w' ⟨h1, h2⟩ => ⟨by
      rw [h1]
      show Ending.returned (.tuple #[.string ⟨(Lib.trimSuffix s.data.toList [114]).toArray⟩, .bool (Lib.hasSuffix s.data.toList [114])]) = _
      have e : Lib.trimSuffix s.data.toList [114] = b := by
        unfold Lib.trimSuffix
        rw [h, if_pos rfl, hb]
        simp
      rw [e, h], h2⟩
    have LA := last_any (Bt b) w (by rw [bt_size]; omega) hV.utf
    have HV : Hid (VR w) := hV
    have hbz : (Bt b).size = b.length := rfl
    have HS : Hid (∀ (i : Int) (n : Nat), -1 ≤ i → (n : Int) = max i 0 → n ≤ b.length → (Asc (Bt b) → LS (Bt b) i) → SP s.data.toList ((Bt b).extract 0 n) ((Bt b).extract n (Bt b).size)) := fun i n h1 h2 h3 h4 => by
      rw [hb]
      exact split_sp b i n h1 h2 h3 h4
    have F1 : ∀ n : Nat, n ≤ b.length → ∀ w, (Instr.slice 9 (.string (Bt b)) none (some (.int .i64 (n : Int))) none).run Tryd.prog w = .ok (.string ((Bt b).extract 0 n)) w := fun n hn w => by
      rw [run_slice_string_to_if w 9 (Bt b) .i64 n Tryd.underlying9, if_pos ⟨by omega, by omega⟩]
      rfl
    have F2 : ∀ n : Nat, n ≤ b.length → ∀ w, (Instr.slice 9 (.string (Bt b)) (some (.int .i64 (n : Int))) none none).run Tryd.prog w = .ok (.string ((Bt b).extract n (Bt b).size)) w := fun n hn w => by
      rw [run_slice_string_from_if w 9 (Bt b) .i64 n Tryd.underlying9, if_pos ⟨by omega, by omega⟩]
      rfl
    clear CS hV h
    generalize Bt b = B at *
    go_enter Tryd.func77, Tryd.ntmps77
    go_wp2_with (first
      | (go_at_call 87; (with_reducible refine CS2.mono ?_); rintro e w1 ⟨rfl, rfl⟩)
      | (go_at_call 88; (with_reducible refine LA.mono ?_); rintro e w2 ⟨⟨i, rfl, hi1, hi2, hA⟩, hN⟩))
    have HSi := HS.out i
    obtain ⟨n, hn⟩ : ∃ n : Nat, max i 0 = n := ⟨i.toNat, by omega⟩
    have hnl : n ≤ b.length := by omega
    have G1 := F1 n hnl
    have G2 := F2 n hnl
    have HP : Hid (SP s.data.toList (B.extract 0 n) (B.extract n B.size)) := HSi n hi1 hn.symm hnl hA
    rw [hn]
    clear HSi HS F1 F2 hA
    generalize B.extract 0 n = t1 at *
    generalize B.extract n B.size = t2 at *
    go_quiet (fail)
    go_wp2
    exact bodyPost_ret (v := .tuple #[.string t1, .string t2]) (by simp [results, Tryd.results77, go_sem]; done) rfl ⟨⟨t1, t2, rfl, HP.out⟩, below_drewN hN _⟩
end Go.Proofs.YtalaacfoaelipaaDoor
