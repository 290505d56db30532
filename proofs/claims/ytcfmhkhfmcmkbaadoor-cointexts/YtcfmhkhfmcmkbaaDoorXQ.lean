/-
  Put together of: D3 D4 D5.
-/
import Derived.Test.YtcfmhkhfmcmkbaaDoorXP
namespace Go.Proofs.YtcfmhkhfmcmkbaaDoor
open Go.RowKit Go.Sort

set_option maxHeartbeats 1000000 in
theorem rtext_yes (m n : Nat) (w : World) (hn : n ≤ 16) (hm : m < 2 ^ n) :
    Calls Tryd.prog 14 #[cv (m : Nat) (n : Nat)] w fun e w' => e = .returned (.tuple #[.string (txt m n), .int .i64 0]) ∧ Below w.heap.size w w' := by
  have hp := pow_cases n hn
  have eN : (2 : Int) ^ n = ((2 ^ n : Nat) : Int) := by simp
  have hT6 : 2 ^ n ≤ 65536 := by rw [eN] at hp; omega
  have C := fun w => rcoin_yes (m : Nat) n w hn (by rw [eN]; omega)
  have F1 := fun w => decimal_nat m m w (Nat.le_refl _) (by omega)
  have F2 := fun w => decimal_nat (2 ^ n) (2 ^ n) w (Nat.le_refl _) hT6
  rw [← eN] at F2
  have z1 : (dec m).size ≤ 20 := dec_size m (by omega)
  have z2 : (dec (2 ^ n)).size ≤ 20 := dec_size (2 ^ n) (by omega)
  have A1 : ∀ W, (Op.stringOp .add (dec m) ⟨#[47]⟩).run Tryd.prog W = .ok (.string (dec m ++ ⟨#[47]⟩)) W := fun W => run_string_add_sum W _ _ (by have e1 : (⟨#[47]⟩ : ByteArray).size = 1 := rfl; omega)
  have A2 : ∀ W, (Op.stringOp .add (dec m ++ ⟨#[47]⟩) (dec (2 ^ n))).run Tryd.prog W = .ok (.string ((dec m ++ ⟨#[47]⟩) ++ dec (2 ^ n))) W := fun W => run_string_add_sum W _ _ (by have e1 : (⟨#[47]⟩ : ByteArray).size = 1 := rfl; rw [ByteArray.size_append]; omega)
  have e := hp.1
  have h0 : ¬ ((n : Nat) : Int) < 0 := by omega
  unfold txt
  clear eN z1 z2 hp
  generalize dec m = s1 at *
  generalize dec (2 ^ n) = s2 at *
  generalize (s1 ++ ⟨#[47]⟩) = s3 at *
  generalize (s3 ++ s2) = s4 at *
  go_enter Tryd.func14, Tryd.ntmps14
  go_upto_region 4 with (go_at_call 11; (with_reducible refine (C _).mono ?_); rintro e w1 ⟨rfl, hB⟩; have B1 := (bk_new w #[.int .u64 (m : Nat), .int .i64 (n : Nat)] 28).on hB)
  have BW := btr (bal (Below.refl w.heap.size w) _) hB
  have RV := Below.refl w1.heap.size w1
  go_region_held3 (fun w' => T1 w1 w' w.heap.size (m : Nat) (n : Nat))
    ((refine t1_keep B1 ?_; first | exact below_drew RV | exact btr (And.left (by assumption)) hN | exact And.left (by assumption)))
    (first
      | (go_at_call 25; (with_reducible refine (F1 _).mono ?_); rintro rr w4 ⟨rfl, hN⟩; have hK := btr (And.left (by assumption)) hN)
      | (go_at_call 25; (with_reducible refine (F2 _).mono ?_); rintro rr w5 ⟨rfl, hN⟩; have hK := btr (And.left (by assumption)) hN))
  all_goals
    go_wp2
    refine bodyPost_ret ?_ rfl ⟨rfl, btr BW hK⟩
    simp [results, Tryd.results14, go_sem]
theorem rtext_no (m l : Int) (w : World) (hl : -9223372036854775808 ≤ l ∧ l ≤ 9223372036854775807) (h : ¬ isCoin m l) :
    Calls Tryd.prog 14 #[cv m l] w fun e w' => e = .returned (.tuple #[.string ⟨#[]⟩, .int .i64 2]) ∧ Below w.heap.size w w' := by
  have C := fun w => rcoin_no m l w hl h
  clear h
  go_enter Tryd.func14, Tryd.ntmps14
  go_wp2_with (go_at_call 11; (with_reducible refine (C _).mono ?_); rintro e w1 ⟨rfl, hB⟩)
  refine bodyPost_ret ?_ rfl ⟨rfl, btr (bal (Below.refl w.heap.size w) _) hB⟩
  simp [results, Tryd.results14, go_sem]
/-- The number of a row of digits. -/
def vl (l : List UInt8) : Nat := l.foldl (fun a b => a * 10 + (b.toNat - 48)) 0
def Ds (l : List UInt8) : Prop := ∀ b ∈ l, 48 ≤ b.toNat ∧ b.toNat ≤ 57
theorem vl_snoc (l : List UInt8) (b : UInt8) : vl (l ++ [b]) = vl l * 10 + (b.toNat - 48) := by
  unfold vl; rw [List.foldl_append]; rfl
theorem dig_nat (u : Nat) (h : u < 10) : (UInt8.ofNat (48 + u)).toNat = 48 + u := by
  have : (UInt8.ofNat (48 + u)).toNat = (48 + u) % 256 := by simp
  omega
theorem dec_all : ∀ (n u : Nat), u ≤ n → Ds (Lib.decDigits u) ∧ vl (Lib.decDigits u) = u ∧ ∀ k, 0 < k → u < 10 ^ k → (Lib.decDigits u).length ≤ k
  | n, u, hn => by
    by_cases h : u < 10
    · rw [dec_small u h]
      refine ⟨fun b hb => ?_, ?_, fun k hk _ => hk⟩
      · rw [List.mem_singleton] at hb
        subst hb
        rw [dig_nat u h]; omega
      · show 0 * 10 + ((UInt8.ofNat (48 + u)).toNat - 48) = u
        rw [dig_nat u h]; omega
    · obtain ⟨m, rfl⟩ : ∃ m, n = m + 1 := ⟨n - 1, by omega⟩
      obtain ⟨i1, i2, i3⟩ := dec_all m (u / 10) (by omega)
      rw [dec_big u h]
      have hd := dig_nat (u % 10) (by omega)
      refine ⟨fun b hb => ?_, ?_, fun k hk hu => ?_⟩
      · rcases List.mem_append.1 hb with hb | hb
        · exact i1 b hb
        · rw [List.mem_singleton] at hb
          subst hb
          rw [hd]; omega
      · rw [vl_snoc, i2, hd]; omega
      · obtain ⟨j, rfl⟩ : ∃ j, k = j + 1 := ⟨k - 1, by omega⟩
        have hj : 0 < j := by
          by_cases e : j = 0
          · subst e; simp at hu; omega
          · omega
        have := i3 j hj (by rw [Nat.pow_succ] at hu; omega)
        rw [List.length_append, List.length_singleton]
        omega
theorem dec_ne (u : Nat) : Lib.decDigits u ≠ [] := by
  rw [Lib.decDigits]; split <;> simp
theorem fold_ge : ∀ (l : List UInt8) (a : Nat), a ≤ l.foldl (fun a b => a * 10 + (b.toNat - 48)) a
  | [], a => Nat.le_refl _
  | b :: l, a => Nat.le_trans (by omega) (fold_ge l (a * 10 + (b.toNat - 48)))
theorem uint_ds : ∀ (l : List UInt8) (a : Nat), Ds l → l.foldl (fun a b => a * 10 + (b.toNat - 48)) a ≤ 9007199254740991 → Lib.parseUintM (2 ^ 64 - 1) a l = .ok (l.foldl (fun a b => a * 10 + (b.toNat - 48)) a)
  | [], a, _, _ => rfl
  | b :: l, a, hd, hl => by
    have h1 := hd b (List.mem_cons_self)
    have h2 := fold_ge l (a * 10 + (b.toNat - 48))
    rw [List.foldl_cons] at hl ⊢
    unfold Lib.parseUintM
    rw [if_pos h1, if_neg (by omega), if_neg (by omega)]
    exact uint_ds l _ (fun c hc => hd c (List.mem_cons_of_mem _ hc)) hl
theorem uint_dec (u : Nat) (h : u ≤ 9007199254740991) : Lib.parseUintB 64 (Lib.decDigits u) = .ok u := by
  obtain ⟨h1, h2, _⟩ := dec_all u u (Nat.le_refl _)
  unfold Lib.parseUintB
  rw [if_neg (dec_ne u)]
  have := uint_ds (Lib.decDigits u) 0 h1 (by show vl _ ≤ _; rw [h2]; exact h)
  rw [this]
  show Lib.NumEnd.ok (vl _) = _
  rw [h2]
/-- A coin's text, a list. -/
def txtL (m n : Nat) : List UInt8 := Lib.decDigits m ++ 47 :: Lib.decDigits (2 ^ n)
theorem txt_list (m n : Nat) : (txt m n).data.toList = txtL m n := by simp [txt, txtL, dec]
theorem txt_is (m n : Nat) : txt m n = ⟨(txtL m n).toArray⟩ := by
  apply ByteArray.ext
  apply Array.toList_inj.1
  rw [txt_list]
theorem no_slash (u : Nat) : (47 : UInt8) ∉ Lib.decDigits u := fun h => by
  have := (dec_all u u (Nat.le_refl _)).1 47 h
  simp at this
theorem slash_one : ∀ (a b r t : List UInt8), (47 : UInt8) ∉ a → (47 : UInt8) ∉ b → a ++ 47 :: r = b ++ 47 :: t → a = b ∧ r = t
  | [], [], r, t, _, _, h => by simpa using h
  | [], y :: b, r, t, _, hb, h => by
    simp only [List.nil_append, List.cons_append, List.cons.injEq] at h
    exact absurd (h.1 ▸ List.mem_cons_self) hb
  | x :: a, [], r, t, ha, _, h => by
    simp only [List.nil_append, List.cons_append, List.cons.injEq] at h
    exact absurd (h.1 ▸ List.mem_cons_self) ha
  | x :: a, y :: b, r, t, ha, hb, h => by
    simp only [List.cons_append, List.cons.injEq] at h
    have := slash_one a b r t (fun h => ha (List.mem_cons_of_mem _ h)) (fun h => hb (List.mem_cons_of_mem _ h)) h.2
    exact ⟨by rw [h.1, this.1], this.2⟩
theorem dec_inj {u v : Nat} (h : Lib.decDigits u = Lib.decDigits v) : u = v := by
  have h1 := (dec_all u u (Nat.le_refl _)).2.1
  have h2 := (dec_all v v (Nat.le_refl _)).2.1
  rw [h] at h1
  omega
theorem txt_inj {m n m' n' : Nat} (h : txt m n = txt m' n') : m = m' ∧ n = n' := by
  have h1 : txtL m n = txtL m' n' := by rw [← txt_list, ← txt_list, h]
  obtain ⟨a, b⟩ := slash_one _ _ _ _ (no_slash m) (no_slash m') h1
  exact ⟨dec_inj a, (Nat.pow_right_inj (by decide : 1 < 2)).1 (dec_inj b)⟩
theorem other_text (s t : ByteArray) (h : s ≠ t) : (t.toList == s.toList) = false := by
  rw [beq_eq_false_iff_ne]
  intro e
  apply h
  rw [ByteArray.toList_eq, ByteArray.toList_eq] at e
  exact ByteArray.ext (Array.toList_inj.1 e).symm
end Go.Proofs.YtcfmhkhfmcmkbaaDoor
namespace Go.Proofs.YtcfmhkhfmcmkbaaDoor
open Go.RowKit Go.Sort

abbrev Bt (l : List UInt8) : ByteArray := ⟨l.toArray⟩
theorem bt_size (l : List UInt8) : (Bt l).size = l.length := rfl
theorem bt_ext (x y : List UInt8) : (Bt (x ++ y)).extract x.length (Bt (x ++ y)).size = Bt y := by
  apply ByteArray.ext
  apply Array.ext'
  rw [ByteArray.data_extract, Array.toList_extract, List.extract_eq_take_drop, bt_size]
  show List.take _ (List.drop x.length (x ++ y)) = y
  rw [List.drop_left, List.length_append, Nat.add_sub_cancel_left, List.take_length]
theorem bt_ext0 (x y : List UInt8) : (Bt (x ++ y)).extract 0 x.length = Bt x := by
  apply ByteArray.ext
  apply Array.ext'
  rw [ByteArray.data_extract, Array.toList_extract, List.extract_eq_take_drop]
  show List.take _ (List.drop 0 (x ++ y)) = x
  rw [List.drop_zero, Nat.sub_zero, List.take_left]
abbrev Fr (t : ByteArray) (n : Int) (u : ByteArray) : Prop := ∀ w, (Instr.slice 9 (.string t) (some (.int .i64 n)) none none).run Tryd.prog w = .ok (.string u) w
abbrev Up (t : ByteArray) (n : Int) (u : ByteArray) : Prop := ∀ w, (Instr.slice 9 (.string t) none (some (.int .i64 n)) none).run Tryd.prog w = .ok (.string u) w
theorem fr_app (x y : List UInt8) {n : Int} (hn : n = x.length) : Fr (Bt (x ++ y)) n (Bt y) := fun w => by
  subst hn
  rw [run_slice_string_from_if w 9 _ .i64 _ Tryd.underlying9, if_pos ⟨by omega, by rw [bt_size, List.length_append]; omega⟩, Int.toNat_natCast, bt_ext]
theorem up_app (x y : List UInt8) {n : Int} (hn : n = x.length) : Up (Bt (x ++ y)) n (Bt x) := fun w => by
  subst hn
  rw [run_slice_string_to_if w 9 _ .i64 _ Tryd.underlying9, if_pos ⟨by omega, by rw [bt_size, List.length_append]; omega⟩, Int.toNat_natCast, bt_ext0]
theorem idx : ∀ l : List UInt8, (Lib.indexByte l 47 = -1 ∧ (47 : UInt8) ∉ l) ∨ ∃ x y, l = x ++ 47 :: y ∧ (47 : UInt8) ∉ x ∧ Lib.indexByte l 47 = x.length
  | [] => .inl ⟨rfl, by simp⟩
  | b :: l => by
    by_cases hb : b = 47
    · subst hb
      exact .inr ⟨[], l, rfl, by simp, by simp [Lib.indexByte]⟩
    · have hb' : (b == 47) = false := by simpa using hb
      rcases idx l with ⟨h1, h2⟩ | ⟨x, y, rfl, h2, h3⟩
      · exact .inl ⟨by simp [Lib.indexByte, hb', h1], by simp only [List.mem_cons, not_or]; exact ⟨fun e => hb e.symm, h2⟩⟩
      · refine .inr ⟨b :: x, y, rfl, by simp only [List.mem_cons, not_or]; exact ⟨fun e => hb e.symm, h2⟩, ?_⟩
        have : ¬ ((x.length : Int) = -1) := by omega
        simp [Lib.indexByte, hb', h3, this]
/-- What is before and behind the slash. -/
def CutS (s a b : ByteArray) : Prop := a.size ≤ s.size ∧ b.size ≤ s.size ∧ ∀ m n, s = txt m n → a = dec m ∧ b = dec (2 ^ n)
theorem cut_in (s : ByteArray) (w : World) (hs : s.size ≤ 281474976710656) :
    Calls Tryd.prog 67 #[.string s, .string ⟨#[47]⟩] w fun e w' => (∃ a b f, e = .returned (.tuple #[.string a, .string b, .bool f]) ∧ CutS s a b) ∧ Below w.heap.size w w' := by
  have I := fun w => Tryd.stringslite_Index_one s 47 w
  rcases idx s.data.toList with ⟨h1, h2⟩ | ⟨x, y, h1, h2, h3⟩
  · rw [h1] at I
    have HC : Hid (CutS s s ⟨#[]⟩) := ⟨Nat.le_refl _, Nat.zero_le _, fun m n e => absurd (by rw [e, txt_list]; simp [txtL]) h2⟩
    clear h1 h2
    go_enter Tryd.func67, Tryd.ntmps67
    go_wp2_with (go_at_call 87; (with_reducible refine (I _).mono ?_); rintro e w1 ⟨rfl, rfl⟩)
    refine bodyPost_ret ?_ rfl ⟨⟨s, ⟨#[]⟩, false, rfl, HC.out⟩, Below.refl _ _⟩
    simp [results, Tryd.results67, go_sem]; done
  · rw [h3] at I
    have es : s = Bt (x ++ 47 :: y) := ByteArray.ext (Array.toList_inj.1 h1)
    have U : Up s (x.length : Nat) (Bt x) := by rw [es]; exact up_app x _ rfl
    have F : Fr s ((x.length : Int) + 1) (Bt y) := by
      rw [es, show x ++ 47 :: y = (x ++ [47]) ++ y by simp]
      exact fr_app _ _ (by simp)
    have hz : s.size = x.length + 1 + y.length := by rw [es, bt_size, List.length_append, List.length_cons]; omega
    have HC : Hid (CutS s (Bt x) (Bt y)) := ⟨by rw [bt_size]; omega, by rw [bt_size]; omega, fun m n e => by
      have e2 : x ++ 47 :: y = txtL m n := by rw [← h1, e, txt_list]
      obtain ⟨rfl, rfl⟩ := slash_one _ _ _ _ h2 (no_slash m) e2
      exact ⟨rfl, rfl⟩⟩
    clear h1 h2 h3 es
    have hx : (x.length : Int) ≤ 281474976710656 := by omega
    clear hz
    generalize Bt x = a at *
    generalize Bt y = b at *
    generalize x.length = i at *
    go_enter Tryd.func67, Tryd.ntmps67
    go_wp2_with (go_at_call 87; (with_reducible refine (I _).mono ?_); rintro e w1 ⟨rfl, rfl⟩)
    go_quiet (fail)
    go_wp2
    refine bodyPost_ret ?_ rfl ⟨⟨a, b, true, rfl, HC.out⟩, below_drewN (Below.refl _ _) _⟩
    simp [results, Tryd.results67, go_sem]; done
theorem cut_any (s : ByteArray) (w : World) (hs : s.size ≤ 281474976710656) :
    Calls Tryd.prog 41 #[.string s, .string ⟨#[47]⟩] w fun e w' => (∃ a b f, e = .returned (.tuple #[.string a, .string b, .bool f]) ∧ CutS s a b) ∧ Below w.heap.size w w' := by
  have C := fun w => cut_in s w hs
  go_enter Tryd.func41, Tryd.ntmps41
  go_wp2_with (go_at_call 67; (with_reducible refine (C _).mono ?_); rintro e w1 ⟨⟨a, b, f, rfl, hC⟩, hB⟩)
  refine bodyPost_ret ?_ rfl ⟨⟨a, b, f, rfl, hC⟩, hB⟩
  simp [results, Tryd.results41, go_sem]; done
theorem same_text (s : ByteArray) : (s.toList == s.toList) = true := beq_self_eq_true _
set_option maxHeartbeats 1000000 in
theorem len_any (s : ByteArray) (w : World) (hT : PT w) :
    Calls Tryd.prog 43 #[.string s] w fun e w' => (∃ n : Nat, e = .returned (.int .i64 (n : Nat)) ∧ n ≤ 16 ∧ ∀ k, k ≤ 16 → s = dec (2 ^ k) → n = k) ∧ Below w.heap.size w w' := by
  have HT : Hid (∀ w', Below w.heap.size w w' → PT w') := fun w' h => pt_below hT h
  clear hT
  go_enter Tryd.func43, Tryd.ntmps43
  go_wp2
  go_loopw [4] (fun v4 wr => ∃ k : Nat, k ≤ 17 ∧ v4 = .int .i64 (k : Nat) ∧ Hid (Below w.heap.size w wr) ∧ Hid (∀ j, j < k → s ≠ dec (2 ^ j))) (fun v4 _ => 17 - (intOf v4).toNat)
  case atStart => exact ⟨0, by omega, rfl, hid (Below.refl _ _), fun j hj => absurd hj (by omega)⟩
  case round =>
    obtain ⟨k, hk, rfl, hB, hH⟩ := hrel
    by_cases hlt : k < 17
    · have hp := pow_cases k (by omega)
      have eN : (2 : Int) ^ k = ((2 ^ k : Nat) : Int) := by simp
      have K := fun w => coins_any k w (by omega)
      have hT6 : 2 ^ k ≤ 65536 := by rw [eN] at hp; omega
      have F := fun w h => fu_any (2 ^ k) (by omega) w h
      rw [eN] at K
      have hkI : ((k : Nat) : Int) < 17 := by omega
      clear hp eN
      by_cases hq : s = dec (2 ^ k)
      · have HR : Hid (∀ j, j ≤ 16 → s = dec (2 ^ j) → k = j) := fun j _ e => (Nat.pow_right_inj (by decide : 1 < 2)).1 (dec_inj (by have := congrArg (·.data.toList) (hq.symm.trans e); simpa using this))
        rw [← hq] at F
        clear hq
        have ht := same_text s
        generalize (2 : Nat) ^ k = N at *
        go_wp2_with (first
          | (go_at_call 24; (with_reducible refine (K _).mono ?_); rintro e w1 ⟨rfl, rfl⟩)
          | (go_at_call 26; (with_reducible refine (F _ (HT.out _ hB.out)).mono ?_); rintro e w2 ⟨rfl, hN⟩))
        go_ret
        exact ⟨⟨k, rfl, by omega, HR.out⟩, btr hB.out hN⟩
      · have ht := other_text _ _ (Ne.symm hq)
        have HR : Hid (∀ j, j < k + 1 → s ≠ dec (2 ^ j)) := fun j hj => by
          by_cases e : j = k
          · rw [e]; exact hq
          · exact hH.out j (by omega)
        clear hq
        generalize dec (2 ^ k) = t at *
        generalize (2 : Nat) ^ k = N at *
        go_wp2_with (first
          | (go_at_call 24; (with_reducible refine (K _).mono ?_); rintro e w1 ⟨rfl, rfl⟩)
          | (go_at_call 26; (with_reducible refine (F _ (HT.out _ hB.out)).mono ?_); rintro e w2 ⟨rfl, hN⟩))
        exact ⟨⟨k + 1, by omega, by simp, hid (btr hB.out hN), HR⟩, by simp [intOf]; omega⟩
    · obtain rfl : k = 17 := by omega
      go_wp2
      go_ret
      exact ⟨⟨0, rfl, by omega, fun j hj e => absurd e (hH.out j (by omega))⟩, hB.out⟩
end Go.Proofs.YtcfmhkhfmcmkbaaDoor
namespace Go.Proofs.YtcfmhkhfmcmkbaaDoor
open Go.RowKit Go.Sort

/-- A variable that holds an error. -/
def Ev (w : World) (n : String) : Prop := ∃ te pe, w.var? Tryd.prog n = some #[.iface te pe]
structure VR (w : World) : Prop where
  tab : Tab w
  pt : PT w
  sy : Ev w "strconv.ErrSyntax"
  ra : Ev w "strconv.ErrRange"
theorem Ev.below {w w' : World} {n : String} {g : Nat} (hg : Tryd.prog.globalNamed n = some g) (h : Ev w n) (hb : Below w.heap.size w w') : Ev w' n := by
  obtain ⟨te, pe, h1⟩ := h
  exact ⟨te, pe, Go.Joins.var_stays hg h1 hb (Nat.le_refl _)⟩
theorem VR.below {w w' : World} (h : VR w) (hb : Below w.heap.size w w') : VR w' :=
  ⟨h.tab.below hb, pt_below h.pt hb, Ev.below (g := 3) (by kernel_rfl) h.sy hb, Ev.below (g := 4) (by kernel_rfl) h.ra hb⟩
/-- What ParseUint tells, and whether it is without fault. -/
theorem pu_any (s : ByteArray) (w : World) (hs : s.size ≤ 281474976710656) (hV : VR w) :
    Calls Tryd.prog 42 #[.string s, .int .i64 10, .int .i64 64] w fun e w' => ((∃ u : Nat, e = .returned (.tuple #[.int .u64 (u : Nat), .nilIface]) ∧ u ≤ 18446744073709551615 ∧ ∀ v : Nat, v ≤ 65536 → s = dec v → u = v) ∨ ((∃ x N, e = .returned (.tuple #[.int .u64 x, .iface 137 (.pointer (some ⟨N, 0, none⟩))])) ∧ ∀ v : Nat, v ≤ 65536 → s ≠ dec v)) ∧ Below w.heap.size w w' := by
  have hd : ∀ v : Nat, v ≤ 65536 → s = dec v → Lib.parseUintB 64 s.data.toList = .ok v := fun v hv e => by rw [e]; exact uint_dec v (by omega)
  cases h : Lib.parseUintB 64 s.data.toList
  case ok u =>
    refine (Tryd.strconv_ParseUint_10_at64_ok s (by omega) u h w).mono ?_
    rintro e w' ⟨rfl, hw⟩
    refine ⟨.inl ⟨u, rfl, Lib.parseUintB_le h, fun v hv e => by have := hd v hv e; rw [h] at this; injection this⟩, ?_⟩
    rcases hw with rfl | rfl
    · exact Below.refl _ _
    · exact Lib.bytesWorld_below _ _ _
  case range =>
    obtain ⟨te, pe, he⟩ := hV.ra
    refine (Tryd.strconv_ParseUint_10_at64_range_var s hs h te pe w he).mono ?_
    rintro e w' ⟨N, rfl, _, _, hB⟩
    exact ⟨.inr ⟨⟨_, N, rfl⟩, fun v hv e => by have := hd v hv e; rw [h] at this; cases this⟩, hB⟩
  · obtain ⟨te, pe, he⟩ := hV.sy
    refine (Tryd.strconv_ParseUint_10_at64_syntax_var s hs h te pe w he).mono ?_
    rintro e w' ⟨N, rfl, _, _, hB⟩
    exact ⟨.inr ⟨⟨_, N, rfl⟩, fun v hv e => by have := hd v hv e; rw [h] at this; cases this⟩, hB⟩
theorem pow16 {n : Nat} (h : n ≤ 16) : 2 ^ n ≤ 65536 := by
  have h1 := (pow_cases n h).2.2
  have eN : (2 : Int) ^ n = ((2 ^ n : Nat) : Int) := by simp
  rw [eN] at h1
  omega
set_option maxHeartbeats 1000000 in
theorem read_any (s : ByteArray) (w : World) (hs : s.size ≤ 281474976710656) (hV : VR w) :
    Calls Tryd.prog 27 #[.string s] w fun e w' => (∃ m n : Nat, e = .returned (cv (m : Nat) (n : Nat)) ∧ n ≤ 16 ∧ m ≤ 18446744073709551615 ∧ ∀ m' n' : Nat, n' ≤ 16 → m' < 2 ^ n' → s = txt m' n' → m = m' ∧ n = n') ∧ Below w.heap.size w w' := by
  have CU := fun w => cut_any s w hs
  have HV : Hid (∀ w', Below w.heap.size w w' → VR w') := fun w' h => hV.below h
  clear hV
  go_enter Tryd.func27, Tryd.ntmps27
  go_wp2_with (go_at_call 41; (with_reducible refine (CU _).mono ?_); rintro e w1 ⟨⟨a, b, f, rfl, hC⟩, hB⟩)
  have BW : Hid (Below w.heap.size w w1) := btr (bal (Below.refl _ _) _) hB
  have PA := fun w h => pu_any a w (Nat.le_trans hC.1 hs) h
  have LB := fun w h => len_any b w h
  have HC := hid hC.2.2
  clear hC CU
  go_wp2_with (first
    | (go_at_call 42; (with_reducible refine (PA _ (HV.out _ BW.out)).mono ?_); rintro e w2 ⟨⟨u, rfl, hu, hv⟩ | ⟨⟨x, N, rfl⟩, hv⟩, hB2⟩)
    | (go_at_call 43; (with_reducible refine (LB _ (HV.out _ (btr BW.out hB2)).pt).mono ?_); rintro e w3 ⟨⟨n, rfl, hn, hk⟩, hB3⟩; obtain ⟨hc, hf⟩ := bcell (btr (btr hB hB2) hB3)))
  all_goals
    have c0 := hc w.heap.size 0 (by simp)
    have c1 := hc w.heap.size 1 (by simp)
    simp [go_sem] at c0 c1
  · exact bodyPost_ret (v := cv (u : Nat) (n : Nat)) (by simp [results, Tryd.results27, go_sem, c0, c1]; done) rfl ⟨⟨u, n, rfl, hn, hu, fun m' n' h1 h2 e => ⟨hv m' (Nat.le_trans (Nat.le_of_lt h2) (pow16 h1)) (HC.out m' n' e).1, hk n' h1 (HC.out m' n' e).2⟩⟩, ((btr (btr BW.out hB2) hB3).setCell (by simp) _).setCell (by simp) _⟩
  · exact bodyPost_ret (v := cv ((0 : Nat) : Nat) (n : Nat)) (by simp [results, Tryd.results27, go_sem, c0, c1]; done) rfl ⟨⟨0, n, rfl, hn, by omega, fun m' n' h1 h2 e => absurd (HC.out m' n' e).1 (hv m' (Nat.le_trans (Nat.le_of_lt h2) (pow16 h1)))⟩, ((btr (btr BW.out hB2) hB3).setCell (by simp) _).setCell (by simp) _⟩
set_option maxHeartbeats 4000000 in
theorem parse_yes (m n : Nat) (w : World) (hn : n ≤ 16) (hm : m < 2 ^ n) (hV : VR w) :
    Calls Tryd.prog 16 #[.string (txt m n)] w fun e w' => e = .returned (.tuple #[cv (m : Nat) (n : Nat), .int .i64 0]) ∧ Below w.heap.size w w' := by
  have h6 := pow16 hn
  have hz : (txt m n).size ≤ 281474976710656 := by
    have z1 : (dec m).size ≤ 20 := dec_size m (by omega)
    have z2 : (dec (2 ^ n)).size ≤ 20 := dec_size (2 ^ n) (by omega)
    have e1 : (⟨#[47]⟩ : ByteArray).size = 1 := rfl
    unfold txt
    rw [ByteArray.size_append, ByteArray.size_append]; omega
  have RD : ∀ w, VR w → Calls Tryd.prog 27 #[.string (txt m n)] w fun e w' => e = .returned (cv (m : Nat) (n : Nat)) ∧ Below w.heap.size w w' := fun w hV => (read_any (txt m n) w hz hV).mono fun e w' ⟨⟨m', n', he, _, _, hd⟩, hB⟩ => ⟨by
    obtain ⟨rfl, rfl⟩ := hd m n hn hm rfl
    exact he, hB⟩
  have TX := fun w h => text_yes m n w h hn hm
  have HV : Hid (∀ w', Below w.heap.size w w' → VR w') := fun w' h => hV.below h
  have hq := same_text (txt m n)
  clear hV hz h6 hm
  generalize txt m n = s at *
  go_enter Tryd.func16, Tryd.ntmps16
  go_wp2_with (first
    | (go_at_call 27; (with_reducible refine (RD _ (HV.out _ (bal (Below.refl _ _) _))).mono ?_); rintro e w1 ⟨rfl, hN⟩; obtain ⟨hc, hf⟩ := bcell hN)
    | (go_at_call 15; (with_reducible refine (TX _ (HV.out _ (bal (btr (bal (Below.refl _ _) _) hN) _)).pt).mono ?_); rintro e w2 ⟨rfl, hN2⟩
       obtain ⟨hc2, hf2⟩ := bcell hN2
       obtain ⟨hc3, hf3⟩ := bcell (btr (bal hN _) hN2)
       have c0 := hc2 w1.heap.size 0 (by simp)
       have c1 := hc2 w1.heap.size 1 (by simp)
       have d0 := hc3 w.heap.size 0 (by simp)
       have d1 := hc3 w.heap.size 1 (by simp)
       have e0 := hf3 w.heap.size 0 (by simp)
       have e1 := hf3 w.heap.size 1 (by simp)
       simp [go_sem] at c0 c1 d0 d1 e0 e1
       clear hc hf hc2 hf2 hc3 hf3))
  exact bodyPost_ret (v := .tuple #[cv (m : Nat) (n : Nat), .int .i64 0]) (by simp [results, Tryd.results16, go_sem, d0, d1]; done) rfl ⟨rfl, (((btr (bal (btr (bal (Below.refl _ _) _) hN) _) hN2).setCell (by simp) _).setCell (by simp) _)⟩
set_option maxHeartbeats 4000000 in
theorem parse_no (s : ByteArray) (w : World) (hs : ∀ m n : Nat, n ≤ 16 → m < 2 ^ n → s ≠ txt m n) (hz : s.size ≤ 281474976710656) (hV : VR w) :
    Calls Tryd.prog 16 #[.string s] w fun e w' => e = .returned (.tuple #[cv 0 0, .int .i64 22]) ∧ Below w.heap.size w w' := by
  have RD : ∀ w, VR w → Calls Tryd.prog 27 #[.string s] w fun e w' => (∃ m n : Nat, e = .returned (cv (m : Nat) (n : Nat)) ∧ n ≤ 16) ∧ Below w.heap.size w w' := fun w hV => (read_any s w hz hV).mono fun e w' ⟨⟨m', n', he, hn, _⟩, hB⟩ => ⟨⟨m', n', he, hn⟩, hB⟩
  have TX : ∀ (m n : Nat) w, n ≤ 16 → PT w → Calls Tryd.prog 15 #[.agg #[.int .u64 (m : Nat), .int .i64 (n : Nat)]] w fun e w' => (∃ t er, e = .returned (.tuple #[.string t, .int .i64 er]) ∧ (er = 2 ∨ (er = 0 ∧ (t.toList == s.toList) = false))) ∧ Below w.heap.size w w' := fun m n w hn hV => by
    by_cases hr : m < 2 ^ n
    · exact (text_yes m n w hV hn hr).mono fun _ _ ⟨he, hB⟩ => ⟨⟨_, 0, he, .inr ⟨rfl, other_text _ _ (hs m n hn hr)⟩⟩, hB⟩
    · refine (text_no (m : Nat) (n : Nat) w ⟨by omega, by omega⟩ (fun h => hr ?_)).mono fun _ _ ⟨he, hB⟩ => ⟨⟨_, 2, he, .inl rfl⟩, hB⟩
      have := h.2
      rw [Int.toNat_natCast, show (2 : Int) ^ n = ((2 ^ n : Nat) : Int) by simp] at this
      omega
  have HV : Hid (∀ w', Below w.heap.size w w' → VR w') := fun w' h => hV.below h
  clear hV hs
  go_enter Tryd.func16, Tryd.ntmps16
  go_wp2_with (first
    | (go_at_call 27; (with_reducible refine (RD _ (HV.out _ (bal (Below.refl _ _) _))).mono ?_); rintro e w1 ⟨⟨m, n, rfl, hn⟩, hN⟩; obtain ⟨hc, hf⟩ := bcell hN)
    | (go_at_call 15; (with_reducible refine (TX _ _ _ hn (HV.out _ (bal (btr (bal (Below.refl _ _) _) hN) _)).pt).mono ?_); rintro e w2 ⟨⟨t, er, rfl, ht⟩, hN2⟩
       obtain ⟨hc3, hf3⟩ := bcell (btr (bal hN _) hN2)
       have d0 := hc3 w.heap.size 0 (by simp)
       have d1 := hc3 w.heap.size 1 (by simp)
       have e0 := hf3 w.heap.size 0 (by simp)
       have e1 := hf3 w.heap.size 1 (by simp)
       simp [go_sem] at d0 d1 e0 e1
       clear hc hf hc3 hf3
       rcases ht with rfl | ⟨rfl, ht⟩))
  all_goals
    exact bodyPost_ret (v := .tuple #[cv 0 0, .int .i64 22]) (by simp [results, Tryd.results16, go_sem, d0, d1]; done) rfl ⟨rfl, (((btr (bal (btr (bal (Below.refl _ _) _) hN) _) hN2).setCell (by simp) _).setCell (by simp) _)⟩
end Go.Proofs.YtcfmhkhfmcmkbaaDoor
