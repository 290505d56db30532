/-
  Put together of: D6.
-/
import Derived.Test.YtcfmhkhfmcmkbaaDoorXQ
namespace Go.Proofs.YtcfmhkhfmcmkbaaDoor
open Go.RowKit Go.Sort

/-- What stands behind the number. -/
def tl (n : Nat) : ByteArray := (⟨#[47]⟩ : ByteArray) ++ dec (2 ^ n)
def byt (s : ByteArray) (i : Nat) : Nat := if h : i < s.size then s[i].toNat else 256
theorem byt_at (s : ByteArray) (i : Nat) (h : i < s.size) : s[i].toNat = byt s i := by unfold byt; rw [dif_pos h]
/-- What the digits' loop reckons. -/
def dvv (s : ByteArray) : Nat → Int
  | 0 => 0
  | j + 1 => IntKind.u64.wrap (IntKind.u64.wrap (IntKind.u64.wrap (dvv s j * 10) + (byt s j : Nat)) - 48)
theorem u64_in (x : Int) : 0 ≤ IntKind.u64.wrap x ∧ IntKind.u64.wrap x ≤ 18446744073709551615 := by
  simp only [IntKind.wrap, IntKind.signed, IntKind.bits]
  simp
  omega
theorem u8w (b : UInt8) : IntKind.u64.wrap (b.toNat : Int) = (b.toNat : Int) := by
  have h : b.toNat < 256 := b.toNat_lt
  simp only [IntKind.wrap, IntKind.signed, IntKind.bits]
  simp
  omega
theorem dvv_in (s : ByteArray) (j : Nat) : 0 ≤ dvv s j ∧ dvv s j ≤ 18446744073709551615 := by
  cases j with
  | zero => simp [dvv]
  | succ j => exact u64_in _
theorem vl_take (l : List UInt8) (j : Nat) : vl (l.take j) ≤ vl l := by
  have : vl l = (l.drop j).foldl (fun a b => a * 10 + (b.toNat - 48)) (vl (l.take j)) := by
    unfold vl
    rw [← List.foldl_append, List.take_append_drop]
  rw [this]
  exact fold_ge _ _
theorem byt_list (l : List UInt8) (i : Nat) (h : i < l.length) : byt (Bt l) i = (l[i]).toNat := by
  unfold byt
  rw [dif_pos (by rw [bt_size]; exact h)]
  rfl
theorem dvv_list (ds rest : List UInt8) (hd : Ds ds) (hv : vl ds ≤ 65536) : ∀ j, j ≤ ds.length → dvv (Bt (ds ++ rest)) j = (vl (ds.take j) : Nat)
  | 0, _ => by simp [dvv, vl]
  | j + 1, hj => by
    have ih := dvv_list ds rest hd hv j (by omega)
    have hb : byt (Bt (ds ++ rest)) j = (ds[j]'(by omega)).toNat := by
      rw [byt_list _ _ (by rw [List.length_append]; omega), List.getElem_append_left]
    have hg := hd (ds[j]'(by omega)) (List.getElem_mem _)
    have e : ds.take (j + 1) = ds.take j ++ [ds[j]'(by omega)] := by rw [List.take_succ_eq_append_getElem]
    have h1 := vl_take ds (j + 1)
    rw [e, vl_snoc] at h1 ⊢
    have w : ∀ x : Int, 0 ≤ x → x ≤ 18446744073709551615 → IntKind.u64.wrap x = x := fun x h0 h1 => by
      simp only [IntKind.wrap, IntKind.signed, IntKind.bits]; simp; omega
    unfold dvv
    have a1 := w (((vl (ds.take j) : Nat) : Int) * 10) (by omega) (by omega)
    have a2 := w (((vl (ds.take j) : Nat) : Int) * 10 + (((ds[j]'(by omega)).toNat : Nat) : Int)) (by omega) (by omega)
    rw [ih, hb, a1, a2, w _ (by omega) (by omega)]
    omega
theorem dvv_txt (m n : Nat) (hm : m ≤ 65536) : dvv (txt m n) (Lib.decDigits m).length = (m : Nat) := by
  obtain ⟨h1, h2, _⟩ := dec_all m m (Nat.le_refl _)
  rw [txt_is]
  have := dvv_list (Lib.decDigits m) (47 :: Lib.decDigits (2 ^ n)) h1 (by omega) _ (Nat.le_refl _)
  rw [List.take_length, h2] at this
  exact this
theorem tl_is (n : Nat) : tl n = Bt (47 :: Lib.decDigits (2 ^ n)) := by
  unfold tl dec
  rw [show (⟨#[47]⟩ : ByteArray) = ⟨[47].toArray⟩ from rfl, bytes_app]
  rfl
theorem tl_size (n : Nat) (h : n ≤ 16) : (tl n).size ≤ 21 := by
  have h1 := dec_size (2 ^ n) (by have := pow16 h; omega)
  unfold tl
  rw [ByteArray.size_append]
  have e1 : (⟨#[47]⟩ : ByteArray).size = 1 := rfl
  omega
theorem txt_tl (m n : Nat) (hn : n ≤ 16) (hm : m < 2 ^ n) : ((txt m n).size : Int) - (tl n).size = (Lib.decDigits m).length ∧ 1 ≤ (Lib.decDigits m).length ∧ (Lib.decDigits m).length ≤ 5 ∧ Fr (txt m n) ((Lib.decDigits m).length : Nat) (tl n) := by
  have h6 := pow16 hn
  have h0 := dec_ne m
  have h1 := (dec_all m m (Nat.le_refl _)).2.2 5 (by decide) (by omega)
  refine ⟨?_, ?_, h1, ?_⟩
  · rw [txt_is, tl_is]
    show ((txtL m n).length : Int) - ((47 :: Lib.decDigits (2 ^ n)).length : Int) = _
    unfold txtL
    rw [List.length_append]
    omega
  · cases h : Lib.decDigits m with
    | nil => exact absurd h h0
    | cons a l => simp
  · rw [txt_is, tl_is]
    exact fr_app _ _ rfl
/-- What the reference's Parse tells. -/
def RPR (s : ByteArray) (e : Ending) : Prop := (∃ m n : Nat, n ≤ 16 ∧ m < 2 ^ n ∧ s = txt m n ∧ e = .returned (.tuple #[cv (m : Nat) (n : Nat), .int .i64 0])) ∨ ((∀ m n : Nat, n ≤ 16 → m < 2 ^ n → s ≠ txt m n) ∧ e = .returned (.tuple #[cv 0 0, .int .i64 22]))
set_option maxHeartbeats 4000000 in
theorem rparse_any (s : ByteArray) (w : World) (hs : s.size ≤ 281474976710656) :
    Calls Tryd.prog 17 #[.string s] w fun e w' => RPR s e ∧ Below w.heap.size w w' := by
  have hsI : (s.size : Int) ≤ 281474976710656 := by omega
  go_enter Tryd.func17, Tryd.ntmps17
  go_wp2
  go_loopw [4] (fun v4 wr => ∃ k : Nat, k ≤ 17 ∧ v4 = .int .i64 (k : Nat) ∧ Hid (Below (w.alloc (.cells #[.int .u64 0, .int .i64 0] 28)).heap.size (w.alloc (.cells #[.int .u64 0, .int .i64 0] 28)) wr) ∧ Hid (∀ j, j < k → ∀ m : Nat, m < 2 ^ j → s ≠ txt m j)) (fun v4 _ => 17 - (intOf v4).toNat)
  case atStart => exact ⟨0, by omega, rfl, hid (Below.refl _ _), fun j hj => absurd hj (by omega)⟩
  case round =>
    obtain ⟨k, hk, rfl, hB, hH⟩ := hrel
    by_cases hlt : k < 17
    · have hp := pow_cases k (by omega)
      have h0 : ¬ ((k : Nat) : Int) < 0 := by omega
      have hkI : ((k : Nat) : Int) ≤ 16 := by omega
      have eN : (2 : Int) ^ k = ((2 ^ k : Nat) : Int) := by simp
      have h6 := pow16 (show k ≤ 16 by omega)
      have F := fun w => decimal_nat (2 ^ k) (2 ^ k) w (Nat.le_refl _) h6
      rw [← eN] at F
      have zt := tl_size k (by omega)
      have A1 : ∀ W, (Op.stringOp .add ⟨#[47]⟩ (dec (2 ^ k))).run Tryd.prog W = .ok (.string (tl k)) W := fun W => run_string_add_sum W _ _ (by have e1 : (⟨#[47]⟩ : ByteArray).size = 1 := rfl; have := dec_size (2 ^ k) (by omega); omega)
      have e := hp.1
      have ztI : ((tl k).size : Int) ≤ 21 := by omega
      by_cases hx : ∃ m, m < 2 ^ k ∧ s = txt m k
      · obtain ⟨m, hm, hx⟩ := hx
        obtain ⟨g1, g2, g3, FR⟩ := txt_tl m k (by omega) hm
        have hdv := dvv_txt m k (by omega)
        have RT := fun w => rtext_yes m k w (by omega) hm
        have HR : Hid (RPR s (.returned (.tuple #[cv (m : Nat) (k : Nat), .int .i64 0]))) := .inl ⟨m, k, by omega, hm, hx, rfl⟩
        have hq := same_text s
        rw [← hx] at g1 FR hdv RT
        clear hx hH eN h6 hp zt hm
        have ht := same_text (tl k)
        generalize tl k = t at *
        generalize dec (2 ^ k) = q at *
        generalize (Lib.decDigits m).length = D at *
        have c1 : ¬ ((D : Nat) : Int) < 1 := by omega
        have c2 : ¬ 5 < ((D : Nat) : Int) := by omega
        have hDs : D ≤ s.size := by omega
        go_wp2_with (go_at_call 25; (with_reducible refine (F _).mono ?_); rintro e w1 ⟨rfl, hN⟩)
        go_loopw [7, 8] (fun v7 v8 wv => ∃ i : Nat, i ≤ D ∧ v7 = .int .u64 (dvv s i) ∧ v8 = .int .i64 (i : Nat) ∧ wv = w1) (fun _ v8 _ => D - (intOf v8).toNat)
        case atStart => exact ⟨0, by omega, rfl, rfl, rfl⟩
        case round =>
          obtain ⟨i, hi, rfl, rfl, rfl⟩ := hrel
          obtain ⟨v0, v1⟩ := dvv_in s i
          by_cases hiD : i < D
          · have hiI : ((i : Nat) : Int) < (D : Nat) := by omega
            have his : i < s.size := by omega
            have hb := byt_at s i his
            have hv : dvv s (i + 1) = IntKind.u64.wrap (IntKind.u64.wrap (IntKind.u64.wrap (dvv s i * 10) + (s[i].toNat : Nat)) - 48) := by rw [hb]; rfl
            have HVV := hid hv
            clear hb hv hdv
            generalize dvv s i = V at *
            go_wp2
            refine ⟨⟨i + 1, by omega, ?_, by simp, trivial⟩, by simp [intOf]; omega⟩
            rw [HVV.out, u8w]
          · obtain rfl : i = D := by omega
            rw [hdv] at v0 v1 ⊢
            clear hdv
            go_wp2_with (go_at_call 14; (with_reducible refine (RT _).mono ?_); rintro e w2 ⟨rfl, hN2⟩
                         obtain ⟨hc2, hf2⟩ := bcell hN2
                         obtain ⟨hc3, hf3⟩ := bcell (btr (bal (btr hB.out hN) _) hN2)
                         have c0 := hc2 wr.heap.size 0 (by simp)
                         have c1 := hc2 wr.heap.size 1 (by simp)
                         have d0 := hc3 w.heap.size 0 (by simp)
                         have d1 := hc3 w.heap.size 1 (by simp)
                         have e0 := hf3 w.heap.size 0 (by simp)
                         have e1 := hf3 w.heap.size 1 (by simp)
                         simp [go_sem] at c0 c1 d0 d1 e0 e1
                         clear hc2 hf2 hc3 hf3)
            exact bodyPost_ret (v := .tuple #[cv (m : Nat) (k : Nat), .int .i64 0]) (by simp [results, Tryd.results17, go_sem, d0, d1]; done) rfl ⟨HR.out, (((btr (bal (btr (btr (bal (Below.refl _ _) _) hB.out) hN) _) hN2).setCell (by simp) _).setCell (by simp) _)⟩
      · have HR : Hid (∀ j, j < k + 1 → ∀ m : Nat, m < 2 ^ j → s ≠ txt m j) := fun j hj m hm eq1 => by
          by_cases ej : j = k
          · subst ej; exact hx ⟨m, hm, eq1⟩
          · exact hH.out j (by omega) m hm eq1
        have RT : ∀ (v : Int) w, 0 ≤ v → Calls Tryd.prog 14 #[.agg #[.int .u64 v, .int .i64 (k : Nat)]] w fun e w' => (∃ t er, e = .returned (.tuple #[.string t, .int .i64 er]) ∧ (er = 2 ∨ (er = 0 ∧ (t.toList == s.toList) = false))) ∧ Below w.heap.size w w' := fun v w hv => by
          obtain ⟨m, rfl⟩ := Int.eq_ofNat_of_zero_le hv
          by_cases hr : m < 2 ^ k
          · exact (rtext_yes m k w (by omega) hr).mono fun _ _ ⟨he, hB⟩ => ⟨⟨_, 0, he, .inr ⟨rfl, other_text _ _ (fun e => hx ⟨m, hr, e⟩)⟩⟩, hB⟩
          · refine (rtext_no (m : Nat) (k : Nat) w ⟨by omega, by omega⟩ (fun h => hr ?_)).mono fun _ _ ⟨he, hB⟩ => ⟨⟨_, 2, he, .inl rfl⟩, hB⟩
            have := h.2
            rw [Int.toNat_natCast, eN] at this
            omega
        clear hx hH eN h6 hp zt
        generalize tl k = t at *
        generalize dec (2 ^ k) = q at *
        have hd : (s.size : Int) - (t.size : Int) = ((s.size : Int) - (t.size : Int)) := rfl
        generalize hde : (s.size : Int) - (t.size : Int) = d at *
        clear hd
        have hd0 : -21 ≤ d := by omega
        have hd1 : d ≤ 281474976710656 := by omega
        by_cases c1 : d < 1
        · clear RT
          go_wp2_with (go_at_call 25; (with_reducible refine (F _).mono ?_); rintro e w1 ⟨rfl, hN⟩)
          exact ⟨⟨k + 1, by omega, by simp, hid (btr hB.out hN), HR⟩, by simp [intOf]; omega⟩
        · by_cases c2 : 5 < d
          · clear RT
            go_wp2_with (go_at_call 25; (with_reducible refine (F _).mono ?_); rintro e w1 ⟨rfl, hN⟩)
            exact ⟨⟨k + 1, by omega, by simp, hid (btr hB.out hN), HR⟩, by simp [intOf]; omega⟩
          · obtain ⟨D, rfl⟩ := Int.eq_ofNat_of_zero_le (show 0 ≤ d by omega)
            have FR : Fr s (D : Nat) (s.extract D s.size) := fun w => by
              rw [run_slice_string_from_if w 9 _ .i64 _ Tryd.underlying9, if_pos ⟨by omega, by omega⟩, Int.toNat_natCast]
            have hDs : D ≤ s.size := by omega
            by_cases c3 : s.extract D s.size = t
            · rw [c3] at FR
              have ht := same_text t
              clear c3 hd0 hd1
              go_wp2_with (go_at_call 25; (with_reducible refine (F _).mono ?_); rintro e w1 ⟨rfl, hN⟩)
              go_loopw [7, 8] (fun v7 v8 wv => ∃ i : Nat, i ≤ D ∧ v7 = .int .u64 (dvv s i) ∧ v8 = .int .i64 (i : Nat) ∧ wv = w1) (fun _ v8 _ => D - (intOf v8).toNat)
              case atStart => exact ⟨0, by omega, rfl, rfl, rfl⟩
              case round =>
                obtain ⟨i, hi, rfl, rfl, rfl⟩ := hrel
                obtain ⟨v0, v1⟩ := dvv_in s i
                by_cases hiD : i < D
                · have hiI : ((i : Nat) : Int) < (D : Nat) := by omega
                  have his : i < s.size := by omega
                  have hb := byt_at s i his
                  have hv : dvv s (i + 1) = IntKind.u64.wrap (IntKind.u64.wrap (IntKind.u64.wrap (dvv s i * 10) + (s[i].toNat : Nat)) - 48) := by rw [hb]; rfl
                  have HVV := hid hv
                  clear hb hv
                  generalize dvv s i = V at *
                  go_wp2
                  refine ⟨⟨i + 1, by omega, ?_, by simp, trivial⟩, by simp [intOf]; omega⟩
                  rw [HVV.out, u8w]
                · obtain rfl : i = D := by omega
                  generalize dvv s i = V at *
                  go_wp2_with (go_at_call 14; (with_reducible refine (RT _ _ v0).mono ?_); rintro e w2 ⟨⟨t, er, rfl, ht⟩, hN2⟩; rcases ht with rfl | ⟨rfl, ht⟩)
                  all_goals exact ⟨⟨k + 1, by omega, by simp, hid (btr (bal (btr hB.out hN) _) hN2), HR⟩, by simp [intOf]; omega⟩
            · have ht := other_text _ _ (Ne.symm c3)
              clear RT c3
              generalize s.extract D s.size = u at *
              go_wp2_with (go_at_call 25; (with_reducible refine (F _).mono ?_); rintro e w1 ⟨rfl, hN⟩)
              exact ⟨⟨k + 1, by omega, by simp, hid (btr hB.out hN), HR⟩, by simp [intOf]; omega⟩
    · obtain rfl : k = 17 := by omega
      have hj := hH.out
      obtain ⟨hc, hf⟩ := bcell hB.out
      have d0 := hc w.heap.size 0 (by simp)
      have d1 := hc w.heap.size 1 (by simp)
      have e0 := hf w.heap.size 0 (by simp)
      have e1 := hf w.heap.size 1 (by simp)
      simp [go_sem] at d0 d1 e0 e1
      clear hc hf
      go_wp2
      exact bodyPost_ret (v := .tuple #[cv 0 0, .int .i64 22]) (by simp [results, Tryd.results17, go_sem, d0, d1]; done) rfl ⟨.inr ⟨fun m n hn hm => hj n (by omega) m hm, rfl⟩, (((btr (bal (Below.refl _ _) _) hB.out).setCell (by simp) _).setCell (by simp) _)⟩
end Go.Proofs.YtcfmhkhfmcmkbaaDoor
