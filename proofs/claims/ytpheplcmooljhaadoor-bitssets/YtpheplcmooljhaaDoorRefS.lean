/-
  What the reference's Of and Subsets answer, in new memory.
-/
import Derived.Test.YtpheplcmooljhaaDoorOf
import Derived.Test.YtpheplcmooljhaaDoorMath6
import Derived.Test.YtpheplcmooljhaaDoorRefL
import Derived.Test.YtpheplcmooljhaaDoorRoom
namespace Go.Proofs.YtpheplcmooljhaaDoor
open Go.RowKit

theorem rof_no (n k : Int) (w : World) (h : n < 0 ∨ 16 < n ∨ k < 0 ∨ n < k) :
    Calls Tryd.prog 36 #[.int .i64 n, .int .i64 k] w fun e w' => e = .returned (.tuple #[.slice none 0 0, .int .i64 2]) ∧ w' = w := by
  by_cases h1 : n < 0
  · clear h
    go_enter Tryd.func36, Tryd.ntmps36
    go_wp2
    go_ret2
    exact ⟨rfl, rfl⟩
  · by_cases h2 : 16 < n
    · clear h
      go_enter Tryd.func36, Tryd.ntmps36
      go_wp2
      go_ret2
      exact ⟨rfl, rfl⟩
    · by_cases h3 : k < 0
      · clear h
        go_enter Tryd.func36, Tryd.ntmps36
        go_wp2
        go_ret2
        exact ⟨rfl, rfl⟩
      · have h4 : n < k := by omega
        clear h
        go_enter Tryd.func36, Tryd.ntmps36
        go_wp2
        go_ret2
        exact ⟨rfl, rfl⟩

set_option maxHeartbeats 1000000 in
theorem rof_any (n k : Nat) (w : World) (hn : n ≤ 16) (hk : k ≤ n) :
    Calls Tryd.prog 36 #[.int .i64 n, .int .i64 k] w fun e w' => ∃ v, e = .returned (.tuple #[v, .int .i64 0]) ∧ Told (ofP k (2 ^ n)) v w w' := by
  obtain ⟨i, hi, hz0, hz1, hz2⟩ := info_parts Tryd.info22
  have hp := i_pow n (by omega)
  have hN := pow_le16 hn
  have hkn : ¬ n < k := by omega
  generalize 2 ^ n = N at hp hN
  go_enter Tryd.func36, Tryd.ntmps36
  go_wp2
  go_loopw [6, 7] (fun v j wr => ∃ (m : Nat) (ao : Option Addr) (cv : Nat), m ≤ N ∧ j = .int .u64 m ∧ v = .slice ao (ofP k m).length cv ∧ Told (ofP k m) v w wr) (fun _ j _ => N - (intOf j).toNat)
  case atStart => exact ⟨0, none, 0, by omega, rfl, rfl, Below.refl _ _, World.ownsRow_nil _ _ _ _⟩
  case round =>
    obtain ⟨m, ao, cv, hm, rfl, rfl, ht⟩ := hrel
    by_cases hlt : m < N
    · have HC := fun w => rcount_any m w (by omega)
      have hlen := ofP_len k m
      have hsz := ht.below.size
      have ho := ht.owns
      have HT : Hid (Told (ofP k m) _ w wr) := ht
      clear ht
      by_cases heq : pop 64 m = k
      · have HS : Hid (ofP k (m + 1) = ofP k m ++ [m]) := ofP_succ_yes heq
        rw [heq] at HC
        clear heq
        go_wp2_with (first
          | (go_at_call 11; with_reducible refine (HC _).mono ?_; rintro e w' ⟨rfl, rfl⟩)
          | (at_builtin; refine wpList_append_own _ rfl _ _ 49 rfl w.heap.size 22 i (.int .u64 0) 1 8 Tryd.underlying49 hi hz0 hz1 hz2 rfl (by decide) _ _ _ rfl (ho.alloc _) ⟨w'.heap.size, 0, none⟩ 1 1 [.int .u64 (m : Int)] rfl rfl (cell_one_new _ _ _) (fun x hx => by simp at hx; subst hx; rfl) (by unfold maxLen; omega) (by omega) (by simp; omega) ?_; intro v' w3 hown' hgrow3 hnil3))
        have ht' := HT.out.push hown' hgrow3
        rw [← HS.out] at ht'
        obtain ⟨ao', cv', rfl⟩ := ht'.shape
        go_roundw
        case rel => exact ⟨m + 1, ao', cv', by omega, by go_num, rfl, ht'⟩
        case measure => simp [intOf]; omega
      · have HS : Hid (ofP k (m + 1) = ofP k m) := ofP_succ_no heq
        have hne : (((pop 64 m : Nat) : Int) == (k : Int)) = false := by simp; omega
        clear heq
        go_wp2_with (first
          | (go_at_call 11; with_reducible refine (HC _).mono ?_; rintro e w' ⟨rfl, rfl⟩))
        go_roundw
        case rel => exact ⟨m + 1, ao, cv, by omega, by go_num, by rw [HS.out], by rw [HS.out]; exact HT⟩
        case measure => simp [intOf]; omega
    · obtain rfl : m = N := by omega
      go_wp2
      go_ret2
      exact ⟨_, rfl, ht⟩

/-- The slice v is new memory that holds these places. -/
structure Told3 (l : List Nat) (v : Value) (w w' : World) : Prop where
  below : Below w.heap.size w w'
  owns : w'.ownsRow w.heap.size 3 1 v l.length (l.map fun (x : Nat) => .int .i64 (x : Int))
theorem Told3.push {l : List Nat} {x : Nat} {v v' : Value} {w wr w3 : World} (h : Told3 l v w wr)
    (ho : w3.ownsRow w.heap.size 3 1 v' (l.length + 1) ((l.map fun (x : Nat) => Value.int .i64 (x : Int)) ++ [.int .i64 (x : Int)])) (hg : (wr.alloc (.cells #[.int .i64 (x : Int)] 3)).grownBy w3 v.ownBlock) : Told3 (l ++ [x]) v' w w3 := by
  refine ⟨(h.below.alloc h.below.size _).grown hg (by have := h.below.size; simp; omega) (fun k e => (h.owns.lt k e).1), ?_⟩
  rw [List.map_append, List.length_append]
  exact ho
theorem Told3.shape {l : List Nat} {v : Value} {w w' : World} (h : Told3 l v w w') : ∃ ao cv, v = .slice ao l.length cv := by
  rcases h.owns.2 with ⟨e, e2⟩ | ⟨g, c, _, e, _⟩
  · exact ⟨none, 0, by rw [e, e2]⟩
  · exact ⟨_, c, e⟩
theorem Told3.row {mask : Nat} {a : Option Addr} {c : Nat} {w w' : World} (h : Told3 (plL mask 64) (.slice a (plL mask 64).length c) w w') : Row a (plF mask) (ones mask) w' := ⟨fun i hi => by
  rcases h.owns.2 with ⟨_, e⟩ | ⟨g, c', cur, e, hb, hh, _⟩
  · unfold ones at hi; omega
  · have ho := h.owns
    simp only [Value.slice.injEq, true_and] at e
    obtain ⟨rfl, rfl⟩ := e
    have hc := ho.cellAt i (by unfold ones at hi; omega)
    refine ⟨g, 0, rfl, ?_⟩
    rw [Nat.zero_add, hc, plF_at hi]
    have hi' : i < (plL mask 64).length := hi
    simp [hi']
    rfl⟩

/-- The first q sets of the mask, rising. -/
def sbL (mask q : Nat) : List Nat := (List.range q).map (sbN mask)
theorem sbL_len (mask q : Nat) : (sbL mask q).length = q := by simp [sbL]
theorem sbL_succ (mask q : Nat) : sbL mask (q + 1) = sbL mask q ++ [sbN mask q] := by simp [sbL, List.range_succ]
theorem sbL_at (mask q i : Nat) (h : i < (sbL mask q).length) : (sbL mask q)[i] = sbN mask i := by simp [sbL]

theorem Told.drewN {l : List Nat} {v : Value} {w w' : World} (h : Told l v w w') (n : Nat) : Told l v w (w'.drewN n) :=
  ⟨⟨h.below.os, h.below.tape, h.below.output, h.below.size, h.below.block⟩, h.owns⟩
theorem Told.from_ {l : List Nat} {v : Value} {w w1 w' : World} (h : Told l v w1 w') (hb : Below w.heap.size w w1) : Told l v w w' := by
  refine ⟨hb.trans (h.below.mono hb.size), h.owns.1, ?_⟩
  rcases h.owns.2 with e | ⟨g, c, cur, e, hg, r⟩
  · exact .inl e
  · exact .inr ⟨g, c, cur, e, Nat.le_trans hb.size hg, r⟩
/-- The break's test in the reference's Subsets. -/
theorem shr_pos {k c : Nat} : (0 < k / 2 ^ c) ↔ 2 ^ c ≤ k := by
  rw [Nat.div_pos_iff]
  exact ⟨fun h => h.2, fun h => ⟨Nat.two_pow_pos c, h⟩⟩

set_option maxHeartbeats 2000000 in
set_option maxRecDepth 4000 in
theorem rsubsets_any (mask most : Nat) (w : World) (hx : mask < 18446744073709551616) (hm : most ≤ 301) :
    Calls Tryd.prog 34 #[.int .u64 mask, .int .i64 most] w fun e w' => ∃ v, e = .returned v ∧ Told (sbL mask (min most (2 ^ ones mask))) v w w' := by
  obtain ⟨i, hi, hz0, hz1, hz2⟩ := info_parts Tryd.info3
  obtain ⟨i', hi', hz0', hz1', hz2'⟩ := info_parts Tryd.info22
  go_enter Tryd.func34, Tryd.ntmps34
  go_wp2
  go_loopw [5, 6] (fun v j wr => ∃ (m : Nat) (ao : Option Addr) (cv : Nat), m ≤ 64 ∧ j = .int .i64 m ∧ v = .slice ao (plL mask m).length cv ∧ Told3 (plL mask m) v w wr) (fun _ j _ => 64 - (intOf j).toNat)
  case atStart => exact ⟨0, none, 0, by omega, rfl, rfl, Below.refl _ _, World.ownsRow_nil _ _ _ _⟩
  case round =>
    obtain ⟨m, ao, cv, hm64, rfl, rfl, ht⟩ := hrel
    by_cases hlt : m < 64
    · have HC := fun w => bit_any mask m w hx hlt
      have hlen := plL_len mask m
      have hsz := ht.below.size
      have ho := ht.owns
      have HT : Hid (Told3 (plL mask m) _ w wr) := ht
      clear ht
      by_cases heq : bt mask m = 1
      · have HS : Hid (plL mask (m + 1) = plL mask m ++ [m]) := plL_yes heq
        rw [heq] at HC
        clear heq
        go_wp2_with (first
          | (go_at_call 39; with_reducible refine (HC _).mono ?_; rintro e w' ⟨rfl, rfl⟩)
          | (at_builtin; refine wpList_append_own _ rfl _ _ 36 rfl w.heap.size 3 i (.int .i64 0) 1 8 Tryd.underlying36 hi hz0 hz1 hz2 rfl (by decide) _ _ _ rfl (ho.alloc _) ⟨w'.heap.size, 0, none⟩ 1 1 [.int .i64 (m : Int)] rfl rfl (cell_one_new _ _ _) (fun x hx => by simp at hx; subst hx; rfl) (by unfold maxLen; omega) (by omega) (by simp; omega) ?_; intro v' w3 hown' hgrow3 hnil3))
        have ht' := HT.out.push hown' hgrow3
        rw [← HS.out] at ht'
        obtain ⟨ao', cv', rfl⟩ := ht'.shape
        go_roundw
        case rel => exact ⟨m + 1, ao', cv', by omega, by go_num, rfl, ht'⟩
        case measure => simp [intOf]; omega
      · have h0 : bt mask m = 0 := by have := bt_le mask m; omega
        have HS : Hid (plL mask (m + 1) = plL mask m) := plL_no heq
        rw [h0] at HC
        clear heq h0
        go_wp2_with (first
          | (go_at_call 39; with_reducible refine (HC _).mono ?_; rintro e w' ⟨rfl, rfl⟩))
        go_roundw
        case rel => exact ⟨m + 1, ao, cv, by omega, by go_num, by rw [HS.out], by rw [HS.out]; exact HT⟩
        case measure => simp [intOf]; omega
    · obtain rfl : m = 64 := by omega
      have hrow := ht.row
      have HB0 : Hid (Below w.heap.size w wr) := ht.below
      obtain ⟨c, hc⟩ : ∃ c, c = ones mask := ⟨_, rfl⟩
      have HCC : Hid (c = ones mask) := hc
      have hc64 : c ≤ 64 := by rw [hc]; exact ones_le mask
      have hcdef : (plL mask 64).length = c := hc.symm
      rw [hcdef, show ((64 : Nat) : Int) = 64 from rfl]
      rw [← hc] at hrow
      have HR : Hid (Row ao (plF mask) c wr) := hrow
      have HP : Hid (Plc (plF mask) c) := by show Plc _ _; rw [hc]; exact plF_plc mask
      have HSB : Hid (∀ k, sbN mask k = putN k (plF mask) 0 c) := fun k => by rw [hc]; rfl
      clear ht hcdef hrow hc hi hz0 hz1 hz2
      go_wp2
      generalize wr = w1 at *
      go_loopw [7, 8] (fun v j wr2 => ∃ (k : Nat) (ao' : Option Addr) (cv' : Nat), k ≤ most ∧ k ≤ 2 ^ c ∧ j = .int .i64 k ∧ v = .slice ao' k cv' ∧ Hid (Told (sbL mask k) v w1 wr2)) (fun _ j _ => most - (intOf j).toNat)
      case atStart => exact ⟨0, none, 0, by omega, Nat.zero_le _, rfl, rfl, ⟨Below.refl _ _, World.ownsRow_nil _ _ _ _⟩⟩
      case round =>
        obtain ⟨k, ao', cv', hk, hk2, rfl, rfl, ht⟩ := hrel
        have HK2 : Hid (k ≤ 2 ^ c) := hk2
        clear hk2
        by_cases hlt : k < most
        · by_cases hbr : 2 ^ c ≤ k
          · have hc62 : c < 62 := by
              apply Decidable.byContradiction
              intro h
              have : 2 ^ 62 ≤ 2 ^ c := Nat.pow_le_pow_right (by decide) (by omega)
              omega
            have HE : Hid (k = min most (2 ^ ones mask)) := by
              have h1 := HK2.out
              show k = _
              rw [← HCC.out]
              omega
            have hd1 : decide ((c : Int) < 62) = true := decide_eq_true (by omega)
            have hd1' : decide (c < 62) = true := decide_eq_true (by omega)
            have hd2 : decide ((0 : Int) < (k : Int) / 2 ^ c) = true := decide_eq_true (by rw [div_pow]; have := shr_pos.2 hbr; omega)
            have hd2' : (0 : Int) < (k : Int) / 2 ^ c := by rw [div_pow]; have := shr_pos.2 hbr; omega
            clear hbr
            go_wp2
            go_ret
            exact ⟨_, rfl, by rw [← HE.out]; exact ht.out.from_ HB0.out⟩
          · have HK3 : Hid (k + 1 ≤ 2 ^ c) := by show _ ≤ _; omega
            have hdz : (k : Int) / 2 ^ c = 0 := by
              rw [div_pow, Nat.div_eq_of_lt (by omega)]; rfl
            have HDZ : Hid ((k : Int) / 2 ^ c = 0) := hdz
            have HRk : Hid (Row ao (plF mask) c wr) := HR.out.kept ht.out.below
            have hsz := ht.out.below.size
            clear hbr hdz
            generalize wr = wk at *
            by_cases hc62 : c < 62
            all_goals
              have hd1 : decide ((c : Int) < 62) = decide (c < 62) := by
                by_cases h : c < 62 <;> simp [h] <;> omega
              have hd2 : decide ((0 : Int) < (k : Int) / 2 ^ c) = false := by rw [HDZ.out]; rfl
              have hd2' : ¬ (0 : Int) < (k : Int) / 2 ^ c := by rw [HDZ.out]; decide
              go_wp2
              clear hd1 hd2 hd2'
              go_loopw [9, 10] (fun x' j ws => ∃ q m' : Nat, q ≤ c ∧ j = .int .i64 q ∧ x' = .int .u64 (putN k (plF mask) 0 q) ∧ Hid (ws = wk.drewN m')) (fun _ j _ => c - (intOf j).toNat)
              case atStart => exact ⟨0, 0, by omega, rfl, rfl, rfl⟩
              case round =>
                obtain ⟨q, m', hq, rfl, rfl, hw'⟩ := hrel
                by_cases hqc : q < c
                · obtain ⟨b, off, rfl, hc0⟩ := HRk.out.at_ q hqc
                  have hc : wr.cell? ⟨b, off + q, none⟩ = some (.int .i64 (plF mask q)) := by rw [hw'.out]; simpa using hc0
                  have hpk := HP.out q hqc
                  have h0 := hpk.1
                  have hl : putN k (plF mask) 0 q < 18446744073709551616 := putN_lt (by omega) (HP.out.mono hq)
                  have HB := fun w => bit_any k q w (by omega) (by omega)
                  have HS : ∀ w, Calls Tryd.prog 41 #[.int .u64 (putN k (plF mask) 0 q), .int .i64 (plF mask q), .int .i64 (bt k q)] w fun e w' => e = .returned (.int .u64 (setB (putN k (plF mask) 0 q) (plF mask q).toNat (bt k q))) ∧ w' = w := fun w => by
                    have := set_any (putN k (plF mask) 0 q) (plF mask q).toNat (bt k q) w hl (by omega)
                    rwa [Int.toNat_of_nonneg h0] at this
                  have HE : Hid (putN k (plF mask) 0 (q + 1) = setB (putN k (plF mask) 0 q) (plF mask q).toNat (bt k q)) := rfl
                  clear hpk h0 hc0
                  generalize setB (putN k (plF mask) 0 q) (plF mask q).toNat (bt k q) = Y at HS HE
                  generalize bt k q = B at HB HS
                  go_wp2
                  go_quiet ((first | (go_at_call 39; exact Calls.quiet_of_same (HB _)) | (go_at_call 41; exact Calls.quiet_of_same (HS _))))
                  go_wp2
                  go_roundw
                  case rel => exact ⟨q + 1, m' + nq, by omega, by go_num, by rw [HE.out], by show _ = _; rw [hw'.out]; exact drewN_two _ _ _⟩
                  case measure => simp [intOf]; omega
                · obtain rfl : q = c := by omega
                  have ht2 : Hid (Told (sbL mask k) (.slice ao' k cv') w1 wr) := by show Told _ _ _ _; rw [hw'.out]; exact ht.out.drewN m'
                  have ho := ht2.out.owns
                  rw [sbL_len] at ho
                  have hsz2 := ht2.out.below.size
                  have HSk := HSB.out k
                  rw [← HSk]
                  clear HSk hsz
                  go_wp2_with (first
                    | (at_builtin; refine wpList_append_own _ rfl _ _ 49 rfl w1.heap.size 22 i' (.int .u64 0) 1 8 Tryd.underlying49 hi' hz0' hz1' hz2' rfl (by decide) _ _ _ rfl (ho.alloc _) ⟨wr.heap.size, 0, none⟩ 1 1 [.int .u64 (sbN mask k : Int)] rfl rfl (cell_one_new _ _ _) (fun x hx => by simp at hx; subst hx; rfl) (by unfold maxLen; omega) (by omega) (by simp; omega) ?_; intro v' w3 hown' hgrow3 hnil3))
                  have hpush := ht2.out.push (by rw [sbL_len]; exact hown') hgrow3
                  rw [← sbL_succ] at hpush
                  obtain ⟨ao2, cv2, rfl⟩ := hpush.shape
                  rw [sbL_len] at hpush
                  rw [sbL_len]
                  go_roundw
                  case rel => exact ⟨k + 1, ao2, cv2, by omega, HK3.out, by go_num, rfl, hpush⟩
                  case measure => simp [intOf]; omega
        · obtain rfl : k = most := by omega
          have HE : Hid (k = min k (2 ^ ones mask)) := by
            have h1 := HK2.out
            show k = _
            rw [← HCC.out]
            omega
          go_wp2
          go_ret
          exact ⟨_, rfl, by rw [← HE.out]; exact ht.out.from_ HB0.out⟩
end Go.Proofs.YtpheplcmooljhaaDoor
