/-
  Parse of package pauli.
-/
import Derived.Test.YtoddbaljnlhhaaaPM5
namespace Go.Proofs.Ytoddbaljnlhhaaa.PL
open Go.RowKit Go.Sort

theorem cutSign_any (L : List UInt8) (w : World) : Calls Try.prog 103 #[.string ⟨L.toArray⟩] w fun e w' => e = .returned (.tuple #[.int .i64 ((cutS L).1 : Nat), .string ⟨(cutS L).2.toArray⟩]) ∧ w' = w := by
  have C1 := fun w => Try.strings_CutPrefix ⟨L.toArray⟩ ⟨#[45]⟩ w
  have C2 := fun w => Try.strings_TrimPrefix ⟨L.toArray⟩ ⟨#[43]⟩ w
  have e0 : (⟨L.toArray⟩ : ByteArray).data.toList = L := rfl
  have e1 : (⟨#[45]⟩ : ByteArray).data.toList = [45] := rfl
  have e2 : (⟨#[43]⟩ : ByteArray).data.toList = [43] := rfl
  have e3 : (⟨#[105]⟩ : ByteArray).data.toList = [105] := rfl
  rw [e0, e1] at C1
  rw [e0, e2] at C2
  unfold cutS cut1
  by_cases h1 : Lib.hasPrefix L [45] = true
  · simp only [if_pos h1]
    rw [h1] at C1
    generalize Lib.trimPrefix L [45] = r at *
    have C3 := fun w => Try.strings_CutPrefix ⟨r.toArray⟩ ⟨#[105]⟩ w
    have e4 : (⟨r.toArray⟩ : ByteArray).data.toList = r := rfl
    rw [e4, e3] at C3
    by_cases h2 : Lib.hasPrefix r [105] = true
    · simp only [if_pos h2]
      rw [h2] at C3
      generalize Lib.trimPrefix r [105] = q at *
      clear e0 e1 e2 e3 e4 h1 h2
      go_enter Try.func103, Try.ntmps103
      go_wp2_with (first
        | (go_at_call 107; (with_reducible refine (C1 _).mono ?_); rintro e w1 ⟨rfl, rfl⟩)
        | (go_at_call 107; (with_reducible refine (C3 _).mono ?_); rintro e w1 ⟨rfl, rfl⟩))
      go_ret2
      exact ⟨rfl, rfl⟩
    · simp only [if_neg h2]
      rw [show Lib.hasPrefix r [105] = false by simpa using h2] at C3
      generalize Lib.trimPrefix r [105] = q at *
      clear e0 e1 e2 e3 e4 h1 h2
      go_enter Try.func103, Try.ntmps103
      go_wp2_with (first
        | (go_at_call 107; (with_reducible refine (C1 _).mono ?_); rintro e w1 ⟨rfl, rfl⟩)
        | (go_at_call 107; (with_reducible refine (C3 _).mono ?_); rintro e w1 ⟨rfl, rfl⟩))
      go_ret2
      exact ⟨rfl, rfl⟩
  · simp only [if_neg h1]
    rw [show Lib.hasPrefix L [45] = false by simpa using h1] at C1
    generalize Lib.trimPrefix L [45] = r0 at *
    generalize Lib.trimPrefix L [43] = r at *
    have C3 := fun w => Try.strings_CutPrefix ⟨r.toArray⟩ ⟨#[105]⟩ w
    have e4 : (⟨r.toArray⟩ : ByteArray).data.toList = r := rfl
    rw [e4, e3] at C3
    by_cases h2 : Lib.hasPrefix r [105] = true
    · simp only [if_pos h2]
      rw [h2] at C3
      generalize Lib.trimPrefix r [105] = q at *
      clear e0 e1 e2 e3 e4 h1 h2
      go_enter Try.func103, Try.ntmps103
      go_wp2_with (first
        | (go_at_call 107; (with_reducible refine (C1 _).mono ?_); rintro e w1 ⟨rfl, rfl⟩)
        | (go_at_call 108; (with_reducible refine (C2 _).mono ?_); rintro e w1 ⟨rfl, rfl⟩)
        | (go_at_call 107; (with_reducible refine (C3 _).mono ?_); rintro e w1 ⟨rfl, rfl⟩))
      go_ret2
      exact ⟨rfl, rfl⟩
    · simp only [if_neg h2]
      rw [show Lib.hasPrefix r [105] = false by simpa using h2] at C3
      generalize Lib.trimPrefix r [105] = q at *
      clear e0 e1 e2 e3 e4 h1 h2
      go_enter Try.func103, Try.ntmps103
      go_wp2_with (first
        | (go_at_call 107; (with_reducible refine (C1 _).mono ?_); rintro e w1 ⟨rfl, rfl⟩)
        | (go_at_call 108; (with_reducible refine (C2 _).mono ?_); rintro e w1 ⟨rfl, rfl⟩)
        | (go_at_call 107; (with_reducible refine (C3 _).mono ?_); rintro e w1 ⟨rfl, rfl⟩))
      go_ret2
      exact ⟨rfl, rfl⟩

theorem kd_let {c : Nat} (h : isLet c) : 0 ≤ kd c := by rcases h with rfl | rfl | rfl | rfl <;> decide
theorem kd_nolet {c : Nat} (h : ¬ isLet c) : kd c = -1 := by
  unfold kd
  have h1 : c ≠ 73 := fun e => h (.inl e)
  have h2 : c ≠ 88 := fun e => h (.inr (.inl e))
  have h3 : c ≠ 89 := fun e => h (.inr (.inr (.inl e)))
  have h4 : c ≠ 90 := fun e => h (.inr (.inr (.inr e)))
  simp [h1, h2, h3, h4]

set_option maxHeartbeats 1000000 in
theorem parse_bad (L : List UInt8) (w : World) (hl : L.length ≤ 9223372036854775807) (hb : ¬ AllLet (cutS L).2) :
    Calls Try.prog 98 #[.string ⟨L.toArray⟩] w fun e w' => e = .returned (.tuple #[pv 0 0 0 0, .int .i64 70]) ∧ Below w.heap.size w w' := by
  have CS := fun w => cutSign_any L w
  have hr : (cutS L).2.length ≤ 9223372036854775807 := Nat.le_trans (cutS_len L) hl
  have hf := cutS_f L
  generalize (cutS L).2 = R at *
  generalize (cutS L).1 = F at *
  have KD := fun (k : Nat) w => kind_any (gl R k) w (gl_lt R k)
  obtain ⟨hW, b1⟩ := one_box w 0 0 0 0
  obtain ⟨B, c, W1, CV0, hB1, hc, hBb, hC⟩ := conv_rd R (w.alloc (pc 0 0 0 0))
  have CV : (convert 9 89 (.string ⟨R.toArray⟩)).run Try.prog (w.alloc (.cells #[.int .i64 0, .int .u64 0, .int .u64 0, .int .i64 0] 27)) = .ok (.slice (some ⟨B, 0, none⟩) R.length c) W1 := CV0
  have b2 := b1.below hB1
  clear CV0
  have HC : Hid (∀ j, j < R.length → W1.cell? ⟨B, j, none⟩ = some (.int .u8 (gl R j : Nat))) := hC
  have HB : Hid (¬ AllLet R) := hb
  clear hC hb hl
  go_enter Try.func98, Try.ntmps98
  go_upto_region 3 with (go_at_call 103; (with_reducible refine (CS _).mono ?_); rintro e w1 ⟨rfl, rfl⟩)
  clear CV CS
  go_loop [20] (fun i => ∃ k : Nat, k ≤ R.length ∧ i = .int .i64 k ∧ Hid (∀ j, j < k → isLet (gl R j))) (fun i => R.length - (intOf i).toNat)
  case atStart => exact ⟨0, by omega, rfl, fun j hj => by omega⟩
  case round =>
    obtain ⟨k, hk, rfl, hall⟩ := hrel
    by_cases hlt : k < R.length
    · have hcell := HC.out k hlt
      have KDk := fun w => KD k w
      have HN : Hid (isLet (gl R k) → ∀ j, j < k + 1 → isLet (gl R j)) := fun hl j hj => if e : j < k then hall.out j e else by
        obtain rfl : j = k := by omega
        exact hl
      by_cases hlet : isLet (gl R k)
      · have hkd := kd_let hlet
        have HL : Hid (isLet (gl R k)) := hlet
        generalize kd (gl R k) = kk at *
        have hkd' : ¬ kk < 0 := by omega
        clear KD hlet
        go_wp2_with (go_at_call 62; (with_reducible refine (KDk _).mono ?_); rintro e w1 ⟨rfl, rfl⟩)
        go_round
        case rel => exact ⟨k + 1, by omega, by go_num, HN.out HL.out⟩
        case measure => simp [intOf]; omega
      · rw [kd_nolet hlet] at KDk
        clear KD hlet
        obtain ⟨d0, d1, d2, d3, g0, g1, g2, g3⟩ := b2
        go_wp2_with (go_at_call 62; (with_reducible refine (KDk _).mono ?_); rintro e w1 ⟨rfl, rfl⟩)
        refine bodyPost_ret (v := .tuple #[pv 0 0 0 0, .int .i64 70]) (by simp [results, Try.results98, go_sem, d0, d1, d2, d3]) rfl ⟨rfl, ?_⟩
        repeat (first | exact btr hW hB1 | refine bset ?_ _ _ _ (by omega))
    · obtain rfl : k = R.length := by omega
      exact absurd (fun j hj => hall.out j hj) HB.out
end Go.Proofs.Ytoddbaljnlhhaaa.PL
