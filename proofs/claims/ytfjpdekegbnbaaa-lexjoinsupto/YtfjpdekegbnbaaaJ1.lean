/-
  Which tokens are right: the program's isToken, the reference's right, IsName and IsNumber.
-/
import Derived.Test.YtfjpdekegbnbaaaA6
namespace Go.Proofs.Ytfjpdekegbnbaaa
open Go.RowKit Go.Sort

def nuB (s : ByteArray) : Bool := decide (0 < s.size) && decide (run isD s 0 = s.size)
def sgB (s : ByteArray) : Bool := decide (s.size = 1) && isS (cb s 0)
def rightB (t : Tk) : Bool := if t.k = 1 then nmB t.t else if t.k = 2 then nuB t.t else if t.k = 3 then sgB t.t else false
theorem empty_of {s : ByteArray} (h : ¬ 0 < s.size) : s = ⟨#[]⟩ := by
  apply ByteArray.ext
  exact Array.eq_empty_of_size_eq_zero (by show s.size = 0; omega)

set_option maxHeartbeats 1000000 in
theorem rname_any (s : ByteArray) (w : World) (hs : s.size ≤ 9223372036854775807) :
    Calls Try.prog 15 #[.string s] w fun e w' => e = .returned (.bool (nmB s)) ∧ w' = w := by
  by_cases h0 : 0 < s.size
  · have DA := fun w => digit_any s[0].toNat w
    have hz := ne_empty h0
    have he := run_end isN6 (i := 0) (s := s) (by omega)
    cases hD : isD s[0].toNat with
    | true =>
      obtain ⟨_, _, h3, _⟩ := nB_of_D hD
      have hm : nmB s = false := by unfold nmB; rw [cb_at h0, fls h3]; rfl
      rw [hm]
      rw [hD] at DA
      clear hD h3 hm he
      go_enter Try.func15, Try.ntmps15
      go_wp2_with (go_at_call 19; (with_reducible refine (DA _).mono ?_); rintro e w1 ⟨rfl, rfl⟩)
      go_ret
      exact ⟨rfl, rfl⟩
    | false =>
      have hn : nmB s = decide (run isN s 0 = s.size) := by
        unfold nmB
        by_cases e : run isN s 0 = s.size
        · have := he.all 0 (Nat.le_refl _) (by omega)
          rw [cb_at h0] at this ⊢
          rcases isN_p.1 this with g | g
          · rw [g]; simp
          · rw [hD] at g; exact absurd g (by decide)
        · rw [decide_eq_false e]; simp
      rw [hn]
      rw [hD] at DA
      clear hD hn
      generalize run isN s 0 = j at *
      have HE : Hid (End isN s 0 j) := he
      have hjs := he.sz
      clear he
      go_enter Try.func15, Try.ntmps15
      go_upto_region 4 with (go_at_call 19; (with_reducible refine (DA _).mono ?_); rintro e w1 ⟨rfl, rfl⟩)
      clear DA
      go_loopg [3] (j + 1) (fun g v wr => wr = w1 ∧ ∃ k : Nat, k ≤ j ∧ g = j + 1 - k ∧ v = .int .i64 k)
      case atStart => exact ⟨rfl, 0, by omega, rfl, rfl⟩
      case round =>
        obtain ⟨rfl, k, hkj, rfl, rfl⟩ := hrel
        by_cases hk : k < j
        · have hks : k < s.size := by omega
          have hb := HE.out.all k (by omega) hk
          rw [cb_at hks] at hb
          have LA := fun w => letter_any s[k].toNat w
          have DA := fun w => digit_any s[k].toNat w
          cases hL : isL s[k].toNat with
          | true =>
            rw [hL] at LA
            clear hb DA hL
            go_wp2_with (go_at_call 18; (with_reducible refine (LA _).mono ?_); rintro e w1 ⟨rfl, rfl⟩)
            go_roundg (j + 1 - (k + 1))
            case measure => omega
            case rel => exact ⟨rfl, k + 1, by omega, rfl, by go_num⟩
          | false =>
            have hD : isD s[k].toNat = true := by
              rcases isN_p.1 hb with g | g
              · rw [hL] at g; exact absurd g (by decide)
              · exact g
            rw [hL] at LA
            rw [hD] at DA
            clear hb hL hD
            go_wp2_with (first | (go_at_call 18; (with_reducible refine (LA _).mono ?_); rintro e w1 ⟨rfl, rfl⟩) | (go_at_call 19; (with_reducible refine (DA _).mono ?_); rintro e w1 ⟨rfl, rfl⟩))
            go_roundg (j + 1 - (k + 1))
            case measure => omega
            case rel => exact ⟨rfl, k + 1, by omega, rfl, by go_num⟩
        · obtain rfl : k = j := by omega
          by_cases hks : k < s.size
          · obtain ⟨hL, hD⟩ := isN_f HE.out.no
            rw [cb_at hks] at hL hD
            have LA := fun w => letter_any s[k].toNat w
            have DA := fun w => digit_any s[k].toNat w
            rw [hL] at LA
            rw [hD] at DA
            clear hL hD
            go_wp2_with (first | (go_at_call 18; (with_reducible refine (LA _).mono ?_); rintro e w9 ⟨rfl, rfl⟩) | (go_at_call 19; (with_reducible refine (DA _).mono ?_); rintro e w9 ⟨rfl, rfl⟩))
            go_ret
            exact ⟨ret_b ⟨fun h => absurd h (by decide), fun h => absurd (of_decide_eq_true h) (by omega)⟩, rfl⟩
          · obtain rfl : k = s.size := by omega
            go_wp2
            go_ret
            exact ⟨rfl, rfl⟩
  · obtain rfl := empty_of h0
    go_enter Try.func15, Try.ntmps15
    go_wp2
    go_ret
    exact ⟨rfl, rfl⟩

set_option maxHeartbeats 1000000 in
theorem rnumber_any (s : ByteArray) (w : World) (hs : s.size ≤ 9223372036854775807) :
    Calls Try.prog 36 #[.string s] w fun e w' => e = .returned (.bool (nuB s)) ∧ w' = w := by
  by_cases h0 : 0 < s.size
  · have hz := ne_empty h0
    have he := run_end isD6 (i := 0) (s := s) (by omega)
    have hn : nuB s = decide (run isD s 0 = s.size) := by unfold nuB; rw [decide_eq_true h0]; rfl
    rw [hn]
    clear hn
    generalize run isD s 0 = j at *
    have HE : Hid (End isD s 0 j) := he
    have hjs := he.sz
    clear he
    go_enter Try.func36, Try.ntmps36
    go_upto_region 2 with (fail)
    go_loopg [3] (j + 1) (fun g v wr => wr = w ∧ ∃ k : Nat, k ≤ j ∧ g = j + 1 - k ∧ v = .int .i64 k)
    case atStart => exact ⟨rfl, 0, by omega, rfl, rfl⟩
    case round =>
      obtain ⟨rfl, k, hkj, rfl, rfl⟩ := hrel
      by_cases hk : k < j
      · have hks : k < s.size := by omega
        have hb := HE.out.all k (by omega) hk
        rw [cb_at hks] at hb
        have DA := fun w => digit_any s[k].toNat w
        rw [hb] at DA
        clear hb
        go_wp2_with (go_at_call 19; (with_reducible refine (DA _).mono ?_); rintro e w1 ⟨rfl, rfl⟩)
        go_roundg (j + 1 - (k + 1))
        case measure => omega
        case rel => exact ⟨rfl, k + 1, by omega, rfl, by go_num⟩
      · obtain rfl : k = j := by omega
        by_cases hks : k < s.size
        · have hD := HE.out.no
          rw [cb_at hks] at hD
          have DA := fun w => digit_any s[k].toNat w
          rw [hD] at DA
          clear hD
          go_wp2_with (go_at_call 19; (with_reducible refine (DA _).mono ?_); rintro e w9 ⟨rfl, rfl⟩)
          go_ret
          exact ⟨ret_b ⟨fun h => absurd h (by decide), fun h => absurd (of_decide_eq_true h) (by omega)⟩, rfl⟩
        · obtain rfl : k = s.size := by omega
          go_wp2
          go_ret
          exact ⟨rfl, rfl⟩
  · obtain rfl := empty_of h0
    go_enter Try.func36, Try.ntmps36
    go_upto_region 2 with (fail)
    go_loopg [3] 1 (fun g v wr => wr = w ∧ v = .int .i64 0)
    case atStart => exact ⟨rfl, rfl⟩
    case round =>
      obtain ⟨rfl, rfl⟩ := hrel
      go_wp2
      go_ret
      exact ⟨rfl, rfl⟩

set_option maxHeartbeats 1000000 in
theorem isToken_any (t : Tk) (w : World) (hs : t.t.size ≤ 9223372036854775807) :
    Calls Try.prog 29 #[.agg #[.int .i64 t.k, .string t.t, .int .i64 t.p]] w fun e w' => e = .returned (.bool (rightB t)) ∧ Below w.heap.size w w' := by
  unfold rightB
  obtain ⟨k, s, p⟩ := t
  simp only at hs ⊢
  have hW := bal (Below.refl w.heap.size w) (.cells #[.int .i64 k, .string s, .int .i64 p] 31)
  by_cases h1 : k = 1
  · subst h1
    rw [if_pos rfl]
    have NA := fun w => isName_any s w hs
    generalize nmB s = r at *
    go_enter Try.func29, Try.ntmps29
    go_wp2_with (go_at_call 14; (with_reducible refine (NA _).mono ?_); rintro e w1 ⟨rfl, rfl⟩)
    go_ret
    exact ⟨rfl, hW⟩
  rw [if_neg h1]
  by_cases h2 : k = 2
  · subst h2
    rw [if_pos rfl]
    by_cases h0 : 0 < s.size
    · have EN : ∀ w, Calls Try.prog 25 #[.string s, .int .i64 0] w fun e w' => e = .returned (.int .i64 (run isD s 0 : Nat)) ∧ w' = w := fun w => numberEnd_any s 0 _ w hs (run_end isD6 (i := 0) (s := s) (by omega))
      have hz := ne_empty h0
      have hn : nuB s = decide (run isD s 0 = s.size) := by unfold nuB; rw [decide_eq_true h0]; rfl
      rw [hn]
      clear hn
      generalize run isD s 0 = j at *
      go_enter Try.func29, Try.ntmps29
      go_upto_region 5 with (fail)
      go_quiet ((go_at_call 25; exact Calls.quiet_of_same (EN _)))
      go_wp2
      go_ret
      exact ⟨ret_b (by simp; omega), below_drewN hW _⟩
    · obtain rfl := empty_of h0
      have hm : nuB ⟨#[]⟩ = false := by decide
      rw [hm]
      clear hm
      go_enter Try.func29, Try.ntmps29
      go_upto_region 5 with (fail)
      go_quiet (fail)
      go_wp2
      go_ret
      exact ⟨rfl, below_drewN hW _⟩
  rw [if_neg h2]
  by_cases h3 : k = 3
  · subst h3
    rw [if_pos rfl]
    by_cases h0 : s.size = 1
    · have h0' : 0 < s.size := by omega
      have SA := fun w => sign2_any s[0].toNat w
      have hm : sgB s = isS s[0].toNat := by unfold sgB; rw [decide_eq_true h0, cb_at h0']; rfl
      rw [hm]
      have h0i : ((s.size : Int) == 1) = true := by simp; omega
      clear hm h1 h2
      generalize isS s[0].toNat = r at *
      go_enter Try.func29, Try.ntmps29
      go_wp2_with (go_at_call 26; (with_reducible refine (SA _).mono ?_); rintro e w1 ⟨rfl, rfl⟩)
      go_ret
      exact ⟨rfl, hW⟩
    · have hm : sgB s = false := by unfold sgB; rw [decide_eq_false h0]; rfl
      rw [hm]
      have h0i : ((s.size : Int) == 1) = false := by simp; omega
      clear hm h1 h2 h0
      go_enter Try.func29, Try.ntmps29
      go_wp2
      go_ret
      exact ⟨rfl, hW⟩
  · rw [if_neg h3]
    have k1 : (k == 1) = false := by simp [h1]
    have k2 : (k == 2) = false := by simp [h2]
    have k3 : (k == 3) = false := by simp [h3]
    clear h1 h2 h3
    go_enter Try.func29, Try.ntmps29
    go_wp2
    go_ret
    exact ⟨rfl, hW⟩

set_option maxHeartbeats 1000000 in
theorem rright_any (t : Tk) (w : World) (hs : t.t.size ≤ 9223372036854775807) :
    Calls Try.prog 28 #[.agg #[.int .i64 t.k, .string t.t, .int .i64 t.p]] w fun e w' => e = .returned (.bool (rightB t)) ∧ Below w.heap.size w w' := by
  unfold rightB
  obtain ⟨k, s, p⟩ := t
  simp only at hs ⊢
  have hW := bal (Below.refl w.heap.size w) (.cells #[.int .i64 k, .string s, .int .i64 p] 31)
  by_cases h1 : k = 1
  · subst h1
    rw [if_pos rfl]
    have NA := fun w => rname_any s w hs
    generalize nmB s = r at *
    go_enter Try.func28, Try.ntmps28
    go_wp2_with (go_at_call 15; (with_reducible refine (NA _).mono ?_); rintro e w1 ⟨rfl, rfl⟩)
    go_ret
    exact ⟨rfl, hW⟩
  rw [if_neg h1]
  by_cases h2 : k = 2
  · subst h2
    rw [if_pos rfl]
    have NA := fun w => rnumber_any s w hs
    generalize nuB s = r at *
    clear h1
    go_enter Try.func28, Try.ntmps28
    go_wp2_with (go_at_call 36; (with_reducible refine (NA _).mono ?_); rintro e w1 ⟨rfl, rfl⟩)
    go_ret
    exact ⟨rfl, hW⟩
  rw [if_neg h2]
  by_cases h3 : k = 3
  · subst h3
    rw [if_pos rfl]
    by_cases h0 : s.size = 1
    · have h0' : 0 < s.size := by omega
      have SA := fun w => sign_any s[0].toNat w
      have hm : sgB s = isS s[0].toNat := by unfold sgB; rw [decide_eq_true h0, cb_at h0']; rfl
      rw [hm]
      have h0i : ((s.size : Int) == 1) = true := by simp; omega
      clear hm h1 h2
      generalize isS s[0].toNat = r at *
      go_enter Try.func28, Try.ntmps28
      go_wp2_with (go_at_call 20; (with_reducible refine (SA _).mono ?_); rintro e w1 ⟨rfl, rfl⟩)
      go_ret
      exact ⟨rfl, hW⟩
    · have hm : sgB s = false := by unfold sgB; rw [decide_eq_false h0]; rfl
      rw [hm]
      have h0i : ((s.size : Int) == 1) = false := by simp; omega
      clear hm h1 h2 h0
      go_enter Try.func28, Try.ntmps28
      go_wp2
      go_ret
      exact ⟨rfl, hW⟩
  · rw [if_neg h3]
    have k1 : (k == 1) = false := by simp [h1]
    have k2 : (k == 2) = false := by simp [h2]
    have k3 : (k == 3) = false := by simp [h3]
    clear h1 h2 h3
    go_enter Try.func28, Try.ntmps28
    go_wp2
    go_ret
    exact ⟨rfl, hW⟩
end Go.Proofs.Ytfjpdekegbnbaaa
