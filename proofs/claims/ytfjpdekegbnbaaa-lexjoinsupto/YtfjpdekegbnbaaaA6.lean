/-
  Tokens compared; IsName; the law's awake.
-/
import Derived.Test.YtfjpdekegbnbaaaA5
namespace Go.Proofs.Ytfjpdekegbnbaaa
open Go.RowKit Go.Sort

/-- A token as a value. -/
abbrev tv (t : Tk) : Value := .agg #[.int .i64 t.k, .string t.t, .int .i64 t.p]
theorem run_tne (k p : Int) (t : ByteArray) (w : World) : (binOp .neq 31 (.agg #[.int .i64 k, .string t, .int .i64 p]) (.agg #[.int .i64 k, .string t, .int .i64 p])).run Try.prog w = .ok (.bool false) w := by
  simp [go_sem]
theorem run_teq (k p : Int) (t : ByteArray) (w : World) : (binOp .eql 31 (.agg #[.int .i64 k, .string t, .int .i64 p]) (.agg #[.int .i64 k, .string t, .int .i64 p])).run Try.prog w = .ok (.bool true) w := by
  simp [go_sem]

set_option maxHeartbeats 1000000 in
theorem same_any (l : List Tk) (va vb : Value) (w : World) (ha : SL w va l) (hb : SL w vb l) (hl : l.length ≤ 4398046511104) :
    Calls Try.prog 11 #[va, vb] w fun e w' => e = .returned (.bool true) ∧ Below w.heap.size w w' := by
  rcases ha with ⟨rfl, rfl⟩ | ⟨b1, o1, c1, rfl, hc1, r1⟩
  · rcases hb with ⟨rfl, _⟩ | ⟨b2, o2, c2, rfl, hc2, r2⟩
    · go_enter Try.func11, Try.ntmps11
      go_upto_region 4 with (fail)
      go_loopw [5] (fun v wr => v = .int .i64 0 ∧ wr = w) (fun _ _ => 0)
      case atStart => exact ⟨rfl, rfl⟩
      case round =>
        obtain ⟨rfl, rfl⟩ := hrel
        go_wp2
        go_ret
        exact ⟨rfl, Below.refl _ _⟩
    · go_enter Try.func11, Try.ntmps11
      go_upto_region 4 with (fail)
      go_loopw [5] (fun v wr => v = .int .i64 0 ∧ wr = w) (fun _ _ => 0)
      case atStart => exact ⟨rfl, rfl⟩
      case round =>
        obtain ⟨rfl, rfl⟩ := hrel
        go_wp2
        go_ret
        exact ⟨rfl, Below.refl _ _⟩
  · obtain ⟨a2, c2, rfl, hcc, h2⟩ : ∃ a2 c2, vb = .slice a2 l.length c2 ∧ l.length ≤ c2 ∧ (l = [] ∨ ∃ b2 o2, a2 = some ⟨b2, o2, none⟩ ∧ RT w b2 o2 l) := by
      rcases hb with ⟨rfl, rfl⟩ | ⟨b2, o2, c2, rfl, hc2, r2⟩
      · exact ⟨none, 0, rfl, Nat.le_refl _, .inl rfl⟩
      · exact ⟨_, c2, rfl, hc2, .inr ⟨b2, o2, rfl, r2⟩⟩
    have H1 : Hid (RT w b1 o1 l) := r1
    have H2 : Hid (l = [] ∨ ∃ b2 o2, a2 = some ⟨b2, o2, none⟩ ∧ RT w b2 o2 l) := h2
    clear r1 h2
    go_enter Try.func11, Try.ntmps11
    go_upto_region 4 with (fail)
    go_loopw [5] (fun v wr => ∃ k : Nat, k ≤ l.length ∧ v = .int .i64 k ∧ Below w.heap.size w wr) (fun v _ => l.length - (intOf v).toNat)
    case atStart => exact ⟨0, by omega, rfl, Below.refl _ _⟩
    case round =>
      obtain ⟨k, hk, rfl, hB⟩ := hrel
      by_cases hlt : k < l.length
      · have R1 := H1.out.below hB
        obtain ⟨b2, o2, rfl, r2⟩ : ∃ b2 o2, a2 = some ⟨b2, o2, none⟩ ∧ RT w b2 o2 l := by
          rcases H2.out with h | h
          · rw [h] at hlt; exact absurd hlt (Nat.not_lt_zero _)
          · exact h
        have R2 := r2.below hB
        have d0 := R1.c0 k hlt
        have d1 := R1.c1 k hlt
        have d2 := R1.c2 k hlt
        have e0 := R2.c0 k hlt
        have e1 := R2.c1 k hlt
        have e2 := R2.c2 k hlt
        have TN := fun w => run_tne l[k].k l[k].p l[k].t w
        generalize l[k].k = x at *
        generalize l[k].p = y at *
        generalize l[k].t = z at *
        clear R1 R2 r2 H1 H2
        go_upto_region 6 with (fail)
        go_quiet (fail)
        go_wp2
        go_roundw
        case rel => exact ⟨k + 1, by omega, by go_num, below_drewN hB _⟩
        case measure => simp [intOf]; omega
      · obtain rfl : k = l.length := by omega
        go_wp2
        go_ret
        exact ⟨rfl, hB⟩

theorem ne_empty {s : ByteArray} (h : 0 < s.size) : (s.toList == []) = false := by
  rw [ByteArray.toList_eq]
  cases e : s.data.toList with
  | nil =>
    have : s.data.toList.length = s.size := rfl
    rw [e] at this
    simp at this
    omega
  | cons x r => rfl
/-- The bytes are a name. -/
def nmB (s : ByteArray) : Bool := isL (cb s 0) && decide (run isN s 0 = s.size)
theorem isName_any (s : ByteArray) (w : World) (hs : s.size ≤ 9223372036854775807) :
    Calls Try.prog 14 #[.string s] w fun e w' => e = .returned (.bool (nmB s)) ∧ w' = w := by
  by_cases h0 : 0 < s.size
  · have LA := fun w => letter2_any s[0].toNat w
    have EN : ∀ w, Calls Try.prog 23 #[.string s, .int .i64 0] w fun e w' => e = .returned (.int .i64 (run isN s 0 : Nat)) ∧ w' = w := fun w => nameEnd_any s 0 _ w hs (run_end isN6 (i := 0) (s := s) (by omega))
    have hz := ne_empty h0
    unfold nmB
    rw [cb_at h0]
    generalize run isN s 0 = j at *
    cases hL : isL s[0].toNat with
    | true =>
      rw [hL] at LA
      clear hL
      go_enter Try.func14, Try.ntmps14
      go_wp2_with (first | (go_at_call 22; (with_reducible refine (LA _).mono ?_); rintro e w1 ⟨rfl, rfl⟩) | (go_at_call 23; (with_reducible refine (EN _).mono ?_); rintro e w1 ⟨rfl, rfl⟩))
      go_ret
      exact ⟨ret_b (by simp; omega), rfl⟩
    | false =>
      rw [hL] at LA
      clear hL
      go_enter Try.func14, Try.ntmps14
      go_wp2_with (first | (go_at_call 22; (with_reducible refine (LA _).mono ?_); rintro e w1 ⟨rfl, rfl⟩) | (go_at_call 23; (with_reducible refine (EN _).mono ?_); rintro e w1 ⟨rfl, rfl⟩))
      go_ret
      exact ⟨rfl, rfl⟩
  · obtain rfl : s = ⟨#[]⟩ := by
      apply ByteArray.ext
      exact Array.eq_empty_of_size_eq_zero (by show s.size = 0; omega)
    go_enter Try.func14, Try.ntmps14
    go_wp2
    go_ret
    exact ⟨rfl, rfl⟩

def wakeS : ByteArray := ⟨#[104, 32, 113, 91, 48, 93, 59]⟩
def wakeL : List Tk := [⟨1, ⟨#[104]⟩, 0⟩, ⟨1, ⟨#[113]⟩, 2⟩, ⟨3, ⟨#[91]⟩, 3⟩, ⟨2, ⟨#[48]⟩, 4⟩, ⟨3, ⟨#[93]⟩, 5⟩, ⟨3, ⟨#[59]⟩, 6⟩]
theorem wake_pre : it wakeS 7 = (7, wakeL) := by rfl
theorem wake_out : Out wakeS wakeL 0 0 := .inr (.inl ⟨by decide, ⟨7, wake_pre⟩, rfl, rfl⟩)
def badS : ByteArray := ⟨#[97, 45, 98]⟩
theorem bad_pre : it badS 1 = (1, [⟨1, ⟨#[97]⟩, 0⟩]) := by rfl
theorem bad_out : Out badS [] 1 90 := .inr (.inr ⟨by decide, rfl, rfl, 1, _, ⟨1, bad_pre⟩, .inr ⟨by decide, rfl, by decide, by decide, by decide, by decide, by decide⟩⟩)
theorem nm_wake : nmB ⟨#[95, 97, 49]⟩ = true := by decide
theorem SL.ex {W : World} {v : Value} {l : List Tk} (h : SL W v l) (hl : 0 < l.length) : ∃ b o c, v = .slice (some ⟨b, o, none⟩) l.length c ∧ l.length ≤ c ∧ RT W b o l := by
  rcases h with ⟨_, rfl⟩ | h
  · exact absurd hl (Nat.lt_irrefl _)
  · exact h
theorem SI.sl {w W : World} {v : Value} {l : List Tk} (h : SI w W v l) : SL W v l := own_sl h.own

set_option maxHeartbeats 1000000 in
theorem awake_any (w : World) : Calls Try.prog 8 #[] w fun e w' => e = .returned (.bool true) ∧ Below w.heap.size w w' := by
  have S1 : ∀ w, Calls Try.prog 10 #[.string ⟨#[104, 32, 113, 91, 48, 93, 59]⟩] w fun x w' => ∃ v, x = .returned (.tuple #[v, .int .i64 0, .int .i64 0]) ∧ SI w w' v wakeL := fun w => scan_any wakeS wakeL 0 0 w (by decide) wake_out
  have S2 : ∀ w, Calls Try.prog 10 #[.string ⟨#[97, 45, 98]⟩] w fun x w' => ∃ v, x = .returned (.tuple #[v, .int .i64 1, .int .i64 90]) ∧ SI w w' v [] := fun w => scan_any badS [] 1 90 w (by decide) bad_out
  have NM := fun w => isName_any ⟨#[95, 97, 49]⟩ w (by decide)
  rw [nm_wake] at NM
  go_enter Try.func8, Try.ntmps8
  go_wp2_with (first
    | (go_at_call 10; (with_reducible refine (S1 _).mono ?_); rintro e w1 ⟨v1, rfl, hI1⟩)
    | (go_at_call 10; (with_reducible refine (S2 _).mono ?_); rintro e w2 ⟨v2, rfl, hI2⟩; have hL := hI1.sl.below hI2.below; obtain ⟨b, o, c, rfl, hc, r⟩ := hL.ex (by decide); have d0 : w2.cell? ⟨b, o + 3, none⟩ = some (.int .i64 1) := r.c0 1 (by decide); have d1 : w2.cell? ⟨b, o + 3 + 1, none⟩ = some (.string ⟨#[113]⟩) := r.c1 1 (by decide); have d2 : w2.cell? ⟨b, o + 3 + 2, none⟩ = some (.int .i64 2) := r.c2 1 (by decide); have d3 : w2.cell? ⟨b, o + 9, none⟩ = some (.int .i64 2) := r.c0 3 (by decide); have d4 : w2.cell? ⟨b, o + 15 + 1, none⟩ = some (.string ⟨#[59]⟩) := r.c1 5 (by decide); have hc6 : 6 ≤ c := hc; have hK := btr hI1.below hI2.below; clear r hc hL hI1 hI2)
    | (go_at_call 14; (with_reducible refine (NM _).mono ?_); rintro e w3 ⟨rfl, rfl⟩))
  go_ret
  exact ⟨rfl, hK⟩
end Go.Proofs.Ytfjpdekegbnbaaa
