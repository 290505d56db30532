/-
  The law LexPlaces.
-/
import Derived.Test.YtfjpdekegbnbaaaC1
namespace Go.Proofs.Ytfjpdekegbnbaaa
open Go.RowKit Go.Sort

/-- A slice of tokens, whatever its address where it is empty. -/
def SF (W : World) (v : Value) (l : List Tk) : Prop := ∃ a c, v = .slice a l.length c ∧ l.length ≤ c ∧ ∀ k, k < l.length → ∃ b o, a = some ⟨b, o, none⟩ ∧ RT W b o l
theorem SF.below {W W' : World} {v : Value} {l : List Tk} (h : SF W v l) (hb : Below W.heap.size W W') : SF W' v l := by
  obtain ⟨a, c, e, hc, hr⟩ := h
  exact ⟨a, c, e, hc, fun k hk => by obtain ⟨b, o, e, r⟩ := hr k hk; exact ⟨b, o, e, r.below hb⟩⟩
theorem SL.form {W : World} {v : Value} {l : List Tk} (h : SL W v l) : SF W v l := by
  rcases h with ⟨rfl, rfl⟩ | ⟨b, o, c, rfl, hc, r⟩
  · exact ⟨none, 0, rfl, Nat.le_refl _, fun k hk => absurd hk (Nat.not_lt_zero _)⟩
  · exact ⟨_, c, rfl, hc, fun _ _ => ⟨b, o, rfl, r⟩⟩
theorem run_from (s : ByteArray) (i : Nat) (h : i ≤ s.size) (w : World) : (Instr.slice 9 (.string s) (some (.int .i64 (i : Int))) none none).run Try.prog w = .ok (.string (s.extract i s.size)) w := by
  rw [run_slice_string_from_if w 9 s .i64 i Try.underlying9, if_pos ⟨by omega, by omega⟩]
  rfl

set_option maxHeartbeats 4000000 in
set_option maxRecDepth 100000 in
theorem places_any (s : ByteArray) (w : World) (hs : s.size ≤ 9223372036854775807) :
    Calls Try.prog 5 #[.string s] w fun e w' => e = .returned (.bool true) ∧ Below w.heap.size w w' := by
  obtain ⟨l, a, e, ho⟩ := out_ex s
  have AW := fun w => awake_any w
  have CS := fun w => scan_any s l a e w hs ho
  rcases ho with ⟨_, rfl, rfl, rfl⟩ | ⟨h6, hp, rfl, rfl⟩ | ⟨h6, rfl, rfl, i, m, hp, hb⟩
  · go_enter Try.func5, Try.ntmps5
    go_wp2_with (first
      | (go_at_call 8; (with_reducible refine (AW _).mono ?_); rintro e w1 ⟨rfl, hN1⟩)
      | (go_at_call 10; (with_reducible refine (CS _).mono ?_); rintro e w2 ⟨v, rfl, hI⟩; obtain ⟨a, c, rfl⟩ := hI.shape))
    go_ret
    exact ⟨rfl, btr hN1 hI.below⟩
  · obtain ⟨f, hPL, hT, hF⟩ := hp.places
    have hl := hp.count
    have HP : Hid (PL s l f) := hPL
    have HL : Hid (idW (s.extract (f l.length) s.size) true 0) := Pre.end_idle hT
    have hfl : f l.length ≤ s.size := hT.1
    clear hp hPL hT hF
    go_enter Try.func5, Try.ntmps5
    go_upto_region 8 with (first
      | (go_at_call 8; (with_reducible refine (AW _).mono ?_); rintro e w1 ⟨rfl, hN1⟩)
      | (go_at_call 10; (with_reducible refine (CS _).mono ?_); rintro e w2 ⟨v, rfl, hI⟩; obtain ⟨av, cv, rfl, hc, hr⟩ := hI.sl.form))
    have HR : Hid (∀ k, k < l.length → ∃ b o, av = some ⟨b, o, none⟩ ∧ RT w2 b o l) := hr
    have hK := btr hN1 hI.below
    have HK : Hid (Below w.heap.size w w2) := hK
    clear hr hI hN1 hK AW CS
    go_loopw [6, 7] (fun v6 v7 wr => ∃ k : Nat, k ≤ l.length ∧ v7 = .int .i64 k ∧ v6 = .int .i64 (f k : Nat) ∧ Hid (Below w2.heap.size w2 wr)) (fun _ v7 _ => l.length - (intOf v7).toNat)
    case atStart => exact ⟨0, by omega, rfl, by rw [HP.out.z]; rfl, Below.refl _ _⟩
    case round =>
      obtain ⟨k, hk, rfl, rfl, hB⟩ := hrel
      by_cases hlt : k < l.length
      · obtain ⟨b, o, rfl, r0⟩ := HR.out k hlt
        obtain ⟨p, h1, h2, h3, h4, h5, h6'⟩ := HP.out.t k hlt
        have r := r0.below hB.out
        have d1 := r.c1 k hlt
        have d2 := r.c2 k hlt
        rw [h1] at d2
        rw [h5] at d1
        have hz : (s.extract p (f (k + 1))).size = f (k + 1) - p := size_ext _ _ _ h4
        have SS1 : ∀ w, (Instr.slice 9 (.string s) (some (.int .i64 (p : Int))) (some (.int .i64 ((p : Int) + ((s.extract p (f (k + 1))).size : Int)))) none).run Try.prog w = .ok (.string (s.extract p (f (k + 1)))) w := fun w => by
          rw [hz, show (p : Int) + ((f (k + 1) - p : Nat) : Int) = (f (k + 1) : Int) by omega]
          exact run_sub s p _ (by omega) h4 w
        have SS2 := fun w => run_sub s (f k) p h2 (by omega) w
        have ID := fun w => idle_any (s.extract (f k) p) false w (by rw [size_ext _ _ _ (by omega)]; omega) h6'
        have hq : f (k + 1) = p + (s.extract p (f (k + 1))).size := by omega
        clear r0 r h1 h5 h6'
        generalize s.extract p (f (k + 1)) = t at *
        generalize s.extract (f k) p = g at *
        generalize f k = y at *
        have g1 : decide ((p : Int) < (y : Int)) = false := decide_eq_false (by omega)
        have g2 : decide ((t.size : Int) < 1) = false := decide_eq_false (by omega)
        have g3 : decide ((s.size : Int) - (t.size : Int) < (p : Int)) = false := decide_eq_false (by omega)
        have HQ : Hid (f (k + 1) = p + t.size) := hq
        have hps : p + t.size ≤ s.size := by omega
        have e1 : IntKind.i64.wrap ((s.size : Int) - (t.size : Int)) = (s.size : Int) - (t.size : Int) := by rw [IntKind.wrap_i64]; omega
        have e2 : IntKind.i64.wrap ((p : Int) + (t.size : Int)) = (p : Int) + (t.size : Int) := by rw [IntKind.wrap_i64]; omega
        have g4 : decide (p < y) = false := decide_eq_false (by omega)
        clear hz hq h4 h3
        go_upto_region 11 with (fail)
        go_quiet ((go_at_call 16; exact Calls.quiet_of_same (ID _)))
        go_wp2
        go_roundw
        case rel => exact ⟨k + 1, by omega, by go_num, by rw [HQ.out]; rfl, below_drewN hB.out _⟩
        case measure => simp [intOf]; omega
      · obtain rfl : k = l.length := by omega
        have SS3 := fun w => run_from s (f l.length) hfl w
        have ID := fun w => idle_any (s.extract (f l.length) s.size) true w (by rw [size_ext _ _ _ (Nat.le_refl _)]; omega) HL.out
        generalize s.extract (f l.length) s.size = g at *
        go_wp2_with (go_at_call 16; (with_reducible refine (ID _).mono ?_); rintro e w3 ⟨rfl, rfl⟩)
        go_ret
        exact ⟨rfl, btr HK.out hB.out⟩
  · go_enter Try.func5, Try.ntmps5
    have hbs := hb.sz
    have hbs2 : a ≤ s.size := by omega
    clear hb hp
    go_wp2_with (first
      | (go_at_call 8; (with_reducible refine (AW _).mono ?_); rintro e w1 ⟨rfl, hN1⟩)
      | (go_at_call 10; (with_reducible refine (CS _).mono ?_); rintro e w2 ⟨v, rfl, hI⟩; obtain ⟨av, c, rfl⟩ := hI.shape))
    go_ret
    exact ⟨rfl, btr hN1 hI.below⟩
end Go.Proofs.Ytfjpdekegbnbaaa
