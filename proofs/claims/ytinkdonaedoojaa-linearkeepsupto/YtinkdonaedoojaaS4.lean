/-
  Synth.
-/
import Derived.Test.YtinkdonaedoojaaS3
namespace Go.Proofs.Ytinkdonaedoojaa
open Go.RowKit

/-- Rows and gates behind the first columns; whether all went well. -/
def syS (n : Nat) (f : Nat → Nat) : Nat → Sp
  | 0 => ⟨f, []⟩
  | j + 1 => ⟨(stS n j (syS n f j).f).f, (syS n f j).l ++ (stS n j (syS n f j).f).l⟩
def syB (n : Nat) (f : Nat → Nat) : Nat → Bool
  | 0 => true
  | j + 1 => syB n f j && stB n j (syS n f j).f
theorem stS_len (n j : Nat) (f : Nat → Nat) : (stS n j f).l.length ≤ n + 1 := by
  have h1 := pr1_len f j n
  unfold stS
  split
  · have h2 := clL_len j (pr1 f j n).f n
    rw [List.length_append]
    omega
  · omega
theorem syS_len (n : Nat) (f : Nat → Nat) : ∀ j, (syS n f j).l.length ≤ j * (n + 1)
  | 0 => Nat.le_of_eq (by simp [syS])
  | j + 1 => by
    have h1 := syS_len n f j
    have h2 := stS_len n j (syS n f j).f
    rw [syS, List.length_append, Nat.succ_mul]
    omega
theorem syB_mono (n : Nat) (f : Nat → Nat) (j : Nat) (h : syB n f j = false) : ∀ k, j ≤ k → syB n f k = false
  | 0, hk => by have : j = 0 := by omega
                rw [← this]; exact h
  | k + 1, hk => by
    by_cases e : j = k + 1
    · rw [← e]; exact h
    · rw [syB, syB_mono n f j h k (by omega)]; rfl
/-- What a call tells that tells a circuit and an error. -/
def CR (w w' : World) (e : Ending) (M : Int) (l : List (Nat × Nat)) (E : Int) : Prop :=
  ∃ v, e = .returned (.tuple #[.agg #[.int .i64 M, .int .i64 0, v], .int .i64 E]) ∧ OZ w' w.heap.size v l ∧ Below w.heap.size w w'
theorem oz_nil (W : World) (B : Nat) : OZ W B (.slice none 0 0) [] := ⟨none, 0, fun _ => none, fun _ => 0, rfl, Nat.le_refl _, by omega, fun i hi => absurd hi (Nat.not_lt_zero _), fun i hi => absurd hi (Nat.not_lt_zero _)⟩
theorem OZ.mono {W : World} {B B' : Nat} {v : Value} {l : List (Nat × Nat)} (h : OZ W B v l) (hb : B' ≤ B) : OZ W B' v l := by
  obtain ⟨a, c, A, C, e, h1, h2, h3, h4⟩ := h.ex
  refine ⟨a, c, A, C, e, h1, h2, fun i hi => ?_, fun i hi => ?_⟩
  · obtain ⟨g, e, hB, r⟩ := h3 i hi
    exact ⟨g, e, Nat.le_trans hb hB, r⟩
  · obtain ⟨hC, b, e, hB, r⟩ := h4 i hi
    exact ⟨hC, b, e, Nat.le_trans hb hB, r⟩
/-- The zero circuit. -/
abbrev zc : Array Value := #[.int .i64 0, .int .i64 0, .slice none 0 0]
theorem three_set {W : World} {b : Nat} {p q r : Value} (K : BK W b #[p, q, r] 50) (x y z : Value) :
    (((W.setCell ⟨b, 0, none⟩ x).setCell ⟨b, 1, none⟩ y).setCell ⟨b, 2, none⟩ z).cell? ⟨b, 0, none⟩ = some x ∧ (((W.setCell ⟨b, 0, none⟩ x).setCell ⟨b, 1, none⟩ y).setCell ⟨b, 2, none⟩ z).cell? ⟨b, 1, none⟩ = some y ∧ (((W.setCell ⟨b, 0, none⟩ x).setCell ⟨b, 1, none⟩ y).setCell ⟨b, 2, none⟩ z).cell? ⟨b, 2, none⟩ = some z :=
  ⟨(((K.set 0 x).set 1 y).set 2 z).cell 0, (((K.set 0 x).set 1 y).set 2 z).cell 1, (((K.set 0 x).set 1 y).set 2 z).cell 2⟩
set_option maxHeartbeats 1000000 in
set_option maxRecDepth 100000 in
theorem synth_bad (N : Int) (n : Nat) (a : Option Addr) (c : Nat) (f : Nat → Nat) (w : World) (H : RR w a n f) (hf : ¬ Gd N n f) :
    Calls Try.prog 24 #[lv N a n c] w fun e w' => CR w w' e 0 [] 2 := by
  have C1 := fun w' (h : Below w.heap.size w w') => check_bad N n a c f w' (H.below h) hf
  have HB0 := hid (bal (bal (Below.refl w.heap.size w) (.cells (lcs N a n c) 24)) (.cells zc 50))
  have HK1 := hid (bk_box1 (w := w) (cs := lcs N a n c) (T := 24) zc 50)
  clear H hf
  go_enter Try.func24, Try.ntmps24
  go_upto_region 2 with (go_at_call 9; (with_reducible refine (C1 _ HB0.out).mono ?_); rintro e w1 ⟨rfl, hN⟩)
  have HB1 := hid (btr HB0.out hN)
  have K2 := hid (bk_on HK1.out hN)
  clear HB0 HK1 hN C1
  have d2 := K2.out.cell
  have l2 := K2.out.lt
  have f2 := K2.out.free
  obtain ⟨q0, q1, q2⟩ := three_set K2.out (.int .i64 0) (.int .i64 0) (.slice none 0 0)
  go_wp2
  exact bodyPost_ret (v := .tuple #[.agg #[.int .i64 0, .int .i64 0, .slice none 0 0], .int .i64 2]) (by simp [results, Try.results24, go_sem, q0, q1, q2]) rfl ⟨_, rfl, oz_nil _ _, bset (bset (bset HB1.out (w.heap.size + 1) 0 _ (by omega)) (w.heap.size + 1) 1 _ (by omega)) (w.heap.size + 1) 2 _ (by omega)⟩
theorem oc_nil (W : World) (B : Nat) : OC W B (.slice none 0 0) [] := ⟨[], rfl, World.ownsRow_nil _ _ _ _, fun _ h => absurd h (Nat.not_lt_zero _), fun _ h => absurd h (Nat.not_lt_zero _)⟩
theorem OZ.far {W : World} {B b T : Nat} {v : Value} {l : List (Nat × Nat)} {cs : Array Value} (h : OZ W B v l) (K : BK W b cs T) (o : Nat) (x : Value) (h1 : T ≠ 58 := by decide) (h2 : T ≠ 3 := by decide) : OZ (W.setCell ⟨b, o, none⟩ x) B v l := by
  have ne : ∀ {g U : Nat} {cs' : Array Value}, BK W g cs' U → T ≠ U → b ≠ g := fun {g U cs'} k hT e => by
    subst e
    have k1 : W.heap[b]? = some (.cells cs T (0, 0)) := K
    have k2 : W.heap[b]? = some (.cells cs' U (0, 0)) := k
    rw [k1] at k2
    cases k2
    exact hT rfl
  have cl : ∀ {g : Nat} (k : Nat), b ≠ g → (W.setCell ⟨b, o, none⟩ x).heap[g]? = W.heap[g]? := fun {g} k hne => Below.heap_setCell W ⟨b, o, none⟩ x g (fun e => hne e.symm)
  obtain ⟨a, c, A, C, e, i1, i2, i3, i4⟩ := h.ex
  refine ⟨a, c, A, C, e, i1, i2, fun i hi => ?_, fun i hi => ?_⟩
  · obtain ⟨g, e, hB, ⟨cs', hk⟩, hc⟩ := i3 i hi
    have hne := ne hk h1
    exact ⟨g, e, hB, ⟨cs', (cl 0 hne).trans hk⟩, fun t u hu => (World.cell?_of_block (a := ⟨g, _, none⟩) (cl 0 hne)).trans (hc t u hu)⟩
  · obtain ⟨hC, g, e, hB, ⟨cs', hk⟩, c0, c1, hf⟩ := i4 i hi
    have hne := ne hk h2
    exact ⟨hC, g, e, hB, ⟨cs', (cl 0 hne).trans hk⟩, (World.cell?_of_block (a := ⟨g, _, none⟩) (cl 0 hne)).trans c0, (World.cell?_of_block (a := ⟨g, _, none⟩) (cl 0 hne)).trans c1, fun k => (World.frozen?_of_block (a := ⟨g, _, none⟩) (cl 0 hne)).trans (hf k)⟩
set_option maxHeartbeats 4000000 in
set_option maxRecDepth 100000 in
theorem synth_good (n : Nat) (a : Option Addr) (c : Nat) (f : Nat → Nat) (w : World) (H : RR w a n f) (hf : Gd n n f) :
    Calls Try.prog 24 #[lv n a n c] w fun e w' => (syB n f n = true ∧ CR w w' e n (syS n f n).l.reverse 0) ∨ (syB n f n = false ∧ CR w w' e 0 [] 200) := by
  have hn : n ≤ 64 := by have := hf.2.1; omega
  have C1 := fun w' (h : Below w.heap.size w w') => check_good n a c f w' (H.below h) hn hf.2.2.2
  have C2 := fun w' (h : Below w.heap.size w w') => clone_any n f a c w' (H.below h) (by omega)
  have HB0 := hid (bal (bal (Below.refl w.heap.size w) (.cells (lcs n a n c) 24)) (.cells zc 50))
  have HK0 := hid ((bk_new w (lcs n a n c) 24).alloc (.cells zc 50))
  have HK1 := hid (bk_box1 (w := w) (cs := lcs n a n c) (T := 24) zc 50)
  clear H hf
  go_enter Try.func24, Try.ntmps24
  go_upto_region 2 with (go_at_call 9; (with_reducible refine (C1 _ HB0.out).mono ?_); rintro e w1 ⟨rfl, hN⟩)
  have HB1 := hid (btr HB0.out hN)
  have K0 := hid (bk_on HK0.out hN)
  have K1 := hid (bk_on HK1.out hN)
  clear HB0 HK0 HK1 hN C1
  have d0 := K0.out.cell
  have l0 := K0.out.lt
  go_upto_region 5 with (go_at_call 38; (with_reducible refine (C2 _ HB1.out).mono ?_); rintro e w2 ⟨v1, rfl, hO, hN⟩; obtain ⟨a1, c1, rfl⟩ := os_shape hO)
  have HB2 := hid (bal (btr HB1.out hN) (.cells #[.slice a1 n c1, .slice none 0 0] 79))
  have M0 := hid ((bk_on K0.out hN).alloc (.cells #[.slice a1 n c1, .slice none 0 0] 79))
  have M1 := hid ((bk_on K1.out hN).alloc (.cells #[.slice a1 n c1, .slice none 0 0] 79))
  have M2 := hid (bk_new w2 #[.slice a1 n c1, .slice none 0 0] 79)
  have HO := hid ((hO.on (bal (Below.refl w2.heap.size w2) (.cells #[.slice a1 n c1, .slice none 0 0] 79))).mono (show w.heap.size ≤ w1.heap.size from HB1.out.size))
  have hz : w.heap.size + 1 < w2.heap.size := (bk_on K1.out hN).lt
  clear HB1 K0 K1 d0 l0 hN hO C2
  generalize hV : w2.alloc (.cells #[.slice a1 n c1, .slice none 0 0] 79) = V at *
  clear hV
  generalize w2.heap.size = d at *
  have d0 := M0.out.cell
  have l0 := M0.out.lt
  go_wp2
  clear d0 l0
  go_loopw [19] (fun i wx => ∃ j : Nat, j ≤ n ∧ i = .int .i64 j ∧ Hid (syB n f j = true) ∧ Hid (BK wx w.heap.size (lcs n a n c) 24) ∧ Hid (BK wx (w.heap.size + 1) zc 50) ∧ Hid (Below w.heap.size w wx) ∧ Hid (n = 0 → BK wx d #[.slice a1 n c1, .slice none 0 0] 79) ∧ Hid (0 < n → ∃ g, a1 = some ⟨g, 0, none⟩ ∧ DS wx w.heap.size d g n c1 (syS n f j).f (syS n f j).l)) (fun i _ => n - (intOf i).toNat)
  case atStart =>
    refine ⟨0, Nat.zero_le _, rfl, rfl, M0, M1, HB2, fun _ => M2, fun h0 => ?_⟩
    obtain ⟨a', c', e, i1, i2, i3⟩ := HO.out
    cases e
    rcases i3 with h | ⟨g, rfl, hg, ho⟩
    · omega
    · exact ⟨g, rfl, ⟨⟨_, M2, oc_nil _ _⟩, ho, by omega, hg⟩⟩
  case round =>
    clear M0 M1 HB2 M2 HO
    obtain ⟨j, hj, rfl, HSB, M0, M1, HB, HZ, HP⟩ := hrel
    by_cases hlt : j < n
    case neg =>
      obtain rfl : j = n := by omega
      obtain ⟨v, hK, hOC⟩ : ∃ v, BK wr d #[.slice a1 j c1, v] 79 ∧ OC wr w.heap.size v (syS j f j).l := by
        rcases Nat.eq_zero_or_pos j with h | h
        · refine ⟨_, HZ.out h, ?_⟩
          subst h
          exact oc_nil _ _
        · obtain ⟨g, rfl, hD⟩ := HP.out h
          exact hD.bx
      have hsh : ∃ a2 n2 c2, v = .slice a2 n2 c2 := by
        obtain ⟨vs, hO⟩ := hOC
        obtain ⟨a2, c2, e⟩ := own_shape hO.own
        exact ⟨a2, _, c2, e⟩
      obtain ⟨a2, n2, c2, rfl⟩ := hsh
      have R := rev_any w.heap.size _ _ wr hOC
      have d0 := hK.cell
      have l0 := hK.lt
      have HK := hid hK
      clear hOC hK
      go_upto_region 12 with (go_at_call 40; (with_reducible refine R.mono ?_); rintro e w5 ⟨rfl, hZ5, hF5, hK5⟩)
      have K5 := hid (hK5 _ _ HK.out)
      have K0 := hid (hF5.2.2 _ _ _ (by decide) (by decide) (by decide) (by decide) M0.out)
      have K1 := hid (hF5.2.2 _ _ _ (by decide) (by decide) (by decide) (by decide) M1.out)
      have HB5 := hid (hF5.2.1 w (Nat.le_refl _) HB.out)
      have hZ5 := hid hZ5
      clear hF5 hK5 HK d0 l0 R M0 M1 HB
      have d0 : ∀ k, w5.cell? ⟨d, k, none⟩ = #[Value.slice a1 j c1, .slice a2 n2 c2][k]? := BK.cell K5.out
      have l0 : d < w5.heap.size := BK.lt K5.out
      have d1 : ∀ k, w5.cell? ⟨w.heap.size, k, none⟩ = (lcs j a j c)[k]? := BK.cell K0.out
      have l1 : w.heap.size < w5.heap.size := BK.lt K0.out
      have d2 : ∀ k, w5.cell? ⟨w.heap.size + 1, k, none⟩ = zc[k]? := BK.cell K1.out
      have l2 : w.heap.size + 1 < w5.heap.size := BK.lt K1.out
      have f2 : ∀ k, w5.frozen? ⟨w.heap.size + 1, k, none⟩ = false := BK.free K1.out
      obtain ⟨q0, q1, q2⟩ := three_set K1.out (.int .i64 (j : Int)) (.int .i64 0) (.slice a2 n2 c2)
      have hE := (((hZ5.out.far K1.out 0 (.int .i64 (j : Int))).far (K1.out.set 0 _) 1 (.int .i64 0)).far ((K1.out.set 0 _).set 1 _) 2 (.slice a2 n2 c2))
      have hBE := bset (bset (bset HB5.out (w.heap.size + 1) 0 (.int .i64 (j : Int)) (by omega)) (w.heap.size + 1) 1 (.int .i64 0) (by omega)) (w.heap.size + 1) 2 (.slice a2 n2 c2) (by omega)
      go_wp2
      exact bodyPost_ret (v := .tuple #[.agg #[.int .i64 (j : Int), .int .i64 0, .slice a2 n2 c2], .int .i64 0]) (by simp [results, Try.results24, go_sem, q0, q1, q2]) rfl (.inl ⟨HSB.out, _, rfl, hE, hBE⟩)
    obtain ⟨g, rfl, hD⟩ := HP.out (by omega)
    have hlen := syS_len n f j
    have hmul : j * (n + 1) ≤ 64 * 65 := Nat.mul_le_mul (by omega) (by omega)
    have S := settle_any n d g c1 w.heap.size j (syS n f j).f (syS n f j).l wr hD hn hlt (by omega) HB.out.size
    have HSY : Hid (syS n f (j + 1) = ⟨(stS n j (syS n f j).f).f, (syS n f j).l ++ (stS n j (syS n f j).f).l⟩) := rfl
    have HSN : Hid (syB n f (j + 1) = (syB n f j && stB n j (syS n f j).f)) := rfl
    clear hD hlen hmul HZ HP
    by_cases hb : stB n j (syS n f j).f = true
    · have HSB2 : Hid (syB n f (j + 1) = true) := by show _ = _; rw [HSN.out, HSB.out, hb]; rfl
      rw [hb] at S
      clear hb HSN
      go_wp2_with (go_at_call 39; (with_reducible refine S.mono ?_); rintro e w5 ⟨rfl, hD5, hF5⟩)
      exact ⟨⟨j + 1, by omega, by go_num, HSB2, hF5.2.2 _ _ _ (by decide) (by decide) (by decide) (by decide) M0.out, hF5.2.2 _ _ _ (by decide) (by decide) (by decide) (by decide) M1.out, hF5.2.1 w (Nat.le_refl _) HB.out, fun h => by omega, fun _ => ⟨g, rfl, by rw [HSY.out]; exact hD5⟩⟩, by simp only [intOf]; omega⟩
    · have hb' : stB n j (syS n f j).f = false := by simpa using hb
      have HSB2 : Hid (syB n f n = false) := by
        refine syB_mono n f (j + 1) ?_ n (by omega)
        rw [HSN.out, hb', Bool.and_false]
      rw [hb'] at S
      clear hb hb' HSN
      go_upto_region 9 with (go_at_call 39; (with_reducible refine S.mono ?_); rintro e w5 ⟨rfl, hD5, hF5⟩)
      have K1 := hid (hF5.2.2 _ _ _ (by decide) (by decide) (by decide) (by decide) M1.out)
      have HB5 := hid (hF5.2.1 w (Nat.le_refl _) HB.out)
      clear hF5 hD5 S M0 M1 HB
      have d2 : ∀ k, w5.cell? ⟨w.heap.size + 1, k, none⟩ = zc[k]? := BK.cell K1.out
      have l2 : w.heap.size + 1 < w5.heap.size := BK.lt K1.out
      have f2 : ∀ k, w5.frozen? ⟨w.heap.size + 1, k, none⟩ = false := BK.free K1.out
      obtain ⟨q0, q1, q2⟩ := three_set K1.out (.int .i64 0) (.int .i64 0) (.slice none 0 0)
      go_wp2
      exact bodyPost_ret (v := .tuple #[.agg #[.int .i64 0, .int .i64 0, .slice none 0 0], .int .i64 200]) (by simp [results, Try.results24, go_sem, q0, q1, q2]) rfl (.inr ⟨HSB2.out, _, rfl, oz_nil _ _, bset (bset (bset HB5.out (w.heap.size + 1) 0 _ (by omega)) (w.heap.size + 1) 1 _ (by omega)) (w.heap.size + 1) 2 _ (by omega)⟩)
end Go.Proofs.Ytinkdonaedoojaa
