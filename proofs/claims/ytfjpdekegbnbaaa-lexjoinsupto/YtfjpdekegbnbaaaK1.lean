/-
  The law LexBack.
-/
import Derived.Test.YtfjpdekegbnbaaaM3
namespace Go.Proofs.Ytfjpdekegbnbaaa
open Go.RowKit Go.Sort

/-- How many bytes the first k tokens have. -/
def sm (l : List Tk) : Nat → Nat
  | 0 => 0
  | k + 1 => sm l k + ((l[k]?.map fun t => t.t.size).getD 0)
theorem sm_at (l : List Tk) (k : Nat) (h : k < l.length) : sm l (k + 1) = sm l k + l[k].t.size := by
  show _ + _ = _
  rw [List.getElem?_eq_getElem h]
  rfl
theorem sm_jl (l : List Tk) (k : Nat) : jl l k = sm l k + (k - 1) := by
  induction k with
  | zero => rfl
  | succ k ih =>
    show jl l k + (if k = 0 then 0 else 1) + _ = sm l k + _ + _
    rw [ih]
    by_cases h : k = 0
    · subst h; simp
    · rw [if_neg h]; omega
theorem Pre.sizes {s : ByteArray} {i : Nat} {l : List Tk} (h : Pre s i l) : ∀ k (hk : k < l.length), l[k].t.size ≤ s.size := fun k hk => by
  obtain ⟨f, hp, _⟩ := h.places
  obtain ⟨p, _, _, h3, h4, h5, _⟩ := hp.t k hk
  rw [h5, size_ext _ _ _ h4]
  omega
theorem Pre.sum {s : ByteArray} {i : Nat} {l : List Tk} (h : Pre s i l) (k : Nat) (hk : k ≤ l.length) : sm l k ≤ s.size := by
  obtain ⟨f, hp, hT, _⟩ := h.places
  have hfl : f l.length ≤ s.size := Nat.le_trans hT.1 h.le
  have key : ∀ n, n ≤ l.length → sm l n ≤ f n ∧ f n ≤ s.size := by
    intro n
    induction n with
    | zero => intro _; exact ⟨Nat.zero_le _, by rw [hp.z]; exact Nat.zero_le _⟩
    | succ n ih =>
      intro hn
      have := ih (by omega)
      obtain ⟨p, _, h2, h3, h4, h5, _⟩ := hp.t n (by omega)
      rw [sm_at l n (by omega), h5, size_ext _ _ _ h4]
      omega
  have := key k hk
  omega

theorem SL.form2 {W : World} {v : Value} {l : List Tk} {n : Nat} (h : SL W v l) (e : l.length = n) : ∃ a c, v = .slice a n c ∧ n ≤ c ∧ ∀ k, k < n → ∃ b o, a = some ⟨b, o, none⟩ ∧ RT W b o l := by
  subst e
  exact h.form

set_option maxHeartbeats 4000000 in
set_option maxRecDepth 100000 in
theorem back_any (s : ByteArray) (tk : List Tk) (v : Value) (w : World) (hs : s.size ≤ 9223372036854775807) (hv : SF w v tk) (hl : tk.length ≤ 9223372036854775807) (hz : ∀ k (h : k < tk.length), tk[k].t.size ≤ 9223372036854775807) :
    Calls Try.prog 6 #[.string s, v] w fun e w' => e = .returned (.bool true) ∧ Below w.heap.size w w' := by
  have AW := fun w => awake_any w
  obtain ⟨s1, e1, ho1⟩ := jo_ex tk
  have J1 := fun w1 (hb : Below w.heap.size w w1) => join_any tk v s1 e1 w1 (hv.below hb) hl hz ho1
  obtain ⟨av, cv, rfl, hc, hr⟩ := hv
  have HR : Hid (∀ k, k < tk.length → ∃ b o, av = some ⟨b, o, none⟩ ∧ RT w b o tk) := hr
  have HO : Hid (JO tk s1 e1) := ho1
  clear hr ho1 hz
  go_enter Try.func6, Try.ntmps6
  go_upto_if 31 with (first
    | (go_at_call 8; (with_reducible refine (AW _).mono ?_); rintro e w1 ⟨rfl, hN1⟩)
    | (go_at_call 13; (with_reducible refine (J1 w1 hN1).mono ?_); rintro e w2 ⟨rfl, hN2⟩))
  have hB : Hid (Below w.heap.size w w2) := btr hN1 hN2
  clear hN1 hN2 AW J1
  go_cut [7, 8, 9, 10] from 31 to 76 (fun v7 v8 v9 v10 W => Hid (Below w.heap.size w W))
  case first =>
    rcases HO.out with ⟨_, _, rfl⟩ | ⟨_, _, _, rfl⟩ | ⟨hA, hb, hs1, rfl⟩
    · go_wp2
      go_meet
      case rel => exact hB
    · go_wp2
      go_meet
      case rel => exact hB
    · have hz1 : s1.size = jl tk tk.length := by rw [hs1]; exact joined_size rfl
      have hO2 : Out s1 (rt tk tk.length) 0 0 := by rw [hs1]; exact joined_out hA hb
      have hlk := rt_like tk
      generalize rt tk tk.length = m at *
      have S1 := fun w => scan_any s1 m 0 0 w (by omega) hO2
      have HL : Hid (Like tk m) := hlk
      have hml : m.length = tk.length := hlk.len.symm
      clear hA hb hs1 hO2 hlk hz1 HO
      go_upto_region 9 with (go_at_call 10; (with_reducible refine (S1 _).mono ?_); rintro e w3 ⟨v7, rfl, hI⟩; obtain ⟨a7, c7, rfl, hc7, hr7⟩ := hI.sl.form2 hml)
      have HR7 : Hid (∀ k, k < tk.length → ∃ b o, a7 = some ⟨b, o, none⟩ ∧ RT w3 b o m) := hr7
      have hB3 : Hid (Below w.heap.size w w3) := btr hB.out hI.below
      clear hr7 hI S1
      go_loopw [10] (fun v wr => ∃ k : Nat, k ≤ tk.length ∧ v = .int .i64 k ∧ Hid (Below w3.heap.size w3 wr)) (fun v _ => tk.length - (intOf v).toNat)
      case atStart => exact ⟨0, by omega, rfl, Below.refl _ _⟩
      case round =>
        obtain ⟨k, hk, rfl, hH⟩ := hrel
        by_cases hlt : k < tk.length
        · obtain ⟨b, o, rfl, r0⟩ := HR.out k hlt
          obtain ⟨b7, o7, rfl, r7⟩ := HR7.out k hlt
          have r := r0.below (btr hB3.out hH.out)
          have q := r7.below hH.out
          have d0 := r.c0 k hlt
          have d1 := r.c1 k hlt
          have f0 := q.c0 k (by omega)
          have f1 := q.c1 k (by omega)
          rw [← HL.out.k k hlt (by omega)] at f0
          rw [← HL.out.t k hlt (by omega)] at f1
          clear r0 r7 r q
          generalize tk[k].k = x at *
          generalize tk[k].t = z at *
          go_upto_region 11 with (fail)
          go_quiet (fail)
          go_wp2
          go_roundw
          case rel => exact ⟨k + 1, by omega, by go_num, below_drewN hH.out _⟩
          case measure => simp [intOf]; omega
        · obtain rfl : k = tk.length := by omega
          go_wp2
          go_meet
          case rel => exact btr hB3.out hH.out
  have hB2 := hcut
  clear hB hcut HR HO
  obtain ⟨l, a, e, ho⟩ := out_ex s
  have S2 := fun w => scan_any s l a e w hs ho
  rcases ho with ⟨_, rfl, rfl, rfl⟩ | ⟨h6, hp, rfl, rfl⟩ | ⟨_, rfl, rfl, _, _, _, hb⟩
  · go_wp2_with (go_at_call 10; (with_reducible refine (S2 _).mono ?_); rintro e w3 ⟨v7, rfl, hI⟩)
    go_ret
    exact ⟨rfl, btr hB2.out hI.below⟩
  · have hcn := hp.count
    have hsz := hp.sizes
    have hsm := hp.sum
    have hal := hp.right
    obtain ⟨s2, e2, ho2⟩ := jo_ex l
    have J2 := fun v w3 (h : SF w3 v l) => join_any l v s2 e2 w3 h (by omega) (fun k hk => by have := hsz k hk; omega) ho2
    have hj := sm_jl l l.length
    have HSM : Hid (∀ k, k ≤ l.length → sm l k ≤ s.size) := hsm
    clear hsz hp
    go_upto_region 18 with (go_at_call 10; (with_reducible refine (S2 _).mono ?_); rintro e w3 ⟨v11, rfl, hI⟩; obtain ⟨a11, c11, rfl, hc11, hr11⟩ := hI.sl.form)
    have HR : Hid (∀ k, k < l.length → ∃ b o, a11 = some ⟨b, o, none⟩ ∧ RT w3 b o l) := hr11
    have HI : Hid (SF w3 (.slice a11 l.length c11) l) := hI.sl.form
    have hB3 : Hid (Below w.heap.size w w3) := btr hB2.out hI.below
    clear hr11 hI S2 hsm
    go_loopw [14, 15] (fun v14 v15 wr => ∃ k : Nat, k ≤ l.length ∧ v15 = .int .i64 k ∧ v14 = .int .i64 ((l.length : Int) - 1 + (sm l k : Nat)) ∧ Hid (Below w3.heap.size w3 wr)) (fun _ v15 _ => l.length - (intOf v15).toNat)
    case atStart => exact ⟨0, by omega, rfl, by simp [sm], Below.refl _ _⟩
    case round =>
      obtain ⟨k, hk, rfl, rfl, hH⟩ := hrel
      by_cases hlt : k < l.length
      · obtain ⟨b, o, rfl, r0⟩ := HR.out k hlt
        have r := r0.below hH.out
        have d1 := r.c1 k hlt
        have e5 := sm_at l k hlt
        have hb1 := HSM.out (k + 1) (by omega)
        have E5 : Hid (sm l (k + 1) = sm l k + l[k].t.size) := e5
        rw [e5] at hb1
        clear r0 r e5
        generalize l[k].t = z at *
        generalize sm l k = q at *
        go_wp2
        go_roundw
        case rel => exact ⟨k + 1, by omega, by go_num, by rw [E5.out]; go_num, hH⟩
        case measure => simp [intOf]; omega
      · obtain rfl : k = l.length := by omega
        have J3 := J2 _ wr (HI.out.below hH.out)
        have hq := HSM.out l.length (by omega)
        rcases ho2 with ⟨⟨k, hk, hr⟩, _, _⟩ | ⟨_, hbig, rfl, rfl⟩ | ⟨hA, hle, hs2, rfl⟩
        · have := hal k hk
          rw [hr] at this
          exact absurd this (by decide)
        · have g1 : (65536 : Int) < (l.length : Int) - 1 + (sm l l.length : Nat) := by omega
          generalize sm l l.length = q at *
          go_wp2_with (go_at_call 13; (with_reducible refine J3.mono ?_); rintro e w5 ⟨rfl, hN5⟩)
          go_ret
          exact ⟨rfl, btr (btr hB3.out hH.out) hN5⟩
        · have g1 : ¬ (65536 : Int) < (l.length : Int) - 1 + (sm l l.length : Nat) := by omega
          have hz2 : s2.size = jl l l.length := by rw [hs2]; exact joined_size rfl
          have hO2 : Out s2 (rt l l.length) 0 0 := by rw [hs2]; exact joined_out hA hle
          have hlk := rt_like l
          have hO3 : JO (rt l l.length) s2 0 := .inr (.inr ⟨hlk.right hA, by rw [← hlk.sz, ← hlk.len]; exact hle, by rw [hs2, ← hlk.bs, ← hlk.len], rfl⟩)
          generalize rt l l.length = m at *
          have hml : m.length = l.length := hlk.len.symm
          have S3 := fun w => scan_any s2 m 0 0 w (by omega) hO2
          have J4 := fun v w3 (h : SF w3 v m) => join_any m v s2 0 w3 h (by omega) (fun k hk => by
            rw [← hlk.t k (by omega) hk]
            have h5 := sm_at l k (by omega)
            have h6 := HSM.out (k + 1) (by omega)
            omega) hO3
          clear hA hle hs2 hO2 hlk hO3 hz2 hj hal
          generalize sm l l.length = q at *
          go_wp2_with (first
            | (go_at_call 13; (with_reducible refine J3.mono ?_); rintro e w5 ⟨rfl, hN5⟩)
            | (go_at_call 10; (with_reducible refine (S3 _).mono ?_); rintro e w6 ⟨v6, rfl, hI6⟩)
            | (go_at_call 13; (with_reducible refine (J4 _ w6 hI6.sl.form).mono ?_); rintro e w7 ⟨rfl, hN7⟩; obtain ⟨a6, c6, rfl, hc6, _⟩ := hI6.sl.form2 hml))
          go_ret
          exact ⟨rfl, btr (btr (btr (btr hB3.out hH.out) hN5) hI6.below) hN7⟩
  · go_wp2_with (go_at_call 10; (with_reducible refine (S2 _).mono ?_); rintro e w3 ⟨v7, rfl, hI⟩)
    go_ret
    exact ⟨rfl, btr hB2.out hI.below⟩
end Go.Proofs.Ytfjpdekegbnbaaa
