/-
  Put together of: PP5.
-/
import Derived.Test.YtoddbaljnlhhaabXD
namespace Go.Proofs.Ytoddbaljnlhhaab.PL
open Go.RowKit Go.Sort

theorem bset {a w : World} (h : Below a.heap.size a w) (b o : Nat) (v : Value) (hb : a.heap.size ≤ b) : Below a.heap.size a (w.setCell ⟨b, o, none⟩ v) := h.setCell hb v
theorem rone_x (n q : Nat) (w : World) (hn : n ≤ 64) (hq : q < n) : Calls Try.prog 43 #[.int .i64 n, .int .i64 q, .int .u8 88] w fun e w' => e = .returned (.tuple #[pv n (2 ^ q) 0 0, .int .i64 0]) ∧ Below w.heap.size w w' := by
  have S : ∀ w, Calls Try.prog 66 #[.agg #[.int .i64 n, .int .u64 0, .int .u64 0, .int .i64 0], .int .i64 q, .int .i64 1] w fun e w' => e = .returned (pv n (2 ^ q) 0 0) ∧ Below w.heap.size w w' := fun w => by
    have := set_any n 0 0 0 q 1 w (by omega) (by omega) (by omega) (by omega)
    simp only [setX, setZ, Nat.zero_or] at this
    exact this
  have E := fun w => reye_yes n w hn
  have h0 := one_box w 0 0 0 0
  generalize hX : (2 ^ q : Nat) = X at *
  have hq2 : ¬ n ≤ q := by omega
  have c0 : 0 ≤ (q : Int) := by omega
  go_enter Try.func43, Try.ntmps43
  go_wp2_with (first
    | (go_at_call 67; (refine (E _).mono ?_); rintro e w1 ⟨rfl, h1⟩; obtain ⟨c0, c1, c2, c3, g0, g1, g2, g3⟩ := h0.2.below h1; have lt := (h0.2.below h1).lt)
    | (go_at_call 66; (refine (S _).mono ?_); rintro e w2 ⟨rfl, h2⟩; obtain ⟨d0, d1, d2, d3, k0, k1, k2, k3⟩ := ((h0.2.below h1).alloc (pc n 0 0 0)).below h2))
  refine bodyPost_ret (v := .tuple #[pv n X 0 0, .int .i64 0]) (by simp [results, Try.results43, go_sem, d0, d1, d2, d3]) rfl ⟨rfl, ?_⟩
  repeat (first | exact btr (bal (btr h0.1 h1) _) h2 | refine bset ?_ _ _ _ (by omega))
theorem rone_y (n q : Nat) (w : World) (hn : n ≤ 64) (hq : q < n) : Calls Try.prog 43 #[.int .i64 n, .int .i64 q, .int .u8 89] w fun e w' => e = .returned (.tuple #[pv n (2 ^ q) (2 ^ q) 0, .int .i64 0]) ∧ Below w.heap.size w w' := by
  have S : ∀ w, Calls Try.prog 66 #[.agg #[.int .i64 n, .int .u64 0, .int .u64 0, .int .i64 0], .int .i64 q, .int .i64 2] w fun e w' => e = .returned (pv n (2 ^ q) (2 ^ q) 0) ∧ Below w.heap.size w w' := fun w => by
    have := set_any n 0 0 0 q 2 w (by omega) (by omega) (by omega) (by omega)
    simp only [setX, setZ, Nat.zero_or] at this
    exact this
  have E := fun w => reye_yes n w hn
  have h0 := one_box w 0 0 0 0
  generalize hX : (2 ^ q : Nat) = X at *
  have hq2 : ¬ n ≤ q := by omega
  have c0 : 0 ≤ (q : Int) := by omega
  go_enter Try.func43, Try.ntmps43
  go_wp2_with (first
    | (go_at_call 67; (refine (E _).mono ?_); rintro e w1 ⟨rfl, h1⟩; obtain ⟨c0, c1, c2, c3, g0, g1, g2, g3⟩ := h0.2.below h1; have lt := (h0.2.below h1).lt)
    | (go_at_call 66; (refine (S _).mono ?_); rintro e w2 ⟨rfl, h2⟩; obtain ⟨d0, d1, d2, d3, k0, k1, k2, k3⟩ := ((h0.2.below h1).alloc (pc n 0 0 0)).below h2))
  refine bodyPost_ret (v := .tuple #[pv n X X 0, .int .i64 0]) (by simp [results, Try.results43, go_sem, d0, d1, d2, d3]) rfl ⟨rfl, ?_⟩
  repeat (first | exact btr (bal (btr h0.1 h1) _) h2 | refine bset ?_ _ _ _ (by omega))
theorem rone_z (n q : Nat) (w : World) (hn : n ≤ 64) (hq : q < n) : Calls Try.prog 43 #[.int .i64 n, .int .i64 q, .int .u8 90] w fun e w' => e = .returned (.tuple #[pv n 0 (2 ^ q) 0, .int .i64 0]) ∧ Below w.heap.size w w' := by
  have S : ∀ w, Calls Try.prog 66 #[.agg #[.int .i64 n, .int .u64 0, .int .u64 0, .int .i64 0], .int .i64 q, .int .i64 3] w fun e w' => e = .returned (pv n 0 (2 ^ q) 0) ∧ Below w.heap.size w w' := fun w => by
    have := set_any n 0 0 0 q 3 w (by omega) (by omega) (by omega) (by omega)
    simp only [setX, setZ, Nat.zero_or] at this
    exact this
  have E := fun w => reye_yes n w hn
  have h0 := one_box w 0 0 0 0
  generalize hX : (2 ^ q : Nat) = X at *
  have hq2 : ¬ n ≤ q := by omega
  have c0 : 0 ≤ (q : Int) := by omega
  go_enter Try.func43, Try.ntmps43
  go_wp2_with (first
    | (go_at_call 67; (refine (E _).mono ?_); rintro e w1 ⟨rfl, h1⟩; obtain ⟨c0, c1, c2, c3, g0, g1, g2, g3⟩ := h0.2.below h1; have lt := (h0.2.below h1).lt)
    | (go_at_call 66; (refine (S _).mono ?_); rintro e w2 ⟨rfl, h2⟩; obtain ⟨d0, d1, d2, d3, k0, k1, k2, k3⟩ := ((h0.2.below h1).alloc (pc n 0 0 0)).below h2))
  refine bodyPost_ret (v := .tuple #[pv n 0 X 0, .int .i64 0]) (by simp [results, Try.results43, go_sem, d0, d1, d2, d3]) rfl ⟨rfl, ?_⟩
  repeat (first | exact btr (bal (btr h0.1 h1) _) h2 | refine bset ?_ _ _ _ (by omega))

set_option maxHeartbeats 1000000 in
theorem rone_no (n q : Int) (c : Nat) (w : World) (h : (n < 0 ∨ 64 < n) ∨ (0 ≤ n ∧ n ≤ 64) ∧ (q < 0 ∨ 0 ≤ q ∧ (n ≤ q ∨ q < n ∧ c ≠ 88 ∧ c ≠ 89 ∧ c ≠ 90))) :
    Calls Try.prog 43 #[.int .i64 n, .int .i64 q, .int .u8 (c : Int)] w fun e w' => e = .returned (.tuple #[pv 0 0 0 0, .int .i64 2]) ∧ Below w.heap.size w w' := by
  have h0 := one_box w 0 0 0 0
  rcases h with h | ⟨⟨g0, g1⟩, h⟩
  · go_enter Try.func43, Try.ntmps43
    go_wp2_with (go_at_call 67; (refine (reye_no n _ h).mono ?_); rintro e w1 ⟨rfl, h1⟩; obtain ⟨c0, c1, c2, c3, g0, g1, g2, g3⟩ := h0.2.below h1; have lt := (h0.2.below h1).lt)
    refine bodyPost_ret (v := .tuple #[pv 0 0 0 0, .int .i64 2]) (by simp [results, Try.results43, go_sem, c0, c1, c2, c3, lt]) rfl ⟨rfl, ?_⟩
    repeat (first | exact btr h0.1 h1 | refine bset ?_ _ _ _ (by omega) | refine bal ?_ _)
  · obtain ⟨N, rfl⟩ := Int.eq_ofNat_of_zero_le g0
    have E := fun w => reye_yes N w (by omega)
    rcases h with h | ⟨g, h | ⟨g', n1, n2, n3⟩⟩
    · go_enter Try.func43, Try.ntmps43
      go_wp2_with (go_at_call 67; (refine (E _).mono ?_); rintro e w1 ⟨rfl, h1⟩; obtain ⟨c0, c1, c2, c3, g0, g1, g2, g3⟩ := h0.2.below h1; have lt := (h0.2.below h1).lt)
      refine bodyPost_ret (v := .tuple #[pv 0 0 0 0, .int .i64 2]) (by simp [results, Try.results43, go_sem, c0, c1, c2, c3, lt]) rfl ⟨rfl, ?_⟩
      repeat (first | exact btr h0.1 h1 | refine bset ?_ _ _ _ (by omega) | refine bal ?_ _)
    · have q0 : ¬ q < 0 := by omega
      go_enter Try.func43, Try.ntmps43
      go_wp2_with (go_at_call 67; (refine (E _).mono ?_); rintro e w1 ⟨rfl, h1⟩; obtain ⟨c0, c1, c2, c3, g0, g1, g2, g3⟩ := h0.2.below h1; have lt := (h0.2.below h1).lt)
      refine bodyPost_ret (v := .tuple #[pv 0 0 0 0, .int .i64 2]) (by simp [results, Try.results43, go_sem, c0, c1, c2, c3, lt]) rfl ⟨rfl, ?_⟩
      repeat (first | exact btr h0.1 h1 | refine bset ?_ _ _ _ (by omega) | refine bal ?_ _)
    · have q0 : ¬ q < 0 := by omega
      have q1 : ¬ (N : Int) ≤ q := by omega
      have m1 : ¬ (c : Int) = 88 := by omega
      have m2 : ¬ (c : Int) = 89 := by omega
      have m3 : ¬ (c : Int) = 90 := by omega
      have m4 : ((c : Int) != 88) = true := bne_iff_ne.2 m1
      have m5 : ((c : Int) != 89) = true := bne_iff_ne.2 m2
      have m6 : ((c : Int) != 90) = true := bne_iff_ne.2 m3
      clear n1 n2 n3
      go_enter Try.func43, Try.ntmps43
      go_wp2_with (go_at_call 67; (refine (E _).mono ?_); rintro e w1 ⟨rfl, h1⟩; obtain ⟨c0, c1, c2, c3, g0, g1, g2, g3⟩ := h0.2.below h1; have lt := (h0.2.below h1).lt)
      refine bodyPost_ret (v := .tuple #[pv 0 0 0 0, .int .i64 2]) (by simp [results, Try.results43, go_sem, c0, c1, c2, c3, lt]) rfl ⟨rfl, ?_⟩
      repeat (first | exact btr h0.1 h1 | refine bset ?_ _ _ _ (by omega) | refine bal ?_ _)

theorem rcheck_yes (p : PS) (h : p.ok) (w : World) : Calls Try.prog 35 #[p.v] w fun e w' => e = .returned (.int .i64 0) ∧ Below w.heap.size w w' := by
  obtain ⟨n, x, z, f⟩ := p
  have h0 : n ≤ 64 := h.n1
  have h1 := h.f1
  have h2 : ¬ 64 < n := by omega
  have h3 : ¬ 3 < f := by show ¬ 3 < f; have : f < 4 := h.f1; omega
  have d1 := div_in (show x < 2 ^ n from h.x1)
  have d2 := div_in (show z < 2 ^ n from h.z1)
  by_cases h4 : n < 64
  · go_enter Try.func35, Try.ntmps35
    go_wp2
    go_ret
    exact ⟨rfl, bal (Below.refl _ _) _⟩
  · go_enter Try.func35, Try.ntmps35
    go_wp2
    go_ret
    exact ⟨rfl, bal (Below.refl _ _) _⟩
theorem Good.not' {n : Int} {x z : Nat} {f : Int} (hx : x < 18446744073709551616) (hz : z < 18446744073709551616) (h : ¬ Good n x z f) :
    (n < 0 ∨ 64 < n) ∨ ∃ m : Nat, n = m ∧ m ≤ 64 ∧ ((f < 0 ∨ 3 < f) ∨ (0 ≤ f ∧ f ≤ 3) ∧ m < 64 ∧ (¬ x < 2 ^ m ∨ x < 2 ^ m ∧ ¬ z < 2 ^ m)) := by
  by_cases h0 : n < 0 ∨ 64 < n
  · exact .inl h0
  · refine .inr ⟨n.toNat, by omega, by omega, ?_⟩
    by_cases h2 : f < 0 ∨ 3 < f
    · exact .inl h2
    · refine .inr ⟨by omega, ?_⟩
      have h3 : ¬ (x < 2 ^ n.toNat ∧ z < 2 ^ n.toNat) := fun g => h ⟨by omega, by omega, g.1, g.2, by omega, by omega⟩
      constructor
      · have h4 : ¬ n.toNat = 64 := fun e => by rw [e] at h3; exact h3 ⟨hx, hz⟩
        omega
      · by_cases g : x < 2 ^ n.toNat
        · exact .inr ⟨g, fun g' => h3 ⟨g, g'⟩⟩
        · exact .inl g
theorem rcheck_no (n : Int) (x z : Nat) (f : Int) (w : World) (hx : x < 18446744073709551616) (hz : z < 18446744073709551616) (h : ¬ Good n x z f) :
    Calls Try.prog 35 #[pv n x z f] w fun e w' => e = .returned (.int .i64 70) ∧ Below w.heap.size w w' := by
  rcases Good.not' hx hz h with (h | h) | ⟨m, rfl, hm, (h | h) | ⟨⟨k0, k1⟩, hm', h | ⟨h, g⟩⟩⟩
  · go_enter Try.func35, Try.ntmps35
    go_wp2
    go_ret
    exact ⟨rfl, bal (Below.refl _ _) _⟩
  · have : ¬ n < 0 := by omega
    go_enter Try.func35, Try.ntmps35
    go_wp2
    go_ret
    exact ⟨rfl, bal (Below.refl _ _) _⟩
  · have : ¬ 64 < m := by omega
    go_enter Try.func35, Try.ntmps35
    go_wp2
    go_ret
    exact ⟨rfl, bal (Below.refl _ _) _⟩
  · have : ¬ 64 < m := by omega
    have : ¬ f < 0 := by omega
    go_enter Try.func35, Try.ntmps35
    go_wp2
    go_ret
    exact ⟨rfl, bal (Below.refl _ _) _⟩
  · have : ¬ 64 < m := by omega
    have : ¬ f < 0 := by omega
    have : ¬ 3 < f := by omega
    have d1 := div_out h
    go_enter Try.func35, Try.ntmps35
    go_wp2
    go_ret
    exact ⟨rfl, bal (Below.refl _ _) _⟩
  · have : ¬ 64 < m := by omega
    have : ¬ f < 0 := by omega
    have : ¬ 3 < f := by omega
    have d1 := div_in h
    have d2 := div_out g
    go_enter Try.func35, Try.ntmps35
    go_wp2
    go_ret
    exact ⟨rfl, bal (Below.refl _ _) _⟩

end Go.Proofs.Ytoddbaljnlhhaab.PL
