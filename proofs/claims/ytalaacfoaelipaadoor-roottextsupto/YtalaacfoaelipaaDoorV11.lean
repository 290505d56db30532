/-
  The reference's Parse of a root's text: the six ways it goes, each from what its calls tell.
-/
import Derived.Test.YtalaacfoaelipaaDoorV8
namespace Go.Proofs.YtalaacfoaelipaaDoor
open Go.RowKit Go.Sort

/-- numeral tells v and n of t. -/
abbrev Nl (t : ByteArray) (v : Int) (n : Nat) : Prop := ∀ w, Calls Tryd.prog 54 #[.string t] w fun e w' => e = .returned (.tuple #[.int .i64 v, .int .i64 (n : Nat)]) ∧ w' = w
/-- t from n on is u. -/
abbrev Fr (t : ByteArray) (n : Int) (u : ByteArray) : Prop := ∀ w, (Instr.slice 9 (.string t) (some (.int .i64 n)) none none).run Tryd.prog w = .ok (.string u) w
abbrev Up (t : ByteArray) (n : Int) (u : ByteArray) : Prop := ∀ w, (Instr.slice 9 (.string t) none (some (.int .i64 n)) none).run Tryd.prog w = .ok (.string u) w
theorem ne_nil {t : ByteArray} (h : 0 < t.size) : (t.toList == []) = false := by
  rw [Go.ByteArray.toList_eq]
  cases e : t.data.toList with
  | nil =>
    have : t.data.toList.length = t.size := rfl
    rw [e] at this
    simp at this
    omega
  | cons x r => rfl

set_option maxHeartbeats 2000000 in
theorem rp_p0 (p : Int) (s R1 : ByteArray) (n : Nat)
    (w : World)
    (hn : 0 < n)
    (N1 : Nl s p n) (E1 : Fr s n R1)
    (z1 : R1 = ⟨#[]⟩) (N2 : Nl ⟨#[]⟩ 0 0)
    (T : ∀ w, Calls Tryd.prog 26 #[rv p 0 0] w fun e w' => e = .returned (.tuple #[.string s, .int .i64 0]) ∧ Below w.heap.size w w') :
    Calls Tryd.prog 28 #[.string s] w fun e w' => e = .returned (.tuple #[rv p 0 0, .int .i64 0]) ∧ Below w.heap.size w w' := by
  subst z1
  go_enter Tryd.func28, Tryd.ntmps28
  go_wp2_with (first
    | (go_at_call 54; (with_reducible refine (N1 _).mono ?_); rintro e w1 ⟨rfl, rfl⟩)
    | (go_at_call 54; (with_reducible refine (N2 _).mono ?_); rintro e w1 ⟨rfl, rfl⟩)
    | (go_at_call 26; (with_reducible refine (T _).mono ?_); rintro e w2 ⟨rfl, hB⟩; obtain ⟨hc, hf⟩ := bcell hB))
  have c0 := hc w.heap.size 0 (by simp; omega)
  have c1 := hc w.heap.size 1 (by simp; omega)
  have c2 := hc w.heap.size 2 (by simp; omega)
  simp [go_sem] at c0 c1 c2
  exact bodyPost_ret (v := .tuple #[rv p 0 0, .int .i64 0]) (by simp [results, Tryd.results28, go_sem, c0, c1, c2]) rfl ⟨rfl, (((btr (bal (bal (Below.refl _ _) _) _) hB).setCell (by simp) _).setCell (by simp) _).setCell (by simp) _⟩

set_option maxHeartbeats 2000000 in
theorem rp_p1 (p k : Int) (s R1 : ByteArray) (n : Nat)
    (w : World)
    (hn : 0 < n)
    (N1 : Nl s p n) (E1 : Fr s n R1)
    (z1 : 3 < R1.size) (r1 : (R1[0].toNat : Int) ≠ 114) (N2 : Nl R1 0 0)
    (R3 : ByteArray) (m3 : Nat) (U3 : Up R1 3 ⟨#[47, 50, 94]⟩) (E3 : Fr R1 3 R3) (N3 : Nl R3 k m3) (hm3 : 0 < m3) (hm4 : m3 ≤ 4294967280) (hk : k ≤ 60) (E4 : Fr R1 (3 + (m3 : Int)) ⟨#[]⟩)
    (T : ∀ w, Calls Tryd.prog 26 #[rv p 0 k] w fun e w' => e = .returned (.tuple #[.string s, .int .i64 0]) ∧ Below w.heap.size w w') :
    Calls Tryd.prog 28 #[.string s] w fun e w' => e = .returned (.tuple #[rv p 0 k, .int .i64 0]) ∧ Below w.heap.size w w' := by
  have y1 := ne_nil (t := R1) (by omega)
  have r1b : ((R1[0].toNat : Int) == 114) = false := beq_false_of_ne r1
  clear r1
  have hm3b : ((m3 : Int) == 0) = false := beq_false_of_ne (by omega)
  have hk2 : ¬ 60 < k := by omega
  go_enter Tryd.func28, Tryd.ntmps28
  go_wp2_with (first
    | (go_at_call 54; (with_reducible refine (N1 _).mono ?_); rintro e w1 ⟨rfl, rfl⟩)
    | (go_at_call 54; (with_reducible refine (N2 _).mono ?_); rintro e w1 ⟨rfl, rfl⟩)
    | (go_at_call 54; (with_reducible refine (N3 _).mono ?_); rintro e w1 ⟨rfl, rfl⟩)
    | (go_at_call 26; (with_reducible refine (T _).mono ?_); rintro e w2 ⟨rfl, hB⟩; obtain ⟨hc, hf⟩ := bcell hB))
  have c0 := hc w.heap.size 0 (by simp; omega)
  have c1 := hc w.heap.size 1 (by simp; omega)
  have c2 := hc w.heap.size 2 (by simp; omega)
  simp [go_sem] at c0 c1 c2
  exact bodyPost_ret (v := .tuple #[rv p 0 k, .int .i64 0]) (by simp [results, Tryd.results28, go_sem, c0, c1, c2]) rfl ⟨rfl, (((btr (bal (bal (Below.refl _ _) _) _) hB).setCell (by simp) _).setCell (by simp) _).setCell (by simp) _⟩

set_option maxHeartbeats 2000000 in
theorem rp_q0 (q : Int) (s R1 : ByteArray) (n : Nat)
    (w : World)
    (hn : 0 < n)
    (N1 : Nl s q n) (E1 : Fr s n R1)
    (R2 : ByteArray) (z1 : 0 < R1.size) (r1 : R1[0].toNat = 114) (E2 : Fr R1 1 R2)
    (z2 : R2 = ⟨#[]⟩)
    (T : ∀ w, Calls Tryd.prog 26 #[rv 0 q 0] w fun e w' => e = .returned (.tuple #[.string s, .int .i64 0]) ∧ Below w.heap.size w w') :
    Calls Tryd.prog 28 #[.string s] w fun e w' => e = .returned (.tuple #[rv 0 q 0, .int .i64 0]) ∧ Below w.heap.size w w' := by
  have y1 := ne_nil z1
  subst z2
  go_enter Tryd.func28, Tryd.ntmps28
  go_wp2_with (first
    | (go_at_call 54; (with_reducible refine (N1 _).mono ?_); rintro e w1 ⟨rfl, rfl⟩)
    | (go_at_call 26; (with_reducible refine (T _).mono ?_); rintro e w2 ⟨rfl, hB⟩; obtain ⟨hc, hf⟩ := bcell hB))
  have c0 := hc w.heap.size 0 (by simp; omega)
  have c1 := hc w.heap.size 1 (by simp; omega)
  have c2 := hc w.heap.size 2 (by simp; omega)
  simp [go_sem] at c0 c1 c2
  exact bodyPost_ret (v := .tuple #[rv 0 q 0, .int .i64 0]) (by simp [results, Tryd.results28, go_sem, c0, c1, c2]) rfl ⟨rfl, (((btr (bal (bal (Below.refl _ _) _) _) hB).setCell (by simp) _).setCell (by simp) _).setCell (by simp) _⟩

set_option maxHeartbeats 2000000 in
theorem rp_q1 (q k : Int) (s R1 : ByteArray) (n : Nat)
    (w : World)
    (hn : 0 < n)
    (N1 : Nl s q n) (E1 : Fr s n R1)
    (R2 : ByteArray) (z1 : 0 < R1.size) (r1 : R1[0].toNat = 114) (E2 : Fr R1 1 R2)
    (R3 : ByteArray) (m3 : Nat) (z3 : 3 < R2.size) (U3 : Up R2 3 ⟨#[47, 50, 94]⟩) (E3 : Fr R2 3 R3) (N3 : Nl R3 k m3) (hm3 : 0 < m3) (hm4 : m3 ≤ 4294967280) (hk : k ≤ 60) (E4 : Fr R2 (3 + (m3 : Int)) ⟨#[]⟩)
    (T : ∀ w, Calls Tryd.prog 26 #[rv 0 q k] w fun e w' => e = .returned (.tuple #[.string s, .int .i64 0]) ∧ Below w.heap.size w w') :
    Calls Tryd.prog 28 #[.string s] w fun e w' => e = .returned (.tuple #[rv 0 q k, .int .i64 0]) ∧ Below w.heap.size w w' := by
  have y1 := ne_nil z1
  have hm3b : ((m3 : Int) == 0) = false := beq_false_of_ne (by omega)
  have hk2 : ¬ 60 < k := by omega
  go_enter Tryd.func28, Tryd.ntmps28
  go_wp2_with (first
    | (go_at_call 54; (with_reducible refine (N1 _).mono ?_); rintro e w1 ⟨rfl, rfl⟩)
    | (go_at_call 54; (with_reducible refine (N3 _).mono ?_); rintro e w1 ⟨rfl, rfl⟩)
    | (go_at_call 26; (with_reducible refine (T _).mono ?_); rintro e w2 ⟨rfl, hB⟩; obtain ⟨hc, hf⟩ := bcell hB))
  have c0 := hc w.heap.size 0 (by simp; omega)
  have c1 := hc w.heap.size 1 (by simp; omega)
  have c2 := hc w.heap.size 2 (by simp; omega)
  simp [go_sem] at c0 c1 c2
  exact bodyPost_ret (v := .tuple #[rv 0 q k, .int .i64 0]) (by simp [results, Tryd.results28, go_sem, c0, c1, c2]) rfl ⟨rfl, (((btr (bal (bal (Below.refl _ _) _) _) hB).setCell (by simp) _).setCell (by simp) _).setCell (by simp) _⟩

set_option maxHeartbeats 2000000 in
theorem rp_b0 (p q : Int) (s R1 : ByteArray) (n : Nat)
    (w : World)
    (hn : 0 < n)
    (N1 : Nl s p n) (E1 : Fr s n R1)
    (R2 : ByteArray) (m : Nat) (z1 : m < R1.size) (hm : 0 < m) (r1 : (R1[0].toNat : Int) ≠ 114) (r2 : R1[m].toNat = 114) (N2 : Nl R1 q m) (E2 : Fr R1 ((m : Int) + 1) R2) (hz : R1.size ≤ 4294967280)
    (z2 : R2 = ⟨#[]⟩)
    (T : ∀ w, Calls Tryd.prog 26 #[rv p q 0] w fun e w' => e = .returned (.tuple #[.string s, .int .i64 0]) ∧ Below w.heap.size w w') :
    Calls Tryd.prog 28 #[.string s] w fun e w' => e = .returned (.tuple #[rv p q 0, .int .i64 0]) ∧ Below w.heap.size w w' := by
  have y1 := ne_nil (t := R1) (by omega)
  have z0 : 0 < R1.size := by omega
  have r1b : ((R1[0].toNat : Int) == 114) = false := beq_false_of_ne r1
  clear r1
  subst z2
  go_enter Tryd.func28, Tryd.ntmps28
  go_wp2_with (first
    | (go_at_call 54; (with_reducible refine (N1 _).mono ?_); rintro e w1 ⟨rfl, rfl⟩)
    | (go_at_call 54; (with_reducible refine (N2 _).mono ?_); rintro e w1 ⟨rfl, rfl⟩)
    | (go_at_call 26; (with_reducible refine (T _).mono ?_); rintro e w2 ⟨rfl, hB⟩; obtain ⟨hc, hf⟩ := bcell hB))
  have c0 := hc w.heap.size 0 (by simp; omega)
  have c1 := hc w.heap.size 1 (by simp; omega)
  have c2 := hc w.heap.size 2 (by simp; omega)
  simp [go_sem] at c0 c1 c2
  exact bodyPost_ret (v := .tuple #[rv p q 0, .int .i64 0]) (by simp [results, Tryd.results28, go_sem, c0, c1, c2]) rfl ⟨rfl, (((btr (bal (bal (Below.refl _ _) _) _) hB).setCell (by simp) _).setCell (by simp) _).setCell (by simp) _⟩

set_option maxHeartbeats 2000000 in
theorem rp_b1 (p q k : Int) (s R1 : ByteArray) (n : Nat)
    (w : World)
    (hn : 0 < n)
    (N1 : Nl s p n) (E1 : Fr s n R1)
    (R2 : ByteArray) (m : Nat) (z1 : m < R1.size) (hm : 0 < m) (r1 : (R1[0].toNat : Int) ≠ 114) (r2 : R1[m].toNat = 114) (N2 : Nl R1 q m) (E2 : Fr R1 ((m : Int) + 1) R2) (hz : R1.size ≤ 4294967280)
    (R3 : ByteArray) (m3 : Nat) (z3 : 3 < R2.size) (U3 : Up R2 3 ⟨#[47, 50, 94]⟩) (E3 : Fr R2 3 R3) (N3 : Nl R3 k m3) (hm3 : 0 < m3) (hm4 : m3 ≤ 4294967280) (hk : k ≤ 60) (E4 : Fr R2 (3 + (m3 : Int)) ⟨#[]⟩)
    (T : ∀ w, Calls Tryd.prog 26 #[rv p q k] w fun e w' => e = .returned (.tuple #[.string s, .int .i64 0]) ∧ Below w.heap.size w w') :
    Calls Tryd.prog 28 #[.string s] w fun e w' => e = .returned (.tuple #[rv p q k, .int .i64 0]) ∧ Below w.heap.size w w' := by
  have y1 := ne_nil (t := R1) (by omega)
  have z0 : 0 < R1.size := by omega
  have r1b : ((R1[0].toNat : Int) == 114) = false := beq_false_of_ne r1
  clear r1
  have hm3b : ((m3 : Int) == 0) = false := beq_false_of_ne (by omega)
  have hk2 : ¬ 60 < k := by omega
  go_enter Tryd.func28, Tryd.ntmps28
  go_wp2_with (first
    | (go_at_call 54; (with_reducible refine (N1 _).mono ?_); rintro e w1 ⟨rfl, rfl⟩)
    | (go_at_call 54; (with_reducible refine (N2 _).mono ?_); rintro e w1 ⟨rfl, rfl⟩)
    | (go_at_call 54; (with_reducible refine (N3 _).mono ?_); rintro e w1 ⟨rfl, rfl⟩)
    | (go_at_call 26; (with_reducible refine (T _).mono ?_); rintro e w2 ⟨rfl, hB⟩; obtain ⟨hc, hf⟩ := bcell hB))
  have c0 := hc w.heap.size 0 (by simp; omega)
  have c1 := hc w.heap.size 1 (by simp; omega)
  have c2 := hc w.heap.size 2 (by simp; omega)
  simp [go_sem] at c0 c1 c2
  exact bodyPost_ret (v := .tuple #[rv p q k, .int .i64 0]) (by simp [results, Tryd.results28, go_sem, c0, c1, c2]) rfl ⟨rfl, (((btr (bal (bal (Below.refl _ _) _) _) hB).setCell (by simp) _).setCell (by simp) _).setCell (by simp) _⟩
end Go.Proofs.YtalaacfoaelipaaDoor
