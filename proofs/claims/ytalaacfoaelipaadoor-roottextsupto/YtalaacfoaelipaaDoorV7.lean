/-
  What the reference's numeral tells.
-/
import Derived.Test.YtalaacfoaelipaaDoorV3
namespace Go.Proofs.YtalaacfoaelipaaDoor
open Go.RowKit Go.Sort

/-- The byte at a place; 256 beyond the end. -/
def byt (s : ByteArray) (i : Nat) : Nat := if h : i < s.size then s[i].toNat else 256

theorem byt_at (s : ByteArray) (i : Nat) (h : i < s.size) : s[i].toNat = byt s i := by unfold byt; rw [dif_pos h]

theorem byt_out (s : ByteArray) (i : Nat) (h : s.size ≤ i) : byt s i = 256 := by unfold byt; rw [dif_neg (by omega)]

/-- Where the digits begin: behind the sign. -/
def sgf (s : ByteArray) : Nat := if byt s 0 = 45 ∨ byt s 0 = 43 then 1 else 0

/-- The number of the digits from f up to n. -/
def dvn (s : ByteArray) (f : Nat) : Nat → Nat
  | 0 => 0
  | n + 1 => if f ≤ n then dvn s f n * 10 + (byt s n - 48) else 0

def Digs (s : ByteArray) (f n : Nat) : Prop := ∀ j, f ≤ j → j < n → 48 ≤ byt s j ∧ byt s j ≤ 57

theorem dvn_self (s : ByteArray) (f : Nat) : dvn s f f = 0 := by
  cases f with
  | zero => rfl
  | succ n => unfold dvn; rw [if_neg (by omega)]

theorem dvn_succ (s : ByteArray) (f n : Nat) (h : f ≤ n) : dvn s f (n + 1) = dvn s f n * 10 + (byt s n - 48) := by
  show (if f ≤ n then dvn s f n * 10 + (byt s n - 48) else 0) = _
  rw [if_pos h]

theorem dvn_lt (s : ByteArray) (f : Nat) : ∀ k, Digs s f (f + k) → dvn s f (f + k) < 10 ^ k
  | 0, _ => by rw [Nat.add_zero, dvn_self]; decide
  | k + 1, h => by
    have ih := dvn_lt s f k fun j h1 h2 => h j h1 (by omega)
    have hd := h (f + k) (by omega) (by omega)
    rw [← Nat.add_assoc, dvn_succ s f (f + k) (by omega), Nat.pow_succ]
    omega

theorem Digs.next {s : ByteArray} {f n : Nat} (h : Digs s f n) (g : 48 ≤ byt s n ∧ byt s n ≤ 57) : Digs s f (n + 1) := fun j h1 h2 =>
  if e : j < n then h j h1 e else by
    obtain rfl : j = n := by omega
    exact g

/-- What numeral tells: v, and how many bytes it has read. -/
structure NumR (s : ByteArray) (v : Int) (n m : Nat) : Prop where
  lo : sgf s ≤ m
  hi : m ≤ sgf s + 17
  sz : m ≤ s.size ∨ m = sgf s
  digs : Digs s (sgf s) m
  stop : s.size ≤ m ∨ ¬ (48 ≤ byt s m ∧ byt s m ≤ 57) ∨ m = sgf s + 17
  none : m = sgf s → v = 0 ∧ n = 0
  some : sgf s < m → n = m ∧ v = if byt s 0 = 45 then -(dvn s (sgf s) m : Int) else dvn s (sgf s) m

theorem sg_neg {s : ByteArray} (h : 0 < s.size) (g : s[0].toNat = 45) : sgf s = 1 := by
  unfold sgf
  rw [← byt_at s 0 h, if_pos (.inl g)]
theorem sg_pos {s : ByteArray} (h : 0 < s.size) (g : s[0].toNat = 43) : sgf s = 1 := by
  unfold sgf
  rw [← byt_at s 0 h, if_pos (.inr g)]
theorem sg_no {s : ByteArray} (h : 0 < s.size) (g : ¬ s[0].toNat = 45) (g' : ¬ s[0].toNat = 43) : sgf s = 0 := by
  unfold sgf
  rw [← byt_at s 0 h, if_neg (by omega)]

set_option maxHeartbeats 400000 in
theorem numeral_nil (s : ByteArray) (w : World) (h0 : s.size = 0) :
    Calls Tryd.prog 54 #[.string s] w fun e w' => e = .returned (.tuple #[.int .i64 0, .int .i64 0]) ∧ w' = w := by
  go_enter Tryd.func54, Tryd.ntmps54
  go_wp2
  go_loop [4] (fun i => i = .int .i64 0) (fun _ => 0)
  case atStart => rfl
  case round =>
    subst hrel
    go_wp2
    go_ret2
    exact ⟨rfl, rfl⟩

theorem beq_t {a b : Nat} (h : a = b) : ((a : Int) == (b : Int)) = true := by simp [h]
theorem beq_f {a b : Nat} (h : ¬ a = b) : ((a : Int) == (b : Int)) = false := by simp; omega

theorem NumR.mk0 {s : ByteArray} {f : Nat} (HF : sgf s = f) (stop : s.size ≤ f ∨ ¬ (48 ≤ byt s f ∧ byt s f ≤ 57) ∨ f = f + 17) : NumR s 0 0 f := by
  subst HF
  exact ⟨Nat.le_refl _, by omega, .inr rfl, fun j h1 h2 => by omega, stop, fun _ => ⟨rfl, rfl⟩, fun h => by omega⟩

theorem NumR.mkn {s : ByteArray} {f n : Nat} {v : Int} (HF : sgf s = f) (h1 : f < n) (h2 : n ≤ f + 17) (h3 : n ≤ s.size) (hd : Digs s f n)
    (stop : s.size ≤ n ∨ ¬ (48 ≤ byt s n ∧ byt s n ≤ 57) ∨ n = f + 17) (hv : v = if byt s 0 = 45 then -(dvn s f n : Int) else dvn s f n) : NumR s v n n := by
  subst HF
  exact ⟨by omega, h2, .inl h3, hd, stop, fun h => by omega, fun _ => ⟨rfl, hv⟩⟩

set_option maxHeartbeats 2000000 in
theorem numeral_neg (s : ByteArray) (w : World) (hs : s.size ≤ 9223372036854775807) (hz : 0 < s.size) (HF : Hid (sgf s = 1)) (HB : Hid (byt s 0 = 45)) (b1 : ((s[0].toNat : Int) == 45) = true) :
    Calls Tryd.prog 54 #[.string s] w fun e w' => (∃ v n, e = .returned (.tuple #[.int .i64 v, .int .i64 (n : Nat)]) ∧ ∃ m, NumR s v n m) ∧ w' = w := by
  go_enter Tryd.func54, Tryd.ntmps54
  go_wp2
  go_loop [4, 6] (fun i v => ∃ n : Nat, 1 ≤ n ∧ n ≤ 1 + 17 ∧ n ≤ s.size ∧ i = .int .i64 n ∧ v = .int .i64 (dvn s 1 n : Nat) ∧ Hid (Digs s 1 n)) (fun i _ => s.size - (intOf i).toNat)
  case atStart => exact ⟨1, by omega, by omega, by omega, rfl, by rw [dvn_self]; rfl, fun j h1 h2 => by omega⟩
  case round =>
    obtain ⟨n, hn0, hn1, hn2, rfl, rfl, hD⟩ := hrel
    have hlt := dvn_lt s 1 (n - 1) (by rw [show 1 + (n - 1) = n by omega]; exact hD.out)
    rw [show 1 + (n - 1) = n by omega] at hlt
    by_cases hl : n < s.size
    · have hb := byt_at s n hl
      by_cases d1 : 48 ≤ s[n].toNat
      · by_cases d2 : s[n].toNat ≤ 57
        · by_cases d3 : n < 1 + 17
          · have h16 : dvn s 1 n < 10000000000000000 := Nat.lt_of_lt_of_le hlt (Nat.pow_le_pow_right (n := 10) (by decide) (show n - 1 ≤ 16 by omega))
            have HS : Hid (dvn s 1 (n + 1) = dvn s 1 n * 10 + (s[n].toNat - 48)) := by show _ = _; rw [dvn_succ s 1 n (by omega), hb]
            have HD : Hid (Digs s 1 (n + 1)) := hD.out.next (by rw [← hb]; exact ⟨d1, d2⟩)
            generalize dvn s 1 n = V at *
            clear hlt hb hD
            go_wp2
            go_round
            case rel => exact ⟨n + 1, by omega, by omega, by omega, by go_num, by rw [HS.out]; go_num, HD⟩
            case measure => simp [intOf]; omega
          · clear hb
            have STOP : Hid (s.size ≤ n ∨ ¬ (48 ≤ byt s n ∧ byt s n ≤ 57) ∨ n = 1 + 17) := .inr (.inr (by omega))
            by_cases e : n = 1
            · exact absurd e (by omega)
            · have h17 : dvn s 1 n < 100000000000000000 := Nat.lt_of_lt_of_le hlt (Nat.pow_le_pow_right (n := 10) (by decide) (show n - 1 ≤ 17 by omega))
              obtain ⟨V, HV⟩ : ∃ V, Hid (dvn s 1 n = V) := ⟨_, rfl⟩
              rw [HV.out] at h17 ⊢
              clear hlt
              go_wp2
              go_ret2
              exact ⟨⟨(-(V : Int)), n, rfl, n, NumR.mkn HF.out (by omega) (by omega) (by omega) hD.out STOP.out (by rw [if_pos HB.out, HV.out])⟩, rfl⟩
        · have HC : Hid (¬ (48 ≤ byt s n ∧ byt s n ≤ 57)) := by show ¬ _; rw [← hb]; omega
          clear hb
          have STOP : Hid (s.size ≤ n ∨ ¬ (48 ≤ byt s n ∧ byt s n ≤ 57) ∨ n = 1 + 17) := .inr (.inl HC.out)
          by_cases e : n = 1
          · subst e
            clear hlt
            go_wp2
            go_ret2
            exact ⟨⟨0, 0, rfl, 1, NumR.mk0 HF.out STOP.out⟩, rfl⟩
          · have h17 : dvn s 1 n < 100000000000000000 := Nat.lt_of_lt_of_le hlt (Nat.pow_le_pow_right (n := 10) (by decide) (show n - 1 ≤ 17 by omega))
            obtain ⟨V, HV⟩ : ∃ V, Hid (dvn s 1 n = V) := ⟨_, rfl⟩
            rw [HV.out] at h17 ⊢
            clear hlt
            go_wp2
            go_ret2
            exact ⟨⟨(-(V : Int)), n, rfl, n, NumR.mkn HF.out (by omega) (by omega) (by omega) hD.out STOP.out (by rw [if_pos HB.out, HV.out])⟩, rfl⟩
      · have HC : Hid (¬ (48 ≤ byt s n ∧ byt s n ≤ 57)) := by show ¬ _; rw [← hb]; omega
        clear hb
        have STOP : Hid (s.size ≤ n ∨ ¬ (48 ≤ byt s n ∧ byt s n ≤ 57) ∨ n = 1 + 17) := .inr (.inl HC.out)
        by_cases e : n = 1
        · subst e
          clear hlt
          go_wp2
          go_ret2
          exact ⟨⟨0, 0, rfl, 1, NumR.mk0 HF.out STOP.out⟩, rfl⟩
        · have h17 : dvn s 1 n < 100000000000000000 := Nat.lt_of_lt_of_le hlt (Nat.pow_le_pow_right (n := 10) (by decide) (show n - 1 ≤ 17 by omega))
          obtain ⟨V, HV⟩ : ∃ V, Hid (dvn s 1 n = V) := ⟨_, rfl⟩
          rw [HV.out] at h17 ⊢
          clear hlt
          go_wp2
          go_ret2
          exact ⟨⟨(-(V : Int)), n, rfl, n, NumR.mkn HF.out (by omega) (by omega) (by omega) hD.out STOP.out (by rw [if_pos HB.out, HV.out])⟩, rfl⟩
    · 
      have STOP : Hid (s.size ≤ n ∨ ¬ (48 ≤ byt s n ∧ byt s n ≤ 57) ∨ n = 1 + 17) := .inl (by omega)
      by_cases e : n = 1
      · subst e
        clear hlt
        go_wp2
        go_ret2
        exact ⟨⟨0, 0, rfl, 1, NumR.mk0 HF.out STOP.out⟩, rfl⟩
      · have h17 : dvn s 1 n < 100000000000000000 := Nat.lt_of_lt_of_le hlt (Nat.pow_le_pow_right (n := 10) (by decide) (show n - 1 ≤ 17 by omega))
        obtain ⟨V, HV⟩ : ∃ V, Hid (dvn s 1 n = V) := ⟨_, rfl⟩
        rw [HV.out] at h17 ⊢
        clear hlt
        go_wp2
        go_ret2
        exact ⟨⟨(-(V : Int)), n, rfl, n, NumR.mkn HF.out (by omega) (by omega) (by omega) hD.out STOP.out (by rw [if_pos HB.out, HV.out])⟩, rfl⟩

set_option maxHeartbeats 2000000 in
theorem numeral_pos (s : ByteArray) (w : World) (hs : s.size ≤ 9223372036854775807) (hz : 0 < s.size) (HF : Hid (sgf s = 1)) (HB : Hid (¬ byt s 0 = 45)) (b1 : ((s[0].toNat : Int) == 45) = false) (b2 : ((s[0].toNat : Int) == 43) = true) :
    Calls Tryd.prog 54 #[.string s] w fun e w' => (∃ v n, e = .returned (.tuple #[.int .i64 v, .int .i64 (n : Nat)]) ∧ ∃ m, NumR s v n m) ∧ w' = w := by
  go_enter Tryd.func54, Tryd.ntmps54
  go_wp2
  go_loop [4, 6] (fun i v => ∃ n : Nat, 1 ≤ n ∧ n ≤ 1 + 17 ∧ n ≤ s.size ∧ i = .int .i64 n ∧ v = .int .i64 (dvn s 1 n : Nat) ∧ Hid (Digs s 1 n)) (fun i _ => s.size - (intOf i).toNat)
  case atStart => exact ⟨1, by omega, by omega, by omega, rfl, by rw [dvn_self]; rfl, fun j h1 h2 => by omega⟩
  case round =>
    obtain ⟨n, hn0, hn1, hn2, rfl, rfl, hD⟩ := hrel
    have hlt := dvn_lt s 1 (n - 1) (by rw [show 1 + (n - 1) = n by omega]; exact hD.out)
    rw [show 1 + (n - 1) = n by omega] at hlt
    by_cases hl : n < s.size
    · have hb := byt_at s n hl
      by_cases d1 : 48 ≤ s[n].toNat
      · by_cases d2 : s[n].toNat ≤ 57
        · by_cases d3 : n < 1 + 17
          · have h16 : dvn s 1 n < 10000000000000000 := Nat.lt_of_lt_of_le hlt (Nat.pow_le_pow_right (n := 10) (by decide) (show n - 1 ≤ 16 by omega))
            have HS : Hid (dvn s 1 (n + 1) = dvn s 1 n * 10 + (s[n].toNat - 48)) := by show _ = _; rw [dvn_succ s 1 n (by omega), hb]
            have HD : Hid (Digs s 1 (n + 1)) := hD.out.next (by rw [← hb]; exact ⟨d1, d2⟩)
            generalize dvn s 1 n = V at *
            clear hlt hb hD
            go_wp2
            go_round
            case rel => exact ⟨n + 1, by omega, by omega, by omega, by go_num, by rw [HS.out]; go_num, HD⟩
            case measure => simp [intOf]; omega
          · clear hb
            have STOP : Hid (s.size ≤ n ∨ ¬ (48 ≤ byt s n ∧ byt s n ≤ 57) ∨ n = 1 + 17) := .inr (.inr (by omega))
            by_cases e : n = 1
            · exact absurd e (by omega)
            · have h17 : dvn s 1 n < 100000000000000000 := Nat.lt_of_lt_of_le hlt (Nat.pow_le_pow_right (n := 10) (by decide) (show n - 1 ≤ 17 by omega))
              obtain ⟨V, HV⟩ : ∃ V, Hid (dvn s 1 n = V) := ⟨_, rfl⟩
              rw [HV.out] at h17 ⊢
              clear hlt
              go_wp2
              go_ret2
              exact ⟨⟨(V : Int), n, rfl, n, NumR.mkn HF.out (by omega) (by omega) (by omega) hD.out STOP.out (by rw [if_neg HB.out, HV.out])⟩, rfl⟩
        · have HC : Hid (¬ (48 ≤ byt s n ∧ byt s n ≤ 57)) := by show ¬ _; rw [← hb]; omega
          clear hb
          have STOP : Hid (s.size ≤ n ∨ ¬ (48 ≤ byt s n ∧ byt s n ≤ 57) ∨ n = 1 + 17) := .inr (.inl HC.out)
          by_cases e : n = 1
          · subst e
            clear hlt
            go_wp2
            go_ret2
            exact ⟨⟨0, 0, rfl, 1, NumR.mk0 HF.out STOP.out⟩, rfl⟩
          · have h17 : dvn s 1 n < 100000000000000000 := Nat.lt_of_lt_of_le hlt (Nat.pow_le_pow_right (n := 10) (by decide) (show n - 1 ≤ 17 by omega))
            obtain ⟨V, HV⟩ : ∃ V, Hid (dvn s 1 n = V) := ⟨_, rfl⟩
            rw [HV.out] at h17 ⊢
            clear hlt
            go_wp2
            go_ret2
            exact ⟨⟨(V : Int), n, rfl, n, NumR.mkn HF.out (by omega) (by omega) (by omega) hD.out STOP.out (by rw [if_neg HB.out, HV.out])⟩, rfl⟩
      · have HC : Hid (¬ (48 ≤ byt s n ∧ byt s n ≤ 57)) := by show ¬ _; rw [← hb]; omega
        clear hb
        have STOP : Hid (s.size ≤ n ∨ ¬ (48 ≤ byt s n ∧ byt s n ≤ 57) ∨ n = 1 + 17) := .inr (.inl HC.out)
        by_cases e : n = 1
        · subst e
          clear hlt
          go_wp2
          go_ret2
          exact ⟨⟨0, 0, rfl, 1, NumR.mk0 HF.out STOP.out⟩, rfl⟩
        · have h17 : dvn s 1 n < 100000000000000000 := Nat.lt_of_lt_of_le hlt (Nat.pow_le_pow_right (n := 10) (by decide) (show n - 1 ≤ 17 by omega))
          obtain ⟨V, HV⟩ : ∃ V, Hid (dvn s 1 n = V) := ⟨_, rfl⟩
          rw [HV.out] at h17 ⊢
          clear hlt
          go_wp2
          go_ret2
          exact ⟨⟨(V : Int), n, rfl, n, NumR.mkn HF.out (by omega) (by omega) (by omega) hD.out STOP.out (by rw [if_neg HB.out, HV.out])⟩, rfl⟩
    · 
      have STOP : Hid (s.size ≤ n ∨ ¬ (48 ≤ byt s n ∧ byt s n ≤ 57) ∨ n = 1 + 17) := .inl (by omega)
      by_cases e : n = 1
      · subst e
        clear hlt
        go_wp2
        go_ret2
        exact ⟨⟨0, 0, rfl, 1, NumR.mk0 HF.out STOP.out⟩, rfl⟩
      · have h17 : dvn s 1 n < 100000000000000000 := Nat.lt_of_lt_of_le hlt (Nat.pow_le_pow_right (n := 10) (by decide) (show n - 1 ≤ 17 by omega))
        obtain ⟨V, HV⟩ : ∃ V, Hid (dvn s 1 n = V) := ⟨_, rfl⟩
        rw [HV.out] at h17 ⊢
        clear hlt
        go_wp2
        go_ret2
        exact ⟨⟨(V : Int), n, rfl, n, NumR.mkn HF.out (by omega) (by omega) (by omega) hD.out STOP.out (by rw [if_neg HB.out, HV.out])⟩, rfl⟩

set_option maxHeartbeats 2000000 in
theorem numeral_no (s : ByteArray) (w : World) (hs : s.size ≤ 9223372036854775807) (hz : 0 < s.size) (HF : Hid (sgf s = 0)) (HB : Hid (¬ byt s 0 = 45)) (b1 : ((s[0].toNat : Int) == 45) = false) (b2 : ((s[0].toNat : Int) == 43) = false) :
    Calls Tryd.prog 54 #[.string s] w fun e w' => (∃ v n, e = .returned (.tuple #[.int .i64 v, .int .i64 (n : Nat)]) ∧ ∃ m, NumR s v n m) ∧ w' = w := by
  go_enter Tryd.func54, Tryd.ntmps54
  go_wp2
  go_loop [4, 6] (fun i v => ∃ n : Nat, 0 ≤ n ∧ n ≤ 0 + 17 ∧ n ≤ s.size ∧ i = .int .i64 n ∧ v = .int .i64 (dvn s 0 n : Nat) ∧ Hid (Digs s 0 n)) (fun i _ => s.size - (intOf i).toNat)
  case atStart => exact ⟨0, by omega, by omega, by omega, rfl, by rw [dvn_self]; rfl, fun j h1 h2 => by omega⟩
  case round =>
    obtain ⟨n, hn0, hn1, hn2, rfl, rfl, hD⟩ := hrel
    have hlt := dvn_lt s 0 (n - 0) (by rw [show 0 + (n - 0) = n by omega]; exact hD.out)
    rw [show 0 + (n - 0) = n by omega] at hlt
    by_cases hl : n < s.size
    · have hb := byt_at s n hl
      by_cases d1 : 48 ≤ s[n].toNat
      · by_cases d2 : s[n].toNat ≤ 57
        · by_cases d3 : n < 0 + 17
          · have h16 : dvn s 0 n < 10000000000000000 := Nat.lt_of_lt_of_le hlt (Nat.pow_le_pow_right (n := 10) (by decide) (show n - 0 ≤ 16 by omega))
            have HS : Hid (dvn s 0 (n + 1) = dvn s 0 n * 10 + (s[n].toNat - 48)) := by show _ = _; rw [dvn_succ s 0 n (by omega), hb]
            have HD : Hid (Digs s 0 (n + 1)) := hD.out.next (by rw [← hb]; exact ⟨d1, d2⟩)
            generalize dvn s 0 n = V at *
            clear hlt hb hD
            go_wp2
            go_round
            case rel => exact ⟨n + 1, by omega, by omega, by omega, by go_num, by rw [HS.out]; go_num, HD⟩
            case measure => simp [intOf]; omega
          · clear hb
            have STOP : Hid (s.size ≤ n ∨ ¬ (48 ≤ byt s n ∧ byt s n ≤ 57) ∨ n = 0 + 17) := .inr (.inr (by omega))
            by_cases e : n = 0
            · exact absurd e (by omega)
            · have h17 : dvn s 0 n < 100000000000000000 := Nat.lt_of_lt_of_le hlt (Nat.pow_le_pow_right (n := 10) (by decide) (show n - 0 ≤ 17 by omega))
              obtain ⟨V, HV⟩ : ∃ V, Hid (dvn s 0 n = V) := ⟨_, rfl⟩
              rw [HV.out] at h17 ⊢
              clear hlt
              go_wp2
              go_ret2
              exact ⟨⟨(V : Int), n, rfl, n, NumR.mkn HF.out (by omega) (by omega) (by omega) hD.out STOP.out (by rw [if_neg HB.out, HV.out])⟩, rfl⟩
        · have HC : Hid (¬ (48 ≤ byt s n ∧ byt s n ≤ 57)) := by show ¬ _; rw [← hb]; omega
          clear hb
          have STOP : Hid (s.size ≤ n ∨ ¬ (48 ≤ byt s n ∧ byt s n ≤ 57) ∨ n = 0 + 17) := .inr (.inl HC.out)
          by_cases e : n = 0
          · subst e
            clear hlt
            go_wp2
            go_ret2
            exact ⟨⟨0, 0, rfl, 0, NumR.mk0 HF.out STOP.out⟩, rfl⟩
          · have h17 : dvn s 0 n < 100000000000000000 := Nat.lt_of_lt_of_le hlt (Nat.pow_le_pow_right (n := 10) (by decide) (show n - 0 ≤ 17 by omega))
            obtain ⟨V, HV⟩ : ∃ V, Hid (dvn s 0 n = V) := ⟨_, rfl⟩
            rw [HV.out] at h17 ⊢
            clear hlt
            go_wp2
            go_ret2
            exact ⟨⟨(V : Int), n, rfl, n, NumR.mkn HF.out (by omega) (by omega) (by omega) hD.out STOP.out (by rw [if_neg HB.out, HV.out])⟩, rfl⟩
      · have HC : Hid (¬ (48 ≤ byt s n ∧ byt s n ≤ 57)) := by show ¬ _; rw [← hb]; omega
        clear hb
        have STOP : Hid (s.size ≤ n ∨ ¬ (48 ≤ byt s n ∧ byt s n ≤ 57) ∨ n = 0 + 17) := .inr (.inl HC.out)
        by_cases e : n = 0
        · subst e
          clear hlt
          go_wp2
          go_ret2
          exact ⟨⟨0, 0, rfl, 0, NumR.mk0 HF.out STOP.out⟩, rfl⟩
        · have h17 : dvn s 0 n < 100000000000000000 := Nat.lt_of_lt_of_le hlt (Nat.pow_le_pow_right (n := 10) (by decide) (show n - 0 ≤ 17 by omega))
          obtain ⟨V, HV⟩ : ∃ V, Hid (dvn s 0 n = V) := ⟨_, rfl⟩
          rw [HV.out] at h17 ⊢
          clear hlt
          go_wp2
          go_ret2
          exact ⟨⟨(V : Int), n, rfl, n, NumR.mkn HF.out (by omega) (by omega) (by omega) hD.out STOP.out (by rw [if_neg HB.out, HV.out])⟩, rfl⟩
    · 
      have STOP : Hid (s.size ≤ n ∨ ¬ (48 ≤ byt s n ∧ byt s n ≤ 57) ∨ n = 0 + 17) := .inl (by omega)
      by_cases e : n = 0
      · exact absurd e (by omega)
      · have h17 : dvn s 0 n < 100000000000000000 := Nat.lt_of_lt_of_le hlt (Nat.pow_le_pow_right (n := 10) (by decide) (show n - 0 ≤ 17 by omega))
        obtain ⟨V, HV⟩ : ∃ V, Hid (dvn s 0 n = V) := ⟨_, rfl⟩
        rw [HV.out] at h17 ⊢
        clear hlt
        go_wp2
        go_ret2
        exact ⟨⟨(V : Int), n, rfl, n, NumR.mkn HF.out (by omega) (by omega) (by omega) hD.out STOP.out (by rw [if_neg HB.out, HV.out])⟩, rfl⟩

/-- What numeral tells of any text. -/
theorem numeral_any (s : ByteArray) (w : World) (hs : s.size ≤ 9223372036854775807) :
    Calls Tryd.prog 54 #[.string s] w fun e w' => (∃ v n, e = .returned (.tuple #[.int .i64 v, .int .i64 (n : Nat)]) ∧ ∃ m, NumR s v n m) ∧ w' = w := by
  by_cases hz : 0 < s.size
  · have hb := byt_at s 0 hz
    by_cases g : s[0].toNat = 45
    · exact numeral_neg s w hs hz (sg_neg hz g) (by show _ = _; rw [← hb]; exact g) (beq_t g)
    · by_cases g' : s[0].toNat = 43
      · exact numeral_pos s w hs hz (sg_pos hz g') (by show ¬ _; rw [← hb]; exact g) (beq_f g) (beq_t g')
      · exact numeral_no s w hs hz (sg_no hz g g') (by show ¬ _; rw [← hb]; exact g) (beq_f g) (beq_f g')
  · have h0 : s.size = 0 := by omega
    refine (numeral_nil s w h0).mono ?_
    rintro e w' ⟨rfl, rfl⟩
    have hf : sgf s = 0 := by unfold sgf; rw [byt_out s 0 (by omega)]; rfl
    exact ⟨⟨0, 0, rfl, 0, NumR.mk0 hf (.inl (by omega))⟩, rfl⟩

end Go.Proofs.YtalaacfoaelipaaDoor
