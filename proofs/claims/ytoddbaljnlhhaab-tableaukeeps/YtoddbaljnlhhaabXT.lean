/-
  Put together of: BSmall BNum BList.
-/
import Derived.Test.YtoddbaljnlhhaabRows
import Derived.Test.YtoddbaljnlhhaabXO
import Derived.WalkKit
import Derived.BigQuiet
import Derived.Deep.QuietTactic
namespace Go.Proofs.Ytoddbaljnlhhaab.BL
open Go.RowKit

theorem ret_int {k : IntKind} {a b : Int} (h : a = b) : Ending.returned (.int k a) = .returned (.int k b) := by rw [h]
theorem ret_ints {k l : IntKind} {a b c d : Int} (h : a = b) (g : c = d) : Ending.returned (.tuple #[.int k a, .int l c]) = .returned (.tuple #[.int k b, .int l d]) := by rw [h, g]
theorem ret_intss {k l m : IntKind} {a b c d e f : Int} (h : a = b) (g : c = d) (i : e = f) : Ending.returned (.tuple #[.int k a, .int l c, .int m e]) = .returned (.tuple #[.int k b, .int l d, .int m f]) := by rw [h, g, i]

/-- The call answers v, whatever the world, and leaves the world but for the draws of an order. -/
structure Ret (f : Nat) (args : Array Value) (v : Value) : Prop where
  calls : ∀ w, Calls Try.prog f args w fun e w' => e = .returned v ∧ ∃ n, w' = w.drewN n

theorem bitAt_any (x j : Nat) (w : World) (hx : x < 18446744073709551616) (hj : j < 64) :
    Calls Try.prog 78 #[.int .u64 x, .int .i64 j] w fun e w' => e = .returned (.int .u64 (bt x j)) ∧ w' = w := by
  go_enter Try.func78, Try.ntmps78
  go_wp2
  go_ret
  exact ⟨ret_int (i_bit x j hx), rfl⟩

theorem inside_yes (p : Int) (w : World) (h0 : 0 ≤ p) (h1 : p < 64) :
    Calls Try.prog 89 #[.int .i64 p] w fun e w' => e = .returned (.bool true) ∧ w' = w := by
  go_enter Try.func89, Try.ntmps89
  go_wp2
  go_ret
  exact ⟨rfl, rfl⟩
theorem inside_no (p : Int) (w : World) (h : p < 0 ∨ 64 ≤ p) :
    Calls Try.prog 89 #[.int .i64 p] w fun e w' => e = .returned (.bool false) ∧ w' = w := by
  by_cases h0 : 0 ≤ p
  · have h1 : ¬ p < 64 := by omega
    clear h
    go_enter Try.func89, Try.ntmps89
    go_wp2
    go_ret
    exact ⟨rfl, rfl⟩
  · clear h
    go_enter Try.func89, Try.ntmps89
    go_wp2
    go_ret
    exact ⟨rfl, rfl⟩

theorem s1_cast (x : Nat) (hx : x < 18446744073709551616) : IntKind.u64.wrap (bits .and .u64 ((x : Int) / 2) 6148914691236517205 + bits .and .u64 (x : Int) 6148914691236517205) = (sw1 x : Int) ∧ sw1 x < 18446744073709551616 := by
  have e1 : ((x : Int) / 2) = ((x / 2 : Nat) : Int) := by simp
  have h1 : x / 2 &&& 6148914691236517205 ≤ 6148914691236517205 := Nat.and_le_right
  have h2 : x &&& 6148914691236517205 ≤ 6148914691236517205 := Nat.and_le_right
  rw [e1, show (6148914691236517205 : Int) = ((6148914691236517205 : Nat) : Int) from rfl, u64_and_nat _ _ (by omega) (by omega), u64_and_nat _ _ (by omega) (by omega), IntKind.wrap_u64]
  unfold sw1
  omega
theorem s2_cast (x : Nat) (hx : x < 18446744073709551616) : IntKind.u64.wrap (bits .and .u64 ((x : Int) / 4) 3689348814741910323 + bits .and .u64 (x : Int) 3689348814741910323) = (sw2 x : Int) ∧ sw2 x < 18446744073709551616 := by
  have e1 : ((x : Int) / 4) = ((x / 4 : Nat) : Int) := by simp
  have h1 : x / 4 &&& 3689348814741910323 ≤ 3689348814741910323 := Nat.and_le_right
  have h2 : x &&& 3689348814741910323 ≤ 3689348814741910323 := Nat.and_le_right
  rw [e1, show (3689348814741910323 : Int) = ((3689348814741910323 : Nat) : Int) from rfl, u64_and_nat _ _ (by omega) (by omega), u64_and_nat _ _ (by omega) (by omega), IntKind.wrap_u64]
  unfold sw2
  omega
theorem s3_cast (x : Nat) (hx : x ≤ 7378697629483820646) : bits .and .u64 (IntKind.u64.wrap ((x : Int) / 16 + (x : Int))) 1085102592571150095 = (sw3 x : Int) := by
  have e1 : IntKind.u64.wrap ((x : Int) / 16 + (x : Int)) = ((x / 16 + x : Nat) : Int) := by rw [IntKind.wrap_u64]; omega
  rw [e1, show (1085102592571150095 : Int) = ((1085102592571150095 : Nat) : Int) from rfl, u64_and_nat _ _ (by omega) (by omega)]
  rfl
theorem sw2_le (x : Nat) : sw2 x ≤ 7378697629483820646 := by
  have h1 : x / 4 &&& 3689348814741910323 ≤ 3689348814741910323 := Nat.and_le_right
  have h2 : x &&& 3689348814741910323 ≤ 3689348814741910323 := Nat.and_le_right
  unfold sw2; omega
theorem and127 (n : Nat) (h : n < 9223372036854775808) : bits .and .i64 (n : Int) 127 = ((n % 128 : Nat) : Int) := by
  have h1 : (BitVec.ofInt 64 (n : Int)).toNat = n := ofInt_u64 n (by omega)
  have h2 : (BitVec.ofInt 64 (127 : Int)).toNat = 127 := by decide
  have h3 : n &&& 127 = n % 128 := Nat.and_two_pow_sub_one_eq_mod n 7
  show IntKind.i64.wrap ((BitVec.ofInt 64 (n : Int) &&& BitVec.ofInt 64 127).toNat : Int) = _
  rw [BitVec.toNat_and, h1, h2, h3]
  simp [IntKind.wrap, IntKind.signed, IntKind.bits]
  omega

theorem ones_any (x : Nat) (w : World) (hx : x < 18446744073709551616) :
    Calls Try.prog 79 #[.int .u64 x] w fun e w' => e = .returned (.int .i64 (pop 64 x)) ∧ w' = w := by
  go_enter Try.func79, Try.ntmps79
  go_wp2
  go_ret
  refine ⟨ret_int ?_, rfl⟩
  obtain ⟨c1, c2, c3⟩ := count_is x hx
  obtain ⟨e1, l1⟩ := s1_cast x hx
  obtain ⟨e2, l2⟩ := s2_cast (sw1 x) l1
  have e3 := s3_cast (sw2 (sw1 x)) (sw2_le _)
  rw [e1, e2, e3]
  have e4 : IntKind.u64.wrap ((sw3 (sw2 (sw1 x)) : Int) + (sw3 (sw2 (sw1 x)) : Int) / 256) = ((sw x + sw x / 256 : Nat) : Int) := by
    rw [IntKind.wrap_u64]; unfold sw at *; omega
  rw [e4]
  have e5 : IntKind.u64.wrap (((sw x + sw x / 256 : Nat) : Int) + ((sw x + sw x / 256 : Nat) : Int) / 65536) = ((sw x + sw x / 256 + (sw x + sw x / 256) / 65536 : Nat) : Int) := by
    rw [IntKind.wrap_u64]; omega
  rw [e5]
  have e6 : IntKind.u64.wrap (((sw x + sw x / 256 + (sw x + sw x / 256) / 65536 : Nat) : Int) + ((sw x + sw x / 256 + (sw x + sw x / 256) / 65536 : Nat) : Int) / 4294967296) = (sum8 (sw x) : Int) := by
    rw [IntKind.wrap_u64]; unfold sum8 at *; omega
  rw [e6, wrap64_small (by omega) (by omega), and127 _ c2, c1]

theorem count_any (x : Nat) (w : World) (hx : x < 18446744073709551616) :
    Calls Try.prog 59 #[.int .u64 x] w fun e w' => e = .returned (.int .i64 (pop 64 x)) ∧ w' = w := by
  go_enter Try.func59, Try.ntmps59
  go_wp2_with (go_at_call 79; refine (ones_any _ _ hx).mono ?_; rintro e w' ⟨rfl, rfl⟩)
  go_ret
  exact ⟨rfl, rfl⟩

end Go.Proofs.Ytoddbaljnlhhaab.BL
namespace Go.Proofs.Ytoddbaljnlhhaab.BL
open Go.RowKit

theorem drewN_two (w : World) (n m : Nat) : (w.drewN n).drewN m = w.drewN (n + m) := by
  exact World.drewN_drewN w n m
theorem i_shx1 (x : Nat) (hx : x < 18446744073709551616) : bits .xor .u64 (x : Int) ((x : Int) / 2) = (shx 1 x : Int) := by have := i_shx 1 x hx; simpa using this
theorem i_shx2 (x : Nat) (hx : x < 18446744073709551616) : bits .xor .u64 (x : Int) ((x : Int) / 4) = (shx 2 x : Int) := by have := i_shx 2 x hx; simpa using this
theorem i_shx4 (x : Nat) (hx : x < 18446744073709551616) : bits .xor .u64 (x : Int) ((x : Int) / 16) = (shx 4 x : Int) := by have := i_shx 4 x hx; simpa using this
theorem i_shx8 (x : Nat) (hx : x < 18446744073709551616) : bits .xor .u64 (x : Int) ((x : Int) / 256) = (shx 8 x : Int) := by have := i_shx 8 x hx; simpa using this
theorem i_shx16 (x : Nat) (hx : x < 18446744073709551616) : bits .xor .u64 (x : Int) ((x : Int) / 65536) = (shx 16 x : Int) := by have := i_shx 16 x hx; simpa using this
theorem i_shx32 (x : Nat) (hx : x < 18446744073709551616) : bits .xor .u64 (x : Int) ((x : Int) / 4294967296) = (shx 32 x : Int) := by have := i_shx 32 x hx; simpa using this

theorem and1 (n : Nat) (h : n < 9223372036854775808) : bits .and .i64 (n : Int) 1 = ((n % 2 : Nat) : Int) := by
  have h1 : (BitVec.ofInt 64 (n : Int)).toNat = n := ofInt_u64 n (by omega)
  have h2 : (BitVec.ofInt 64 (1 : Int)).toNat = 1 := by decide
  have h3 : n &&& 1 = n % 2 := Nat.and_one_is_mod n
  show IntKind.i64.wrap ((BitVec.ofInt 64 (n : Int) &&& BitVec.ofInt 64 1).toNat : Int) = _
  rw [BitVec.toNat_and, h1, h2, h3]
  simp [IntKind.wrap, IntKind.signed, IntKind.bits]
  omega

theorem parity_any (x : Nat) (w : World) (hx : x < 18446744073709551616) :
    Calls Try.prog 73 #[.int .u64 x] w fun e w' => e = .returned (.int .i64 ((pop 64 x % 2 : Nat) : Int)) ∧ w' = w := by
  have hp := pop_le 64 x
  go_enter Try.func73, Try.ntmps73
  go_wp2_with (go_at_call 59; refine (count_any _ _ hx).mono ?_; rintro e w' ⟨rfl, rfl⟩)
  go_ret
  exact ⟨ret_int (and1 _ (by omega)), rfl⟩

end Go.Proofs.Ytoddbaljnlhhaab.BL
namespace Go.Proofs.Ytoddbaljnlhhaab.BL
open Go.RowKit

/-- The first n numbers from a on are p's. -/
structure Row (a : Option Addr) (p : Nat → Int) (n : Nat) (w : World) : Prop where
  at_ : ∀ i, i < n → ∃ b off, a = some ⟨b, off, none⟩ ∧ w.cell? ⟨b, off + i, none⟩ = some (.int .i64 (p i))
theorem Row.drewN {a : Option Addr} {p : Nat → Int} {n : Nat} {w : World} (h : Row a p n w) (m : Nat) : Row a p n (w.drewN m) := ⟨fun i hi => by
  obtain ⟨b, off, e, hc⟩ := h.at_ i hi
  exact ⟨b, off, e, by simpa using hc⟩⟩

set_option maxHeartbeats 400000 in
theorem are_any (a : Option Addr) (p : Nat → Int) (n cap : Nat) (w : World) (r : Bool) (hn : n ≤ 9223372036854775807) (hr : Row a p n w) (hb : r = true ↔ Plc p n) :
    Calls Try.prog 77 #[.slice a n cap] w fun e w' => e = .returned (.bool r) ∧ w' = w := by
  have HB : Hid (r = true ↔ Plc p n) := hb
  have HR : Hid (Row a p n w) := hr
  clear hb hr
  go_enter Try.func77, Try.ntmps77
  go_wp2
  go_loop [3, 8] (fun s i => ∃ k : Nat, k ≤ n ∧ i = .int .i64 k ∧ s = .int .u64 (msk p k) ∧ Hid (Plc p k)) (fun _ i => n - (intOf i).toNat)
  case atStart => exact ⟨0, by omega, rfl, rfl, Plc.zero p⟩
  case round =>
    obtain ⟨k, hk, rfl, rfl, hp⟩ := hrel
    by_cases hlt : k < n
    · obtain ⟨b, off, rfl, hc⟩ := HR.out.at_ k hlt
      by_cases h1 : 0 ≤ p k ∧ p k < 64
      · obtain ⟨h0, h64⟩ := h1
        have hm := msk_lt hp.out
        have hnew := msk_new hp.out h0
        have hor := i_seen p k hp.out (by omega)
        have HI : ∀ w, Calls Try.prog 89 #[.int .i64 (p k)] w fun e w' => e = .returned (.bool true) ∧ w' = w := fun w => inside_yes _ w h0 h64
        have HA : ∀ w, Calls Try.prog 78 #[.int .u64 (msk p k), .int .i64 (p k)] w fun e w' => e = .returned (.int .u64 (bt (msk p k) (p k).toNat)) ∧ w' = w := fun w => by
          have := bitAt_any (msk p k) (p k).toNat w hm (by omega)
          rwa [Int.toNat_of_nonneg h0] at this
        have hle := bt_le (msk p k) (p k).toNat
        by_cases hs : bt (msk p k) (p k).toNat = 1
        · rw [hs] at HA
          have HF : Hid (r = false) := by
            have : ¬ Plc p n := fun h => by
              obtain ⟨j, hj, e⟩ := hnew.1 hs
              exact (h k hlt).2.2 j hj e
            cases r
            · rfl
            · exact absurd (HB.out.1 rfl) this
          clear hnew hs hle
          go_wp2_with (first
            | (go_at_call 89; with_reducible refine (HI _).mono ?_; rintro e w' ⟨rfl, rfl⟩)
            | (go_at_call 78; with_reducible refine (HA _).mono ?_; rintro e w' ⟨rfl, rfl⟩))
          go_ret
          exact ⟨by rw [HF.out]; rfl, rfl⟩
        · have hz : bt (msk p k) (p k).toNat = 0 := by omega
          have HP : Hid (Plc p (k + 1)) := hp.out.succ h0 h64 fun j hj e => hs (hnew.2 ⟨j, hj, e⟩)
          rw [hz] at HA
          clear hnew hs hle hz
          go_wp2_with (first
            | (go_at_call 89; with_reducible refine (HI _).mono ?_; rintro e w' ⟨rfl, rfl⟩)
            | (go_at_call 78; with_reducible refine (HA _).mono ?_; rintro e w' ⟨rfl, rfl⟩))
          go_round
          case rel => exact ⟨k + 1, by omega, by go_num, rfl, HP⟩
          case measure => simp [intOf]; omega
      · have HI : ∀ w, Calls Try.prog 89 #[.int .i64 (p k)] w fun e w' => e = .returned (.bool false) ∧ w' = w := fun w => inside_no _ w (by omega)
        have HF : Hid (r = false) := by
          have : ¬ Plc p n := fun h => by
            have := h k hlt
            exact h1 ⟨this.1, this.2.1⟩
          cases r
          · rfl
          · exact absurd (HB.out.1 rfl) this
        clear h1
        go_wp2_with (first
            | (go_at_call 89; with_reducible refine (HI _).mono ?_; rintro e w' ⟨rfl, rfl⟩))
        go_ret
        exact ⟨by rw [HF.out]; rfl, rfl⟩
    · obtain rfl : k = n := by omega
      go_wp2
      go_ret
      exact ⟨by rw [HB.out.2 hp.out]; rfl, rfl⟩

theorem pick_no (x : Nat) (a : Option Addr) (p : Nat → Int) (n cap : Nat) (w : World) (hn : n ≤ 9223372036854775807) (hr : Row a p n w) (hp : ¬ Plc p n) :
    Calls Try.prog 58 #[.int .u64 x, .slice a n cap] w fun e w' => e = .returned (.tuple #[.int .u64 0, .int .i64 2]) ∧ w' = w := by
  have HA := are_any a p n cap w false hn hr (by simp [hp])
  have HP : Hid (¬ Plc p n) := hp
  have HR : Hid (Row a p n w) := hr
  clear hp hr
  go_enter Try.func58, Try.ntmps58
  go_wp2_with (first
    | (go_at_call 77; with_reducible refine HA.mono ?_; rintro e w' ⟨rfl, rfl⟩))
  go_ret2
  exact ⟨rfl, rfl⟩

set_option maxHeartbeats 400000 in
theorem pick_any (x : Nat) (a : Option Addr) (p : Nat → Int) (n cap : Nat) (w : World) (hx : x < 18446744073709551616) (hr : Row a p n w) (hp : Plc p n) :
    Calls Try.prog 58 #[.int .u64 x, .slice a n cap] w fun e w' => e = .returned (.tuple #[.int .u64 (pickN x p n), .int .i64 0]) ∧ w' = w := by
  have hn := hp.len
  have HA := are_any a p n cap w true (by omega) hr (by simp [hp])
  have HP : Hid (Plc p n) := hp
  have HR : Hid (Row a p n w) := hr
  clear hp hr
  go_enter Try.func58, Try.ntmps58
  go_wp2_with (first
    | (go_at_call 77; with_reducible refine HA.mono ?_; rintro e w' ⟨rfl, rfl⟩))
  clear HA
  go_loop [6, 14] (fun v i => ∃ k : Nat, k ≤ n ∧ i = .int .i64 k ∧ v = .int .u64 (pickN x p k)) (fun _ i => n - (intOf i).toNat)
  case atStart => exact ⟨0, by omega, rfl, rfl⟩
  case round =>
    obtain ⟨k, hk, rfl, rfl⟩ := hrel
    by_cases hlt : k < n
    · obtain ⟨b, off, rfl, hc⟩ := HR.out.at_ k hlt
      have hpk := HP.out k hlt
      have h0 := hpk.1
      have hl := pickN_lt x p (k := k) (by omega)
      have hs := i_pick x p k (by omega)
      have HB : ∀ w, Calls Try.prog 78 #[.int .u64 x, .int .i64 (p k)] w fun e w' => e = .returned (.int .u64 (bt x (p k).toNat)) ∧ w' = w := fun w => by
        have := bitAt_any x (p k).toNat w hx (by omega)
        rwa [Int.toNat_of_nonneg h0] at this
      have hbl := bt_le x (p k).toNat
      clear hpk h0
      generalize bt x (p k).toNat = B at hs HB hbl
      go_wp2_with (first
        | (go_at_call 78; with_reducible refine (HB _).mono ?_; rintro e w' ⟨rfl, rfl⟩))
      go_round
      case rel => exact ⟨k + 1, by omega, by go_num, rfl⟩
      case measure => simp [intOf]; omega
    · obtain rfl : k = n := by omega
      go_wp2
      go_ret2
      exact ⟨rfl, rfl⟩

theorem put_no (x v : Nat) (a : Option Addr) (p : Nat → Int) (n cap : Nat) (w : World) (hn : n ≤ 9223372036854775807) (hr : Row a p n w) (hp : ¬ Plc p n) :
    Calls Try.prog 60 #[.int .u64 x, .slice a n cap, .int .u64 v] w fun e w' => e = .returned (.tuple #[.int .u64 0, .int .i64 2]) ∧ w' = w := by
  have HA := are_any a p n cap w false hn hr (by simp [hp])
  have HP : Hid (¬ Plc p n) := hp
  have HR : Hid (Row a p n w) := hr
  clear hp hr
  go_enter Try.func60, Try.ntmps60
  go_wp2_with (first
    | (go_at_call 77; with_reducible refine HA.mono ?_; rintro e w' ⟨rfl, rfl⟩))
  go_ret2
  exact ⟨rfl, rfl⟩

theorem put_high (x v : Nat) (a : Option Addr) (p : Nat → Int) (n cap : Nat) (w : World) (hr : Row a p n w) (hp : Plc p n) (hv : ¬ v < 2 ^ n) :
    Calls Try.prog 60 #[.int .u64 x, .slice a n cap, .int .u64 v] w fun e w' => e = .returned (.tuple #[.int .u64 0, .int .i64 2]) ∧ w' = w := by
  have hn := hp.len
  have HA := are_any a p n cap w true (by omega) hr (by simp [hp])
  have HP : Hid (Plc p n) := hp
  have HR : Hid (Row a p n w) := hr
  have hz : ((v : Int) / 2 ^ n != 0) = true := by
    rw [div_pow]
    have : ¬ v / 2 ^ n = 0 := fun h => hv (high_zero.1 h)
    simp only [bne_iff_ne, ne_eq]
    omega
  have hm : min n 64 = n := by omega
  clear hp hr
  go_enter Try.func60, Try.ntmps60
  go_wp2_with (first
    | (go_at_call 77; with_reducible refine HA.mono ?_; rintro e w' ⟨rfl, rfl⟩))
  go_ret2
  exact ⟨rfl, rfl⟩

set_option maxHeartbeats 400000 in
theorem put_any (x v : Nat) (a : Option Addr) (p : Nat → Int) (n cap : Nat) (w : World) (hx : x < 18446744073709551616) (hvl : v < 18446744073709551616) (hr : Row a p n w) (hp : Plc p n) (hv : v < 2 ^ n) :
    Calls Try.prog 60 #[.int .u64 x, .slice a n cap, .int .u64 v] w fun e w' => e = .returned (.tuple #[.int .u64 (putN v p x n), .int .i64 0]) ∧ ∃ m, w' = w.drewN m := by
  have hn := hp.len
  have HA := are_any a p n cap w true (by omega) hr (by simp [hp])
  have HP : Hid (Plc p n) := hp
  have HR : Hid (Row a p n w) := hr
  have hz : ((v : Int) / 2 ^ n != 0) = false := by
    rw [div_pow, high_zero.2 hv]; rfl
  have hm : min n 64 = n := by omega
  clear hp hr hv
  go_enter Try.func60, Try.ntmps60
  go_wp2_with (first
    | (go_at_call 77; with_reducible refine HA.mono ?_; rintro e w' ⟨rfl, rfl⟩))
  clear HA hz hm
  go_loopw [0, 22] (fun x' i wr => ∃ k m : Nat, k ≤ n ∧ i = .int .i64 k ∧ x' = .int .u64 (putN v p x k) ∧ wr = w'.drewN m) (fun _ i _ => n - (intOf i).toNat)
  case atStart => exact ⟨0, 0, by omega, rfl, rfl, rfl⟩
  case round =>
    obtain ⟨k, m, hk, rfl, rfl, rfl⟩ := hrel
    by_cases hlt : k < n
    · obtain ⟨b, off, rfl, hc⟩ := HR.out.at_ k hlt
      have hpk := HP.out k hlt
      have h0 := hpk.1
      have hl : putN v p x k < 18446744073709551616 := putN_lt hx (HP.out.mono hk)
      have HB := fun w => bitAt_any v k w hvl (by omega)
      have hbl := bt_le v k
      have hs := i_put (putN v p x k) (p k).toNat (bt v k) hbl hl (by omega)
      have h64 := hpk.2.1
      clear hpk
      have HE : Hid (putN v p x (k + 1) = setB (putN v p x k) (p k).toNat (bt v k)) := rfl
      generalize bt v k = B at hs HB hbl HE
      go_wp2
      obtain ⟨wq, hwq⟩ : ∃ wq, wq = w'.drewN m := ⟨_, rfl⟩
      have HW : Hid (wq = w'.drewN m) := hwq
      rw [← hwq]
      clear hwq
      go_quiet ((go_at_call 78; exact Calls.quiet_of_same (HB _)))
      go_wp2
      go_roundw
      case rel => exact ⟨k + 1, m + nq, by omega, by go_num, by rw [HE.out], by rw [HW.out]; exact drewN_two _ _ _⟩
      case measure => simp [intOf]; omega
    · obtain rfl : k = n := by omega
      go_wp2
      go_ret2
      exact ⟨rfl, _, rfl⟩
end Go.Proofs.Ytoddbaljnlhhaab.BL
