/-
  Sums, products and conjugates of small Gaussian integers.
-/
import Derived.Test.YtjmgcgjmaemgdaaE4
namespace Go.Proofs.Ytjmgcgjmaemgdaa
open Go.RowKit Go.Sort

/-- A float that stands for the small whole number n; a nought may bear a sign. -/
def zb (b : Nat) (n : Int) : Prop := (sm n ∧ b = fb n) ∨ (n = 0 ∧ b = 9223372036854775808)
theorem zb_abs {b : Nat} {n : Int} (h : zb b n) : bits .andNot .u64 (b : Int) 9223372036854775808 = (fb n.natAbs : Int) := by
  rcases h with ⟨h, rfl⟩ | ⟨rfl, rfl⟩
  · exact abs_bits h
  · decide +kernel
theorem zb_sm {b : Nat} {n : Int} (h : zb b n) : sm n := by
  rcases h with ⟨h, _⟩ | ⟨rfl, _⟩
  · exact h
  · unfold sm; decide
set_option maxHeartbeats 400000 in
theorem abs_zb (b : Nat) (n : Int) (w : World) (h : zb b n) : Calls Try.prog 93 #[.float .f64 b] w fun e w' => e = .returned (.float .f64 (fb n.natAbs)) ∧ w' = w := by
  have hb := run_bits
  have hf := run_frombits
  have ha := zb_abs h
  clear h
  go_enter Try.func93, Try.ntmps93
  go_wp2
  all_goals (go_ret; exact ⟨by simp, rfl⟩)
set_option maxHeartbeats 400000 in
theorem within_zb (b m cap : Nat) (f : Nat → Nat) (g : Nat → Int) (w : World) (hm : m ≤ 8) (hf : ∀ j, j < m → w.cell? ⟨b, j, none⟩ = some (.float .f64 (f j)) ∧ zb (f j) (g j)) :
    Calls Try.prog 89 #[.slice (some ⟨b, 0, none⟩) m cap] w fun e w' => e = .returned (.bool true) ∧ w' = w := by
  have HF : Hid (∀ j, j < m → w.cell? ⟨b, j, none⟩ = some (.float .f64 (f j)) ∧ zb (f j) (g j)) := hf
  clear hf
  go_enter Try.func89, Try.ntmps89
  go_upto_region 2 with (fail)
  go_loop [7] (fun v => ∃ k : Nat, k ≤ m ∧ v = .int .i64 k) (fun v => m - (intOf v).toNat)
  case atStart => exact ⟨0, by omega, rfl⟩
  case round =>
    obtain ⟨k, hk, rfl⟩ := hrel
    by_cases hlt : k < m
    · obtain ⟨hc, hs⟩ := HF.out k hlt
      have A := fun w => abs_zb (f k) (g k) w hs
      have L := abs_le (zb_sm hs)
      clear hs
      generalize f k = x at *
      generalize g k = n at *
      go_wp2_with (go_at_call 93; (with_reducible refine (A _).mono ?_); rintro e w1 ⟨rfl, rfl⟩)
      go_round
      case rel => exact ⟨k + 1, by omega, by go_num⟩
      case measure => simp [intOf]; omega
    · go_wp2
      go_ret
      exact ⟨rfl, rfl⟩
theorem gboth (a b c d : Int) (w : World) (ha : sm a) (hb : sm b) (hc : sm c) (hd : sm d) : Calls Try.prog 88 #[cx a b, cx c d] w fun e w' => e = .returned (.int .i64 0) ∧ Below w.heap.size w w' := by
  have A := fun w => gcheck a b w ha hb
  have B := fun w => gcheck c d w hc hd
  go_enter Try.func88, Try.ntmps88
  go_wp2_with (first
    | (go_at_call 80; (with_reducible refine (A _).mono ?_); rintro e w1 ⟨rfl, hN1⟩)
    | (go_at_call 80; (with_reducible refine (B _).mono ?_); rintro e w2 ⟨rfl, hN2⟩))
  all_goals (go_ret; exact ⟨by simp, btr hN1 hN2⟩)
theorem add_fin : ∀ i j : Fin 9, (-4 ≤ (i : Int) - 4 + (j - 4) ∧ (i : Int) - 4 + (j - 4) ≤ 4) → floatBits .add .f64 (fb ((i : Int) - 4)) (fb ((j : Int) - 4)) = some (fb ((i : Int) - 4 + ((j : Int) - 4))) := by decide +kernel
theorem fb_add {a b : Int} (ha : sm a) (hb : sm b) (h : sm (a + b)) : floatBits .add .f64 (fb a) (fb b) = some (fb (a + b)) := by
  unfold sm at ha hb h
  have g := add_fin ⟨(a + 4).toNat, by omega⟩ ⟨(b + 4).toNat, by omega⟩
  have e1 : (((a + 4).toNat : Nat) : Int) - 4 = a := by omega
  have e2 : (((b + 4).toNat : Nat) : Int) - 4 = b := by omega
  simp only [e1, e2] at g
  exact g h
theorem csum {a b c d : Int} (ha : sm a) (hb : sm b) (hc : sm c) (hd : sm d) (h1 : sm (a + c)) (h2 : sm (b + d)) (t : TypeId) (w : World) : (binOp .add t (cx a b) (cx c d)).run Try.prog w = .ok (cx (a + c) (b + d)) w :=
  run_complex_sum w .add (.inl rfl) t .f64 _ _ _ _ _ _ (by simp [cSumBits, fb_add ha hc h1, fb_add hb hd h2])
set_option maxHeartbeats 400000 in
theorem gadd (a b c d : Int) (w : World) (ha : sm a) (hb : sm b) (hc : sm c) (hd : sm d) (h1 : sm (a + c)) (h2 : sm (b + d)) : Calls Try.prog 78 #[cx a b, cx c d] w fun e w' => e = .returned (.tuple #[cx (a + c) (b + d), .int .i64 0]) ∧ Below w.heap.size w w' := by
  have C := fun w => gboth a b c d w ha hb hc hd
  have S := csum ha hb hc hd h1 h2 42
  have WI := fun w0 : World => within_zb w0.heap.size 2 2 (fun j => if j = 0 then fb (a + c) else fb (b + d)) (fun j => if j = 0 then a + c else b + d) (w0.alloc (.cells #[.float .f64 (fb (a + c)), .float .f64 (fb (b + d))] 114)) (by omega) (fun j hj => by
    have : j = 0 ∨ j = 1 := by omega
    rcases this with rfl | rfl
    · exact ⟨(Bx.new w0 [.float .f64 (fb (a + c)), .float .f64 (fb (b + d))] 114).c 0 _ rfl, .inl ⟨h1, rfl⟩⟩
    · exact ⟨(Bx.new w0 [.float .f64 (fb (a + c)), .float .f64 (fb (b + d))] 114).c 1 _ rfl, .inl ⟨h2, rfl⟩⟩)
  generalize a + c = p at *
  generalize b + d = q at *
  clear ha hb hc hd h1 h2
  go_enter Try.func78, Try.ntmps78
  go_wp2_with (first
    | (go_at_call 88; (with_reducible refine (C _).mono ?_); rintro e w1 ⟨rfl, hN1⟩)
    | (go_at_call 89; (with_reducible refine (WI _).mono ?_); rintro e w2 ⟨rfl, rfl⟩))
  go_ret2
  exact ⟨rfl, bal hN1 _⟩
end Go.Proofs.Ytjmgcgjmaemgdaa
