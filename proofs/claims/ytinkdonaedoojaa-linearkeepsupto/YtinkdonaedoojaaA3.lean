/-
  Rows of one's own; Eye.
-/
import Derived.Test.YtinkdonaedoojaaA2
namespace Go.Proofs.Ytinkdonaedoojaa
open Go.RowKit

/-- A function turned at one place. -/
def up (f : Nat → Nat) (i v : Nat) : Nat → Nat := fun j => if j = i then v else f j
/-- A block of one's own whose first n cells hold the numbers f. -/
structure OR (W : World) (g n : Nat) (f : Nat → Nat) : Prop where
  row : ∃ m F, n ≤ m ∧ W.rowIs g 25 m F ∧ ∀ i, i < n → F i = .int .u64 (f i : Int)
  lt : ∀ i, i < n → f i < 18446744073709551616
section
variable {W W' : World} {g n : Nat} {f f' : Nat → Nat}
theorem OR.cell (h : OR W g n f) {i : Nat} (hi : i < n) : W.cell? ⟨g, i, none⟩ = some (.int .u64 (f i : Int)) := by
  obtain ⟨m, F, hm, hr, he⟩ := h.row
  rw [hr.cell (by omega), he i hi]
theorem OR.free (h : OR W g n f) (i : Nat) : W.frozen? ⟨g, i, none⟩ = false := by
  obtain ⟨m, F, hm, hr, he⟩ := h.row
  exact hr.frozen i
theorem OR.gl (h : OR W g n f) : g < W.heap.size := by
  obtain ⟨m, F, hm, hr, he⟩ := h.row
  exact hr.lt
theorem OR.congr (h : OR W g n f) (e : ∀ i, i < n → f i = f' i) : OR W g n f' := by
  obtain ⟨m, F, hm, hr, he⟩ := h.row
  exact ⟨⟨m, F, hm, hr, fun i hi => by rw [he i hi, e i hi]⟩, fun i hi => by rw [← e i hi]; exact h.lt i hi⟩
theorem OR.of_block (h : OR W g n f) (e : W'.heap[g]? = W.heap[g]?) : OR W' g n f := by
  obtain ⟨m, F, hm, hr, he⟩ := h.row
  exact ⟨⟨m, F, hm, hr.of_block e, he⟩, h.lt⟩
theorem OR.on (h : OR W g n f) (hb : Below W.heap.size W W') : OR W' g n f := h.of_block (hb.block _ h.gl)
theorem OR.set (h : OR W g n f) (i v : Nat) (hv : v < 18446744073709551616) : OR (W.setCell ⟨g, i, none⟩ (.int .u64 (v : Int))) g n (up f i v) := by
  obtain ⟨m, F, hm, hr, he⟩ := h.row
  refine ⟨⟨m, _, hm, hr.set i (.int .u64 (v : Int)), fun j hj => ?_⟩, fun j hj => ?_⟩
  · show (if j = i then _ else _) = _
    unfold up
    by_cases e : j = i
    · rw [if_pos e, if_pos e]
    · rw [if_neg e, if_neg e, he j hj]
  · unfold up
    split
    · exact hv
    · exact h.lt j hj
theorem OR.far (h : OR W g n f) {b o : Nat} (hne : g ≠ b) (v : Value) : OR (W.setCell ⟨b, o, none⟩ v) g n f := by
  obtain ⟨m, F, hm, hr, he⟩ := h.row
  exact ⟨⟨m, F, hm, hr.setOther (a := ⟨b, o, none⟩) hne v, he⟩, h.lt⟩
theorem OR.rr (h : OR W g n f) (hn : n ≤ 9223372036854775807) : RR W (some ⟨g, 0, none⟩) n f :=
  ⟨fun i hi => ⟨g, 0, rfl, by rw [Nat.zero_add]; exact h.cell hi, h.gl⟩, h.lt, hn⟩
theorem OR.bk {T : TypeId} {cs : Array Value} {b : Nat} (h : OR W g n f) (hb : BK W b cs T) (hT : 25 ≠ T) : g ≠ b := fun e => by
  obtain ⟨m, F, hm, ⟨c, hr, _⟩, he⟩ := h.row
  subst e
  have h2 : W.heap[g]? = some (.cells cs T (0, 0)) := hb
  rw [hr] at h2
  cases h2
  exact hT rfl
end
/-- A slice of one's own. -/
def OS (W : World) (B : Nat) (v : Value) (n : Nat) (f : Nat → Nat) : Prop :=
  ∃ a c, v = .slice a n c ∧ n ≤ c ∧ c ≤ 9223372036854775807 ∧ (n = 0 ∨ ∃ g, a = some ⟨g, 0, none⟩ ∧ B ≤ g ∧ OR W g n f)
theorem OS.on {W W' : World} {B n : Nat} {v : Value} {f : Nat → Nat} (h : OS W B v n f) (hb : Below W.heap.size W W') : OS W' B v n f := by
  obtain ⟨a, c, e, h1, h2, h3⟩ := h
  refine ⟨a, c, e, h1, h2, h3.imp id ?_⟩
  rintro ⟨g, e, hg, ho⟩
  exact ⟨g, e, hg, ho.on hb⟩
theorem OS.mono {W : World} {B B' n : Nat} {v : Value} {f : Nat → Nat} (h : OS W B v n f) (hb : B' ≤ B) : OS W B' v n f := by
  obtain ⟨a, c, e, h1, h2, h3⟩ := h
  refine ⟨a, c, e, h1, h2, h3.imp id ?_⟩
  rintro ⟨g, e, hg, ho⟩
  exact ⟨g, e, Nat.le_trans hb hg, ho⟩
theorem OS.congr {W : World} {B n : Nat} {v : Value} {f f' : Nat → Nat} (h : OS W B v n f) (hf : ∀ i, i < n → f i = f' i) : OS W B v n f' := by
  obtain ⟨a, c, e, h1, h2, h3⟩ := h
  refine ⟨a, c, e, h1, h2, h3.imp id ?_⟩
  rintro ⟨g, e, hg, ho⟩
  exact ⟨g, e, hg, ho.congr hf⟩
theorem OS.rr {W : World} {B n : Nat} {v : Value} {f : Nat → Nat} (h : OS W B v n f) : ∃ a c, v = .slice a n c ∧ RR W a n f := by
  obtain ⟨a, c, e, h1, h2, h3⟩ := h
  refine ⟨a, c, e, ?_⟩
  rcases h3 with rfl | ⟨g, rfl, hg, ho⟩
  · exact ⟨fun i hi => absurd hi (Nat.not_lt_zero _), fun i hi => absurd hi (Nat.not_lt_zero _), Nat.zero_le _⟩
  · exact ho.rr (by omega)
theorem OS.nil (W : World) (B : Nat) (f : Nat → Nat) : OS W B (.slice none 0 0) 0 f := ⟨none, 0, rfl, Nat.le_refl _, by omega, .inl rfl⟩
theorem OS.of {W : World} {B g n c : Nat} {f : Nat → Nat} (h : OR W g n f) (hc : n ≤ c) (hl : c ≤ 9223372036854775807) (hB : B ≤ g) : OS W B (.slice (some ⟨g, 0, none⟩) n c) n f := ⟨_, c, rfl, hc, hl, .inr ⟨g, rfl, hB, h⟩⟩
theorem Try.info25 : (Try.prog.info? 25).map (fun i => (i.zero, i.size, i.bytes)) = some (some (.int .u64 0), 1, 8) := by kernel_rfl
theorem Try.underlying22 : Try.prog.underlying 22 = some (.slice 25) := by kernel_rfl
theorem made_u64 (n : Nat) (hn : n ≤ 4096) (w : World) : (Instr.makeSlice 22 (.int .i64 (n : Int)) (.int .i64 (n : Int))).run Try.prog w = .ok (.slice (some ⟨w.heap.size, 0, none⟩) n n) (w.alloc (.cells (madeCells #[.int .u64 0] n) 25)) :=
  run_make_row' 22 25 (.int .u64 0) 8 Try.underlying22 Try.info25 rfl .i64 .i64 n (by omega) (by omega) w
theorem or_made (w : World) (n : Nat) : OR (w.alloc (.cells (madeCells #[.int .u64 0] n) 25)) w.heap.size n (fun _ => 0) :=
  ⟨⟨n, _, Nat.le_refl _, World.rowIs_made w (.int .u64 0) n 25, fun i _ => rfl⟩, fun _ _ => by omega⟩
theorem alz (w : World) (o : Obj) : (w.alloc o).heap.size = w.heap.size + 1 := by simp
/-- The rows of Eye, as far as k. -/
def eyT (k : Nat) : Nat → Nat := fun i => if i < k then 2 ^ i else 0
theorem eyT_up (k : Nat) : up (eyT k) k (2 ^ k) = eyT (k + 1) := funext fun i => by
  unfold up eyT
  by_cases e : i = k
  · rw [if_pos e, if_pos (by omega), e]
  · rw [if_neg e]
    by_cases h : i < k
    · rw [if_pos h, if_pos (by omega)]
    · rw [if_neg h, if_neg (by omega)]
set_option maxHeartbeats 1000000 in
theorem eyeR_any (n : Nat) (w : World) (hn : n ≤ 64) :
    Calls Try.prog 28 #[.int .i64 n] w fun e w' => e = .returned (.slice (some ⟨w.heap.size, 0, none⟩) n n) ∧ OR w' w.heap.size n (fun i => 2 ^ i) ∧ Below w.heap.size w w' := by
  have mk := made_u64 n (by omega)
  go_enter Try.func28, Try.ntmps28
  go_wp2
  go_loopw [8] (fun i wx => ∃ k : Nat, k ≤ n ∧ i = .int .i64 k ∧ Hid (OR wx w.heap.size n (eyT k)) ∧ Hid (Below w.heap.size w wx)) (fun i _ => n - (intOf i).toNat)
  case atStart => exact ⟨0, Nat.zero_le _, rfl, (or_made w n).congr (fun i _ => by unfold eyT; rw [if_neg (by omega)]), bal (Below.refl _ _) _⟩
  case round =>
    obtain ⟨k, hk, rfl, HO, HB⟩ := hrel
    by_cases hlt : k < n
    · have hc := HO.out.cell hlt
      have hf := HO.out.free k
      have hg := HO.out.gl
      have hp := i_pow k (by omega)
      have HO2 := HO.out.set k (2 ^ k) (pow_lt (by omega))
      rw [eyT_up] at HO2
      have HO2 := hid HO2
      have HB2 := hid (bset HB.out w.heap.size k (.int .u64 ((2 ^ k : Nat) : Int)) (Nat.le_refl _))
      generalize (2 ^ k : Nat) = P at *
      go_wp2
      exact ⟨⟨k + 1, by omega, by go_num, HO2, HB2⟩, by simp only [intOf]; omega⟩
    · obtain rfl : k = n := by omega
      go_wp2
      go_ret
      exact ⟨rfl, HO.out.congr (fun i hi => by unfold eyT; rw [if_pos hi]), HB.out⟩
/-- The zero matrix, as it is told beside an error. -/
abbrev zl : Array Value := #[.int .i64 0, .slice none 0 0]
/-- What a call tells that tells a matrix and an error. -/
def LR (w w' : World) (e : Ending) (M : Int) (m : Nat) (F : Nat → Nat) (E : Int) : Prop :=
  ∃ v, e = .returned (.tuple #[.agg #[.int .i64 M, v], .int .i64 E]) ∧ OS w' w.heap.size v m F ∧ Below w.heap.size w w'
theorem two_set {W : World} {b : Nat} {p q : Value} (K : BK W b #[p, q] 24) (x y : Value) : ((W.setCell ⟨b, 0, none⟩ x).setCell ⟨b, 1, none⟩ y).cell? ⟨b, 0, none⟩ = some x ∧ ((W.setCell ⟨b, 0, none⟩ x).setCell ⟨b, 1, none⟩ y).cell? ⟨b, 1, none⟩ = some y :=
  ⟨((K.set 0 x).set 1 y).cell 0, ((K.set 0 x).set 1 y).cell 1⟩
theorem OS.far2 {W : World} {B n b : Nat} {v : Value} {f : Nat → Nat} {cs : Array Value} (h : OS W B v n f) (K : BK W b cs 24) (x y : Value) : OS ((W.setCell ⟨b, 0, none⟩ x).setCell ⟨b, 1, none⟩ y) B v n f := by
  obtain ⟨a, c, e, h1, h2, h3⟩ := h
  refine ⟨a, c, e, h1, h2, h3.imp id ?_⟩
  rintro ⟨g, e, hg, ho⟩
  have hne := ho.bk K (by decide)
  exact ⟨g, e, hg, (ho.far hne x).far hne y⟩
theorem lr_end {w W : World} {b : Nat} {M E : Int} {v p q : Value} {m : Nat} {F : Nat → Nat} (hO : OS W w.heap.size v m F) (K : BK W b #[p, q] 24) (hb : w.heap.size ≤ b) (hB : Below w.heap.size w W) :
    LR w ((W.setCell ⟨b, 0, none⟩ (.int .i64 M)).setCell ⟨b, 1, none⟩ v) (.returned (.tuple #[.agg #[.int .i64 M, v], .int .i64 E])) M m F E :=
  ⟨v, rfl, hO.far2 K _ _, bset (bset hB _ _ _ hb) _ _ _ hb⟩
theorem lr_zero {w W : World} {E : Int} (F : Nat → Nat) (hB : Below w.heap.size w W) : LR w W (.returned (.tuple #[.agg #[.int .i64 0, .slice none 0 0], .int .i64 E])) 0 0 F E :=
  ⟨_, rfl, OS.nil _ _ _, hB⟩
set_option maxHeartbeats 1000000 in
theorem eye_good (n : Nat) (w : World) (hn : n ≤ 64) : Calls Try.prog 11 #[.int .i64 n] w fun e w' => LR w w' e n n (fun i => 2 ^ i) 0 := by
  have C := fun w => eyeR_any n w hn
  have hB0 := hid (bal (Below.refl w.heap.size w) (.cells zl 24))
  have HK := hid (bk_new w zl 24)
  go_enter Try.func11, Try.ntmps11
  go_wp2_with (go_at_call 28; (with_reducible refine (C _).mono ?_); rintro e w1 ⟨rfl, hO, hB⟩; (have k0 := bk_on HK.out hB); (have d0 := k0.cell); (have f0 := k0.free); (have l0 := k0.lt))
  obtain ⟨q0, q1⟩ := two_set k0 (.int .i64 (n : Int)) (.slice (some ⟨w.heap.size + 1, 0, none⟩) n n)
  rw [alz] at hO
  exact bodyPost_ret (v := .tuple #[.agg #[.int .i64 (n : Int), .slice (some ⟨w.heap.size + 1, 0, none⟩) n n], .int .i64 0]) (by simp [results, Try.results11, go_sem, q0, q1]) rfl (lr_end (OS.of hO (Nat.le_refl _) (by omega) (by omega)) k0 (Nat.le_refl _) (btr hB0.out hB))
set_option maxHeartbeats 1000000 in
theorem eye_bad (N : Int) (F : Nat → Nat) (w : World) (hn : N < 0 ∨ 64 < N) : Calls Try.prog 11 #[.int .i64 N] w fun e w' => LR w w' e 0 0 F 2 := by
  by_cases h0 : N < 0
  · clear hn
    go_enter Try.func11, Try.ntmps11
    go_wp2
    exact bodyPost_ret (v := .tuple #[.agg #[.int .i64 0, .slice none 0 0], .int .i64 2]) (by simp [results, Try.results11, go_sem]) rfl (lr_zero F (bal (Below.refl _ _) _))
  · have h1 : 64 < N := by omega
    clear hn
    go_enter Try.func11, Try.ntmps11
    go_wp2
    exact bodyPost_ret (v := .tuple #[.agg #[.int .i64 0, .slice none 0 0], .int .i64 2]) (by simp [results, Try.results11, go_sem]) rfl (lr_zero F (bal (Below.refl _ _) _))
end Go.Proofs.Ytinkdonaedoojaa
