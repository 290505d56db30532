/-
  One operation: its fields, its condition, its numbers; the reference's shape.
-/
import Derived.Test.YtinkdonaedoojaaCB1
namespace Go.Proofs.Ytinkdonaedoojaa.CL
open Go.RowKit Go.Sort

theorem ret_bool {a b : Bool} (h : a = b) : Ending.returned (.bool a) = .returned (.bool b) := by rw [h]
theorem ret_int {k : IntKind} {a b : Int} (h : a = b) : Ending.returned (.int k a) = .returned (.int k b) := by rw [h]
def emB (s : ByteArray) : Bool := decide (s = ⟨#[]⟩)
theorem em_lit (s : ByteArray) : (s.toList == []) = emB s := by
  rw [show ([] : List UInt8) = (⟨#[]⟩ : ByteArray).toList by rw [ByteArray.toList_eq]]
  exact beq_str s ⟨#[]⟩
/-- Is the Kind one, and is nothing told that it has no use for? -/
def rfB (o : Oq) : Bool := if o.k == 1 then o.b == 0 else if o.k == 2 then emB o.n else if o.k == 3 then emB o.n && o.b == 0 else false
set_option maxHeartbeats 400000 in
set_option maxRecDepth 100000 in
theorem rightFields_any (o : Oq) (a : Option Addr) (c : Nat) (w : World) : Calls Try.prog 59 #[opv o a c] w fun e w' => e = .returned (.bool (rfB o)) ∧ Below w.heap.size w w' := by
  have E := em_lit o.n
  go_enter Try.func59, Try.ntmps59
  go_wp2
  all_goals
    go_ret
    refine ⟨ret_bool ?_, bal (Below.refl _ _) _⟩
    simp [rfB, *]
def anB (v m : Int) : Bool := bits BinOp.andNot IntKind.u64 v m == 0
/-- Is there no trace of a condition, or one that some values of so many bits meet? -/
def rcB (o : Oq) (b : Nat) : Bool := if o.f then (o.m != 0) && (decide (o.m / 2 ^ b = 0) && anB o.v o.m) else (o.m == 0) && (o.v == 0)
set_option maxHeartbeats 400000 in
set_option maxRecDepth 100000 in
theorem rightCondition_any (o : Oq) (a : Option Addr) (c : Nat) (b : Nat) (w : World) (hf : Fit o) (hb : b ≤ 64) : Calls Try.prog 60 #[opv o a c, .int .i64 b] w fun e w' => e = .returned (.bool (rcB o b)) ∧ Below w.heap.size w w' := by
  obtain ⟨h1, h2, h3, h4, h5⟩ := hf
  go_enter Try.func60, Try.ntmps60
  go_wp2
  all_goals
    go_ret
    refine ⟨ret_bool ?_, bal (Below.refl _ _) _⟩
    simp_all [rcB, anB]
/-- Does the circuit have the qubits, and the bit that is measured into? -/
def inB (q : Int) (l : List Int) : Bool := l.all fun x => decide (0 ≤ x) && decide (x < q)
def rnB (o : Oq) (q b : Int) : Bool := inB q o.qs && (!(o.k == 2) || (decide (0 ≤ o.b) && decide (o.b < b)))
theorem inB_at {q : Int} {l : List Int} (k : Nat) (h : k < l.length) (hb : l[k] < 0 ∨ q ≤ l[k]) : inB q l = false := by
  unfold inB
  rw [List.all_eq_false]
  refine ⟨l[k], List.getElem_mem h, ?_⟩
  simp
  omega
theorem inB_all {q : Int} {l : List Int} (h : ∀ k (h : k < l.length), 0 ≤ l[k] ∧ l[k] < q) : inB q l = true := by
  unfold inB
  rw [List.all_eq_true]
  intro x hx
  obtain ⟨k, hk, rfl⟩ := List.getElem_of_mem hx
  have := h k hk
  simp
  exact this
set_option maxHeartbeats 1000000 in
set_option maxRecDepth 100000 in
theorem rightNumbers_any (o : Oq) (a : Option Addr) (c : Nat) (q b : Int) (v : Value) (a2 : Option Addr) (n2 c2 : Nat) (w : World) (hf : Fit o) (hq : QS w a c o.qs) (hv : v = .slice a2 n2 c2) : Calls Try.prog 61 #[opv o a c, .agg #[.int .i64 q, .int .i64 b, v]] w fun e w' => e = .returned (.bool (rnB o q b)) ∧ Below w.heap.size w w' := by
  subst hv
  obtain ⟨hcap, hat⟩ := hq
  have hl := hf.l
  have HA : Hid (∀ k, k < o.qs.length → ∃ b' o', a = some ⟨b', o', none⟩ ∧ RI w b' o' o.qs) := hat
  clear hf hat
  obtain ⟨K, N, Q, B, F, M, V⟩ := o
  simp only at hl hcap HA ⊢
  go_enter Try.func61, Try.ntmps61
  go_wp2
  go_loop [10] (fun t => ∃ k : Nat, k ≤ Q.length ∧ t = .int .i64 k ∧ Hid (∀ j (h : j < Q.length), j < k → 0 ≤ Q[j] ∧ Q[j] < q)) (fun t => Q.length - (intOf t).toNat)
  case atStart => exact ⟨0, Nat.zero_le _, rfl, fun j _ h => absurd h (Nat.not_lt_zero _)⟩
  case round =>
    obtain ⟨k, hk, rfl, hJ⟩ := hrel
    by_cases hlt : k < Q.length
    · obtain ⟨b', o', rfl, r⟩ := HA.out k hlt
      have c0 := r.c k hlt
      have hbl := r.lt
      have c1 : ∀ x y, ((w.alloc x).alloc y).cell? ⟨b', o' + k, none⟩ = some (.int .i64 Q[k]) := fun x y => ((bal (bal (Below.refl _ _) x) y).cell (p := ⟨b', o' + k, none⟩) hbl).trans c0
      have HB1 : Hid (Q[k] < 0 ∨ q ≤ Q[k] → inB q Q = false) := fun h => inB_at k hlt h
      have HB2 : Hid (0 ≤ Q[k] ∧ Q[k] < q → ∀ j (h : j < Q.length), j < k + 1 → 0 ≤ Q[j] ∧ Q[j] < q) := fun h j hj hjk => by
        by_cases e : j = k
        · subst e; exact h
        · exact hJ.out j hj (by omega)
      clear r hJ c0
      generalize Q[k] = x at *
      by_cases h0 : x < 0
      · go_wp2
        go_ret
        refine ⟨ret_bool ?_, bal (bal (Below.refl _ _) _) _⟩
        unfold rnB
        rw [HB1.out (.inl h0)]
        rfl
      · by_cases h1 : q ≤ x
        · go_wp2
          go_ret
          refine ⟨ret_bool ?_, bal (bal (Below.refl _ _) _) _⟩
          unfold rnB
          rw [HB1.out (.inr h1)]
          rfl
        · have hJ2 : Hid (∀ j (h : j < Q.length), j < k + 1 → 0 ≤ Q[j] ∧ Q[j] < q) := HB2.out ⟨by omega, by omega⟩
          clear HB1 HB2
          go_wp2
          go_round
          case rel => exact ⟨k + 1, by omega, by go_num, hJ2⟩
          case measure => simp [intOf]; omega
    · obtain rfl : k = Q.length := by omega
      have hall : Hid (inB q Q = true) := inB_all (fun j hj => hJ.out j hj hj)
      clear hJ
      go_wp2
      all_goals
        go_ret
        refine ⟨ret_bool ?_, bal (bal (Below.refl _ _) _) _⟩
        unfold rnB
        rw [hall.out]
        first | (simp_all; done) | (simp_all; omega)
end Go.Proofs.Ytinkdonaedoojaa.CL
