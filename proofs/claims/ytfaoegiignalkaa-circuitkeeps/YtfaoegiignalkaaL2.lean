/-
  CircuitLayers: the pieces of the law's code; what is kept while it goes over the layers.
-/
import Derived.Test.YtfaoegiignalkaaL1
namespace Go.Proofs.Ytfaoegiignalkaa
open Go.RowKit Go.Shelf
attribute [local go_sem] Oper.semAt_some

theorem ol_size {W : World} {B : Nat} {v : Value} {ls : List (List Nat)} {vs : List Value} (h : OL W B v ls vs) : ls.length ≤ 9223372036854775807 := own_len2 h.out
def sl : Code → Code
  | .seq a _ => a
  | c => c
def sr : Code → Code
  | .seq _ b => b
  | c => c
def bk : Code → Code
  | .block _ c => c
  | c => c
def lp : Code → Code
  | .loop c => c
  | c => c
/-- What the law keeps while it goes over the layers: what it has seen, the order so far. -/
structure LW2 (V W : World) (gs n : Nat) (F : Nat → Bool) (v : Value) (od : List Nat) : Prop where
  below : Below V.heap.size V W
  seen : W.rowIs gs 4 n (fun x => .bool (F x))
  row : W.ownsRow (gs + 1) 3 1 v od.length (il od)
theorem LW2.on {V W W' : World} {gs n : Nat} {F : Nat → Bool} {v : Value} {od : List Nat} (h : LW2 V W gs n F v od) (hb : Below W.heap.size W W') : LW2 V W' gs n F v od :=
  ⟨btr h.below hb, h.seen.of_block (hb.block _ h.seen.lt), own_below h.row hb⟩
/-- The order so far: the operations of the layers below i, layer by layer. -/
def ODi (os : List Oq) (i : Nat) (od : List Nat) : Prop := od.Perm ((List.range os.length).filter fun x => decide (stt os x < i)) ∧ od.Pairwise fun a b => stt os a ≤ stt os b
/-- No layer is empty. -/
theorem lay_some {os : List Oq} (hok : ∀ k (h : k < os.length), Okay os[k]) {i : Nat} (hi : i < (lyF os 0 (fun _ => 0) []).length) : ∃ x, x < os.length ∧ stt os x = i := by
  obtain ⟨x, hx, h⟩ := (lay_len hok i).1 hi
  have : ∀ d x, x < os.length → stt os x = i + d → ∃ x, x < os.length ∧ stt os x = i := by
    intro d
    induction d with
    | zero => intro x hx h; exact ⟨x, hx, h⟩
    | succ d ih =>
      intro x hx h
      obtain ⟨m, hm, _, h2⟩ := stt_down hx (s := i + d) (by omega)
      exact ih m (by omega) h2
  exact this (stt os x - i) x hx (by omega)
theorem il_one (l : List Nat) : ∀ u ∈ il l, u.oneCell' = true := fun u hu => by
  obtain ⟨x, _, rfl⟩ := List.mem_map.1 hu
  rfl
/-- The layer below. -/
def prv (ls : List (List Nat)) (i : Nat) : List Nat := if i = 0 then [] else ls.getD (i - 1) []
/-- Is n bound to m, and behind it? -/
def bnd (os : List Oq) (n m : Nat) : Bool := decide (m < n) && bdB (os.getD m noOq) (os.getD n noOq)
/-- What stands since the layers were told. -/
structure CX (w V : World) (q b : Int) (os : List Oq) (a : Option Addr) (cp : Nat) (A : Nat → Option Addr) (C : Nat → Nat) (ls : List (List Nat)) (vs2 : List Value) (B : Nat) (a2 : Option Addr) (c2 : Nat) : Prop where
  kv : BK V w.heap.size #[.int .i64 q, .int .i64 b, .slice a os.length cp] 24
  l2 : OL V B (.slice a2 ls.length c2) ls vs2
  ov : OS V a cp os A C
  len : os.length ≤ 300
  hls : ls = lyF os 0 (fun _ => 0) []
  ok : ∀ k (h : k < os.length), Okay os[k]
section
variable {w V : World} {q b : Int} {os : List Oq} {a : Option Addr} {cp : Nat} {A : Nat → Option Addr} {C : Nat → Nat} {ls : List (List Nat)} {vs2 : List Value} {B : Nat} {a2 : Option Addr} {c2 : Nat}
theorem CX.get (h : CX w V q b os a cp A C ls vs2 B a2 c2) {i : Nat} (hi : i < ls.length) : ls[i] = (List.range os.length).filter fun x => stt os x == i := by
  have := lay_get h.ok i
  rw [← h.hls, List.getD_eq_getElem?_getD, List.getElem?_eq_getElem hi] at this
  exact this
theorem CX.le (h : CX w V q b os a cp A C ls vs2 B a2 c2) {i : Nat} (hi : i < ls.length) : ls[i].length ≤ 300 := by
  rw [h.get hi]
  exact Nat.le_trans (List.length_filter_le _ _) (by rw [List.length_range]; exact h.len)
theorem CX.mem (h : CX w V q b os a cp A C ls vs2 B a2 c2) {i : Nat} (hi : i < ls.length) (x : Nat) : x ∈ ls[i] ↔ x < os.length ∧ stt os x = i := by
  rw [h.get hi, List.mem_filter, List.mem_range]
  simp
theorem CX.prv (_h : CX w V q b os a cp A C ls vs2 B a2 c2) {i : Nat} (hi : i < ls.length) : prv ls (i + 1) = ls[i] := by
  unfold Go.Proofs.Ytfaoegiignalkaa.prv
  rw [if_neg (by omega), Nat.add_sub_cancel, List.getD_eq_getElem?_getD, List.getElem?_eq_getElem hi]
  rfl
/-- The whole layer below: one of it is bound. -/
theorem CX.bound (h : CX w V q b os a cp A C ls vs2 B a2 c2) {i n0 : Nat} (hi : i < ls.length) (hn : n0 < os.length) (hs : stt os n0 = i) : (((i : Int) == 0) || (Go.Proofs.Ytfaoegiignalkaa.prv ls i).any (bnd os n0)) = true := by
  cases i with
  | zero => rfl
  | succ i' =>
    rw [h.prv (by omega), Bool.or_eq_true]
    obtain ⟨m, hm, hb, hm2⟩ := stt_down hn hs
    refine .inr (List.any_eq_true.2 ⟨m, (h.mem (by omega) m).2 ⟨by omega, hm2⟩, ?_⟩)
    unfold bnd
    rw [decide_eq_true hm, hb]
    rfl
end
end Go.Proofs.Ytfaoegiignalkaa
