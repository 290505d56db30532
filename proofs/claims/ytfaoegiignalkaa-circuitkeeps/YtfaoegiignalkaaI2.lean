/-
  The iterator that goes over operations from behind.
-/
import Derived.RangeFuncNested
import Derived.RangeFuncBound
import Derived.RangeFuncCalls
import Derived.RangeFuncLeaves
import Derived.RangeFuncFrom
import Derived.Shelf.Abstract
import Derived.Shelf.RegionOpen
import Derived.WalkKit
import Derived.OwnWalkIn
import Derived.TacticsInMore
import Derived.LoopNIn
import Derived.LoopIn
import Derived.Test.YtfaoegiignalkaaI1
namespace Go.Proofs.Ytfaoegiignalkaa
open Go.RowKit Go.Shelf
attribute [local go_sem] Oper.semAt_some

/-- A number of an operation. -/
abbrev Ox (os : List Oq) := { j : Nat // j < os.length }
/-- The last k numbers, from behind. -/
def bl (os : List Oq) (k : Nat) : List (Ox os) := (List.range k).filterMap fun i => if h : os.length - 1 - i < os.length then some ⟨os.length - 1 - i, h⟩ else none
theorem bl_succ {os : List Oq} {k : Nat} (h : k < os.length) : bl os (k + 1) = bl os k ++ [⟨os.length - 1 - k, by omega⟩] := by
  unfold bl
  rw [List.range_succ, List.filterMap_append]
  congr 1
  simp only [List.filterMap_cons, List.filterMap_nil]
  rw [dif_pos (by omega)]
theorem bl_len {os : List Oq} : ∀ k, k ≤ os.length → (bl os k).length = k
  | 0, _ => rfl
  | k + 1, h => by rw [bl_succ (by omega), List.length_append, bl_len k (by omega)]; rfl
/-- What a round keeps: what lay below n₀, and the box Bn. -/
def KW (n₀ Bn : Nat) (W W' : World) : Prop := (∀ b, b < n₀ ∨ b = Bn → W'.heap[b]? = W.heap[b]?) ∧ W.heap.size ≤ W'.heap.size
theorem KW.trans {n₀ Bn : Nat} {A B C : World} (h : KW n₀ Bn A B) (g : KW n₀ Bn B C) : KW n₀ Bn A C := ⟨fun b hb => (g.1 b hb).trans (h.1 b hb), Nat.le_trans h.2 g.2⟩
theorem cell_of_eq {W W' : World} {b o : Nat} (e : W'.heap[b]? = W.heap[b]?) : W'.cell? ⟨b, o, none⟩ = W.cell? ⟨b, o, none⟩ := by
  unfold World.cell?
  simp only
  rw [e]
theorem RO.kept {W W' : World} {b o : Nat} {os : List Oq} {A : Nat → Option Addr} {C : Nat → Nat} (h : RO W b o os A C) (e : W'.heap[b]? = W.heap[b]?) (hl : b < W'.heap.size) : RO W' b o os A C :=
  ⟨fun j hj => (cell_of_eq e).trans (h.c0 j hj), fun j hj => (cell_of_eq e).trans (h.c1 j hj), fun j hj => (cell_of_eq e).trans (h.c2 j hj), fun j hj => (cell_of_eq e).trans (h.c3 j hj), fun j hj => (cell_of_eq e).trans (h.c4 j hj), fun j hj => (cell_of_eq e).trans (h.c5 j hj), fun j hj => (cell_of_eq e).trans (h.c6 j hj), hl⟩
abbrev oenc (os : List Oq) (A : Nat → Option Addr) (C : Nat → Nat) (x : Ox os) : Array Value := #[.int .i64 (x.1 : Nat), opv (os[x.1]'x.2) (A x.1) (C x.1)]
set_option maxHeartbeats 1000000 in
set_option maxRecDepth 100000 in
theorem back1_in (F : Fence) (n : Nat) (h54 : F.fn 54) (hro : F.round = none) (hn : 1 ≤ n) (l Bn n₀ : Nat) (os : List Oq) (a : Option Addr) (cp : Nat) (A : Nat → Option Addr) (C : Nat → Nat) (J Jx : List (Ox os) → World → Prop)
    (hY : ∀ (pre : List (Ox os)) (x : Ox os) W, J pre W → pre.length < os.length → YieldAt F (n - 1) Try.prog l (oenc os A C x) W fun e W' =>
      (e = .returned (.bool true) ∧ J (pre ++ [x]) W' ∧ KW n₀ Bn W W') ∨ (e = .returned (.bool false) ∧ Jx (pre ++ [x]) W'))
    (W : World) (hl : os.length ≤ 9223372036854775807) (hBn : W.cell? ⟨Bn, 0, none⟩ = some (.slice a os.length cp)) (hO : ∀ k, k < os.length → ∃ b o, a = some ⟨b, o, none⟩ ∧ b < n₀ ∧ RO W b o os A C) (h0 : J [] W) :
    CallsIn F n Try.prog 54 #[.func (.yield l) #[] #[], .pointer (some ⟨Bn, 0, none⟩)] W fun e W' => (∃ v, e = .returned v) ∧
      ((∃ ys, ys = bl os os.length ∧ J ys W') ∨ (∃ pre, (∃ q, q ≤ os.length ∧ pre = bl os q) ∧ Jx pre W')) := by
  refine callsIn_of_wp Try.func54 rfl h54 ?_ hro
  simp only [Try.ntmps54, List.size_toArray, List.length_cons, List.length_nil, Nat.reduceAdd, Nat.reduceSub, Array.replicate_succ, Array.replicate_zero, List.push_toArray, List.append_toArray, List.nil_append, List.cons_append]
  gi_wp2
  gi_loopw [3] (fun s wr => ∃ k : Nat, k ≤ os.length ∧ s = .int .i64 ((os.length : Int) - 1 - k) ∧ J (bl os k) wr ∧ wr.cell? ⟨Bn, 0, none⟩ = some (.slice a os.length cp) ∧ ∀ k, k < os.length → ∃ b o, a = some ⟨b, o, none⟩ ∧ b < n₀ ∧ RO wr b o os A C) (fun s _ => (intOf s + 1).toNat)
  case atStart => exact ⟨0, Nat.zero_le _, by simp, h0, hBn, hO⟩
  case round =>
    obtain ⟨k, hk, rfl, hJs, hcell, hO1⟩ := hrel
    by_cases hlt : k < os.length
    case neg =>
      obtain rfl : k = os.length := by omega
      have HJ : Hid (J (bl os os.length) wr) := hJs
      have hd : ((os.length : Int) - 1 - (os.length : Int)) = -1 := by omega
      clear hJs hO1 hO hY
      rw [hd]
      gi_wp2
      go_end0
      exact ⟨⟨_, rfl⟩, .inl ⟨_, rfl, HJ.out⟩⟩
    obtain ⟨i, hi⟩ : ∃ i : Nat, i = os.length - 1 - k := ⟨_, rfl⟩
    have hil : i < os.length := by omega
    have hd : ((os.length : Int) - 1 - (k : Int)) = (i : Int) := by omega
    rw [hd]
    obtain ⟨fn, tmps, assign, body, hy, hR⟩ := hY (bl os k) ⟨i, hil⟩ wr hJs (by rw [bl_len k hk]; exact hlt)
    obtain ⟨b, o, rfl, hbn, r⟩ := hO1 i hil
    have m0 := r.c0 i hil
    have m1 := r.c1 i hil
    have m2 := r.c2 i hil
    have m3 := r.c3 i hil
    have m4 := r.c4 i hil
    have m5 := r.c5 i hil
    have m6 := r.c6 i hil
    have hbl := r.lt
    have HO2 : Hid (∀ W', KW n₀ Bn wr W' → W'.cell? ⟨Bn, 0, none⟩ = some (.slice (some ⟨b, o, none⟩) os.length cp) ∧ ∀ k, k < os.length → ∃ b1 o1, some (⟨b, o, none⟩ : Addr) = some ⟨b1, o1, none⟩ ∧ b1 < n₀ ∧ RO W' b1 o1 os A C) := fun W' h => ⟨(cell_of_eq (h.1 Bn (.inr rfl))).trans hcell, fun _ _ => ⟨b, o, rfl, hbn, r.kept (h.1 b (.inl hbn)) (Nat.lt_of_lt_of_le hbl h.2)⟩⟩
    have HSU : Hid (bl os (k + 1) = bl os k ++ [⟨i, hil⟩]) := by show _ = _; rw [bl_succ hlt]; subst hi; rfl
    have HD2 : Hid ((i : Int) - 1 = (os.length : Int) - 1 - ((k + 1 : Nat) : Int)) := by show _ = _; omega
    clear hJs hO1 hO hY r hd hi
    dsimp only [oenc, opv] at hy
    generalize os[i] = op at *
    generalize A i = ak at *
    generalize C i = ck at *
    gi_wp2
    refine hR.mono ?_
    rintro e W3 (⟨rfl, hJ3, hk3⟩ | ⟨rfl, hJx3⟩)
    · rw [← HSU.out] at hJ3
      obtain ⟨hc3, hO3⟩ := HO2.out W3 hk3
      have HJ3 : Hid (J (bl os (k + 1)) W3) := hJ3
      have HO3 : Hid (∀ k, k < os.length → ∃ b1 o1, some (⟨b, o, none⟩ : Addr) = some ⟨b1, o1, none⟩ ∧ b1 < n₀ ∧ RO W3 b1 o1 os A C) := hO3
      clear hJ3 hO3 hk3 hR hy hcell m0 m1 m2 m3 m4 m5 m6
      gi_wp2
      go_roundw
      case rel => exact ⟨k + 1, by omega, by rw [← HD2.out], HJ3.out, hc3, HO3.out⟩
      case measure => first | (simp [intOf]; done) | (simp [intOf]; omega)
    · rw [← HSU.out] at hJx3
      have HJX : Hid (Jx (bl os (k + 1)) W3) := hJx3
      clear hJx3 hR hy m0 m1 m2 m3 m4 m5 m6
      gi_wp2
      refine bodyPost_ret (results_none rfl _ _ _) rfl ?_
      exact ⟨⟨_, rfl⟩, .inr ⟨_, ⟨k + 1, by omega, rfl⟩, HJX.out⟩⟩
theorem back_stops (F : Fence) (n : Nat) (h54 : F.fn 54) (hro : F.round = none) (hn : 1 ≤ n) (Bn n₀ : Nat) (os : List Oq) (a : Option Addr) (cp : Nat) (A : Nat → Option Addr) (C : Nat → Nat) (w : World) (hl : os.length ≤ 9223372036854775807)
    (hb : Bn < w.heap.size) (hc : w.cell? ⟨Bn, 0, none⟩ = some (.slice a os.length cp)) (hO : ∀ k, k < os.length → ∃ b o, a = some ⟨b, o, none⟩ ∧ b < n₀ ∧ RO w b o os A C) :
    SeqStopsK F n Try.prog 54 #[.pointer (some ⟨Bn, 0, none⟩)] (oenc os A C) (KW n₀ Bn) (fun ys => ys = bl os os.length) (fun pre => ∃ q, q ≤ os.length ∧ pre = bl os q) os.length w := fun l J Jx W hW _ _ hY h0 =>
  back1_in F n h54 hro hn l Bn n₀ os a cp A C J Jx hY W hl ((hW.cell (p := ⟨Bn, 0, none⟩) hb).trans hc) (fun k hk => by obtain ⟨b, o, e, h, r⟩ := hO k hk; exact ⟨b, o, e, h, r.below hW⟩) h0
theorem backward_any (a : Option Addr) (n c : Nat) (w : World) : Calls Try.prog 38 #[.slice a n c] w fun e w' => e = .returned (.func (.func 54) #[] #[.pointer (some ⟨w.heap.size, 0, none⟩)]) ∧ w' = w.alloc (.cells #[.slice a n c] 22) := by
  go_enter Try.func38, Try.ntmps38
  go_wp2
  go_ret
  exact ⟨rfl, rfl⟩
end Go.Proofs.Ytfaoegiignalkaa
