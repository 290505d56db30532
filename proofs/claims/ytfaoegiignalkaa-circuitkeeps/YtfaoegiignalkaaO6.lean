/-
  Whether each number below a count stands once in a list.
-/
import Derived.Test.YtfaoegiignalkaaO5
import Derived.Deep.OwnRows
namespace Go.Proofs.Ytfaoegiignalkaa
open Go.RowKit Go.Shelf
attribute [local go_sem] Oper.semAt_some

/-- Each number below n stands there once. -/
def Each (l : List Int) (n : Nat) : Prop := l.length = n ∧ ∀ j (h : j < l.length), (0 ≤ l[j] ∧ l[j] < (n : Int)) ∧ l[j] ∉ l.take j
theorem Try.info4 : (Try.prog.info? 4).map (fun i => (i.zero, i.size, i.bytes)) = some (some (.bool false), 1, 1) := by kernel_rfl
theorem made_bools (n : Nat) (hn : n ≤ 4096) (w : World) : (Instr.makeSlice 53 (.int .i64 (n : Int)) (.int .i64 (n : Int))).run Try.prog w = .ok (.slice (some ⟨w.heap.size, 0, none⟩) n n) (w.alloc (.cells (madeCells #[.bool false] n) 4)) :=
  run_make_row' 53 4 (.bool false) 1 Try.underlying53 Try.info4 rfl .i64 .i64 n (by omega) (by omega) w
/-- Which numbers stand among the first k. -/
abbrev seenF (l : List Int) (k : Nat) : Nat → Value := fun i => .bool (decide ((i : Int) ∈ l.take k))
theorem seen_next {W : World} {g n k : Nat} {l : List Int} (h : W.rowIs g 4 n (seenF l k)) (hk : k < l.length) {x : Nat} (hx : l[k] = (x : Int)) : (W.setCell ⟨g, x, none⟩ (.bool true)).rowIs g 4 n (seenF l (k + 1)) := by
  refine (h.set x (.bool true)).congr fun i _ => ?_
  show (if i = x then Value.bool true else .bool (decide ((i : Int) ∈ l.take k))) = .bool (decide ((i : Int) ∈ l.take (k + 1)))
  rw [List.take_succ_eq_append_getElem hk, hx]
  by_cases e : i = x
  · rw [if_pos e, e]
    simp
  · rw [if_neg e]
    congr 2
    rw [List.mem_append, List.mem_singleton]
    exact propext ⟨.inl, fun h => h.elim id (fun h => absurd (by omega) e)⟩
def EcR (l : List Int) (n : Nat) (w : World) (e : Ending) (w' : World) : Prop := ∃ b : Bool, e = .returned (.bool b) ∧ (b = true ↔ Each l n) ∧ Below w.heap.size w w'
set_option maxHeartbeats 4000000 in
set_option maxRecDepth 100000 in
theorem eachOnce_any (l : List Int) (n : Nat) (a : Option Addr) (c : Nat) (w : World) (hq : QS w a c l) (hl : l.length ≤ 9223372036854775807) (hn : n ≤ 4096) :
    Calls Try.prog 45 #[.slice a l.length c, .int .i64 (n : Nat)] w fun e w' => EcR l n w e w' := by
  have HYS : Hid (Each l n → ∀ w', Below w.heap.size w w' → EcR l n w (.returned (.bool true)) w') := fun h w' hb => ⟨true, rfl, ⟨fun _ => h, fun _ => rfl⟩, hb⟩
  have HNO : Hid (¬ Each l n → ∀ w', Below w.heap.size w w' → EcR l n w (.returned (.bool false)) w') := fun h w' hb => ⟨false, rfl, ⟨fun h => (by cases h), fun h' => absurd h' h⟩, hb⟩
  generalize EcR l n w = Q at *
  have HQ := hid hq
  have hcap := hq.cap
  clear hq
  by_cases hln : l.length = n
  case neg =>
    have h1 : ((l.length : Int) != (n : Int)) = true := bne_iff_ne.2 (by omega)
    go_enter Try.func45, Try.ntmps45
    go_wp2
    exact HNO.out (fun h => hln h.1) _ (Below.refl _ _)
  subst hln
  have mk := made_bools l.length hn
  go_enter Try.func45, Try.ntmps45
  go_wp2
  go_loopw [16] (fun s wr => ∃ k : Nat, k ≤ l.length ∧ s = .int .i64 (k : Nat) ∧ Below w.heap.size w wr ∧ wr.rowIs w.heap.size 4 l.length (seenF l k) ∧ ∀ j (h : j < l.length), j < k → (0 ≤ l[j] ∧ l[j] < (l.length : Int)) ∧ l[j] ∉ l.take j) (fun s _ => l.length - (intOf s).toNat)
  case atStart => exact ⟨0, Nat.zero_le _, rfl, bal (Below.refl _ _) _, (World.rowIs_made w (.bool false) l.length 4).congr fun i _ => by simp, fun j _ h => absurd h (Nat.not_lt_zero _)⟩
  case round =>
    obtain ⟨k, hk, rfl, hB, hR, hA⟩ := hrel
    by_cases hlt : k < l.length
    case neg =>
      obtain rfl : k = l.length := by omega
      have HA := hid hA
      clear hA
      go_wp2
      exact HYS.out ⟨rfl, fun j h => HA.out j h h⟩ _ hB
    obtain ⟨b', o', e', r⟩ := (HQ.out.below hB).at_ k hlt
    have c0 := r.c k hlt
    have hbl := r.lt
    have HA := hid hA
    have HB := hid hB
    have HR := hid hR
    have hgl := hR.lt
    subst e'
    clear r hA hB hR
    by_cases h1 : l[k] < 0
    · have HF : Hid (¬ Each l l.length) := fun h => by have := (h.2 k hlt).1.1; omega
      generalize l[k] = x at *
      go_wp2
      exact HNO.out HF.out _ HB.out
    by_cases h2 : (l.length : Int) ≤ l[k]
    · have HF : Hid (¬ Each l l.length) := fun h => by have := (h.2 k hlt).1.2; omega
      generalize l[k] = x at *
      go_wp2
      exact HNO.out HF.out _ HB.out
    obtain ⟨x, hx⟩ : ∃ x : Nat, l[k] = (x : Int) := ⟨l[k].toNat, by omega⟩
    have hxl : x < l.length := by omega
    have cx : wr.cell? ⟨w.heap.size, x, none⟩ = some (.bool (decide ((x : Int) ∈ l.take k))) := HR.out.cell hxl
    have fx := HR.out.frozen x
    rw [hx] at c0 h1 h2
    have HX := hid hx
    by_cases h3 : (x : Int) ∈ l.take k
    · have HF : Hid (¬ Each l l.length) := fun h => (h.2 k hlt).2 (by rw [hx]; exact h3)
      rw [decide_eq_true h3] at cx
      clear hx
      go_wp2
      exact HNO.out HF.out _ HB.out
    · rw [decide_eq_false h3] at cx
      clear hx
      go_wp2
      go_roundw
      case rel =>
        refine ⟨k + 1, by omega, by go_num, bset HB.out _ _ _ (Nat.le_refl _), seen_next HR.out hlt HX.out, fun j hj h => ?_⟩
        by_cases e : j = k
        · subst e
          have := HX.out
          exact ⟨by omega, by rw [this]; exact h3⟩
        · exact HA.out j hj (by omega)
      case measure => simp [intOf]; omega
end Go.Proofs.Ytfaoegiignalkaa
