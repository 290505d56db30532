/-
  What Of answers: the numbers with so many ones, in new memory.
-/
import Derived.Test.YtpheplcmooljhaaDoorMath5
import Derived.Test.YtpheplcmooljhaaDoorSmall
import Derived.OwnWalk
import Derived.WalkSmall
import Derived.Maps.AppendAt
namespace Go.Proofs.YtpheplcmooljhaaDoor
open Go.RowKit

theorem Tryd.info22 : (Tryd.prog.info? 22).map (fun i => (i.zero, i.size, i.bytes)) = some (some (.int .u64 0), 1, 8) := by kernel_rfl
/-- Numbers, as values. -/
def uvals (l : List Nat) : List Value := l.map fun (x : Nat) => .int .u64 (x : Int)
theorem uvals_len (l : List Nat) : (uvals l).length = l.length := by simp [uvals]
theorem uvals_snoc (l : List Nat) (x : Nat) : uvals (l ++ [x]) = uvals l ++ [.int .u64 (x : Int)] := by simp [uvals]
theorem uvals_at (l : List Nat) (i : Nat) (h : i < l.length) : (uvals l)[i]? = some (.int .u64 (l[i] : Int)) := by simp [uvals, h]

/-- The slice v is new memory that holds these numbers. -/
structure Told (l : List Nat) (v : Value) (w w' : World) : Prop where
  below : Below w.heap.size w w'
  owns : w'.ownsRow w.heap.size 22 1 v l.length (uvals l)
theorem Told.push {l : List Nat} {x : Nat} {v v' : Value} {w wr w3 : World} (h : Told l v w wr)
    (ho : w3.ownsRow w.heap.size 22 1 v' (l.length + 1) (uvals l ++ [.int .u64 (x : Int)])) (hg : (wr.alloc (.cells #[.int .u64 (x : Int)] 22)).grownBy w3 v.ownBlock) : Told (l ++ [x]) v' w w3 := by
  refine ⟨(h.below.alloc h.below.size _).grown hg (by have := h.below.size; simp; omega) (fun k e => (h.owns.lt k e).1), ?_⟩
  rw [uvals_snoc, List.length_append]
  exact ho

theorem Told.shape {l : List Nat} {v : Value} {w w' : World} (h : Told l v w w') : ∃ ao cv, v = .slice ao l.length cv := by
  rcases h.owns.2 with ⟨e, e2⟩ | ⟨g, c, _, e, _⟩
  · exact ⟨none, 0, by rw [e, e2]⟩
  · exact ⟨_, c, e⟩

theorem of_no (n k : Int) (w : World) (h : n < 0 ∨ 16 < n ∨ k < 0 ∨ n < k) :
    Calls Tryd.prog 37 #[.int .i64 n, .int .i64 k] w fun e w' => e = .returned (.tuple #[.slice none 0 0, .int .i64 2]) ∧ w' = w := by
  by_cases h1 : n < 0
  · clear h
    go_enter Tryd.func37, Tryd.ntmps37
    go_wp2
    go_ret2
    exact ⟨rfl, rfl⟩
  · by_cases h2 : 16 < n
    · clear h
      go_enter Tryd.func37, Tryd.ntmps37
      go_wp2
      go_ret2
      exact ⟨rfl, rfl⟩
    · by_cases h3 : k < 0
      · clear h
        go_enter Tryd.func37, Tryd.ntmps37
        go_wp2
        go_ret2
        exact ⟨rfl, rfl⟩
      · have h4 : n < k := by omega
        clear h
        go_enter Tryd.func37, Tryd.ntmps37
        go_wp2
        go_ret2
        exact ⟨rfl, rfl⟩

theorem pow_le16 {n : Nat} (hn : n ≤ 16) : 2 ^ n ≤ 65536 := Nat.pow_le_pow_right (n := 2) (by decide) hn

set_option maxHeartbeats 1000000 in
theorem of_any (n k : Nat) (w : World) (hn : n ≤ 16) (hk : k ≤ n) :
    Calls Tryd.prog 37 #[.int .i64 n, .int .i64 k] w fun e w' => ∃ v, e = .returned (.tuple #[v, .int .i64 0]) ∧ Told (ofP k (2 ^ n)) v w w' := by
  obtain ⟨i, hi, hz0, hz1, hz2⟩ := info_parts Tryd.info22
  have hp := i_pow n (by omega)
  have hN := pow_le16 hn
  have hkn : ¬ n < k := by omega
  generalize 2 ^ n = N at hp hN
  go_enter Tryd.func37, Tryd.ntmps37
  go_wp2
  clear hp
  go_loopw [6, 25] (fun v j wr => ∃ (m : Nat) (ao : Option Addr) (cv : Nat), m ≤ N ∧ j = .int .u64 m ∧ v = .slice ao (ofP k m).length cv ∧ Told (ofP k m) v w wr) (fun _ j _ => N - (intOf j).toNat)
  case atStart => exact ⟨0, none, 0, by omega, rfl, rfl, Below.refl _ _, World.ownsRow_nil _ _ _ _⟩
  case round =>
    obtain ⟨m, ao, cv, hm, rfl, rfl, ht⟩ := hrel
    by_cases hlt : m < N
    · have HC := fun w => count_any m w (by omega)
      have hlen := ofP_len k m
      have hsz := ht.below.size
      have ho := ht.owns
      have HT : Hid (Told (ofP k m) _ w wr) := ht
      clear ht
      by_cases heq : pop 64 m = k
      · have HS : Hid (ofP k (m + 1) = ofP k m ++ [m]) := ofP_succ_yes heq
        rw [heq] at HC
        clear heq
        go_wp2_with (first
          | (go_at_call 10; with_reducible refine (HC _).mono ?_; rintro e w' ⟨rfl, rfl⟩)
          | (at_builtin; refine wpList_append_own _ rfl _ _ 49 rfl w.heap.size 22 i (.int .u64 0) 1 8 Tryd.underlying49 hi hz0 hz1 hz2 rfl (by decide) _ _ _ rfl (ho.alloc _) ⟨w'.heap.size, 0, none⟩ 1 1 [.int .u64 (m : Int)] rfl rfl (cell_one_new _ _ _) (fun x hx => by simp at hx; subst hx; rfl) (by unfold maxLen; omega) (by omega) (by simp; omega) ?_; intro v' w3 hown' hgrow3 hnil3))
        have ht' := HT.out.push hown' hgrow3
        rw [← HS.out] at ht'
        obtain ⟨ao', cv', rfl⟩ := ht'.shape
        go_roundw
        case rel => exact ⟨m + 1, ao', cv', by omega, by go_num, rfl, ht'⟩
        case measure => simp [intOf]; omega
      · have HS : Hid (ofP k (m + 1) = ofP k m) := ofP_succ_no heq
        have hne : (((pop 64 m : Nat) : Int) == (k : Int)) = false := by simp; omega
        clear heq
        go_wp2_with (first
          | (go_at_call 10; with_reducible refine (HC _).mono ?_; rintro e w' ⟨rfl, rfl⟩))
        go_roundw
        case rel => exact ⟨m + 1, ao, cv, by omega, by go_num, by rw [HS.out], by rw [HS.out]; exact HT⟩
        case measure => simp [intOf]; omega
    · obtain rfl : m = N := by omega
      go_wp2
      go_ret2
      exact ⟨_, rfl, ht⟩
end Go.Proofs.YtpheplcmooljhaaDoor
