/-
  Towards the law BitsSets: Subsets' contract; cells that are held through a loop over an iterator.
-/
import Derived.Test.YtpheplcmooljhaaDoorIter
import Derived.Test.YtpheplcmooljhaaDoorNumbers
import Derived.Test.YtpheplcmooljhaaDoorSeen
namespace Go.Proofs.YtpheplcmooljhaaDoor
open Go.RowKit Go.Shelf
attribute [local go_sem] Oper.semAt_some

theorem subsets_any (mask : Nat) (w : World) :
    Calls Tryd.prog 35 #[.int .u64 mask] w fun e w' => e = .returned (.func (.func 47) #[] #[.pointer (some ⟨w.heap.size, 0, none⟩)]) ∧ w' = w.alloc (.cells #[.int .u64 mask] 22) := by
  go_enter Tryd.func35, Tryd.ntmps35
  go_wp2
  go_ret
  exact ⟨rfl, rfl⟩
theorem sub_stops (F : Fence) (n : Nat) (h47 : F.fn 47) (hro : F.round = none) (hn : 1 ≤ n) (Bn n₀ mask : Nat) (w : World) (hm : mask < 18446744073709551616) (hb : Bn < n₀) (hBw : n₀ ≤ w.heap.size) (hc : w.cell? ⟨Bn, 0, none⟩ = some (.int .u64 mask)) :
    SeqStopsK F n Tryd.prog 47 #[.pointer (some ⟨Bn, 0, none⟩)] (fun x : Nat => #[Value.int .u64 (x : Int)]) (Below n₀) (fun ys => ys = sbL mask (2 ^ ones mask)) (fun pre => ∃ q, q ≤ 2 ^ ones mask ∧ pre = sbL mask q) (2 ^ ones mask) w := fun l J Jx W hW _ _ hY h0 =>
  sub1_in F n h47 hro hn l Bn n₀ mask hm J Jx hY W hb ((hW.cell (p := ⟨Bn, 0, none⟩) (by show Bn < _; omega)).trans hc) h0

/-- These cells hold these values, and none is frozen. -/
def Hold (L : List (Addr × Value)) (W : World) : Prop := ∀ p ∈ L, W.cell? p.1 = some p.2 ∧ W.frozen? p.1 = false
theorem Hold.own {L : List (Addr × Value)} {W W' : World} {row : Option Nat} (h : Hold L W) (hg : W.grownBy W' row) (hr : ∀ r, row = some r → ∃ o : Obj, W.heap[r]? = some o ∧ o.isCells = false) : Hold L W' :=
  fun p hp => ⟨cell_kept (h p hp).1 hg hr, (frozen_kept (h p hp).1 hg hr).trans (h p hp).2⟩
theorem Hold.below {L : List (Addr × Value)} {W W' : World} (h : Hold L W) (hb : Below W.heap.size W W') : Hold L W' := fun p hp => by
  have hl := block_lt_of_cell (h p hp).1
  exact ⟨(hb.cell hl).trans (h p hp).1, (hb.frozen hl).trans (h p hp).2⟩
theorem Hold.drewN {L : List (Addr × Value)} {W : World} (h : Hold L W) (n : Nat) : Hold L (W.drewN n) := fun p hp => ⟨by simpa using (h p hp).1, by simpa using (h p hp).2⟩
theorem Hold.set {L : List (Addr × Value)} {W : World} (h : Hold L W) {a : Addr} (v : Value) (ha : ∀ p ∈ L, p.1 ≠ a) : Hold L (W.setCell a v) := fun p hp => by
  refine ⟨(World.cell?_setCell_other _ _ _ _ (Ne.symm (ha p hp))).trans (h p hp).1, ?_⟩
  rw [World.frozen?_setCell]; exact (h p hp).2
end Go.Proofs.YtpheplcmooljhaaDoor
