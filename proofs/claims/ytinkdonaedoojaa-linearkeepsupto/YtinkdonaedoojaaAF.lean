/-
  The reference's Turned.
-/
import Derived.Test.YtinkdonaedoojaaAE
namespace Go.Proofs.Ytinkdonaedoojaa
open Go.RowKit Go.Sort

/-- Column i of rows, as far as k. -/
def trN (f : Nat → Nat) (i k : Nat) : Nat := mk (fun j => bt (f j) i) k
theorem trN_step (f : Nat → Nat) (i k : Nat) (hk : k < 64) : bits .or .u64 (trN f i k : Int) (IntKind.u64.wrap ((bt (f k) i : Int) * 2 ^ k)) = (trN f i (k + 1) : Int) := mk_step (fun j => bt (f j) i) (fun _ => bt_le _ _) k hk
theorem trN_lt (f : Nat → Nat) (i k : Nat) (hk : k ≤ 64) : trN f i k < 18446744073709551616 := mk_lt _ k hk
/-- What a call tells that tells a matrix. -/
def TR (w w' : World) (e : Ending) (M : Int) (m : Nat) (F : Nat → Nat) : Prop :=
  ∃ v, e = .returned (.agg #[.int .i64 M, v]) ∧ OS w' w.heap.size v m F ∧ Below w.heap.size w w'
theorem tr_end {w W : World} {b : Nat} {M : Int} {v p q : Value} {m : Nat} {F : Nat → Nat} (hO : OS W w.heap.size v m F) (K : BK W b #[p, q] 24) (hb : w.heap.size ≤ b) (hB : Below w.heap.size w W) :
    TR w ((W.setCell ⟨b, 0, none⟩ (.int .i64 M)).setCell ⟨b, 1, none⟩ v) (.returned (.agg #[.int .i64 M, v])) M m F :=
  ⟨v, rfl, hO.far2 K _ _, bset (bset hB _ _ _ hb) _ _ _ hb⟩
set_option maxHeartbeats 4000000 in
set_option maxRecDepth 100000 in
theorem turned_any (n : Nat) (a : Option Addr) (c : Nat) (f : Nat → Nat) (w : World) (H : RR w a n f) (hn : n ≤ 64) :
    Calls Try.prog 25 #[lv n a n c] w fun e w' => TR w w' e n n (fun i => trN f i n) := by
  obtain ⟨i7, hi7, hz7, hs7, hb7⟩ := info_parts Try.info25
  have HI7 := hid hi7
  have HH := hid H
  have HLT := hid H.lt
  clear hi7 H
  obtain ⟨hB0, hK0, hK1, hK2⟩ := boxes3 w (lcs n a n c) zl #[.int .i64 (n : Nat), .slice none 0 0]
  have HB0 := hid hB0
  have HK0 := hid hK0
  have HK1 := hid hK1
  have HK2 := hid hK2
  clear hB0 hK0 hK1 hK2
  go_enter Try.func25, Try.ntmps25
  go_wp2
  go_loopw [4] (fun v4 wx => ∃ (q : Nat) (v : Value), q ≤ n ∧ v4 = .int .i64 (q : Nat) ∧ Hid (BK wx w.heap.size (lcs n a n c) 24) ∧ Hid (BK wx (w.heap.size + 1) zl 24) ∧ Hid (BK wx (w.heap.size + 2) #[.int .i64 (n : Nat), v] 24) ∧ Hid (wx.ownsRow w.heap.size 25 1 v q (xsl q (fun i => trN f i n))) ∧ Hid (Below w.heap.size w wx)) (fun v4 _ => n - (intOf v4).toNat)
  case atStart => exact ⟨0, .slice none 0 0, Nat.zero_le _, rfl, HK0, HK1, HK2, World.ownsRow_nil _ _ _ _, HB0⟩
  case round =>
    clear HK0 HK1 HK2 HB0
    obtain ⟨q, v, hq, rfl, K0, K1, K2, HO, HB⟩ := hrel
    have d0 := K0.out.cell
    have l0 := K0.out.lt
    have d2 := K2.out.cell
    have l2 := K2.out.lt
    obtain ⟨a1, c1, rfl⟩ := own_shape HO.out
    by_cases hlq : q < n
    case neg =>
      obtain rfl : n = q := by omega
      have f1 := K1.out.free
      have d1 := K1.out.cell
      have l1 := K1.out.lt
      have HOS := os_own HO.out (fun i hi => trN_lt f i n (by omega))
      obtain ⟨q0, q1⟩ := two_set K1.out (.int .i64 (n : Int)) (.slice a1 n c1)
      go_wp2
      exact bodyPost_ret (v := .agg #[.int .i64 (n : Int), .slice a1 n c1]) (by simp [results, Try.results25, go_sem, q0, q1]) rfl (tr_end HOS K1.out (by omega) HB.out)
    have hq64 : q < 64 := by omega
    go_wp2
    go_loop [5, 6] (fun y i => ∃ k : Nat, k ≤ n ∧ i = .int .i64 k ∧ y = .int .u64 (trN f q k : Nat)) (fun _ i => n - (intOf i).toNat)
    case atStart => exact ⟨0, Nat.zero_le _, rfl, rfl⟩
    case round =>
      obtain ⟨k, hk, rfl, rfl⟩ := hrel
      by_cases hlt : k < n
      · obtain ⟨b, o, rfl, hc, hb⟩ := (HH.out.below HB.out).at_ k hlt
        have HS := hid (trN_step f q k (by omega))
        have hbl := bt_le (f k) q
        have hbit := i_bit (f k) q (HLT.out k hlt)
        generalize bt (f k) q = P at *
        go_wp2
        go_round
        case rel => exact ⟨k + 1, by omega, by go_num, by rw [HS.out]⟩
        case measure => simp [intOf]; omega
      obtain rfl : k = n := by omega
      have HSX : Hid (xsl (q + 1) (fun i => trN f i k) = xsl q (fun i => trN f i k) ++ [.int .u64 (trN f q k : Int)]) := xsl_succ q _
      generalize xsl q (fun i => trN f i k) = L at *
      generalize trN f q k = P at *
      go_wp2_with (at_builtin; refine Hid.out ?_)
      refine hid ?_
      have hB2 := bal (Below.refl wr.heap.size wr) (.cells #[.int .u64 (P : Int)] 25)
      have hO3 := own_below HO.out hB2
      have hnew : ∀ j u, [Value.int .u64 (P : Int)][j]? = some u → (wr.alloc (.cells #[.int .u64 (P : Int)] 25)).cell? ((⟨wr.heap.size, 0, none⟩ : Addr).add j) = some u := fun j u hj => by
        have h := bk_new wr #[.int .u64 (P : Int)] 25
        rw [WideShapes.add_plain, Nat.zero_add]
        rw [h.cell j, ← hj]
        exact List.getElem?_toArray
      refine wpList_append_own_at _ rfl _ _ 22 rfl w.heap.size 25 i7 _ 1 8 Try.underlying22 HI7.out hz7 hs7 hb7 rfl (by decide) _ q L rfl hO3 _ 1 1 [.int .u64 (P : Int)] rfl rfl hnew (by intro u hu; simp at hu; rcases hu with rfl; rfl) (by unfold maxLen; omega) (by omega) (by have h1 := HB.out.size; have h2 := hB2.size; exact Nat.le_trans h1 h2) ?_
      intro v6 w6 hown6 hgrow6 _ _
      have hown7 := hid hown6
      obtain ⟨a6, c6, rfl⟩ := own_shape hown6
      have HB6 := hid (below_own (btr HB.out hB2) hO3 hgrow6)
      have M0 := hid (bk_grown hO3 hgrow6 (bk_on K0.out hB2) (by decide))
      have M1 := hid (bk_grown hO3 hgrow6 (bk_on K1.out hB2) (by decide))
      have M2 := hid (bk_grown hO3 hgrow6 (bk_on K2.out hB2) (by decide))
      clear hgrow6 hown6 hO3 hB2 hnew d0 l0 d2 l2 K0 K1 K2 HO HB
      have d2 := M2.out.cell
      have f2 := M2.out.free
      have l2 := M2.out.lt
      have HO7 := hid (own_put hown7.out M2.out (by decide) 1 (.slice a6 (q + 1) c6))
      rw [← HSX.out] at HO7
      go_wp2
      exact ⟨⟨q + 1, .slice a6 (q + 1) c6, by omega, by go_num, M0.out.far (c := w.heap.size + 2) (by omega) _ _, M1.out.far (c := w.heap.size + 2) (by omega) _ _, M2.out.set 1 _, HO7, bset HB6.out (w.heap.size + 2) 1 _ (by omega)⟩, by simp only [intOf]; omega⟩
end Go.Proofs.Ytinkdonaedoojaa
