/-
  tableau: turnsOf.
-/
import Derived.Test.YtoddbaljnlhhaaaE0
import Derived.Test.YtoddbaljnlhhaaaE1
import Derived.Test.YtoddbaljnlhhaaaPQ2
namespace Go.Proofs.Ytoddbaljnlhhaaa
open Go.RowKit Go.Sort
open PL (pv PS bt cgk cgT)

def letB (L : List UInt8) : Bool := (List.range L.length).all fun i => PL.gl L i == 73 || (PL.gl L i == 88 || (PL.gl L i == 89 || PL.gl L i == 90))
theorem letB_all {L : List UInt8} (h : letB L = true) : PL.AllLet L := fun i hi => by
  have h1 := PL.all_range h hi
  simp only [Bool.or_eq_true, beq_iff_eq] at h1
  exact h1
theorem cgx_ok : ∀ i, i < 17 → ∀ j, j < 2 * cgk i → (cgX i j).length ≤ 10 ∧ letB (PL.cutS (cgX i j)).2 = true ∧ (PL.cutS (cgX i j)).2.length ≤ 64 ∧ (PL.rdP (cgX i j)).n = cgk i ∧ (PL.rdP (cgX i j)).x = (cgT i j).1 ∧ (PL.rdP (cgX i j)).z = (cgT i j).2.1 ∧ (PL.rdP (cgX i j)).f = (cgT i j).2.2 := by decide +kernel
/-- A gate's turns as rows. -/
def cgRow (i j : Nat) : Pr := ⟨cgk i, (cgT i j).1, (cgT i j).2.1, (cgT i j).2.2⟩
def cgRows (i m : Nat) : List Pr := (List.range m).map (cgRow i)
theorem cgRows_succ (i m : Nat) : cgRows i (m + 1) = cgRows i m ++ [cgRow i m] := by unfold cgRows; rw [List.range_succ, List.map_append]; rfl
theorem cgRows_len (i m : Nat) : (cgRows i m).length = m := by simp [cgRows]
theorem cgRow_lt (i j : Nat) (hi : i < 17) : (cgRow i j).w64 := by
  have h := PL.cgT_sm i hi j
  exact ⟨Nat.lt_of_lt_of_le h.1 (by decide), Nat.lt_of_lt_of_le h.2 (by decide)⟩
set_option maxHeartbeats 2000000 in
set_option maxRecDepth 100000 in
theorem turnsOf_any (i : Nat) (hi : i < 17) (w : World) : Calls Try.prog 73 #[.string (cgN i)] w fun e w' => ∃ v, e = .returned v ∧ OT w' w.heap.size v (cgRows i (2 * cgk i)) ∧ Below w.heap.size w w' := by
  obtain ⟨i7, hi7, hz7, hs7, hb7⟩ := info_parts Try.info27
  have HI7 := hid hi7
  clear hi7
  have TT := fun w => tt_any i hi w
  have hk4 : 2 * cgk i ≤ 4 := by rcases (PL.cgk_is i hi).1 with h | h <;> omega
  obtain ⟨M, hM⟩ : ∃ M, Hid (M = 2 * cgk i) := ⟨_, rfl⟩
  have HX : Hid (∀ j, j < M → ∀ w, Calls Try.prog 98 #[.string ⟨(cgX i j).toArray⟩] w fun e w' => e = .returned (.tuple #[pv (cgRow i j).n (cgRow i j).x (cgRow i j).z (cgRow i j).f, .int .i64 0]) ∧ Below w.heap.size w w') := fun j hj w => by
    rw [hM.out] at hj
    obtain ⟨h1, h2, h3, h4, h5, h6, h7⟩ := cgx_ok i hi j hj
    have h := PL.parse_good (cgX i j) w (by omega) (letB_all h2) h3
    have e : (PL.rdP (cgX i j)).v = pv (cgRow i j).n (cgRow i j).x (cgRow i j).z (cgRow i j).f := by
      show pv _ _ _ _ = _
      rw [h4, h5, h6, h7]
      rfl
    rw [e] at h
    exact h
  rw [← hM.out] at TT hk4
  have HT : Hid (∀ w' B, TX w' B i → ∀ j, j < M → B < w'.heap.size ∧ w'.cell? ⟨B, j, none⟩ = some (.string ⟨(cgX i j).toArray⟩)) := fun w' B h j hj => ⟨h.lt, h.at_ (by rw [← hM.out]; exact hj)⟩
  go_enter Try.func73, Try.ntmps73
  go_wp2_with (go_at_call 97; (with_reducible refine (TT _).mono ?_); rintro e w1 ⟨rfl, hB1, hT1⟩)
  have HB1 := hid hB1
  have HT1 := hid hT1
  clear TT hB1 hT1
  go_loopw [3, 11] (fun v3 v11 wx => ∃ j : Nat, j ≤ M ∧ v11 = .int .i64 (j : Nat) ∧ Hid (OT wx w.heap.size v3 (cgRows i j)) ∧ Hid (TX wx w.heap.size i) ∧ Hid (Below w.heap.size w wx)) (fun _ v11 _ => M - (intOf v11).toNat)
  case atStart => exact ⟨0, Nat.zero_le _, rfl, OT.nil _ _, HT1, HB1⟩
  case round =>
    clear HT1 HB1
    obtain ⟨j, hj, rfl, HO, HT1, HB⟩ := hrel
    obtain ⟨L, hL⟩ : ∃ L, Hid (L = cgRows i j) := ⟨_, rfl⟩
    rw [← hL.out] at HO
    obtain ⟨a1, c1, rfl⟩ := own_shape HO.out.own
    have HLL : Hid (L.length = j) := by show _ = _; rw [hL.out, cgRows_len]
    by_cases hlt : j < M
    case neg =>
      obtain rfl : j = M := by omega
      go_wp2
      go_ret
      exact ⟨_, rfl, by rw [← hM.out, ← hL.out]; exact HO.out, HB.out⟩
    obtain ⟨hbl, hcl⟩ := HT.out _ _ HT1.out j hlt
    have R := HX.out j hlt
    have hw := cgRow_lt i j hi
    have HP : Hid (cgRows i (j + 1) = cgRows i j ++ [cgRow i j]) := cgRows_succ i j
    generalize cgRow i j = r at *
    generalize (⟨(cgX i j).toArray⟩ : ByteArray) = tx at *
    obtain ⟨rn, rx, rz, rf⟩ := r
    simp only at *
    go_wp2_with (first
      | (go_at_call 98; (with_reducible refine (R _).mono ?_); rintro e w1 ⟨rfl, hB1⟩; (have hp := PL.PB.new w1 rn rx rz rf); obtain ⟨c0, c1', c2, c3, _, _, _, _⟩ := hp)
      | (at_builtin; refine Hid.out ?_))
    refine hid ?_
    have hB2 := bal (bal hB1 (PL.pc rn rx rz rf)) (PL.pc rn rx rz rf)
    have hO3 := own_below HO.out.own hB2
    have hnew : ∀ j u, (Pr.cs ⟨rn, rx, rz, rf⟩)[j]? = some u → ((w1.alloc (PL.pc rn rx rz rf)).alloc (PL.pc rn rx rz rf)).cell? ((⟨w1.heap.size + 1, 0, none⟩ : Addr).add j) = some u := fun j u hj => by
      have h := bk_new (w1.alloc (PL.pc rn rx rz rf)) #[.int .i64 rn, .int .u64 (rx : Int), .int .u64 (rz : Int), .int .i64 rf] 27
      rw [PL.alz] at h
      rw [WideShapes.add_plain, Nat.zero_add]
      rw [h.cell j, ← hj]
      exact List.getElem?_toArray
    have hLL := HLL.out
    refine wpList_append_own_at _ rfl _ _ 22 rfl w.heap.size 27 i7 _ 4 32 Try.underlying22 HI7.out hz7 hs7 hb7 rfl (by decide) _ L.length (prz L) rfl hO3 _ 1 1 (Pr.cs ⟨rn, rx, rz, rf⟩) rfl rfl hnew (by intro u hu; simp [Pr.cs] at hu; rcases hu with rfl | rfl | rfl | rfl <;> rfl) (by unfold maxLen; omega) (by omega) (by have h1 := HB.out.size; have h2 := hB2.size; exact Nat.le_trans h1 h2) ?_
    intro v6 w6 hown6 hgrow6 _ _
    have hO6 := OT.app HO.out hown6 hw HO.out.w64 (by omega)
    have hB6 := below_own (btr HB.out hB2) hO3 hgrow6
    have hT6 : TX w6 w.heap.size i := by
      obtain ⟨cs, h1, h2⟩ := HT1.out
      exact ⟨cs, bk_grown hO3 hgrow6 (bk_on h1 hB2) (by decide), h2⟩
    rw [hL.out, ← HP.out] at hO6
    have HO6 := hid hO6
    clear hgrow6 hown6 hO3 hO6 hLL
    go_wp2
    exact ⟨⟨j + 1, by omega, rfl, HO6, hT6, hB6⟩, by simp only [intOf]; omega⟩
end Go.Proofs.Ytoddbaljnlhhaaa
