/-
  The reference's Matrix.
-/
import Derived.Test.YtjmgcgjmaemgdaaH4
import Derived.Test.YtjmgcgjmaemgdaaC7
import Derived.Test.YtjmgcgjmaemgdaaM2
import Derived.Test.YtjmgcgjmaemgdaaM3
import Derived.Deep.Heap
namespace Go.Proofs.Ytjmgcgjmaemgdaa
open Go.RowKit Go.Sort

theorem Try.info37 : (Try.prog.info? 37).map (fun i => (i.zero, i.size, i.bytes)) = some (some (.slice none 0 0), 1, 24) := by kernel_rfl
theorem grown_set (w : World) (a : Addr) (u : Value) : w.grownBy (w.setCell a u) (some a.block) :=
  ⟨rfl, rfl, rfl, by simp, fun k _ hk => Go.Deep.blk_setCell_other w a u k (fun e => hk (by rw [e]))⟩
/-- A row that can be read. -/
structure RowC (W : World) (R N : Nat) (f : Nat → A5) : Prop where
  c0 : ∀ y, y < N → W.cell? ⟨R, y * 3, none⟩ = some (cx (f y).q.a (f y).q.b)
  c1 : ∀ y, y < N → W.cell? ⟨R, y * 3 + 1, none⟩ = some (cx (f y).q.c (f y).q.d)
  c2 : ∀ y, y < N → W.cell? ⟨R, y * 3 + 2, none⟩ = some (.int .i64 ((f y).k : Nat))
  lt : R < W.heap.size
theorem RowC.grown {W W' : World} {R N : Nat} {f : Nat → A5} {row : Option Nat} (E : RowC W R N f) (hg : W.grownBy W' row) (hne : some R ≠ row) : RowC W' R N f :=
  ⟨fun y hy => hg.cell (E.c0 y hy) hne, fun y hy => hg.cell (E.c1 y hy) hne, fun y hy => hg.cell (E.c2 y hy) hne, Nat.lt_of_lt_of_le E.lt hg.size⟩
theorem RowC.on {W W' : World} {R N : Nat} {f : Nat → A5} (E : RowC W R N f) (hb : Below W.heap.size W W') : RowC W' R N f := E.grown (grown_of hb) (by simp)
def sl (B : Nat → Nat) (N x : Nat) : List Value := (List.range x).map fun j => .slice (some ⟨B j, 0, none⟩) N N
theorem sl_succ (B : Nat → Nat) (N x : Nat) : sl B N (x + 1) = sl B N x ++ [.slice (some ⟨B x, 0, none⟩) N N] := by simp [sl, List.range_succ]
structure MO (w W : World) (v5 : Value) (x N : Nat) (B : Nat → Nat) (A : Nat → Nat → A5) : Prop where
  below : Below w.heap.size w W
  own : W.ownsRow w.heap.size 37 1 v5 x (sl B N x)
  row : ∀ j, j < x → RowC W (B j) N (A j)
  ne : ∀ j, j < x → v5.ownBlock ≠ some (B j)
theorem MO.on {w W W2 : World} {v5 : Value} {x N : Nat} {B : Nat → Nat} {A : Nat → Nat → A5} (H : MO w W v5 x N B A) (hb : Below W.heap.size W W2) : MO w W2 v5 x N B A :=
  ⟨btr H.below hb, H.own.kept (grown_of hb) (by cases v5.ownBlock <;> simp), fun j hj => (H.row j hj).on hb, H.ne⟩
/-- The row under way: the first y entries are written. -/
structure RW' (w W : World) (v5 : Value) (x N : Nat) (B : Nat → Nat) (A : Nat → Nat → A5) (R y : Nat) : Prop where
  mo : MO w W v5 x N B A
  rc : RowC W R N (fun y' => if y' < y then A x y' else a0)
  fz : ∀ o, W.frozen? ⟨R, o, none⟩ = false
  ge : w.heap.size ≤ R
  far : ∀ j, j < x → B j ≠ R
  own : v5.ownBlock ≠ some R
section
variable {w W W2 : World} {v5 v' : Value} {x N : Nat} {B : Nat → Nat} {A : Nat → Nat → A5} {R y : Nat}
theorem RW'.on (H : RW' w W v5 x N B A R y) (hb : Below W.heap.size W W2) : RW' w W2 v5 x N B A R y :=
  ⟨H.mo.on hb, H.rc.on hb, fun o => (hb.frozen (p := ⟨R, o, none⟩) H.rc.lt).trans (H.fz o), H.ge, H.far, H.own⟩
theorem RW'.set (H : RW' w W v5 x N B A R y) (hy : y < N) : RW' w (((W.setCell ⟨R, y * 3, none⟩ (cx (A x y).q.a (A x y).q.b)).setCell ⟨R, y * 3 + 1, none⟩ (cx (A x y).q.c (A x y).q.d)).setCell ⟨R, y * 3 + 2, none⟩ (.int .i64 ((A x y).k : Nat))) v5 x N B A R (y + 1) := by
  have hg := ((grown_set W ⟨R, y * 3, none⟩ (cx (A x y).q.a (A x y).q.b)).trans (grown_set _ ⟨R, y * 3 + 1, none⟩ (cx (A x y).q.c (A x y).q.d))).trans (grown_set _ ⟨R, y * 3 + 2, none⟩ (.int .i64 ((A x y).k : Nat)))
  have g0 : (W.cell? ⟨R, y * 3, none⟩).isSome := by rw [H.rc.c0 y hy]; rfl
  have g1 : ((W.setCell ⟨R, y * 3, none⟩ (cx (A x y).q.a (A x y).q.b)).cell? ⟨R, y * 3 + 1, none⟩).isSome := by rw [set_cell _ _ _ _ _ _ g0, if_neg (by omega), H.rc.c1 y hy]; rfl
  have g2 : (((W.setCell ⟨R, y * 3, none⟩ (cx (A x y).q.a (A x y).q.b)).setCell ⟨R, y * 3 + 1, none⟩ (cx (A x y).q.c (A x y).q.d)).cell? ⟨R, y * 3 + 2, none⟩).isSome := by
    rw [set_cell _ _ _ _ _ _ g1, if_neg (by omega), set_cell _ _ _ _ _ _ g0, if_neg (by omega), H.rc.c2 y hy]; rfl
  refine ⟨⟨bset (bset (bset H.mo.below _ _ _ H.ge) _ _ _ H.ge) _ _ _ H.ge, H.mo.own.kept hg ?_, fun j hj => (H.mo.row j hj).grown hg (fun e => H.far j hj (by injection e)), H.mo.ne⟩, ⟨fun y' hy' => ?_, fun y' hy' => ?_, fun y' hy' => ?_, by simpa using H.rc.lt⟩, fun o => by simpa using H.fz o, H.ge, H.far, H.own⟩
  · cases e : v5.ownBlock with
    | none => exact .inl rfl
    | some g => exact .inr fun e' => H.own (by rw [e]; exact e')
  · rw [set_cell _ _ _ _ _ _ g2, if_neg (by omega), set_cell _ _ _ _ _ _ g1, if_neg (by omega), set_cell _ _ _ _ _ _ g0]
    by_cases e : y' = y
    · subst e; rw [if_pos ⟨rfl, rfl⟩, if_pos (by omega)]
    · rw [if_neg (by omega), H.rc.c0 y' hy']
      by_cases e2 : y' < y
      · rw [if_pos e2, if_pos (by omega)]
      · rw [if_neg e2, if_neg (by omega)]
  · rw [set_cell _ _ _ _ _ _ g2, if_neg (by omega), set_cell _ _ _ _ _ _ g1]
    by_cases e : y' = y
    · subst e; rw [if_pos ⟨rfl, rfl⟩, if_pos (by omega)]
    · rw [if_neg (by omega), set_cell _ _ _ _ _ _ g0, if_neg (by omega), H.rc.c1 y' hy']
      by_cases e2 : y' < y
      · rw [if_pos e2, if_pos (by omega)]
      · rw [if_neg e2, if_neg (by omega)]
  · rw [set_cell _ _ _ _ _ _ g2]
    by_cases e : y' = y
    · subst e; rw [if_pos ⟨rfl, rfl⟩, if_pos (by omega)]
    · rw [if_neg (by omega), set_cell _ _ _ _ _ _ g1, if_neg (by omega), set_cell _ _ _ _ _ _ g0, if_neg (by omega), H.rc.c2 y' hy']
      by_cases e2 : y' < y
      · rw [if_pos e2, if_pos (by omega)]
      · rw [if_neg e2, if_neg (by omega)]
theorem RW'.skip (H : RW' w W v5 x N B A R y) (hA : A x y = a0) : RW' w W v5 x N B A R (y + 1) := by
  have key : ∀ y', (if y' < y then A x y' else a0) = (if y' < y + 1 then A x y' else a0) := fun y' => by
    by_cases e : y' = y
    · subst e; rw [if_neg (by omega), if_pos (by omega), hA]
    · by_cases e2 : y' < y
      · rw [if_pos e2, if_pos (by omega)]
      · rw [if_neg e2, if_neg (by omega)]
  refine ⟨H.mo, ?_, H.fz, H.ge, H.far, H.own⟩
  have := H.rc
  simp only [key] at this
  exact this
theorem RW'.new (H : MO w W v5 x N B A) : RW' w (W.alloc (.cells (ZR N) 46)) v5 x N B A W.heap.size 0 := by
  have hh := (MapKept.heap_alloc W (.cells (ZR N) 46)).1
  refine ⟨H.on (bal (Below.refl _ _) _), ⟨fun y hy => ?_, fun y hy => ?_, fun y hy => ?_, by simp [go_sem]⟩, fun o => frozen_of hh o, H.below.size, fun j hj => Nat.ne_of_lt (H.row j hj).lt, fun e => Nat.lt_irrefl _ (H.own.lt _ e).2⟩
  · rw [if_neg (by omega)]; exact cell_of hh (ZR_at (t := 0) hy rfl)
  · rw [if_neg (by omega)]; exact cell_of hh (ZR_at (t := 1) hy rfl)
  · rw [if_neg (by omega)]; exact cell_of hh (ZR_at (t := 2) hy rfl)
theorem RW'.fin (H : RW' w W v5 x N B A R N) (hg : W.grownBy W2 v5.ownBlock) (hown : W2.ownsRow w.heap.size 37 1 v' (x + 1) (sl B N x ++ [.slice (some ⟨R, 0, none⟩) N N])) (hloc : v'.ownBlock = v5.ownBlock ∨ v'.ownBlock = some W.heap.size) : MO w W2 v' (x + 1) N (fun j => if j = x then R else B j) A := by
  have hsl : sl (fun j => if j = x then R else B j) N x = sl B N x := by
    unfold sl
    apply List.map_congr_left
    intro j hj
    have hj' := List.mem_range.1 hj
    show Value.slice (some ⟨if j = x then R else B j, 0, none⟩) N N = _
    rw [if_neg (by omega)]
  refine ⟨H.mo.below.grown hg H.mo.below.size (fun j e => (H.mo.own.lt j e).1), ?_, fun j hj => ?_, fun j hj => ?_⟩
  · rw [sl_succ, hsl, if_pos rfl]; exact hown
  · by_cases e : j = x
    · subst e
      rw [if_pos rfl]
      have := H.rc.grown hg (fun e => H.own e.symm)
      exact ⟨fun y hy => by have := this.c0 y hy; rwa [if_pos hy] at this, fun y hy => by have := this.c1 y hy; rwa [if_pos hy] at this, fun y hy => by have := this.c2 y hy; rwa [if_pos hy] at this, this.lt⟩
    · rw [if_neg e]
      exact (H.mo.row j (by omega)).grown hg (fun e' => H.mo.ne j (by omega) e'.symm)
  · have hlt : (if j = x then R else B j) < W.heap.size := by
      split
      · exact H.rc.lt
      · exact (H.mo.row j (by omega)).lt
    have hne : v5.ownBlock ≠ some (if j = x then R else B j) := by
      split
      · exact H.own
      · exact H.mo.ne j (by omega)
    rcases hloc with hl | hl
    · rw [hl]; exact hne
    · rw [hl]; intro e; injection e with e; omega
end
set_option maxRecDepth 100000 in
set_option maxHeartbeats 8000000 in
theorem rmatrix_1 {s : ByteArray} (A : Nat → Nat → A5) (pe ph : Nat → Nat → Int) (w : World)
    (AR : ∀ w, Calls Try.prog 9 #[.string s] w fun e w' => e = .returned (.int .i64 1) ∧ w' = w)
    (EN : ∀ x y, x < 2 → y < 2 → ∀ w, Calls Try.prog 34 #[.string s, .int .i64 (x : Nat), .int .i64 (y : Nat)] w fun e w' => e = .returned (.tuple #[.int .i64 (pe x y), .int .i64 (ph x y)]) ∧ w' = w)
    (GX : ∀ x y, x < 2 → y < 2 → (∃ m' h' : Nat, pe x y = m' ∧ ph x y = h' ∧ m' < 8 ∧ h' ≤ 1 ∧ A x y = ⟨⟨tA m' 1 0 0 0, tB m' 1 0 0 0, tC m' 1 0 0 0, tD m' 1 0 0 0⟩, h'⟩) ∨ (pe x y = -1 ∧ A x y = a0)) :
    Calls Try.prog 19 #[.string s] w fun e w' => ∃ v5 B, e = .returned (.tuple #[v5, .int .i64 0]) ∧ MO w w' v5 2 2 B A := by
  obtain ⟨i4, hi4, hz4, hs4, hb4⟩ := info_parts Try.info37
  have k1 := mkr_2
  have HE := hidG EN
  have HG := hidG GX
  clear EN GX
  go_enter Try.func19, Try.ntmps19
  go_upto_region 6 with (go_at_call 9; (with_reducible refine (AR _).mono ?_); rintro e w1 ⟨rfl, rfl⟩)
  have hC : Hid (∃ B, MO w1 w1 (.slice none 0 0) 0 2 B A) := ⟨fun _ => 0, Below.refl _ _, World.ownsRow_nil _ _ _ _, fun j hj => absurd hj (by omega), fun j hj => absurd hj (by omega)⟩
  go_loopw [5, 6] (fun v5 v wr => ∃ x : Nat, x ≤ 2 ∧ v = .int .i64 x ∧ Hid (∃ B, MO w1 wr v5 x 2 B A)) (fun _ v _ => 2 - (intOf v).toNat)
  case atStart => exact ⟨0, by omega, rfl, hC⟩
  case round =>
    clear hC
    obtain ⟨x, hx, rfl, hH⟩ := hrel
    by_cases hlt : x < 2
    · have hxd : decide ((x : Int) < 2) = true := decide_eq_true (by omega)
      obtain ⟨B, hM⟩ := hH.out
      have hI := hidG (RW'.new hM)
      clear hH hM
      go_upto_region 10 with (fail)
      obtain ⟨R, hR⟩ : ∃ R, R = wr.heap.size := ⟨_, rfl⟩
      rw [← hR]
      rw [← hR] at hI
      clear hR
      go_loopw [8] (fun v wr => ∃ y : Nat, y ≤ 2 ∧ v = .int .i64 y ∧ Hid (RW' w1 wr u5 x 2 B A R y)) (fun v _ => 2 - (intOf v).toNat)
      case atStart => exact ⟨0, by omega, rfl, hI⟩
      case round =>
        clear hI
        obtain ⟨y, hy, rfl, hJ⟩ := hrel
        by_cases hly : y < 2
        · have E := HE.out x y hlt hly
          rcases HG.out x y hlt hly with ⟨m', h', e1, e2, h8, h1, eA'⟩ | ⟨e1, eA'⟩
          · rw [e1, e2] at E
            have PW := fun w => rpower m' h8 h' h1 w
            have hEA := hidG eA'
            have hm0 : ¬ ((m' : Int) < 0) := by omega
            clear e1 e2 h8 h1 eA'
            go_wp2_with (first
              | (go_at_call 34; (with_reducible refine (E _).mono ?_); rintro e w2 ⟨rfl, rfl⟩)
              | (go_at_call 35; (with_reducible refine (PW _).mono ?_); rintro e w4 ⟨rfl, hN4⟩; have hV := hidG (hJ.out.on hN4); have c0 := hV.out.rc.c0 y hly; have c1 := hV.out.rc.c1 y hly; have c2 := hV.out.rc.c2 y hly; have f0 := hV.out.fz (y * 3); have f1 := hV.out.fz (y * 3 + 1); have f2 := hV.out.fz (y * 3 + 2)))
            go_roundw
            case rel =>
              have hs := hV.out.set hly
              rw [hEA.out] at hs
              exact ⟨y + 1, by omega, by go_num, hs⟩
            case measure => simp [intOf]; omega
          · rw [e1] at E
            have hEA := hidG eA'
            clear e1 eA'
            go_wp2_with (go_at_call 34; (with_reducible refine (E _).mono ?_); rintro e w2 ⟨rfl, rfl⟩)
            go_roundw
            case rel =>
              exact ⟨y + 1, by omega, by go_num, hJ.out.skip hEA.out⟩
            case measure => simp [intOf]; omega
        · obtain rfl : y = 2 := by omega
          have hA := hidG (hJ.out.on (bal (Below.refl _ _) (.cells #[.slice (some ⟨R, 0, none⟩) 2 2] 37)))
          have N1 : ∀ (w4 : World) j u, [Value.slice (some ⟨R, 0, none⟩) 2 2][j]? = some u → (w4.alloc (.cells #[.slice (some ⟨R, 0, none⟩) 2 2] 37)).cell? ((⟨w4.heap.size, 0, none⟩ : Addr).add j) = some u := by
            simp [go_sem]
          go_wp2_with (at_builtin; refine wpList_append_own_at _ rfl _ _ 30 rfl w1.heap.size 37 i4 (.slice none 0 0) 1 24 Try.underlying30 hi4 hz4 hs4 hb4 rfl (by decide) _ x (sl B 2 x) rfl hA.out.mo.own ⟨_, 0, none⟩ 1 1 [.slice (some ⟨R, 0, none⟩) 2 2] rfl rfl (N1 _) (fun u hu => by simp at hu; rw [hu]; rfl) (by unfold maxLen; omega) (by omega) hA.out.mo.below.size ?_; intro v3 w3 hown3 hgrow3 hnil3 hloc3; have hZ := hidG (hA.out.fin hgrow3 hown3 hloc3); clear hown3 hgrow3 hnil3 hloc3)
          go_roundw
          case rel => exact ⟨x + 1, by omega, by go_num, _, hZ.out⟩
          case measure => simp [intOf]; omega
    · obtain rfl : x = 2 := by omega
      obtain ⟨B, hM⟩ := hH.out
      go_wp2
      go_ret2
      exact ⟨_, B, rfl, hM⟩
set_option maxRecDepth 100000 in
set_option maxHeartbeats 8000000 in
theorem rmatrix_2 {s : ByteArray} (A : Nat → Nat → A5) (pe ph : Nat → Nat → Int) (w : World)
    (AR : ∀ w, Calls Try.prog 9 #[.string s] w fun e w' => e = .returned (.int .i64 2) ∧ w' = w)
    (EN : ∀ x y, x < 4 → y < 4 → ∀ w, Calls Try.prog 34 #[.string s, .int .i64 (x : Nat), .int .i64 (y : Nat)] w fun e w' => e = .returned (.tuple #[.int .i64 (pe x y), .int .i64 (ph x y)]) ∧ w' = w)
    (GX : ∀ x y, x < 4 → y < 4 → (∃ m' h' : Nat, pe x y = m' ∧ ph x y = h' ∧ m' < 8 ∧ h' ≤ 1 ∧ A x y = ⟨⟨tA m' 1 0 0 0, tB m' 1 0 0 0, tC m' 1 0 0 0, tD m' 1 0 0 0⟩, h'⟩) ∨ (pe x y = -1 ∧ A x y = a0)) :
    Calls Try.prog 19 #[.string s] w fun e w' => ∃ v5 B, e = .returned (.tuple #[v5, .int .i64 0]) ∧ MO w w' v5 4 4 B A := by
  obtain ⟨i4, hi4, hz4, hs4, hb4⟩ := info_parts Try.info37
  have k1 := mkr_4
  have HE := hidG EN
  have HG := hidG GX
  clear EN GX
  go_enter Try.func19, Try.ntmps19
  go_upto_region 6 with (go_at_call 9; (with_reducible refine (AR _).mono ?_); rintro e w1 ⟨rfl, rfl⟩)
  have hC : Hid (∃ B, MO w1 w1 (.slice none 0 0) 0 4 B A) := ⟨fun _ => 0, Below.refl _ _, World.ownsRow_nil _ _ _ _, fun j hj => absurd hj (by omega), fun j hj => absurd hj (by omega)⟩
  go_loopw [5, 6] (fun v5 v wr => ∃ x : Nat, x ≤ 4 ∧ v = .int .i64 x ∧ Hid (∃ B, MO w1 wr v5 x 4 B A)) (fun _ v _ => 4 - (intOf v).toNat)
  case atStart => exact ⟨0, by omega, rfl, hC⟩
  case round =>
    clear hC
    obtain ⟨x, hx, rfl, hH⟩ := hrel
    by_cases hlt : x < 4
    · have hxd : decide ((x : Int) < 4) = true := decide_eq_true (by omega)
      obtain ⟨B, hM⟩ := hH.out
      have hI := hidG (RW'.new hM)
      clear hH hM
      go_upto_region 10 with (fail)
      obtain ⟨R, hR⟩ : ∃ R, R = wr.heap.size := ⟨_, rfl⟩
      rw [← hR]
      rw [← hR] at hI
      clear hR
      go_loopw [8] (fun v wr => ∃ y : Nat, y ≤ 4 ∧ v = .int .i64 y ∧ Hid (RW' w1 wr u5 x 4 B A R y)) (fun v _ => 4 - (intOf v).toNat)
      case atStart => exact ⟨0, by omega, rfl, hI⟩
      case round =>
        clear hI
        obtain ⟨y, hy, rfl, hJ⟩ := hrel
        by_cases hly : y < 4
        · have E := HE.out x y hlt hly
          rcases HG.out x y hlt hly with ⟨m', h', e1, e2, h8, h1, eA'⟩ | ⟨e1, eA'⟩
          · rw [e1, e2] at E
            have PW := fun w => rpower m' h8 h' h1 w
            have hEA := hidG eA'
            have hm0 : ¬ ((m' : Int) < 0) := by omega
            clear e1 e2 h8 h1 eA'
            go_wp2_with (first
              | (go_at_call 34; (with_reducible refine (E _).mono ?_); rintro e w2 ⟨rfl, rfl⟩)
              | (go_at_call 35; (with_reducible refine (PW _).mono ?_); rintro e w4 ⟨rfl, hN4⟩; have hV := hidG (hJ.out.on hN4); have c0 := hV.out.rc.c0 y hly; have c1 := hV.out.rc.c1 y hly; have c2 := hV.out.rc.c2 y hly; have f0 := hV.out.fz (y * 3); have f1 := hV.out.fz (y * 3 + 1); have f2 := hV.out.fz (y * 3 + 2)))
            go_roundw
            case rel =>
              have hs := hV.out.set hly
              rw [hEA.out] at hs
              exact ⟨y + 1, by omega, by go_num, hs⟩
            case measure => simp [intOf]; omega
          · rw [e1] at E
            have hEA := hidG eA'
            clear e1 eA'
            go_wp2_with (go_at_call 34; (with_reducible refine (E _).mono ?_); rintro e w2 ⟨rfl, rfl⟩)
            go_roundw
            case rel =>
              exact ⟨y + 1, by omega, by go_num, hJ.out.skip hEA.out⟩
            case measure => simp [intOf]; omega
        · obtain rfl : y = 4 := by omega
          have hA := hidG (hJ.out.on (bal (Below.refl _ _) (.cells #[.slice (some ⟨R, 0, none⟩) 4 4] 37)))
          have N1 : ∀ (w4 : World) j u, [Value.slice (some ⟨R, 0, none⟩) 4 4][j]? = some u → (w4.alloc (.cells #[.slice (some ⟨R, 0, none⟩) 4 4] 37)).cell? ((⟨w4.heap.size, 0, none⟩ : Addr).add j) = some u := by
            simp [go_sem]
          go_wp2_with (at_builtin; refine wpList_append_own_at _ rfl _ _ 30 rfl w1.heap.size 37 i4 (.slice none 0 0) 1 24 Try.underlying30 hi4 hz4 hs4 hb4 rfl (by decide) _ x (sl B 4 x) rfl hA.out.mo.own ⟨_, 0, none⟩ 1 1 [.slice (some ⟨R, 0, none⟩) 4 4] rfl rfl (N1 _) (fun u hu => by simp at hu; rw [hu]; rfl) (by unfold maxLen; omega) (by omega) hA.out.mo.below.size ?_; intro v3 w3 hown3 hgrow3 hnil3 hloc3; have hZ := hidG (hA.out.fin hgrow3 hown3 hloc3); clear hown3 hgrow3 hnil3 hloc3)
          go_roundw
          case rel => exact ⟨x + 1, by omega, by go_num, _, hZ.out⟩
          case measure => simp [intOf]; omega
    · obtain rfl : x = 4 := by omega
      obtain ⟨B, hM⟩ := hH.out
      go_wp2
      go_ret2
      exact ⟨_, B, rfl, hM⟩
set_option maxRecDepth 100000 in
set_option maxHeartbeats 8000000 in
theorem rmatrix_3 {s : ByteArray} (A : Nat → Nat → A5) (pe ph : Nat → Nat → Int) (w : World)
    (AR : ∀ w, Calls Try.prog 9 #[.string s] w fun e w' => e = .returned (.int .i64 3) ∧ w' = w)
    (EN : ∀ x y, x < 8 → y < 8 → ∀ w, Calls Try.prog 34 #[.string s, .int .i64 (x : Nat), .int .i64 (y : Nat)] w fun e w' => e = .returned (.tuple #[.int .i64 (pe x y), .int .i64 (ph x y)]) ∧ w' = w)
    (GX : ∀ x y, x < 8 → y < 8 → (∃ m' h' : Nat, pe x y = m' ∧ ph x y = h' ∧ m' < 8 ∧ h' ≤ 1 ∧ A x y = ⟨⟨tA m' 1 0 0 0, tB m' 1 0 0 0, tC m' 1 0 0 0, tD m' 1 0 0 0⟩, h'⟩) ∨ (pe x y = -1 ∧ A x y = a0)) :
    Calls Try.prog 19 #[.string s] w fun e w' => ∃ v5 B, e = .returned (.tuple #[v5, .int .i64 0]) ∧ MO w w' v5 8 8 B A := by
  obtain ⟨i4, hi4, hz4, hs4, hb4⟩ := info_parts Try.info37
  have k1 := mkr_8
  have HE := hidG EN
  have HG := hidG GX
  clear EN GX
  go_enter Try.func19, Try.ntmps19
  go_upto_region 6 with (go_at_call 9; (with_reducible refine (AR _).mono ?_); rintro e w1 ⟨rfl, rfl⟩)
  have hC : Hid (∃ B, MO w1 w1 (.slice none 0 0) 0 8 B A) := ⟨fun _ => 0, Below.refl _ _, World.ownsRow_nil _ _ _ _, fun j hj => absurd hj (by omega), fun j hj => absurd hj (by omega)⟩
  go_loopw [5, 6] (fun v5 v wr => ∃ x : Nat, x ≤ 8 ∧ v = .int .i64 x ∧ Hid (∃ B, MO w1 wr v5 x 8 B A)) (fun _ v _ => 8 - (intOf v).toNat)
  case atStart => exact ⟨0, by omega, rfl, hC⟩
  case round =>
    clear hC
    obtain ⟨x, hx, rfl, hH⟩ := hrel
    by_cases hlt : x < 8
    · have hxd : decide ((x : Int) < 8) = true := decide_eq_true (by omega)
      obtain ⟨B, hM⟩ := hH.out
      have hI := hidG (RW'.new hM)
      clear hH hM
      go_upto_region 10 with (fail)
      obtain ⟨R, hR⟩ : ∃ R, R = wr.heap.size := ⟨_, rfl⟩
      rw [← hR]
      rw [← hR] at hI
      clear hR
      go_loopw [8] (fun v wr => ∃ y : Nat, y ≤ 8 ∧ v = .int .i64 y ∧ Hid (RW' w1 wr u5 x 8 B A R y)) (fun v _ => 8 - (intOf v).toNat)
      case atStart => exact ⟨0, by omega, rfl, hI⟩
      case round =>
        clear hI
        obtain ⟨y, hy, rfl, hJ⟩ := hrel
        by_cases hly : y < 8
        · have E := HE.out x y hlt hly
          rcases HG.out x y hlt hly with ⟨m', h', e1, e2, h8, h1, eA'⟩ | ⟨e1, eA'⟩
          · rw [e1, e2] at E
            have PW := fun w => rpower m' h8 h' h1 w
            have hEA := hidG eA'
            have hm0 : ¬ ((m' : Int) < 0) := by omega
            clear e1 e2 h8 h1 eA'
            go_wp2_with (first
              | (go_at_call 34; (with_reducible refine (E _).mono ?_); rintro e w2 ⟨rfl, rfl⟩)
              | (go_at_call 35; (with_reducible refine (PW _).mono ?_); rintro e w4 ⟨rfl, hN4⟩; have hV := hidG (hJ.out.on hN4); have c0 := hV.out.rc.c0 y hly; have c1 := hV.out.rc.c1 y hly; have c2 := hV.out.rc.c2 y hly; have f0 := hV.out.fz (y * 3); have f1 := hV.out.fz (y * 3 + 1); have f2 := hV.out.fz (y * 3 + 2)))
            go_roundw
            case rel =>
              have hs := hV.out.set hly
              rw [hEA.out] at hs
              exact ⟨y + 1, by omega, by go_num, hs⟩
            case measure => simp [intOf]; omega
          · rw [e1] at E
            have hEA := hidG eA'
            clear e1 eA'
            go_wp2_with (go_at_call 34; (with_reducible refine (E _).mono ?_); rintro e w2 ⟨rfl, rfl⟩)
            go_roundw
            case rel =>
              exact ⟨y + 1, by omega, by go_num, hJ.out.skip hEA.out⟩
            case measure => simp [intOf]; omega
        · obtain rfl : y = 8 := by omega
          have hA := hidG (hJ.out.on (bal (Below.refl _ _) (.cells #[.slice (some ⟨R, 0, none⟩) 8 8] 37)))
          have N1 : ∀ (w4 : World) j u, [Value.slice (some ⟨R, 0, none⟩) 8 8][j]? = some u → (w4.alloc (.cells #[.slice (some ⟨R, 0, none⟩) 8 8] 37)).cell? ((⟨w4.heap.size, 0, none⟩ : Addr).add j) = some u := by
            simp [go_sem]
          go_wp2_with (at_builtin; refine wpList_append_own_at _ rfl _ _ 30 rfl w1.heap.size 37 i4 (.slice none 0 0) 1 24 Try.underlying30 hi4 hz4 hs4 hb4 rfl (by decide) _ x (sl B 8 x) rfl hA.out.mo.own ⟨_, 0, none⟩ 1 1 [.slice (some ⟨R, 0, none⟩) 8 8] rfl rfl (N1 _) (fun u hu => by simp at hu; rw [hu]; rfl) (by unfold maxLen; omega) (by omega) hA.out.mo.below.size ?_; intro v3 w3 hown3 hgrow3 hnil3 hloc3; have hZ := hidG (hA.out.fin hgrow3 hown3 hloc3); clear hown3 hgrow3 hnil3 hloc3)
          go_roundw
          case rel => exact ⟨x + 1, by omega, by go_num, _, hZ.out⟩
          case measure => simp [intOf]; omega
    · obtain rfl : x = 8 := by omega
      obtain ⟨B, hM⟩ := hH.out
      go_wp2
      go_ret2
      exact ⟨_, B, rfl, hM⟩
end Go.Proofs.Ytjmgcgjmaemgdaa
