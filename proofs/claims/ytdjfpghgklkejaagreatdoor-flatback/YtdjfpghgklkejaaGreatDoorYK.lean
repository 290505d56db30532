/-
  Put together of: FS FG FNa.
-/
import Derived.Shelf.Sort.Plain
import Derived.Shelf.Slices.Clone
import Derived.Shelf.Slices.CompactI
import Derived.Shelf.Slices.In.SortNone
import Derived.Test.YtdjfpghgklkejaaGreatDoorXA
import Derived.Test.YtdjfpghgklkejaaGreatDoorXO
import Derived.Lib.OwnBridge
import Derived.Test.YtdjfpghgklkejaaGreatDoorXS
namespace Go.Proofs
open Go.Shelf
def Tryz.lays189_ren : Go.Shelf.Ren := ⟨fun | 189 => 163 | 125 => 177 | 257 => 176 | 128 => 195 | 129 => 181 | 294 => 186 | 295 => 187 | 296 => 188 | 297 => 189 | 298 => 190 | 299 => 191 | 216 => 192 | 300 => 193 | 301 => 194 | 328 => 204 | 329 => 205 | 330 => 206 | 331 => 207 | 332 => 208 | 215 => 209 | 343 => 213 | n => n, fun | 28 => 46 | 3 => 3 | 46 => 136 | 0 => 0 | 51 => 236 | 53 => 47 | 4 => 4 | 183 => 240 | 182 => 239 | 131 => 215 | 5 => 5 | 9 => 9 | 218 => 254 | 222 => 166 | 228 => 264 | 229 => 58 | n => n, fun | n => n⟩
theorem Tryz.lays189 : Go.Proofs.Lays.n189 Tryz.prog Tryz.lays189_ren := {
 mixed := by kernel_rfl
 f125 := Tryz.func177.trans (congrArg some (by kernel_rfl))
 f128 := Tryz.func195.trans (congrArg some (by kernel_rfl))
 f129 := Tryz.func181.trans (congrArg some (by kernel_rfl))
 f189 := Tryz.func163.trans (congrArg some (by kernel_rfl))
 f215 := Tryz.func209.trans (congrArg some (by kernel_rfl))
 f216 := Tryz.func192.trans (congrArg some (by kernel_rfl))
 f257 := Tryz.func176.trans (congrArg some (by kernel_rfl))
 f294 := Tryz.func186.trans (congrArg some (by kernel_rfl))
 f295 := Tryz.func187.trans (congrArg some (by kernel_rfl))
 f296 := Tryz.func188.trans (congrArg some (by kernel_rfl))
 f297 := Tryz.func189.trans (congrArg some (by kernel_rfl))
 f298 := Tryz.func190.trans (congrArg some (by kernel_rfl))
 f299 := Tryz.func191.trans (congrArg some (by kernel_rfl))
 f300 := Tryz.func193.trans (congrArg some (by kernel_rfl))
 f301 := Tryz.func194.trans (congrArg some (by kernel_rfl))
 f328 := Tryz.func204.trans (congrArg some (by kernel_rfl))
 f329 := Tryz.func205.trans (congrArg some (by kernel_rfl))
 f330 := Tryz.func206.trans (congrArg some (by kernel_rfl))
 f331 := Tryz.func207.trans (congrArg some (by kernel_rfl))
 f332 := Tryz.func208.trans (congrArg some (by kernel_rfl))
 f343 := Tryz.func213.trans (congrArg some (by kernel_rfl))
 t0 := Tryz.underlying0
 a0 := Tryz.isAgg0
 z0 := Tryz.sizeOf0
 v0 := Tryz.zeroValue0
 t3 := Tryz.underlying3
 a3 := Tryz.isAgg3
 z3 := Tryz.sizeOf3
 v3 := Tryz.zeroValue3
 t4 := Tryz.underlying4
 a4 := Tryz.isAgg4
 z4 := Tryz.sizeOf4
 v4 := Tryz.zeroValue4
 t5 := Tryz.underlying5
 a5 := Tryz.isAgg5
 z5 := Tryz.sizeOf5
 v5 := Tryz.zeroValue5
 t9 := Tryz.underlying9
 a9 := Tryz.isAgg9
 z9 := Tryz.sizeOf9
 v9 := Tryz.zeroValue9
 t28 := Tryz.underlying46
 a28 := Tryz.isAgg46
 z28 := Tryz.sizeOf46
 v28 := Tryz.zeroValue46
 t46 := Tryz.underlying136
 a46 := Tryz.isAgg136
 z46 := Tryz.sizeOf136
 v46 := Tryz.zeroValue136
 t51 := Tryz.underlying236
 a51 := Tryz.isAgg236
 z51 := Tryz.sizeOf236
 v51 := Tryz.zeroValue236
 t53 := Tryz.underlying47
 a53 := Tryz.isAgg47
 z53 := Tryz.sizeOf47
 v53 := Tryz.zeroValue47
 t131 := Tryz.underlying215
 a131 := Tryz.isAgg215
 z131 := Tryz.sizeOf215
 v131 := Tryz.zeroValue215
 t182 := Tryz.underlying239
 a182 := Tryz.isAgg239
 z182 := Tryz.sizeOf239
 v182 := Tryz.zeroValue239
 t183 := Tryz.underlying240
 a183 := Tryz.isAgg240
 z183 := Tryz.sizeOf240
 v183 := Tryz.zeroValue240
 t218 := Tryz.underlying254
 a218 := Tryz.isAgg254
 z218 := Tryz.sizeOf254
 v218 := Tryz.zeroValue254
 t222 := Tryz.underlying166
 a222 := Tryz.isAgg166
 z222 := Tryz.sizeOf166
 v222 := Tryz.zeroValue166
 t228 := Tryz.underlying264
 a228 := Tryz.isAgg264
 z228 := Tryz.sizeOf264
 v228 := Tryz.zeroValue264
 t229 := Tryz.underlying58
 a229 := Tryz.isAgg58
 z229 := Tryz.sizeOf58
 v229 := Tryz.zeroValue58 }
def Tryz.laysNm215_ren : Go.Shelf.Ren := ⟨fun | 15 => 162 | n => n, fun | 22 => 46 | 3 => 3 | 4 => 4 | n => n, fun | n => n⟩
theorem Tryz.laysNm215 : Go.Proofs.Lays2.n15 Tryz.prog Tryz.laysNm215_ren := {
 mixed := by kernel_rfl
 f15 := Tryz.func162.trans (congrArg some (by kernel_rfl))
 t3 := Tryz.underlying3
 a3 := Tryz.isAgg3
 z3 := Tryz.sizeOf3
 v3 := Tryz.zeroValue3
 t4 := Tryz.underlying4
 a4 := Tryz.isAgg4
 z4 := Tryz.sizeOf4
 v4 := Tryz.zeroValue4
 t22 := Tryz.underlying46
 a22 := Tryz.isAgg46
 z22 := Tryz.sizeOf46
 v22 := Tryz.zeroValue46
 i3 := by kernel_rfl }
def Tryz.laysNm220_ren : Go.Shelf.Ren := ⟨fun | 20 => 164 | n => n, fun | 22 => 46 | 3 => 3 | 4 => 4 | 0 => 0 | n => n, fun | n => n⟩
theorem Tryz.laysNm220 : Go.Proofs.Lays2.n20 Tryz.prog Tryz.laysNm220_ren := {
 mixed := by kernel_rfl
 f20 := Tryz.func164.trans (congrArg some (by kernel_rfl))
 t0 := Tryz.underlying0
 a0 := Tryz.isAgg0
 z0 := Tryz.sizeOf0
 v0 := Tryz.zeroValue0
 t3 := Tryz.underlying3
 a3 := Tryz.isAgg3
 z3 := Tryz.sizeOf3
 v3 := Tryz.zeroValue3
 t4 := Tryz.underlying4
 a4 := Tryz.isAgg4
 z4 := Tryz.sizeOf4
 v4 := Tryz.zeroValue4
 t22 := Tryz.underlying46
 a22 := Tryz.isAgg46
 z22 := Tryz.sizeOf46
 v22 := Tryz.zeroValue46
 i3 := by kernel_rfl }
open Go.RowKit Go.Lib Go.Sort in
theorem Tryz.slices_Sort_int (blk off cap : Nat) (zs : List Int) (w : World) (hH : Holds (Value.int .i64) w blk off zs.toArray) (hblk : blk < w.heap.size) (hsz : zs.length < 4611686018427387904) :
  Calls Tryz.prog 163 #[.slice (some ⟨blk, off, none⟩) zs.length cap] w fun e w' =>
   e = .returned (.tuple #[]) ∧ ∃ n os, w' = grow (putRow (Value.int .i64) (Sort.ahead w n) blk off (zs.mergeSort fun x y => decide (x ≤ y)).toArray) os := Any.slices_Sort_int Tryz.lays189 blk off cap zs w hH hblk hsz
open Go.RowKit Go.Lib Go.Sort in
theorem Tryz.slices_Sort_int_none (p : Option Addr) (cap : Nat) (w : World) :
  Calls Tryz.prog 163 #[.slice p 0 cap] w fun e w' => e = .returned (.tuple #[]) ∧ w' = w := Any.slices_Sort_int_none Tryz.lays189 p cap w
open Go.RowKit Go.Lib Go.Sort in
theorem Tryz.slices_Clone_int (b off n c : Nat) (zs : List Int) (w : World) (hz : n ≤ zs.length) (hbig : n * 8 ≤ 140737488355328) (hc : ∀ j, j < zs.length → w.cell? ⟨b, off + j, none⟩ = some (.int .i64 (zs.getD j 0))) :
  Calls Tryz.prog 162 #[.slice (some ⟨b, off, none⟩) n c] w fun e w' => ∃ v', e = .returned v' ∧ w'.ownsRow w.heap.size 3 1 v' n ((zs.take n).map (Value.int .i64)) ∧ v' ≠ .slice none 0 0 ∧ Below w.heap.size w w' := Any.slices_Clone_int Tryz.laysNm215 b off n c zs w hz hbig hc
open Go.RowKit Go.Lib Go.Sort in
theorem Tryz.slices_Clone_int_nil (n c : Nat) (w : World) :
  Calls Tryz.prog 162 #[.slice none n c] w fun e w' => e = .returned (.slice none 0 0) ∧ w' = w := Any.slices_Clone_int_nil Tryz.laysNm215 n c w
open Go.RowKit Go.Lib Go.Sort in
theorem Tryz.slices_Clone_int_zero (a : Addr) (c : Nat) (w : World) :
  Calls Tryz.prog 162 #[.slice (some a) 0 c] w fun e w' => ∃ v', e = .returned v' ∧ w'.ownsRow w.heap.size 3 1 v' 0 [] ∧ v' ≠ .slice none 0 0 ∧ Below w.heap.size w w' := Any.slices_Clone_int_zero Tryz.laysNm215 a c w
open Go.RowKit Go.Lib Go.Sort in
theorem Tryz.slices_Compact_int (blk off cap : Nat) (zs : List Int) (w : World) (hH : Holds (Value.int .i64) w blk off zs.toArray) (hsz : zs.length ≤ 9223372036854775807) (hcap : zs.length ≤ cap) :
  Calls Tryz.prog 164 #[.slice (some ⟨blk, off, none⟩) zs.length cap] w fun e w' => e = .returned (.slice (some ⟨blk, off, none⟩) (Lib.compact zs).length cap) ∧ ∃ q, w' = putRow (Value.int .i64) (Sort.ahead w q) blk off (Lib.compact zs ++ List.replicate (zs.length - (Lib.compact zs).length) 0).toArray := Any.slices_Compact_int Tryz.laysNm220 blk off cap zs w hH hsz hcap
open Go.RowKit Go.Lib Go.Sort in
theorem Tryz.slices_Compact_int_empty (a : Option Addr) (cap : Nat) (w : World) :
  Calls Tryz.prog 164 #[.slice a 0 cap] w fun e w' => e = .returned (.slice a 0 cap) ∧ w' = w := Any.slices_Compact_int_empty Tryz.laysNm220 a cap w
end Go.Proofs
namespace Go.Proofs.YtdjfpghgklkejaaGreatDoor
open Go.RowKit Go.Sort
theorem compact_len (l : List Int) : ((Lib.compact l).length < l.length) ↔ ∃ j, j + 1 < l.length ∧ l[j + 1]! = l[j]! := by
  unfold Lib.compact Lib.compactUpTo
  rw [List.length_map]
  have h0 : (List.range l.length).length = l.length := List.length_range
  have h1 : ((List.range l.length).filter (Lib.keeps l.toArray)).length ≤ l.length := by
    have := List.length_filter_le (Lib.keeps l.toArray) (List.range l.length)
    omega
  have h2 : ((List.range l.length).filter (Lib.keeps l.toArray)).length = l.length ↔ ∀ j, j < l.length → Lib.keeps l.toArray j = true := by
    have := List.length_filter_eq_length_iff (p := Lib.keeps l.toArray) (l := List.range l.length)
    rw [h0] at this
    rw [this]
    simp
  constructor
  · intro h
    refine Classical.byContradiction fun hn => ?_
    have : ((List.range l.length).filter (Lib.keeps l.toArray)).length = l.length := h2.2 fun j hj => by
      unfold Lib.keeps
      rw [decide_eq_true_iff]
      rcases j with _ | j
      · exact .inl rfl
      · refine .inr fun e => hn ⟨j, hj, ?_⟩
        simpa using e
    omega
  · rintro ⟨j, hj, e⟩
    refine Nat.lt_of_le_of_ne h1 fun he => ?_
    have := h2.1 he (j + 1) hj
    unfold Lib.keeps at this
    rw [decide_eq_true_iff] at this
    rcases this with h | h
    · omega
    · exact h (by simpa using e)
theorem sorted_twice {l : List Int} (hs : l.Pairwise (· ≤ ·)) : (∃ j, j + 1 < l.length ∧ l[j + 1]! = l[j]!) ↔ ¬ l.Nodup := by
  rw [List.pairwise_iff_getElem] at hs
  constructor
  · rintro ⟨j, hj, e⟩ hn
    unfold List.Nodup at hn
    rw [List.pairwise_iff_getElem] at hn
    have := hn j (j + 1) (by omega) hj (by omega)
    rw [getElem!_pos l (j + 1) hj, getElem!_pos l j (by omega)] at e
    exact this e.symm
  · intro hn
    refine Classical.byContradiction fun hx => hn ?_
    unfold List.Nodup
    rw [List.pairwise_iff_getElem]
    intro i j hi hj hij e
    have h1 := hs i (i + 1) hi (by omega) (by omega)
    have h2 : l[i + 1]'(by omega) ≤ l[j] := by
      rcases Nat.eq_or_lt_of_le (show i + 1 ≤ j by omega) with h | h
      · subst h; exact Int.le_refl _
      · exact hs (i + 1) j (by omega) hj h
    refine hx ⟨i, by omega, ?_⟩
    rw [getElem!_pos l (i + 1) (by omega), getElem!_pos l i hi]
    omega
theorem twice_iff (l : List Int) : ((Lib.compact (l.mergeSort fun x y => decide (x ≤ y))).length < l.length) ↔ ¬ l.Nodup := by
  have hp : (l.mergeSort fun x y => decide (x ≤ y)).Perm l := List.mergeSort_perm l _
  have hs : (l.mergeSort fun x y => decide (x ≤ y)).Pairwise (· ≤ ·) := by
    have := List.pairwise_mergeSort (le := fun x y : Int => decide (x ≤ y)) (fun a b c => by simp only [decide_eq_true_eq]; omega) (fun a b => by simp only [Bool.or_eq_true, decide_eq_true_eq]; omega) l
    exact this.imp fun h => by simpa using h
  have hl := hp.length_eq
  rw [← hl, compact_len, sorted_twice hs, hp.nodup_iff]
set_option maxHeartbeats 4000000 in
set_option maxRecDepth 100000 in
theorem twice_tail (n : Nat) (a : Option Addr) (c : Nat) (l : List Int) (w : World) (hn : n ≤ 6000000000000) (hl : l.length = n)
    (hclone : Calls Tryz.prog 162 #[.slice a n c] w fun e w' => ∃ v', e = .returned v' ∧ w'.ownsRow w.heap.size 3 1 v' n (l.map (Value.int .i64)) ∧ v' ≠ .slice none 0 0 ∧ Below w.heap.size w w') :
    Calls Tryz.prog 141 #[.slice a n c] w fun e w' => e = .returned (.bool (decide (¬ l.Nodup))) ∧ Below w.heap.size w w' := by
  have HT : Hid (decide ((Lib.compact (l.mergeSort fun x y => decide (x ≤ y))).length < n) = decide (¬ l.Nodup)) := by
    rw [← hl]
    exact decide_eq_decide.2 (twice_iff l)
  go_enter Tryz.func141, Tryz.ntmps141
  go_wp2_with (first
    | (go_at_call 162; refine hclone.mono ?_; rintro e w1 ⟨v1, rfl, hown, hnn, hbel⟩
       obtain ⟨g, cap, rfl, hbg, hgl, hncap, hcm, hlen, hH⟩ := Lib.holds_of_ownsRow hown hnn
       have hsort := Tryz.slices_Sort_int g 0 cap l w1 hH hgl (by omega)
       rw [hlen] at hsort
       have X : Hid (Below w.heap.size w w1 ∧ w.heap.size ≤ g ∧ g < w1.heap.size ∧ n ≤ cap ∧ l.length = n ∧ Holds (Value.int .i64) w1 g 0 l.toArray) := ⟨hbel, hbg, hgl, hncap, hlen, hH⟩
       clear hown hbel hH hnn hclone)
    | (go_at_call 163; refine hsort.mono ?_; rintro e w2 ⟨rfl, nn, os, hw2⟩
       have hl2 : (l.mergeSort fun x y => decide (x ≤ y)).length = n := by rw [List.length_mergeSort]; exact X.out.2.2.2.2.1
       have hH2 : Holds (Value.int .i64) w2 g 0 (l.mergeSort fun x y => decide (x ≤ y)).toArray := by
         rw [hw2]
         exact holds_grow _ _ os g 0 _ (by simpa [putRow, mapBlock, Sort.ahead] using X.out.2.2.1) (holds_putRow _ _ g 0 _ _ (holds_ahead _ w1 nn g 0 _ X.out.2.2.2.2.2) (by simp))
       have hB2 : Hid (Below w.heap.size w w2) := by
         rw [hw2]
         have h1 := Lib.below_putRow (enc := Value.int .i64) (q := nn) (d := (l.mergeSort fun x y => decide (x ≤ y)).toArray) X.out.1 X.out.2.1
         exact ⟨h1.os, h1.tape, h1.output, Nat.le_trans h1.size (by simp [grow]), fun k hk => by
           rw [← h1.block k hk]
           have := h1.size
           simp only [grow]
           rw [Array.getElem?_append_left (by omega)]⟩
       have hcomp := Tryz.slices_Compact_int g 0 cap (l.mergeSort fun x y => decide (x ≤ y)) w2 hH2 (by omega) (by have := X.out.2.2.2.1; omega)
       rw [hl2] at hcomp
       clear hH2 hsort hw2)
    | (go_at_call 164; refine hcomp.mono ?_; rintro e w3 ⟨rfl, q, hw3⟩
       have hB3 : Hid (Below w.heap.size w w3) := by rw [hw3]; exact Lib.below_putRow hB2.out X.out.2.1
       clear hw3 hcomp hB2))
  all_goals
    go_ret
    exact ⟨by simpa using HT.out, by first | exact hB3.out | exact below_drew hB3.out⟩
set_option maxHeartbeats 1000000 in
theorem twiceF_any (l : List Int) (a : Option Addr) (c : Nat) (w : World) (hq : QS w a c l) (hl : l.length ≤ 6000000000000) : Calls Tryz.prog 141 #[.slice a l.length c] w fun e w' => e = .returned (.bool (decide (¬ l.Nodup))) ∧ Below w.heap.size w w' := by
  rcases Nat.eq_zero_or_pos l.length with h0 | h0
  · have e : l = [] := List.length_eq_zero_iff.1 h0
    subst e
    cases a with
    | some a => exact twice_tail 0 (some a) c [] w (by omega) rfl (Tryz.slices_Clone_int_zero a c w)
    | none =>
      have C1 := fun w => Tryz.slices_Clone_int_nil 0 c w
      have C2 := fun w => Tryz.slices_Sort_int_none none 0 w
      have C3 := fun w => Tryz.slices_Compact_int_empty none 0 w
      have e2 : ([] : List Int).length = 0 := rfl
      rw [e2]
      go_enter Tryz.func141, Tryz.ntmps141
      go_wp2_with (first
        | (go_at_call 162; refine (C1 _).mono ?_; rintro e w1 ⟨rfl, rfl⟩)
        | (go_at_call 163; refine (C2 _).mono ?_; rintro e w1 ⟨rfl, rfl⟩)
        | (go_at_call 164; refine (C3 _).mono ?_; rintro e w1 ⟨rfl, rfl⟩))
      all_goals
        go_ret
        exact ⟨by simp, by first | exact Below.refl _ _ | exact below_drew (Below.refl _ _)⟩
  · obtain ⟨b, o, rfl, r⟩ := hq.at_ 0 h0
    have h := Tryz.slices_Clone_int b o l.length c l w (Nat.le_refl _) (by omega) (fun j hj => by rw [r.c j hj, List.getD_eq_getElem?_getD, List.getElem?_eq_getElem hj]; rfl)
    rw [List.take_length] at h
    exact twice_tail l.length _ c l w hl rfl h
end Go.Proofs.YtdjfpghgklkejaaGreatDoor
namespace Go.Proofs.YtdjfpghgklkejaaGreatDoor
open Go.RowKit Go.Sort
theorem LK.depth {w0 W : World} {lb mb N : Nat} {hi : HG} {en : En} {pl : Int} (h : LK w0 W lb mb hi N en pl) (d : Nat) : LK w0 (W.setCell ⟨lb, 4, none⟩ (.int .i64 (d : Nat))) lb mb hi N ⟨en.nm, en.q, en.b, en.pr, d⟩ pl := by
 have g : Fr W (W.setCell ⟨lb, 4, none⟩ (.int .i64 (d : Nat))) lb (lb + 1) := (Fr.refl W lb (lb + 1)).set lb 4 _ (.inl ⟨Nat.le_refl _, Nat.lt_succ_self _⟩)
 have hx : ∀ b, hi.G b → b < lb ∨ lb + 1 ≤ b := fun b hb => .inr (by have := hi.le b hb; have := h.o3; omega)
 obtain ⟨pv, k1, k2⟩ := h.box
 have hmb : (W.setCell ⟨lb, 4, none⟩ (.int .i64 (d : Nat))).heap[mb]? = W.heap[mb]? := g.block _ (Nat.lt_of_lt_of_le h.o4 h.o5) (by have := h.o6; omega)
 exact ⟨below_fr h.below g h.o1, ⟨pv, k1.set 4 (.int .i64 (d : Nat)), k2.far g hx⟩, h.nm.far g hx hmb, h.o1, h.o2, h.o3, h.o4, Nat.le_trans h.o5 g.size, h.o6, fun b hb => h.up b (Nat.le_trans g.size hb)⟩
theorem below_both {W w5 : World} (h : Below W.heap.size W w5) (lb k : Nat) (u : Value) : Below (W.setCell ⟨lb, k, none⟩ u).heap.size (W.setCell ⟨lb, k, none⟩ u) (w5.setCell ⟨lb, k, none⟩ u) := by
 have hs : (W.setCell ⟨lb, k, none⟩ u).heap.size = W.heap.size := by simp [World.setCell]
 refine ⟨h.os, h.tape, h.output, by simpa [World.setCell] using h.size, fun j hj => ?_⟩
 rw [hs] at hj
 have e := h.block j hj
 simp only [World.setCell, Array.getElem?_modify, e]
theorem use_fin {w0 W W1 W' : World} {lb mb N : Nat} {hi : HG} {en en1 : En} {pl : Int} {g : Bool} {p : PP} {L : List TO} (H1 : LK w0 W1 lb mb hi N en1 pl) (hF : Fr W W1 w0.heap.size hi.h) (hB : Below W1.heap.size W1 W') (hok : EnOk en1) (hnx : Nx (en, g) en1) (hp : RowP W' hi (nq g en1) p L) :
  RowO w0 W W' lb mb hi N (en, g) (.ok (en1, L)) (.returned (.tuple #[ppV p, .int .i64 0])) := ⟨hF.blw hB, .inr ⟨en1, L, p, pl, N, rfl, rfl, H1.fr hB, Nat.le_refl _, hok, hnx, hp⟩⟩
theorem use_bad {w0 W W1 W' : World} {lb mb N M : Nat} {hi : HG} {en1 : En} {pl : Int} {pr : En × Bool} {p : PP} {e : Nat} (H1 : LK w0 W1 lb mb hi N en1 pl) (hF : Fr W W1 w0.heap.size hi.h) (hB : Below W1.heap.size W1 W') (he : e ≠ 0) (hNM : N ≤ M := by omega) :
  RowO w0 W W' lb mb hi M pr (.error (pl, e)) (.returned (.tuple #[ppV p, .int .i64 (e : Nat)])) := ⟨hF.blw hB, .inl ⟨(pl, e), rfl, ⟨p, rfl⟩, he, (H1.fr hB).le hNM⟩⟩
theorem rowP_own {W : World} {hi : HG} {nn : Nat} {sd : Sd} {nm : ByteArray} {qs : List Int} {qa : Option Addr} {qc : Nat} (hq : QSh W hi qa qc qs) (hl : qs.length ≤ 6000000000000) (hnm : nm.size ≤ 281474976710656) (hne : qs ≠ []) (hmv : sd.m < 18446744073709551616 ∧ sd.v < 18446744073709551616) (hj : ∀ j ∈ qs, 0 ≤ j ∧ j < (nn : Int)) :
  RowP W hi nn ⟨sd, 1, nm, qs, qa, qc, 0, 0, none, 0, 0⟩ [⟨1, nm, qs, 0, stO sd⟩] :=
 rowP_one (p := ⟨sd, 1, nm, qs, qa, qc, 0, 0, none, 0, 0⟩) hq (by show (1 : Int) ≠ 0; decide) rfl rfl ⟨hl, hnm, by show (0 : Int) ≤ _; decide, fun _ => hne, hmv, hj⟩
theorem rowP_use {W : World} {hi : HG} {nn z : Nat} {sd : Sd} {qs : List Int} {qa : Option Addr} {qc : Nat} {ba : Option Addr} {bk bc : Nat} {L' L : List TO} (hq : QSh W hi qa qc qs) (hz : qs.length = z) (hl : qs.length ≤ 6000000000000) (hmv : sd.m < 18446744073709551616 ∧ sd.v < 18446744073709551616) (hj : ∀ j ∈ qs, 0 ≤ j ∧ j < (nn : Int)) (hp : PL W hi z (.slice ba bk bc) L') (ht : T4 L' L) :
  RowP W hi nn ⟨sd, 0, ⟨#[]⟩, qs, qa, qc, 0, 1, ba, bk, bc⟩ (L.map (subT qs (stO sd))) := by
 obtain ⟨a', k', c', e, _, hz'⟩ := hp.shape
 cases e
 have hm : mean ⟨sd, 0, ⟨#[]⟩, qs, qa, qc, 0, 1, ba, bk, bc⟩ L' = L'.map (subT qs (stO sd)) := by
  show (if (0 : Int) ≠ 0 then _ else []) ++ (List.replicate (1 : Int).toNat (L'.map (subT qs (stO sd)))).flatten = _
  simp
 refine ⟨L', _, hq, ?_, hm.symm, ht.map _, ?_, ⟨hl, by show 0 ≤ 281474976710656; exact Nat.zero_le _, by show (1 : Int) ≤ _; decide, fun h => absurd rfl h, hmv, hj⟩, uns_sub hp.uns _ _⟩
 ·refine hp.mono ?_
  show z ≤ nbq nn qs
  unfold nbq
  split
  ·rename_i h
   rw [h] at hz
   simp at hz
   omega
  ·omega
 ·rw [List.map_eq_nil_iff]
  show (0 : Int) = 0 ∧ ((1 : Int) ≤ 0 ∨ bk = 0) ↔ L' = []
  rw [← hz']
  constructor
  ·rintro ⟨_, h | h⟩
   ·exact absurd h (by decide)
   ·exact h
  ·exact fun h => ⟨rfl, .inr h⟩
abbrev nsF (ns : List Nat) (k : Nat) : Nat → Value := fun i => .int .i64 (if i < k then ((ns.getD i 0 : Nat) : Int) else 0)
theorem ns_next {W : World} {g n k : Nat} {ns : List Nat} (hk : ns.length = k) (h : W.rowIs g 3 n (nsF ns k)) (x : Nat) : (W.setCell ⟨g, k, none⟩ (.int .i64 (x : Nat))).rowIs g 3 n (nsF (ns ++ [x]) (k + 1)) := by
 refine (h.set k (.int .i64 (x : Nat))).congr fun i _ => ?_
 show (if i = k then Value.int .i64 (x : Nat) else .int .i64 (if i < k then ((ns.getD i 0 : Nat) : Int) else 0)) = .int .i64 (if i < k + 1 then (((ns ++ [x]).getD i 0 : Nat) : Int) else 0)
 by_cases e : i = k
 ·rw [if_pos e, if_pos (by omega), e, ← hk]
  simp
 ·rw [if_neg e]
  by_cases e2 : i < k
  ·rw [if_pos e2, if_pos (by omega), List.getD_eq_getElem?_getD, List.getD_eq_getElem?_getD, List.getElem?_append_left (by omega)]
  ·rw [if_neg e2, if_neg (by omega)]
theorem ns_qs {W : World} {g n : Nat} {ns : List Nat} (hn : ns.length = n) (h : W.rowIs g 3 n (nsF ns n)) : QS W (some ⟨g, 0, none⟩) n (ilN ns) := by
 have hl : (ilN ns).length = n := by unfold ilN; simp [hn]
 refine ⟨by omega, fun k hk => ⟨g, 0, rfl, fun j hj => ?_, h.lt⟩⟩
 rw [Nat.zero_add, h.cell (by omega)]
 show some (Value.int .i64 (if j < n then ((ns.getD j 0 : Nat) : Int) else 0)) = _
 rw [if_pos (by omega), List.getD_eq_getElem?_getD, List.getElem?_eq_getElem (by omega)]
 simp [ilN]
structure UB (W V : World) (r rs ms : Array Value) : Prop where
 below : Below W.heap.size W V
 b1 : BK V W.heap.size r 79
 b2 : BK V (W.heap.size + 1) rs 69
 b3 : BK V (W.heap.size + 1 + 1) pzC 113
 b4 : BK V (W.heap.size + 1 + 1 + 1) ms 109
 size : W.heap.size + 1 + 1 + 1 + 1 ≤ V.heap.size
theorem UB.on {W V V' : World} {r rs ms : Array Value} (h : UB W V r rs ms) (g : Below V.heap.size V V') : UB W V' r rs ms :=
 ⟨btr h.below g, (g.block _ h.b1.lt).trans h.b1, (g.block _ h.b2.lt).trans h.b2, (g.block _ h.b3.lt).trans h.b3, (g.block _ h.b4.lt).trans h.b4, Nat.le_trans h.size g.size⟩
theorem UB.row {W V : World} {r rs ms : Array Value} (h : UB W V r rs ms) (k : Nat) (u : Value) {b : Nat} (hb : W.heap.size + 1 + 1 + 1 + 1 ≤ b) : UB W (V.setCell ⟨b, k, none⟩ u) r rs ms :=
 ⟨bset h.below _ _ _ (by omega), h.b1.far (by omega) _ _, h.b2.far (by omega) _ _, h.b3.far (by omega) _ _, h.b4.far (by omega) _ _, by simpa [World.setCell] using h.size⟩
structure UL (W wr : World) (r rs ms : Array Value) (en : En) (g : Bool) (l : List Ar) (gb k : Nat) (ns : List Nat) : Prop where
 ub : UB W wr r rs ms
 row : wr.rowIs gb 3 l.length (nsF ns k)
 qu : quL en g (l.take k) = .ok ns
 gb_ : W.heap.size + 1 + 1 + 1 + 1 ≤ gb
theorem il_len (ns : List Nat) : (ilN ns).length = ns.length := by unfold ilN; simp
theorem use_qs {w0 W W1 w3 : World} {lb mb N : Nat} {hi : HG} {en1 : En} {pl : Int} {ns : List Nat} {gb : Nat} (H1 : LK w0 W1 lb mb hi N en1 pl) (hs : W1.heap.size = W.heap.size) (hrow : w3.rowIs gb 3 ns.length (nsF ns ns.length)) (hgb : W.heap.size + 1 + 1 + 1 + 1 ≤ gb) (us : List Value) : QSh (w3.setCells (W.heap.size + 1 + 1) 0 us) hi (some ⟨gb, 0, none⟩) (ilN ns).length (ilN ns) := by
 rw [il_len]
 exact ⟨ns_qs rfl (hrow.of_block ((fr_sets (W.heap.size + 1 + 1) us 0 w3).1.block gb hrow.lt (.inr (by omega)))), fun b o e _ => by cases e; exact H1.up _ (by omega)⟩
theorem use_own {w0 W W1 w3 : World} {lb mb N : Nat} {hi : HG} {en en1 : En} {pl : Int} {g : Bool} {sd : Sd} {ns : List Nat} {gb : Nat} (H1 : LK w0 W1 lb mb hi N en1 pl) (hF : Fr W W1 w0.heap.size hi.h) (hs : W1.heap.size = W.heap.size) (hB : Below W1.heap.size W1 w3) (hrow : w3.rowIs gb 3 ns.length (nsF ns ns.length)) (hgb : W.heap.size + 1 + 1 + 1 + 1 ≤ gb) (hlen : ns.length ≤ 6000000000000) (hmv : sd.m < 18446744073709551616 ∧ sd.v < 18446744073709551616) (hj : ∀ j ∈ ilN ns, 0 ≤ j ∧ j < (nq g en1 : Int)) (hok : EnOk en1) (hnx : Nx (en, g) en1) {nm : ByteArray} (hnm : nm.size ≤ 281474976710656) (h0 : 0 < ns.length) :
  RowO w0 W (w3.setCells (W.heap.size + 1 + 1) 0 (ppc ⟨sd, 1, nm, ilN ns, some ⟨gb, 0, none⟩, (ilN ns).length, 0, 0, none, 0, 0⟩)) lb mb hi N (en, g) (.ok (en1, [⟨1, nm, ilN ns, 0, stO sd⟩])) (.returned (.tuple #[ppV ⟨sd, 1, nm, ilN ns, some ⟨gb, 0, none⟩, (ilN ns).length, 0, 0, none, 0, 0⟩, .int .i64 0])) :=
 use_fin (W1 := W1) H1 hF (below_sets hB (by omega) _) hok hnx (rowP_own (use_qs H1 hs hrow hgb _) (by rw [il_len]; exact hlen) hnm (fun e => by have h1 := il_len ns; rw [e] at h1; simp at h1; omega) hmv hj)
theorem use_def {w0 W W1 w3 : World} {lb mb N : Nat} {hi : HG} {en en1 : En} {pl : Int} {g : Bool} {sd : Sd} {ns : List Nat} {gb : Nat} (H1 : LK w0 W1 lb mb hi N en1 pl) (hF : Fr W W1 w0.heap.size hi.h) (hs : W1.heap.size = W.heap.size) (hB : Below W1.heap.size W1 w3) (hrow : w3.rowIs gb 3 ns.length (nsF ns ns.length)) (hgb : W.heap.size + 1 + 1 + 1 + 1 ≤ gb) (hlen : ns.length ≤ 6000000000000) (hmv : sd.m < 18446744073709551616 ∧ sd.v < 18446744073709551616) (hj : ∀ j ∈ ilN ns, 0 ≤ j ∧ j < (nq g en1 : Int)) (hok : EnOk en1) (hnx : Nx (en, g) en1) {ba : Option Addr} {bk bc z : Nat} {L' L : List TO} (hz : ns.length = z) (hp : PL W1 hi z (.slice ba bk bc) L') (ht : T4 L' L) :
  RowO w0 W (w3.setCells (W.heap.size + 1 + 1) 0 (ppc ⟨sd, 0, ⟨#[]⟩, ilN ns, some ⟨gb, 0, none⟩, (ilN ns).length, 0, 1, ba, bk, bc⟩)) lb mb hi N (en, g) (.ok (en1, L.map (subT (ilN ns) (stO sd)))) (.returned (.tuple #[ppV ⟨sd, 0, ⟨#[]⟩, ilN ns, some ⟨gb, 0, none⟩, (ilN ns).length, 0, 1, ba, bk, bc⟩, .int .i64 0])) := by
 have hB7 := below_sets (b := W.heap.size + 1 + 1) hB (by omega) (ppc ⟨sd, 0, ⟨#[]⟩, ilN ns, some ⟨gb, 0, none⟩, (ilN ns).length, 0, 1, ba, bk, bc⟩)
 exact use_fin (W1 := W1) H1 hF hB7 hok hnx (rowP_use (use_qs H1 hs hrow hgb _) ((il_len ns).trans hz) (by rw [il_len]; exact hlen) hmv hj (hp.far (lo' := 0) (hi' := 0) (fr_of_below hB7) (fun _ _ => .inr (Nat.zero_le _))) ht)
end Go.Proofs.YtdjfpghgklkejaaGreatDoor
