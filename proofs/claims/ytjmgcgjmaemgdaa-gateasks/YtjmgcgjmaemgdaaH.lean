/-
  A name of no gate; the reference's Column and Matrix; the law GateAsks from what its calls tell.
-/
import Derived.Test.YtjmgcgjmaemgdaaF1
import Derived.Test.YtjmgcgjmaemgdaaF3
import Derived.Test.YtjmgcgjmaemgdaaF4
import Derived.Test.YtjmgcgjmaemgdaaF5
import Derived.Test.YtjmgcgjmaemgdaaF6
import Derived.Test.YtjmgcgjmaemgdaaF7
import Derived.Test.YtjmgcgjmaemgdaaF8
import Derived.Test.YtjmgcgjmaemgdaaS
import Derived.Test.YtjmgcgjmaemgdaaK5
import Derived.Test.YtjmgcgjmaemgdaaC7
import Derived.Test.YtjmgcgjmaemgdaaM2
import Derived.Test.YtjmgcgjmaemgdaaM3
import Derived.Deep.Heap
import Derived.Test.YtjmgcgjmaemgdaaD0
import Derived.Test.YtjmgcgjmaemgdaaV1
import Derived.Test.YtjmgcgjmaemgdaaU1
namespace Go.Proofs.Ytjmgcgjmaemgdaa
open Go.RowKit Go.Sort

theorem ba_eq {s : ByteArray} {l : List UInt8} (h : s.toList = l) : s = ⟨l.toArray⟩ := by
  rw [ByteArray.toList_eq] at h
  obtain ⟨d⟩ := s
  subst h
  rfl
theorem hit_or_miss (s : ByteArray) : (∃ i, i < 25 ∧ s = nm i) ∨ Miss s := by
  cases m0 : (s.toList == [105])
  case true => exact .inl ⟨0, by decide, ba_eq (eq_of_beq m0)⟩
  cases m1 : (s.toList == [120])
  case true => exact .inl ⟨1, by decide, ba_eq (eq_of_beq m1)⟩
  cases m2 : (s.toList == [121])
  case true => exact .inl ⟨2, by decide, ba_eq (eq_of_beq m2)⟩
  cases m3 : (s.toList == [122])
  case true => exact .inl ⟨3, by decide, ba_eq (eq_of_beq m3)⟩
  cases m4 : (s.toList == [104])
  case true => exact .inl ⟨4, by decide, ba_eq (eq_of_beq m4)⟩
  cases m5 : (s.toList == [115])
  case true => exact .inl ⟨5, by decide, ba_eq (eq_of_beq m5)⟩
  cases m6 : (s.toList == [115, 100, 103])
  case true => exact .inl ⟨6, by decide, ba_eq (eq_of_beq m6)⟩
  cases m7 : (s.toList == [116])
  case true => exact .inl ⟨7, by decide, ba_eq (eq_of_beq m7)⟩
  cases m8 : (s.toList == [116, 100, 103])
  case true => exact .inl ⟨8, by decide, ba_eq (eq_of_beq m8)⟩
  cases m9 : (s.toList == [118])
  case true => exact .inl ⟨9, by decide, ba_eq (eq_of_beq m9)⟩
  cases m10 : (s.toList == [118, 100, 103])
  case true => exact .inl ⟨10, by decide, ba_eq (eq_of_beq m10)⟩
  cases m11 : (s.toList == [119])
  case true => exact .inl ⟨11, by decide, ba_eq (eq_of_beq m11)⟩
  cases m12 : (s.toList == [119, 100, 103])
  case true => exact .inl ⟨12, by decide, ba_eq (eq_of_beq m12)⟩
  cases m13 : (s.toList == [99, 120])
  case true => exact .inl ⟨13, by decide, ba_eq (eq_of_beq m13)⟩
  cases m14 : (s.toList == [99, 121])
  case true => exact .inl ⟨14, by decide, ba_eq (eq_of_beq m14)⟩
  cases m15 : (s.toList == [99, 122])
  case true => exact .inl ⟨15, by decide, ba_eq (eq_of_beq m15)⟩
  cases m16 : (s.toList == [99, 104])
  case true => exact .inl ⟨16, by decide, ba_eq (eq_of_beq m16)⟩
  cases m17 : (s.toList == [99, 115])
  case true => exact .inl ⟨17, by decide, ba_eq (eq_of_beq m17)⟩
  cases m18 : (s.toList == [99, 115, 100, 103])
  case true => exact .inl ⟨18, by decide, ba_eq (eq_of_beq m18)⟩
  cases m19 : (s.toList == [115, 119, 97, 112])
  case true => exact .inl ⟨19, by decide, ba_eq (eq_of_beq m19)⟩
  cases m20 : (s.toList == [105, 115, 119, 97, 112])
  case true => exact .inl ⟨20, by decide, ba_eq (eq_of_beq m20)⟩
  cases m21 : (s.toList == [105, 115, 119, 97, 112, 100, 103])
  case true => exact .inl ⟨21, by decide, ba_eq (eq_of_beq m21)⟩
  cases m22 : (s.toList == [99, 99, 120])
  case true => exact .inl ⟨22, by decide, ba_eq (eq_of_beq m22)⟩
  cases m23 : (s.toList == [99, 99, 122])
  case true => exact .inl ⟨23, by decide, ba_eq (eq_of_beq m23)⟩
  cases m24 : (s.toList == [99, 115, 119, 97, 112])
  case true => exact .inl ⟨24, by decide, ba_eq (eq_of_beq m24)⟩
  exact .inr ⟨m0, m1, m2, m3, m4, m5, m6, m7, m8, m9, m10, m11, m12, m13, m14, m15, m16, m17, m18, m19, m20, m21, m22, m23, m24⟩
theorem find_none {k : Value} {es : List MapEntry} (h : ∀ e ∈ es, Instr.sameNow .string k e.key = some false) (i : Nat) : Instr.findNow .string k es i = some none := by
  induction es generalizing i with
  | nil => rfl
  | cons e es ih =>
    unfold Instr.findNow
    rw [h e (by simp)]
    exact ih (fun e' he' => h e' (by simp [he'])) (i + 1)
theorem ba_ne {s : ByteArray} {l : List UInt8} (h : (s.toList == l) = false) : (s == ⟨l.toArray⟩) = false := by
  rw [beq_eq_false_iff_ne, ByteArray.toList_eq] at h
  show (s.data == l.toArray) = false
  rw [beq_eq_false_iff_ne]
  intro e
  apply h
  rw [e]
theorem miss_find {s : ByteArray} (H : Miss s) : Instr.findNow .string (.string s) (KA 25).toList 0 = some none := by
  refine find_none (fun e he => ?_) 0
  have hk : ∃ x ∈ nms, e.key = .string x := by
    simp only [KA, List.mem_map] at he
    obtain ⟨x, hx, rfl⟩ := he
    refine ⟨x.1.1, ?_, rfl⟩
    unfold nms
    have := List.fst_mem_of_mem_zipIdx hx
    exact List.mem_map_of_mem (List.mem_of_mem_take this)
  obtain ⟨x, hx, e1⟩ := hk
  rw [e1]
  show some (s == x) = some false
  have : nms = [⟨#[105]⟩, ⟨#[120]⟩, ⟨#[121]⟩, ⟨#[122]⟩, ⟨#[104]⟩, ⟨#[115]⟩, ⟨#[115, 100, 103]⟩, ⟨#[116]⟩, ⟨#[116, 100, 103]⟩, ⟨#[118]⟩, ⟨#[118, 100, 103]⟩, ⟨#[119]⟩, ⟨#[119, 100, 103]⟩, ⟨#[99, 120]⟩, ⟨#[99, 121]⟩, ⟨#[99, 122]⟩, ⟨#[99, 104]⟩, ⟨#[99, 115]⟩, ⟨#[99, 115, 100, 103]⟩, ⟨#[115, 119, 97, 112]⟩, ⟨#[105, 115, 119, 97, 112]⟩, ⟨#[105, 115, 119, 97, 112, 100, 103]⟩, ⟨#[99, 99, 120]⟩, ⟨#[99, 99, 122]⟩, ⟨#[99, 115, 119, 97, 112]⟩]:= by kernel_rfl
  rw [this] at hx
  simp only [List.mem_cons, List.not_mem_nil, or_false] at hx
  rcases hx with rfl | rfl | rfl | rfl | rfl | rfl | rfl | rfl | rfl | rfl | rfl | rfl | rfl | rfl | rfl | rfl | rfl | rfl | rfl | rfl | rfl | rfl | rfl | rfl | rfl
  · exact congrArg some (ba_ne H.m0)
  · exact congrArg some (ba_ne H.m1)
  · exact congrArg some (ba_ne H.m2)
  · exact congrArg some (ba_ne H.m3)
  · exact congrArg some (ba_ne H.m4)
  · exact congrArg some (ba_ne H.m5)
  · exact congrArg some (ba_ne H.m6)
  · exact congrArg some (ba_ne H.m7)
  · exact congrArg some (ba_ne H.m8)
  · exact congrArg some (ba_ne H.m9)
  · exact congrArg some (ba_ne H.m10)
  · exact congrArg some (ba_ne H.m11)
  · exact congrArg some (ba_ne H.m12)
  · exact congrArg some (ba_ne H.m13)
  · exact congrArg some (ba_ne H.m14)
  · exact congrArg some (ba_ne H.m15)
  · exact congrArg some (ba_ne H.m16)
  · exact congrArg some (ba_ne H.m17)
  · exact congrArg some (ba_ne H.m18)
  · exact congrArg some (ba_ne H.m19)
  · exact congrArg some (ba_ne H.m20)
  · exact congrArg some (ba_ne H.m21)
  · exact congrArg some (ba_ne H.m22)
  · exact congrArg some (ba_ne H.m23)
  · exact congrArg some (ba_ne H.m24)
theorem rentry_all (i x y : Nat) (hi : i < 25) (hx : x < 2 ^ qOf i) (hy : y < 2 ^ qOf i) (w : World) : Calls Try.prog 34 #[.string (nm i), .int .i64 (x : Nat), .int .i64 (y : Nat)] w fun e w' => e = .returned (.tuple #[.int .i64 (reP i x y), .int .i64 (reH i x y)]) ∧ w' = w := by
  have : i = 0 ∨ i = 1 ∨ i = 2 ∨ i = 3 ∨ i = 4 ∨ i = 5 ∨ i = 6 ∨ i = 7 ∨ i = 8 ∨ i = 9 ∨ i = 10 ∨ i = 11 ∨ i = 12 ∨ i = 13 ∨ i = 14 ∨ i = 15 ∨ i = 16 ∨ i = 17 ∨ i = 18 ∨ i = 19 ∨ i = 20 ∨ i = 21 ∨ i = 22 ∨ i = 23 ∨ i = 24 := by omega
  rcases this with rfl | rfl | rfl | rfl | rfl | rfl | rfl | rfl | rfl | rfl | rfl | rfl | rfl | rfl | rfl | rfl | rfl | rfl | rfl | rfl | rfl | rfl | rfl | rfl | rfl
  · exact rent_0 x y hx hy w
  · exact rent_1 x y hx hy w
  · exact rent_2 x y hx hy w
  · exact rent_3 x y hx hy w
  · exact rent_4 x y hx hy w
  · exact rent_5 x y hx hy w
  · exact rent_6 x y hx hy w
  · exact rent_7 x y hx hy w
  · exact rent_8 x y hx hy w
  · exact rent_9 x y hx hy w
  · exact rent_10 x y hx hy w
  · exact rent_11 x y hx hy w
  · exact rent_12 x y hx hy w
  · exact rent_13 x y hx hy w
  · exact rent_14 x y hx hy w
  · exact rent_15 x y hx hy w
  · exact rent_16 x y hx hy w
  · exact rent_17 x y hx hy w
  · exact rent_18 x y hx hy w
  · exact rent_19 x y hx hy w
  · exact rent_20 x y hx hy w
  · exact rent_21 x y hx hy w
  · exact rent_22 x y hx hy w
  · exact rent_23 x y hx hy w
  · exact rent_24 x y hx hy w
set_option maxRecDepth 100000 in
set_option maxHeartbeats 400000 in
theorem arity_miss {s : ByteArray} (H : Miss s) (w : World) : Calls Try.prog 8 #[.string s] w fun e w' => e = .returned (.int .i64 0) ∧ Below w.heap.size w w' := by
  have K := kinds_any w
  have L := run_miss s (miss_find H) false
  have F : ∀ w, (Instr.field 59 (.agg #[.int .i64 0, .int .i64 0, .nilFunc, .int .i64 0, .int .i64 0, .bool false, .bool false, .string ⟨#[]⟩]) 0).run Try.prog w = .ok (.int .i64 0) w := fun w => by kernel_rfl
  have hW := below_map w
  clear H
  generalize KA 25 = ka at *
  go_enter Try.func8, Try.ntmps8
  go_wp2_with (go_at_call 30; (with_reducible refine K.mono ?_); rintro e w1 ⟨rfl, rfl⟩)
  go_ret
  exact ⟨rfl, hW⟩
set_option maxRecDepth 100000 in
set_option maxHeartbeats 400000 in
theorem halves_miss {s : ByteArray} (H : Miss s) (w : World) : Calls Try.prog 10 #[.string s] w fun e w' => e = .returned (.int .i64 0) ∧ Below w.heap.size w w' := by
  have K := kinds_any w
  have L := run_miss s (miss_find H) false
  have F : ∀ w, (Instr.field 59 (.agg #[.int .i64 0, .int .i64 0, .nilFunc, .int .i64 0, .int .i64 0, .bool false, .bool false, .string ⟨#[]⟩]) 4).run Try.prog w = .ok (.int .i64 0) w := fun w => by kernel_rfl
  have hW := below_map w
  clear H
  generalize KA 25 = ka at *
  go_enter Try.func10, Try.ntmps10
  go_wp2_with (go_at_call 30; (with_reducible refine K.mono ?_); rintro e w1 ⟨rfl, rfl⟩)
  go_ret
  exact ⟨rfl, hW⟩
set_option maxRecDepth 100000 in
set_option maxHeartbeats 400000 in
theorem clifford_miss {s : ByteArray} (H : Miss s) (w : World) : Calls Try.prog 12 #[.string s] w fun e w' => e = .returned (.bool false) ∧ Below w.heap.size w w' := by
  have K := kinds_any w
  have L := run_miss s (miss_find H) false
  have F : ∀ w, (Instr.field 59 (.agg #[.int .i64 0, .int .i64 0, .nilFunc, .int .i64 0, .int .i64 0, .bool false, .bool false, .string ⟨#[]⟩]) 5).run Try.prog w = .ok (.bool false) w := fun w => by kernel_rfl
  have hW := below_map w
  clear H
  generalize KA 25 = ka at *
  go_enter Try.func12, Try.ntmps12
  go_wp2_with (go_at_call 30; (with_reducible refine K.mono ?_); rintro e w1 ⟨rfl, rfl⟩)
  go_ret
  exact ⟨rfl, hW⟩
set_option maxRecDepth 100000 in
set_option maxHeartbeats 400000 in
theorem diagonal_miss {s : ByteArray} (H : Miss s) (w : World) : Calls Try.prog 14 #[.string s] w fun e w' => e = .returned (.bool false) ∧ Below w.heap.size w w' := by
  have K := kinds_any w
  have L := run_miss s (miss_find H) false
  have F : ∀ w, (Instr.field 59 (.agg #[.int .i64 0, .int .i64 0, .nilFunc, .int .i64 0, .int .i64 0, .bool false, .bool false, .string ⟨#[]⟩]) 6).run Try.prog w = .ok (.bool false) w := fun w => by kernel_rfl
  have hW := below_map w
  clear H
  generalize KA 25 = ka at *
  go_enter Try.func14, Try.ntmps14
  go_wp2_with (go_at_call 30; (with_reducible refine K.mono ?_); rintro e w1 ⟨rfl, rfl⟩)
  go_ret
  exact ⟨rfl, hW⟩
end Go.Proofs.Ytjmgcgjmaemgdaa
namespace Go.Proofs.Ytjmgcgjmaemgdaa
open Go.RowKit Go.Sort

set_option maxRecDepth 100000 in
set_option maxHeartbeats 400000 in
theorem matrix_miss {s : ByteArray} (H : Miss s) (w : World) : Calls Try.prog 18 #[.string s] w fun e w' => e = .returned (.tuple #[.slice none 0 0, .int .i64 80]) ∧ Below w.heap.size w w' := by
  have K := kinds_any w
  have L := run_miss s (miss_find H) true
  have hW := below_map w
  clear H
  generalize KA 25 = ka at *
  go_enter Try.func18, Try.ntmps18
  go_wp2_with (go_at_call 30; (with_reducible refine K.mono ?_); rintro e w1 ⟨rfl, rfl⟩)
  go_ret2
  exact ⟨rfl, bal hW _⟩
set_option maxRecDepth 100000 in
set_option maxHeartbeats 400000 in
theorem column_miss {s : ByteArray} (H : Miss s) (y : Int) (w : World) : Calls Try.prog 21 #[.string s, .int .i64 y] w fun e w' => e = .returned (.tuple #[.slice none 0 0, .slice none 0 0, .int .i64 80]) ∧ Below w.heap.size w w' := by
  have K := kinds_any w
  have L := run_miss s (miss_find H) true
  have hW := below_map w
  clear H
  generalize KA 25 = ka at *
  go_enter Try.func21, Try.ntmps21
  go_wp2_with (go_at_call 30; (with_reducible refine K.mono ?_); rintro e w1 ⟨rfl, rfl⟩)
  go_ret3
  exact ⟨rfl, bal hW _⟩
set_option maxRecDepth 100000 in
set_option maxHeartbeats 400000 in
theorem rmatrix_miss {s : ByteArray} (H : Miss s) (w : World) : Calls Try.prog 19 #[.string s] w fun e w' => e = .returned (.tuple #[.slice none 0 0, .int .i64 80]) ∧ w' = w := by
  have A := fun w => rarity_miss H w
  clear H
  go_enter Try.func19, Try.ntmps19
  go_wp2_with (go_at_call 9; (with_reducible refine (A _).mono ?_); rintro e w1 ⟨rfl, rfl⟩)
  go_ret2
  exact ⟨rfl, rfl⟩
set_option maxRecDepth 100000 in
set_option maxHeartbeats 400000 in
theorem rcolumn_miss {s : ByteArray} (H : Miss s) (y : Int) (w : World) : Calls Try.prog 22 #[.string s, .int .i64 y] w fun e w' => e = .returned (.tuple #[.slice none 0 0, .slice none 0 0, .int .i64 80]) ∧ w' = w := by
  have A := fun w => rarity_miss H w
  clear H
  go_enter Try.func22, Try.ntmps22
  go_wp2_with (go_at_call 9; (with_reducible refine (A _).mono ?_); rintro e w1 ⟨rfl, rfl⟩)
  go_ret3
  exact ⟨rfl, rfl⟩
set_option maxRecDepth 100000 in
set_option maxHeartbeats 1000000 in
theorem column_out {s : ByteArray} {i : Nat} {q c : Int} {f : Nat} {p h : Int} {cl di : Bool} {inv : ByteArray} (H : Hit s i q c f p h cl di inv) (hq : q = 1 ∨ q = 2 ∨ q = 3) (y : Int) (hy : y < 0 ∨ (2 : Int) ^ q.toNat ≤ y) (w : World) :
    Calls Try.prog 21 #[.string s, .int .i64 y] w fun e w' => e = .returned (.tuple #[.slice none 0 0, .slice none 0 0, .int .i64 2]) ∧ Below w.heap.size w w' := by
  have K := kinds_any w
  have L := run_look s i _ H true
  have hW := below_map w
  clear H
  generalize KA 25 = ka at *
  rcases hq with rfl | rfl | rfl
  all_goals
    simp at hy
    rcases hy with hy | hy
    all_goals
      first
        | (have hy0 : ¬ y < 0 := by omega)
        | skip
      go_enter Try.func21, Try.ntmps21
      go_wp2_with (go_at_call 30; (with_reducible refine K.mono ?_); rintro e w1 ⟨rfl, rfl⟩)
      go_ret3
      exact ⟨rfl, bal hW _⟩
set_option maxRecDepth 100000 in
set_option maxHeartbeats 1000000 in
theorem rcolumn_out {s : ByteArray} (q : Int) (A : ∀ w, Calls Try.prog 9 #[.string s] w fun e w' => e = .returned (.int .i64 q) ∧ w' = w) (hq : q = 1 ∨ q = 2 ∨ q = 3) (y : Int) (hy : y < 0 ∨ (2 : Int) ^ q.toNat ≤ y) (w : World) :
    Calls Try.prog 22 #[.string s, .int .i64 y] w fun e w' => e = .returned (.tuple #[.slice none 0 0, .slice none 0 0, .int .i64 2]) ∧ w' = w := by
  rcases hq with rfl | rfl | rfl
  all_goals
    simp at hy
    rcases hy with hy | hy
    all_goals
      first
        | (have hy0 : ¬ y < 0 := by omega)
        | skip
      go_enter Try.func22, Try.ntmps22
      go_wp2_with (go_at_call 9; (with_reducible refine (A _).mono ?_); rintro e w1 ⟨rfl, rfl⟩)
      go_ret3
      exact ⟨rfl, rfl⟩
end Go.Proofs.Ytjmgcgjmaemgdaa
namespace Go.Proofs.Ytjmgcgjmaemgdaa
open Go.RowKit Go.Sort

structure CJ (w W : World) (r h : Nat → Int) (m : Nat → Nat) (v9 v10 : Value) (i k : Nat) : Prop where
  below : Below w.heap.size w W
  o9 : W.ownsRow w.heap.size 3 1 v9 i (rowsL r i)
  o10 : W.ownsRow w.heap.size 46 3 v10 k (ampsL m h k)
  ap : ∀ g, v9.ownBlock = some g → v10.ownBlock ≠ some g
section
variable {w W W2 : World} {r h : Nat → Int} {m : Nat → Nat} {v9 v10 v' : Value} {i k : Nat}
theorem CJ.on (H : CJ w W r h m v9 v10 i k) (hb : Below W.heap.size W W2) : CJ w W2 r h m v9 v10 i k :=
  ⟨btr H.below hb, H.o9.kept (grown_of hb) (by cases v9.ownBlock <;> simp), H.o10.kept (grown_of hb) (by cases v10.ownBlock <;> simp), H.ap⟩
theorem CJ.alloc (H : CJ w W r h m v9 v10 i k) (o : Obj) : CJ w (W.alloc o) r h m v9 v10 i k := H.on (bal (Below.refl _ _) _)
theorem CJ.row (H : CJ w W r h m v9 v10 i k) (hg : W.grownBy W2 v9.ownBlock) {x : Int} (hx : r i = x) (hown : W2.ownsRow w.heap.size 3 1 v' (i + 1) (rowsL r i ++ [.int .i64 x])) (hloc : v'.ownBlock = v9.ownBlock ∨ v'.ownBlock = some W.heap.size) : CJ w W2 r h m v' v10 (i + 1) k where
  below := H.below.grown hg H.below.size (fun j e => (H.o9.lt j e).1)
  o9 := by rw [rowsL_succ, hx]; exact hown
  o10 := H.o10.kept hg (by
    cases e : v10.ownBlock with
    | none => exact .inl rfl
    | some g => exact .inr fun e' => H.ap g e'.symm e)
  ap := fun g hg' e => by
    rcases hloc with hl | hl
    · exact H.ap g (hl ▸ hg') e
    · rw [hl] at hg'
      injection hg' with hg'
      have := (H.o10.lt g e).2
      omega
theorem CJ.amp (H : CJ w W r h m v9 v10 i k) (hg : W.grownBy W2 v10.ownBlock) {a : Nat} {b : Int} (ha : m k = a) (hb : h k = b) (hown : W2.ownsRow w.heap.size 46 3 v' (k + 1) (ampsL m h k ++ unL a b)) (hloc : v'.ownBlock = v10.ownBlock ∨ v'.ownBlock = some W.heap.size) : CJ w W2 r h m v9 v' i (k + 1) where
  below := H.below.grown hg H.below.size (fun j e => (H.o10.lt j e).1)
  o9 := H.o9.kept hg (by
    cases e : v9.ownBlock with
    | none => exact .inl rfl
    | some g => exact .inr fun e' => H.ap g e e'.symm)
  o10 := by rw [ampsL_succ, ha, hb]; exact hown
  ap := fun g hg' e => by
    rcases hloc with hl | hl
    · exact H.ap g hg' (hl ▸ e)
    · rw [hl] at e
      injection e with e
      have := (H.o9.lt g hg').2
      omega
end
/-- What stands at row x of the column. -/
abbrev GXat (r hf : Nat → Int) (mm : Nat → Nat) (pe ph : Nat → Int) (at_ : Nat → Nat) (x : Nat) : Prop :=
  (∃ m' h' : Nat, pe x = m' ∧ ph x = h' ∧ m' < 8 ∧ h' ≤ 1 ∧ r (at_ x) = x ∧ mm (at_ x) = m' ∧ hf (at_ x) = h' ∧ at_ (x + 1) = at_ x + 1 ∧ at_ x ≤ 8) ∨ (pe x = -1 ∧ at_ (x + 1) = at_ x)
set_option maxRecDepth 100000 in
set_option maxHeartbeats 8000000 in
theorem rcolumn_1 {s : ByteArray} (y : Nat) (hy : y < 2) (n : Nat) (r hf : Nat → Int) (mm : Nat → Nat) (pe ph : Nat → Int) (at_ : Nat → Nat) (w : World)
    (A : ∀ w, Calls Try.prog 9 #[.string s] w fun e w' => e = .returned (.int .i64 1) ∧ w' = w)
    (EN : ∀ x, x < 2 → ∀ w, Calls Try.prog 34 #[.string s, .int .i64 (x : Nat), .int .i64 (y : Nat)] w fun e w' => e = .returned (.tuple #[.int .i64 (pe x), .int .i64 (ph x)]) ∧ w' = w)
    (GX : ∀ x, x < 2 → GXat r hf mm pe ph at_ x) (a0 : at_ 0 = 0) (fin : at_ 2 = n) :
    Calls Try.prog 22 #[.string s, .int .i64 (y : Nat)] w fun e w' => CR w w' n r hf mm e := by
  obtain ⟨i3, hi3, hz3, hs3, hb3⟩ := info_parts Try.info3
  obtain ⟨i4, hi4, hz4, hs4, hb4⟩ := info_parts Try.info46
  have HE := hidG EN
  have HG := hidG GX
  have HF := hidG fin
  have H0 := hidG a0
  clear EN GX fin a0
  have hy0 : ¬ (y : Int) < 0 := by omega
  have hy1 := hy
  go_enter Try.func22, Try.ntmps22
  go_upto_region 9 with (go_at_call 9; (with_reducible refine (A _).mono ?_); rintro e w1 ⟨rfl, rfl⟩)
  have hC : Hid (CJ w1 w1 r hf mm (.slice none 0 0) (.slice none 0 0) (at_ 0) (at_ 0)) := by
    rw [H0.out]
    exact ⟨Below.refl _ _, World.ownsRow_nil _ _ _ _, World.ownsRow_nil _ _ _ _, fun g e => by simp [Value.ownBlock] at e⟩
  go_loopw [8, 9, 10] (fun v9 v10 v wr => ∃ x : Nat, x ≤ 2 ∧ v = .int .i64 x ∧ Hid (CJ w1 wr r hf mm v9 v10 (at_ x) (at_ x))) (fun _ _ v _ => 2 - (intOf v).toNat)
  case atStart => exact ⟨0, by omega, rfl, hC⟩
  case round =>
    clear hC
    obtain ⟨x, hx, rfl, hH⟩ := hrel
    by_cases hlt : x < 2
    · have E := HE.out x hlt
      rcases HG.out x hlt with ⟨m', h', e1, e2, h8, h1, er, em, eh, ea, hk8⟩ | ⟨e1, ea⟩
      · rw [e1, e2] at E
        have PW := fun w => rpower m' h8 h' h1 w
        have hEA := hidG ea
        have hER := hidG er
        have hEM := hidG em
        have hEH := hidG eh
        clear e1 e2 h8 h1 er em eh ea
        generalize at_ x = k at *
        have hm0 : ¬ ((m' : Int) < 0) := by omega
        have hA : Hid (CJ w1 (wr.alloc (.cells #[.int .i64 (x : Nat)] 3)) r hf mm _ _ k k) := hH.out.alloc _
        have N1 : ∀ (w4 : World) j u, [Value.int .i64 ((x : Nat) : Int)][j]? = some u → (w4.alloc (.cells #[.int .i64 (x : Nat)] 3)).cell? ((⟨w4.heap.size, 0, none⟩ : Addr).add j) = some u := by
          simp [go_sem]
        have N2 : ∀ (w4 : World) j u, (unL m' (h' : Nat))[j]? = some u → (w4.alloc (.cells (unL m' (h' : Nat)).toArray 46)).cell? ((⟨w4.heap.size, 0, none⟩ : Addr).add j) = some u := fun w4 j u hj => by
          rw [WideShapes.add_plain, Nat.zero_add]
          exact (Bx.new w4 (unL m' (h' : Nat)) 46).c j u hj
        have O2 : ∀ u ∈ unL m' (h' : Nat), u.oneCell' = true := fun u hu => by
          simp at hu
          rcases hu with rfl | rfl | rfl <;> rfl
        go_wp2_with (first
          | (go_at_call 34; (with_reducible refine (E _).mono ?_); rintro e w2 ⟨rfl, rfl⟩)
          | (at_builtin; refine wpList_append_own_at _ rfl _ _ 36 rfl w1.heap.size 3 i3 (.int .i64 0) 1 8 Try.underlying36 hi3 hz3 hs3 hb3 rfl (by decide) _ k (rowsL r k) rfl hA.out.o9 ⟨_, 0, none⟩ 1 1 [.int .i64 (x : Nat)] rfl rfl (N1 _) (fun u hu => by simp at hu; rw [hu]; rfl) (by unfold maxLen; omega) (by omega) hA.out.below.size ?_; intro v3 w3 hown3 hgrow3 hnil3 hloc3; have hR : Hid (CJ w1 w3 r hf mm v3 _ (k + 1) k) := hA.out.row hgrow3 hER.out hown3 hloc3; clear hown3 hgrow3 hnil3 hloc3)
          | (go_at_call 35; (with_reducible refine (PW _).mono ?_); rintro e w4 ⟨rfl, hN4⟩; have hV : Hid (CJ w1 (w4.alloc (.cells (unL m' (h' : Nat)).toArray 46)) r hf mm v3 _ (k + 1) k) := (hR.out.on hN4).alloc _)
          | (at_builtin; refine wpList_append_own_at _ rfl _ _ 37 rfl w1.heap.size 46 i4 (.agg #[.complex .f64 0 0, .complex .f64 0 0, .int .i64 0]) 3 40 Try.underlying37 hi4 hz4 hs4 hb4 rfl (by decide) _ k (ampsL mm hf k) rfl hV.out.o10 ⟨w4.heap.size, 0, none⟩ 1 1 (unL m' (h' : Nat)) rfl rfl (N2 w4) O2 (by unfold maxLen; omega) (by omega) hV.out.below.size ?_; intro v5 w5 hown5 hgrow5 hnil5 hloc5; have hZ : Hid (CJ w1 w5 r hf mm v3 v5 (k + 1) (k + 1)) := hV.out.amp hgrow5 hEM.out hEH.out hown5 hloc5; clear hown5 hgrow5 hnil5 hloc5))
        go_roundw
        case rel => exact ⟨x + 1, by omega, by go_num, by rw [hEA.out]; exact hZ⟩
        case measure => simp [intOf]; omega
      · rw [e1] at E
        have hEA := hidG ea
        clear e1 ea
        go_wp2_with (go_at_call 34; (with_reducible refine (E _).mono ?_); rintro e w2 ⟨rfl, rfl⟩)
        go_roundw
        case rel => exact ⟨x + 1, by omega, by go_num, by rw [hEA.out]; exact hH⟩
        case measure => simp [intOf]; omega
    · obtain rfl : x = 2 := by omega
      rw [HF.out] at hH
      go_wp2
      go_ret3
      exact ⟨hH.out.below, _, _, rfl, hH.out.o9, hH.out.o10⟩
set_option maxRecDepth 100000 in
set_option maxHeartbeats 8000000 in
theorem rcolumn_2 {s : ByteArray} (y : Nat) (hy : y < 4) (n : Nat) (r hf : Nat → Int) (mm : Nat → Nat) (pe ph : Nat → Int) (at_ : Nat → Nat) (w : World)
    (A : ∀ w, Calls Try.prog 9 #[.string s] w fun e w' => e = .returned (.int .i64 2) ∧ w' = w)
    (EN : ∀ x, x < 4 → ∀ w, Calls Try.prog 34 #[.string s, .int .i64 (x : Nat), .int .i64 (y : Nat)] w fun e w' => e = .returned (.tuple #[.int .i64 (pe x), .int .i64 (ph x)]) ∧ w' = w)
    (GX : ∀ x, x < 4 → GXat r hf mm pe ph at_ x) (a0 : at_ 0 = 0) (fin : at_ 4 = n) :
    Calls Try.prog 22 #[.string s, .int .i64 (y : Nat)] w fun e w' => CR w w' n r hf mm e := by
  obtain ⟨i3, hi3, hz3, hs3, hb3⟩ := info_parts Try.info3
  obtain ⟨i4, hi4, hz4, hs4, hb4⟩ := info_parts Try.info46
  have HE := hidG EN
  have HG := hidG GX
  have HF := hidG fin
  have H0 := hidG a0
  clear EN GX fin a0
  have hy0 : ¬ (y : Int) < 0 := by omega
  have hy1 := hy
  go_enter Try.func22, Try.ntmps22
  go_upto_region 9 with (go_at_call 9; (with_reducible refine (A _).mono ?_); rintro e w1 ⟨rfl, rfl⟩)
  have hC : Hid (CJ w1 w1 r hf mm (.slice none 0 0) (.slice none 0 0) (at_ 0) (at_ 0)) := by
    rw [H0.out]
    exact ⟨Below.refl _ _, World.ownsRow_nil _ _ _ _, World.ownsRow_nil _ _ _ _, fun g e => by simp [Value.ownBlock] at e⟩
  go_loopw [8, 9, 10] (fun v9 v10 v wr => ∃ x : Nat, x ≤ 4 ∧ v = .int .i64 x ∧ Hid (CJ w1 wr r hf mm v9 v10 (at_ x) (at_ x))) (fun _ _ v _ => 4 - (intOf v).toNat)
  case atStart => exact ⟨0, by omega, rfl, hC⟩
  case round =>
    clear hC
    obtain ⟨x, hx, rfl, hH⟩ := hrel
    by_cases hlt : x < 4
    · have E := HE.out x hlt
      rcases HG.out x hlt with ⟨m', h', e1, e2, h8, h1, er, em, eh, ea, hk8⟩ | ⟨e1, ea⟩
      · rw [e1, e2] at E
        have PW := fun w => rpower m' h8 h' h1 w
        have hEA := hidG ea
        have hER := hidG er
        have hEM := hidG em
        have hEH := hidG eh
        clear e1 e2 h8 h1 er em eh ea
        generalize at_ x = k at *
        have hm0 : ¬ ((m' : Int) < 0) := by omega
        have hA : Hid (CJ w1 (wr.alloc (.cells #[.int .i64 (x : Nat)] 3)) r hf mm _ _ k k) := hH.out.alloc _
        have N1 : ∀ (w4 : World) j u, [Value.int .i64 ((x : Nat) : Int)][j]? = some u → (w4.alloc (.cells #[.int .i64 (x : Nat)] 3)).cell? ((⟨w4.heap.size, 0, none⟩ : Addr).add j) = some u := by
          simp [go_sem]
        have N2 : ∀ (w4 : World) j u, (unL m' (h' : Nat))[j]? = some u → (w4.alloc (.cells (unL m' (h' : Nat)).toArray 46)).cell? ((⟨w4.heap.size, 0, none⟩ : Addr).add j) = some u := fun w4 j u hj => by
          rw [WideShapes.add_plain, Nat.zero_add]
          exact (Bx.new w4 (unL m' (h' : Nat)) 46).c j u hj
        have O2 : ∀ u ∈ unL m' (h' : Nat), u.oneCell' = true := fun u hu => by
          simp at hu
          rcases hu with rfl | rfl | rfl <;> rfl
        go_wp2_with (first
          | (go_at_call 34; (with_reducible refine (E _).mono ?_); rintro e w2 ⟨rfl, rfl⟩)
          | (at_builtin; refine wpList_append_own_at _ rfl _ _ 36 rfl w1.heap.size 3 i3 (.int .i64 0) 1 8 Try.underlying36 hi3 hz3 hs3 hb3 rfl (by decide) _ k (rowsL r k) rfl hA.out.o9 ⟨_, 0, none⟩ 1 1 [.int .i64 (x : Nat)] rfl rfl (N1 _) (fun u hu => by simp at hu; rw [hu]; rfl) (by unfold maxLen; omega) (by omega) hA.out.below.size ?_; intro v3 w3 hown3 hgrow3 hnil3 hloc3; have hR : Hid (CJ w1 w3 r hf mm v3 _ (k + 1) k) := hA.out.row hgrow3 hER.out hown3 hloc3; clear hown3 hgrow3 hnil3 hloc3)
          | (go_at_call 35; (with_reducible refine (PW _).mono ?_); rintro e w4 ⟨rfl, hN4⟩; have hV : Hid (CJ w1 (w4.alloc (.cells (unL m' (h' : Nat)).toArray 46)) r hf mm v3 _ (k + 1) k) := (hR.out.on hN4).alloc _)
          | (at_builtin; refine wpList_append_own_at _ rfl _ _ 37 rfl w1.heap.size 46 i4 (.agg #[.complex .f64 0 0, .complex .f64 0 0, .int .i64 0]) 3 40 Try.underlying37 hi4 hz4 hs4 hb4 rfl (by decide) _ k (ampsL mm hf k) rfl hV.out.o10 ⟨w4.heap.size, 0, none⟩ 1 1 (unL m' (h' : Nat)) rfl rfl (N2 w4) O2 (by unfold maxLen; omega) (by omega) hV.out.below.size ?_; intro v5 w5 hown5 hgrow5 hnil5 hloc5; have hZ : Hid (CJ w1 w5 r hf mm v3 v5 (k + 1) (k + 1)) := hV.out.amp hgrow5 hEM.out hEH.out hown5 hloc5; clear hown5 hgrow5 hnil5 hloc5))
        go_roundw
        case rel => exact ⟨x + 1, by omega, by go_num, by rw [hEA.out]; exact hZ⟩
        case measure => simp [intOf]; omega
      · rw [e1] at E
        have hEA := hidG ea
        clear e1 ea
        go_wp2_with (go_at_call 34; (with_reducible refine (E _).mono ?_); rintro e w2 ⟨rfl, rfl⟩)
        go_roundw
        case rel => exact ⟨x + 1, by omega, by go_num, by rw [hEA.out]; exact hH⟩
        case measure => simp [intOf]; omega
    · obtain rfl : x = 4 := by omega
      rw [HF.out] at hH
      go_wp2
      go_ret3
      exact ⟨hH.out.below, _, _, rfl, hH.out.o9, hH.out.o10⟩
set_option maxRecDepth 100000 in
set_option maxHeartbeats 8000000 in
theorem rcolumn_3 {s : ByteArray} (y : Nat) (hy : y < 8) (n : Nat) (r hf : Nat → Int) (mm : Nat → Nat) (pe ph : Nat → Int) (at_ : Nat → Nat) (w : World)
    (A : ∀ w, Calls Try.prog 9 #[.string s] w fun e w' => e = .returned (.int .i64 3) ∧ w' = w)
    (EN : ∀ x, x < 8 → ∀ w, Calls Try.prog 34 #[.string s, .int .i64 (x : Nat), .int .i64 (y : Nat)] w fun e w' => e = .returned (.tuple #[.int .i64 (pe x), .int .i64 (ph x)]) ∧ w' = w)
    (GX : ∀ x, x < 8 → GXat r hf mm pe ph at_ x) (a0 : at_ 0 = 0) (fin : at_ 8 = n) :
    Calls Try.prog 22 #[.string s, .int .i64 (y : Nat)] w fun e w' => CR w w' n r hf mm e := by
  obtain ⟨i3, hi3, hz3, hs3, hb3⟩ := info_parts Try.info3
  obtain ⟨i4, hi4, hz4, hs4, hb4⟩ := info_parts Try.info46
  have HE := hidG EN
  have HG := hidG GX
  have HF := hidG fin
  have H0 := hidG a0
  clear EN GX fin a0
  have hy0 : ¬ (y : Int) < 0 := by omega
  have hy1 := hy
  go_enter Try.func22, Try.ntmps22
  go_upto_region 9 with (go_at_call 9; (with_reducible refine (A _).mono ?_); rintro e w1 ⟨rfl, rfl⟩)
  have hC : Hid (CJ w1 w1 r hf mm (.slice none 0 0) (.slice none 0 0) (at_ 0) (at_ 0)) := by
    rw [H0.out]
    exact ⟨Below.refl _ _, World.ownsRow_nil _ _ _ _, World.ownsRow_nil _ _ _ _, fun g e => by simp [Value.ownBlock] at e⟩
  go_loopw [8, 9, 10] (fun v9 v10 v wr => ∃ x : Nat, x ≤ 8 ∧ v = .int .i64 x ∧ Hid (CJ w1 wr r hf mm v9 v10 (at_ x) (at_ x))) (fun _ _ v _ => 8 - (intOf v).toNat)
  case atStart => exact ⟨0, by omega, rfl, hC⟩
  case round =>
    clear hC
    obtain ⟨x, hx, rfl, hH⟩ := hrel
    by_cases hlt : x < 8
    · have E := HE.out x hlt
      rcases HG.out x hlt with ⟨m', h', e1, e2, h8, h1, er, em, eh, ea, hk8⟩ | ⟨e1, ea⟩
      · rw [e1, e2] at E
        have PW := fun w => rpower m' h8 h' h1 w
        have hEA := hidG ea
        have hER := hidG er
        have hEM := hidG em
        have hEH := hidG eh
        clear e1 e2 h8 h1 er em eh ea
        generalize at_ x = k at *
        have hm0 : ¬ ((m' : Int) < 0) := by omega
        have hA : Hid (CJ w1 (wr.alloc (.cells #[.int .i64 (x : Nat)] 3)) r hf mm _ _ k k) := hH.out.alloc _
        have N1 : ∀ (w4 : World) j u, [Value.int .i64 ((x : Nat) : Int)][j]? = some u → (w4.alloc (.cells #[.int .i64 (x : Nat)] 3)).cell? ((⟨w4.heap.size, 0, none⟩ : Addr).add j) = some u := by
          simp [go_sem]
        have N2 : ∀ (w4 : World) j u, (unL m' (h' : Nat))[j]? = some u → (w4.alloc (.cells (unL m' (h' : Nat)).toArray 46)).cell? ((⟨w4.heap.size, 0, none⟩ : Addr).add j) = some u := fun w4 j u hj => by
          rw [WideShapes.add_plain, Nat.zero_add]
          exact (Bx.new w4 (unL m' (h' : Nat)) 46).c j u hj
        have O2 : ∀ u ∈ unL m' (h' : Nat), u.oneCell' = true := fun u hu => by
          simp at hu
          rcases hu with rfl | rfl | rfl <;> rfl
        go_wp2_with (first
          | (go_at_call 34; (with_reducible refine (E _).mono ?_); rintro e w2 ⟨rfl, rfl⟩)
          | (at_builtin; refine wpList_append_own_at _ rfl _ _ 36 rfl w1.heap.size 3 i3 (.int .i64 0) 1 8 Try.underlying36 hi3 hz3 hs3 hb3 rfl (by decide) _ k (rowsL r k) rfl hA.out.o9 ⟨_, 0, none⟩ 1 1 [.int .i64 (x : Nat)] rfl rfl (N1 _) (fun u hu => by simp at hu; rw [hu]; rfl) (by unfold maxLen; omega) (by omega) hA.out.below.size ?_; intro v3 w3 hown3 hgrow3 hnil3 hloc3; have hR : Hid (CJ w1 w3 r hf mm v3 _ (k + 1) k) := hA.out.row hgrow3 hER.out hown3 hloc3; clear hown3 hgrow3 hnil3 hloc3)
          | (go_at_call 35; (with_reducible refine (PW _).mono ?_); rintro e w4 ⟨rfl, hN4⟩; have hV : Hid (CJ w1 (w4.alloc (.cells (unL m' (h' : Nat)).toArray 46)) r hf mm v3 _ (k + 1) k) := (hR.out.on hN4).alloc _)
          | (at_builtin; refine wpList_append_own_at _ rfl _ _ 37 rfl w1.heap.size 46 i4 (.agg #[.complex .f64 0 0, .complex .f64 0 0, .int .i64 0]) 3 40 Try.underlying37 hi4 hz4 hs4 hb4 rfl (by decide) _ k (ampsL mm hf k) rfl hV.out.o10 ⟨w4.heap.size, 0, none⟩ 1 1 (unL m' (h' : Nat)) rfl rfl (N2 w4) O2 (by unfold maxLen; omega) (by omega) hV.out.below.size ?_; intro v5 w5 hown5 hgrow5 hnil5 hloc5; have hZ : Hid (CJ w1 w5 r hf mm v3 v5 (k + 1) (k + 1)) := hV.out.amp hgrow5 hEM.out hEH.out hown5 hloc5; clear hown5 hgrow5 hnil5 hloc5))
        go_roundw
        case rel => exact ⟨x + 1, by omega, by go_num, by rw [hEA.out]; exact hZ⟩
        case measure => simp [intOf]; omega
      · rw [e1] at E
        have hEA := hidG ea
        clear e1 ea
        go_wp2_with (go_at_call 34; (with_reducible refine (E _).mono ?_); rintro e w2 ⟨rfl, rfl⟩)
        go_roundw
        case rel => exact ⟨x + 1, by omega, by go_num, by rw [hEA.out]; exact hH⟩
        case measure => simp [intOf]; omega
    · obtain rfl : x = 8 := by omega
      rw [HF.out] at hH
      go_wp2
      go_ret3
      exact ⟨hH.out.below, _, _, rfl, hH.out.o9, hH.out.o10⟩
end Go.Proofs.Ytjmgcgjmaemgdaa
namespace Go.Proofs.Ytjmgcgjmaemgdaa
open Go.RowKit Go.Sort

theorem gx_of (i y x : Nat) (hi : i < 25) (hy : y < 2 ^ qOf i) (hx : x < 2 ^ qOf i) : GXat (enR (ens i y)) (enH (ens i y)) (fun j => mo (enP (ens i y) j)) (fun x => reP i x y) (fun x => reH i x y) (atS i y) x := by
  obtain ⟨⟨_, _, h8⟩, hc⟩ := (gate_ok i hi).cell y x hy hx
  rcases hc with ⟨m, h, e, s⟩ | ⟨e, s⟩
  · have h0 := s.h0
    have h1 := s.h1
    refine .inl ⟨m, h.toNat, ?_, ?_, s.m8, by omega, s.row, s.pw, ?_, s.nat, h8⟩
    · show (rO (ec i x y)).1 = _
      rw [e]; rfl
    · show (rO (ec i x y)).2 = _
      rw [e]
      show h = _
      omega
    · rw [s.hf]; omega
  · refine .inr ⟨?_, s.nat⟩
    show (rO (ec i x y)).1 = _
    rw [e]; rfl
theorem rcolumn_all (i y : Nat) (hi : i < 25) (hy : y < 2 ^ qOf i) (w : World) : Calls Try.prog 22 #[.string (nm i), .int .i64 (y : Nat)] w fun e w' => CR w w' (ens i y).length (enR (ens i y)) (enH (ens i y)) (fun j => mo (enP (ens i y) j)) e := by
  have A := fun w => rarity_all i hi w
  have EN : ∀ x, x < 2 ^ qOf i → ∀ w, Calls Try.prog 34 #[.string (nm i), .int .i64 (x : Nat), .int .i64 (y : Nat)] w fun e w' => e = .returned (.tuple #[.int .i64 (reP i x y), .int .i64 (reH i x y)]) ∧ w' = w := fun x hx w => rentry_all i x y hi hx hy w
  have GX := fun x hx => gx_of i y x hi hy hx
  have fin := ((gate_ok i hi).col y hy).nat
  have a0 : atS i y 0 = 0 := rfl
  rcases (gate_ok i hi).q with e | e | e
  · rw [e] at A EN GX fin hy
    exact rcolumn_1 y hy _ _ _ _ (fun x => reP i x y) (fun x => reH i x y) (atS i y) w A EN GX a0 fin
  · rw [e] at A EN GX fin hy
    exact rcolumn_2 y hy _ _ _ _ (fun x => reP i x y) (fun x => reH i x y) (atS i y) w A EN GX a0 fin
  · rw [e] at A EN GX fin hy
    exact rcolumn_3 y hy _ _ _ _ (fun x => reP i x y) (fun x => reH i x y) (atS i y) w A EN GX a0 fin
end Go.Proofs.Ytjmgcgjmaemgdaa
namespace Go.Proofs.Ytjmgcgjmaemgdaa
open Go.RowKit Go.Sort

theorem Try.info37 : (Try.prog.info? 37).map (fun i => (i.zero, i.size, i.bytes)) = some (some (.slice none 0 0), 1, 24) := by kernel_rfl
theorem grown_set (w : World) (a : Addr) (u : Value) : w.grownBy (w.setCell a u) (some a.block) :=
  ⟨rfl, rfl, rfl, by simp, fun k _ hk => Go.Deep.blk_setCell_other w a u k (fun e => hk (by rw [e]))⟩
/-- A row that can be read. -/
structure RowC (W : World) (R N : Nat) (f : Nat → A5) : Prop where
  c0 : ∀ y, y < N → W.cell? ⟨R, y * 3, none⟩ = some (cx (f y).q.a (f y).q.b)
  c1 : ∀ y, y < N → W.cell? ⟨R, y * 3 + 1, none⟩ = some (cx (f y).q.c (f y).q.d)
  c2 : ∀ y, y < N → W.cell? ⟨R, y * 3 + 2, none⟩ = some (.int .i64 ((f y).k : Nat))
  lt : R < W.heap.size
theorem RowC.grown {W W' : World} {R N : Nat} {f : Nat → A5} {row : Option Nat} (E : RowC W R N f) (hg : W.grownBy W' row) (hne : some R ≠ row) : RowC W' R N f :=
  ⟨fun y hy => hg.cell (E.c0 y hy) hne, fun y hy => hg.cell (E.c1 y hy) hne, fun y hy => hg.cell (E.c2 y hy) hne, Nat.lt_of_lt_of_le E.lt hg.size⟩
theorem RowC.on {W W' : World} {R N : Nat} {f : Nat → A5} (E : RowC W R N f) (hb : Below W.heap.size W W') : RowC W' R N f := E.grown (grown_of hb) (by simp)
def sl (B : Nat → Nat) (N x : Nat) : List Value := (List.range x).map fun j => .slice (some ⟨B j, 0, none⟩) N N
theorem sl_succ (B : Nat → Nat) (N x : Nat) : sl B N (x + 1) = sl B N x ++ [.slice (some ⟨B x, 0, none⟩) N N] := by simp [sl, List.range_succ]
structure MO (w W : World) (v5 : Value) (x N : Nat) (B : Nat → Nat) (A : Nat → Nat → A5) : Prop where
  below : Below w.heap.size w W
  own : W.ownsRow w.heap.size 37 1 v5 x (sl B N x)
  row : ∀ j, j < x → RowC W (B j) N (A j)
  ne : ∀ j, j < x → v5.ownBlock ≠ some (B j)
theorem MO.on {w W W2 : World} {v5 : Value} {x N : Nat} {B : Nat → Nat} {A : Nat → Nat → A5} (H : MO w W v5 x N B A) (hb : Below W.heap.size W W2) : MO w W2 v5 x N B A :=
  ⟨btr H.below hb, H.own.kept (grown_of hb) (by cases v5.ownBlock <;> simp), fun j hj => (H.row j hj).on hb, H.ne⟩
/-- The row under way: the first y entries are written. -/
structure RW' (w W : World) (v5 : Value) (x N : Nat) (B : Nat → Nat) (A : Nat → Nat → A5) (R y : Nat) : Prop where
  mo : MO w W v5 x N B A
  rc : RowC W R N (fun y' => if y' < y then A x y' else a0)
  fz : ∀ o, W.frozen? ⟨R, o, none⟩ = false
  ge : w.heap.size ≤ R
  far : ∀ j, j < x → B j ≠ R
  own : v5.ownBlock ≠ some R
section
variable {w W W2 : World} {v5 v' : Value} {x N : Nat} {B : Nat → Nat} {A : Nat → Nat → A5} {R y : Nat}
theorem RW'.on (H : RW' w W v5 x N B A R y) (hb : Below W.heap.size W W2) : RW' w W2 v5 x N B A R y :=
  ⟨H.mo.on hb, H.rc.on hb, fun o => (hb.frozen (p := ⟨R, o, none⟩) H.rc.lt).trans (H.fz o), H.ge, H.far, H.own⟩
theorem RW'.set (H : RW' w W v5 x N B A R y) (hy : y < N) : RW' w (((W.setCell ⟨R, y * 3, none⟩ (cx (A x y).q.a (A x y).q.b)).setCell ⟨R, y * 3 + 1, none⟩ (cx (A x y).q.c (A x y).q.d)).setCell ⟨R, y * 3 + 2, none⟩ (.int .i64 ((A x y).k : Nat))) v5 x N B A R (y + 1) := by
  have hg := ((grown_set W ⟨R, y * 3, none⟩ (cx (A x y).q.a (A x y).q.b)).trans (grown_set _ ⟨R, y * 3 + 1, none⟩ (cx (A x y).q.c (A x y).q.d))).trans (grown_set _ ⟨R, y * 3 + 2, none⟩ (.int .i64 ((A x y).k : Nat)))
  have g0 : (W.cell? ⟨R, y * 3, none⟩).isSome := by rw [H.rc.c0 y hy]; rfl
  have g1 : ((W.setCell ⟨R, y * 3, none⟩ (cx (A x y).q.a (A x y).q.b)).cell? ⟨R, y * 3 + 1, none⟩).isSome := by rw [set_cell _ _ _ _ _ _ g0, if_neg (by omega), H.rc.c1 y hy]; rfl
  have g2 : (((W.setCell ⟨R, y * 3, none⟩ (cx (A x y).q.a (A x y).q.b)).setCell ⟨R, y * 3 + 1, none⟩ (cx (A x y).q.c (A x y).q.d)).cell? ⟨R, y * 3 + 2, none⟩).isSome := by
    rw [set_cell _ _ _ _ _ _ g1, if_neg (by omega), set_cell _ _ _ _ _ _ g0, if_neg (by omega), H.rc.c2 y hy]; rfl
  refine ⟨⟨bset (bset (bset H.mo.below _ _ _ H.ge) _ _ _ H.ge) _ _ _ H.ge, H.mo.own.kept hg ?_, fun j hj => (H.mo.row j hj).grown hg (fun e => H.far j hj (by injection e)), H.mo.ne⟩, ⟨fun y' hy' => ?_, fun y' hy' => ?_, fun y' hy' => ?_, by simpa using H.rc.lt⟩, fun o => by simpa using H.fz o, H.ge, H.far, H.own⟩
  · cases e : v5.ownBlock with
    | none => exact .inl rfl
    | some g => exact .inr fun e' => H.own (by rw [e]; exact e')
  · rw [set_cell _ _ _ _ _ _ g2, if_neg (by omega), set_cell _ _ _ _ _ _ g1, if_neg (by omega), set_cell _ _ _ _ _ _ g0]
    by_cases e : y' = y
    · subst e; rw [if_pos ⟨rfl, rfl⟩, if_pos (by omega)]
    · rw [if_neg (by omega), H.rc.c0 y' hy']
      by_cases e2 : y' < y
      · rw [if_pos e2, if_pos (by omega)]
      · rw [if_neg e2, if_neg (by omega)]
  · rw [set_cell _ _ _ _ _ _ g2, if_neg (by omega), set_cell _ _ _ _ _ _ g1]
    by_cases e : y' = y
    · subst e; rw [if_pos ⟨rfl, rfl⟩, if_pos (by omega)]
    · rw [if_neg (by omega), set_cell _ _ _ _ _ _ g0, if_neg (by omega), H.rc.c1 y' hy']
      by_cases e2 : y' < y
      · rw [if_pos e2, if_pos (by omega)]
      · rw [if_neg e2, if_neg (by omega)]
  · rw [set_cell _ _ _ _ _ _ g2]
    by_cases e : y' = y
    · subst e; rw [if_pos ⟨rfl, rfl⟩, if_pos (by omega)]
    · rw [if_neg (by omega), set_cell _ _ _ _ _ _ g1, if_neg (by omega), set_cell _ _ _ _ _ _ g0, if_neg (by omega), H.rc.c2 y' hy']
      by_cases e2 : y' < y
      · rw [if_pos e2, if_pos (by omega)]
      · rw [if_neg e2, if_neg (by omega)]
theorem RW'.skip (H : RW' w W v5 x N B A R y) (hA : A x y = a0) : RW' w W v5 x N B A R (y + 1) := by
  have key : ∀ y', (if y' < y then A x y' else a0) = (if y' < y + 1 then A x y' else a0) := fun y' => by
    by_cases e : y' = y
    · subst e; rw [if_neg (by omega), if_pos (by omega), hA]
    · by_cases e2 : y' < y
      · rw [if_pos e2, if_pos (by omega)]
      · rw [if_neg e2, if_neg (by omega)]
  refine ⟨H.mo, ?_, H.fz, H.ge, H.far, H.own⟩
  have := H.rc
  simp only [key] at this
  exact this
theorem RW'.new (H : MO w W v5 x N B A) : RW' w (W.alloc (.cells (ZR N) 46)) v5 x N B A W.heap.size 0 := by
  have hh := (MapKept.heap_alloc W (.cells (ZR N) 46)).1
  refine ⟨H.on (bal (Below.refl _ _) _), ⟨fun y hy => ?_, fun y hy => ?_, fun y hy => ?_, by simp [go_sem]⟩, fun o => frozen_of hh o, H.below.size, fun j hj => Nat.ne_of_lt (H.row j hj).lt, fun e => Nat.lt_irrefl _ (H.own.lt _ e).2⟩
  · rw [if_neg (by omega)]; exact cell_of hh (ZR_at (t := 0) hy rfl)
  · rw [if_neg (by omega)]; exact cell_of hh (ZR_at (t := 1) hy rfl)
  · rw [if_neg (by omega)]; exact cell_of hh (ZR_at (t := 2) hy rfl)
theorem RW'.fin (H : RW' w W v5 x N B A R N) (hg : W.grownBy W2 v5.ownBlock) (hown : W2.ownsRow w.heap.size 37 1 v' (x + 1) (sl B N x ++ [.slice (some ⟨R, 0, none⟩) N N])) (hloc : v'.ownBlock = v5.ownBlock ∨ v'.ownBlock = some W.heap.size) : MO w W2 v' (x + 1) N (fun j => if j = x then R else B j) A := by
  have hsl : sl (fun j => if j = x then R else B j) N x = sl B N x := by
    unfold sl
    apply List.map_congr_left
    intro j hj
    have hj' := List.mem_range.1 hj
    show Value.slice (some ⟨if j = x then R else B j, 0, none⟩) N N = _
    rw [if_neg (by omega)]
  refine ⟨H.mo.below.grown hg H.mo.below.size (fun j e => (H.mo.own.lt j e).1), ?_, fun j hj => ?_, fun j hj => ?_⟩
  · rw [sl_succ, hsl, if_pos rfl]; exact hown
  · by_cases e : j = x
    · subst e
      rw [if_pos rfl]
      have := H.rc.grown hg (fun e => H.own e.symm)
      exact ⟨fun y hy => by have := this.c0 y hy; rwa [if_pos hy] at this, fun y hy => by have := this.c1 y hy; rwa [if_pos hy] at this, fun y hy => by have := this.c2 y hy; rwa [if_pos hy] at this, this.lt⟩
    · rw [if_neg e]
      exact (H.mo.row j (by omega)).grown hg (fun e' => H.mo.ne j (by omega) e'.symm)
  · have hlt : (if j = x then R else B j) < W.heap.size := by
      split
      · exact H.rc.lt
      · exact (H.mo.row j (by omega)).lt
    have hne : v5.ownBlock ≠ some (if j = x then R else B j) := by
      split
      · exact H.own
      · exact H.mo.ne j (by omega)
    rcases hloc with hl | hl
    · rw [hl]; exact hne
    · rw [hl]; intro e; injection e with e; omega
end
set_option maxRecDepth 100000 in
set_option maxHeartbeats 8000000 in
theorem rmatrix_1 {s : ByteArray} (A : Nat → Nat → A5) (pe ph : Nat → Nat → Int) (w : World)
    (AR : ∀ w, Calls Try.prog 9 #[.string s] w fun e w' => e = .returned (.int .i64 1) ∧ w' = w)
    (EN : ∀ x y, x < 2 → y < 2 → ∀ w, Calls Try.prog 34 #[.string s, .int .i64 (x : Nat), .int .i64 (y : Nat)] w fun e w' => e = .returned (.tuple #[.int .i64 (pe x y), .int .i64 (ph x y)]) ∧ w' = w)
    (GX : ∀ x y, x < 2 → y < 2 → (∃ m' h' : Nat, pe x y = m' ∧ ph x y = h' ∧ m' < 8 ∧ h' ≤ 1 ∧ A x y = ⟨⟨tA m' 1 0 0 0, tB m' 1 0 0 0, tC m' 1 0 0 0, tD m' 1 0 0 0⟩, h'⟩) ∨ (pe x y = -1 ∧ A x y = a0)) :
    Calls Try.prog 19 #[.string s] w fun e w' => ∃ v5 B, e = .returned (.tuple #[v5, .int .i64 0]) ∧ MO w w' v5 2 2 B A := by
  obtain ⟨i4, hi4, hz4, hs4, hb4⟩ := info_parts Try.info37
  have k1 := mkr_2
  have HE := hidG EN
  have HG := hidG GX
  clear EN GX
  go_enter Try.func19, Try.ntmps19
  go_upto_region 6 with (go_at_call 9; (with_reducible refine (AR _).mono ?_); rintro e w1 ⟨rfl, rfl⟩)
  have hC : Hid (∃ B, MO w1 w1 (.slice none 0 0) 0 2 B A) := ⟨fun _ => 0, Below.refl _ _, World.ownsRow_nil _ _ _ _, fun j hj => absurd hj (by omega), fun j hj => absurd hj (by omega)⟩
  go_loopw [5, 6] (fun v5 v wr => ∃ x : Nat, x ≤ 2 ∧ v = .int .i64 x ∧ Hid (∃ B, MO w1 wr v5 x 2 B A)) (fun _ v _ => 2 - (intOf v).toNat)
  case atStart => exact ⟨0, by omega, rfl, hC⟩
  case round =>
    clear hC
    obtain ⟨x, hx, rfl, hH⟩ := hrel
    by_cases hlt : x < 2
    · have hxd : decide ((x : Int) < 2) = true := decide_eq_true (by omega)
      obtain ⟨B, hM⟩ := hH.out
      have hI := hidG (RW'.new hM)
      clear hH hM
      go_upto_region 10 with (fail)
      obtain ⟨R, hR⟩ : ∃ R, R = wr.heap.size := ⟨_, rfl⟩
      rw [← hR]
      rw [← hR] at hI
      clear hR
      go_loopw [8] (fun v wr => ∃ y : Nat, y ≤ 2 ∧ v = .int .i64 y ∧ Hid (RW' w1 wr u5 x 2 B A R y)) (fun v _ => 2 - (intOf v).toNat)
      case atStart => exact ⟨0, by omega, rfl, hI⟩
      case round =>
        clear hI
        obtain ⟨y, hy, rfl, hJ⟩ := hrel
        by_cases hly : y < 2
        · have E := HE.out x y hlt hly
          rcases HG.out x y hlt hly with ⟨m', h', e1, e2, h8, h1, eA'⟩ | ⟨e1, eA'⟩
          · rw [e1, e2] at E
            have PW := fun w => rpower m' h8 h' h1 w
            have hEA := hidG eA'
            have hm0 : ¬ ((m' : Int) < 0) := by omega
            clear e1 e2 h8 h1 eA'
            go_wp2_with (first
              | (go_at_call 34; (with_reducible refine (E _).mono ?_); rintro e w2 ⟨rfl, rfl⟩)
              | (go_at_call 35; (with_reducible refine (PW _).mono ?_); rintro e w4 ⟨rfl, hN4⟩; have hV := hidG (hJ.out.on hN4); have c0 := hV.out.rc.c0 y hly; have c1 := hV.out.rc.c1 y hly; have c2 := hV.out.rc.c2 y hly; have f0 := hV.out.fz (y * 3); have f1 := hV.out.fz (y * 3 + 1); have f2 := hV.out.fz (y * 3 + 2)))
            go_roundw
            case rel =>
              have hs := hV.out.set hly
              rw [hEA.out] at hs
              exact ⟨y + 1, by omega, by go_num, hs⟩
            case measure => simp [intOf]; omega
          · rw [e1] at E
            have hEA := hidG eA'
            clear e1 eA'
            go_wp2_with (go_at_call 34; (with_reducible refine (E _).mono ?_); rintro e w2 ⟨rfl, rfl⟩)
            go_roundw
            case rel =>
              exact ⟨y + 1, by omega, by go_num, hJ.out.skip hEA.out⟩
            case measure => simp [intOf]; omega
        · obtain rfl : y = 2 := by omega
          have hA := hidG (hJ.out.on (bal (Below.refl _ _) (.cells #[.slice (some ⟨R, 0, none⟩) 2 2] 37)))
          have N1 : ∀ (w4 : World) j u, [Value.slice (some ⟨R, 0, none⟩) 2 2][j]? = some u → (w4.alloc (.cells #[.slice (some ⟨R, 0, none⟩) 2 2] 37)).cell? ((⟨w4.heap.size, 0, none⟩ : Addr).add j) = some u := by
            simp [go_sem]
          go_wp2_with (at_builtin; refine wpList_append_own_at _ rfl _ _ 30 rfl w1.heap.size 37 i4 (.slice none 0 0) 1 24 Try.underlying30 hi4 hz4 hs4 hb4 rfl (by decide) _ x (sl B 2 x) rfl hA.out.mo.own ⟨_, 0, none⟩ 1 1 [.slice (some ⟨R, 0, none⟩) 2 2] rfl rfl (N1 _) (fun u hu => by simp at hu; rw [hu]; rfl) (by unfold maxLen; omega) (by omega) hA.out.mo.below.size ?_; intro v3 w3 hown3 hgrow3 hnil3 hloc3; have hZ := hidG (hA.out.fin hgrow3 hown3 hloc3); clear hown3 hgrow3 hnil3 hloc3)
          go_roundw
          case rel => exact ⟨x + 1, by omega, by go_num, _, hZ.out⟩
          case measure => simp [intOf]; omega
    · obtain rfl : x = 2 := by omega
      obtain ⟨B, hM⟩ := hH.out
      go_wp2
      go_ret2
      exact ⟨_, B, rfl, hM⟩
set_option maxRecDepth 100000 in
set_option maxHeartbeats 8000000 in
theorem rmatrix_2 {s : ByteArray} (A : Nat → Nat → A5) (pe ph : Nat → Nat → Int) (w : World)
    (AR : ∀ w, Calls Try.prog 9 #[.string s] w fun e w' => e = .returned (.int .i64 2) ∧ w' = w)
    (EN : ∀ x y, x < 4 → y < 4 → ∀ w, Calls Try.prog 34 #[.string s, .int .i64 (x : Nat), .int .i64 (y : Nat)] w fun e w' => e = .returned (.tuple #[.int .i64 (pe x y), .int .i64 (ph x y)]) ∧ w' = w)
    (GX : ∀ x y, x < 4 → y < 4 → (∃ m' h' : Nat, pe x y = m' ∧ ph x y = h' ∧ m' < 8 ∧ h' ≤ 1 ∧ A x y = ⟨⟨tA m' 1 0 0 0, tB m' 1 0 0 0, tC m' 1 0 0 0, tD m' 1 0 0 0⟩, h'⟩) ∨ (pe x y = -1 ∧ A x y = a0)) :
    Calls Try.prog 19 #[.string s] w fun e w' => ∃ v5 B, e = .returned (.tuple #[v5, .int .i64 0]) ∧ MO w w' v5 4 4 B A := by
  obtain ⟨i4, hi4, hz4, hs4, hb4⟩ := info_parts Try.info37
  have k1 := mkr_4
  have HE := hidG EN
  have HG := hidG GX
  clear EN GX
  go_enter Try.func19, Try.ntmps19
  go_upto_region 6 with (go_at_call 9; (with_reducible refine (AR _).mono ?_); rintro e w1 ⟨rfl, rfl⟩)
  have hC : Hid (∃ B, MO w1 w1 (.slice none 0 0) 0 4 B A) := ⟨fun _ => 0, Below.refl _ _, World.ownsRow_nil _ _ _ _, fun j hj => absurd hj (by omega), fun j hj => absurd hj (by omega)⟩
  go_loopw [5, 6] (fun v5 v wr => ∃ x : Nat, x ≤ 4 ∧ v = .int .i64 x ∧ Hid (∃ B, MO w1 wr v5 x 4 B A)) (fun _ v _ => 4 - (intOf v).toNat)
  case atStart => exact ⟨0, by omega, rfl, hC⟩
  case round =>
    clear hC
    obtain ⟨x, hx, rfl, hH⟩ := hrel
    by_cases hlt : x < 4
    · have hxd : decide ((x : Int) < 4) = true := decide_eq_true (by omega)
      obtain ⟨B, hM⟩ := hH.out
      have hI := hidG (RW'.new hM)
      clear hH hM
      go_upto_region 10 with (fail)
      obtain ⟨R, hR⟩ : ∃ R, R = wr.heap.size := ⟨_, rfl⟩
      rw [← hR]
      rw [← hR] at hI
      clear hR
      go_loopw [8] (fun v wr => ∃ y : Nat, y ≤ 4 ∧ v = .int .i64 y ∧ Hid (RW' w1 wr u5 x 4 B A R y)) (fun v _ => 4 - (intOf v).toNat)
      case atStart => exact ⟨0, by omega, rfl, hI⟩
      case round =>
        clear hI
        obtain ⟨y, hy, rfl, hJ⟩ := hrel
        by_cases hly : y < 4
        · have E := HE.out x y hlt hly
          rcases HG.out x y hlt hly with ⟨m', h', e1, e2, h8, h1, eA'⟩ | ⟨e1, eA'⟩
          · rw [e1, e2] at E
            have PW := fun w => rpower m' h8 h' h1 w
            have hEA := hidG eA'
            have hm0 : ¬ ((m' : Int) < 0) := by omega
            clear e1 e2 h8 h1 eA'
            go_wp2_with (first
              | (go_at_call 34; (with_reducible refine (E _).mono ?_); rintro e w2 ⟨rfl, rfl⟩)
              | (go_at_call 35; (with_reducible refine (PW _).mono ?_); rintro e w4 ⟨rfl, hN4⟩; have hV := hidG (hJ.out.on hN4); have c0 := hV.out.rc.c0 y hly; have c1 := hV.out.rc.c1 y hly; have c2 := hV.out.rc.c2 y hly; have f0 := hV.out.fz (y * 3); have f1 := hV.out.fz (y * 3 + 1); have f2 := hV.out.fz (y * 3 + 2)))
            go_roundw
            case rel =>
              have hs := hV.out.set hly
              rw [hEA.out] at hs
              exact ⟨y + 1, by omega, by go_num, hs⟩
            case measure => simp [intOf]; omega
          · rw [e1] at E
            have hEA := hidG eA'
            clear e1 eA'
            go_wp2_with (go_at_call 34; (with_reducible refine (E _).mono ?_); rintro e w2 ⟨rfl, rfl⟩)
            go_roundw
            case rel =>
              exact ⟨y + 1, by omega, by go_num, hJ.out.skip hEA.out⟩
            case measure => simp [intOf]; omega
        · obtain rfl : y = 4 := by omega
          have hA := hidG (hJ.out.on (bal (Below.refl _ _) (.cells #[.slice (some ⟨R, 0, none⟩) 4 4] 37)))
          have N1 : ∀ (w4 : World) j u, [Value.slice (some ⟨R, 0, none⟩) 4 4][j]? = some u → (w4.alloc (.cells #[.slice (some ⟨R, 0, none⟩) 4 4] 37)).cell? ((⟨w4.heap.size, 0, none⟩ : Addr).add j) = some u := by
            simp [go_sem]
          go_wp2_with (at_builtin; refine wpList_append_own_at _ rfl _ _ 30 rfl w1.heap.size 37 i4 (.slice none 0 0) 1 24 Try.underlying30 hi4 hz4 hs4 hb4 rfl (by decide) _ x (sl B 4 x) rfl hA.out.mo.own ⟨_, 0, none⟩ 1 1 [.slice (some ⟨R, 0, none⟩) 4 4] rfl rfl (N1 _) (fun u hu => by simp at hu; rw [hu]; rfl) (by unfold maxLen; omega) (by omega) hA.out.mo.below.size ?_; intro v3 w3 hown3 hgrow3 hnil3 hloc3; have hZ := hidG (hA.out.fin hgrow3 hown3 hloc3); clear hown3 hgrow3 hnil3 hloc3)
          go_roundw
          case rel => exact ⟨x + 1, by omega, by go_num, _, hZ.out⟩
          case measure => simp [intOf]; omega
    · obtain rfl : x = 4 := by omega
      obtain ⟨B, hM⟩ := hH.out
      go_wp2
      go_ret2
      exact ⟨_, B, rfl, hM⟩
set_option maxRecDepth 100000 in
set_option maxHeartbeats 8000000 in
theorem rmatrix_3 {s : ByteArray} (A : Nat → Nat → A5) (pe ph : Nat → Nat → Int) (w : World)
    (AR : ∀ w, Calls Try.prog 9 #[.string s] w fun e w' => e = .returned (.int .i64 3) ∧ w' = w)
    (EN : ∀ x y, x < 8 → y < 8 → ∀ w, Calls Try.prog 34 #[.string s, .int .i64 (x : Nat), .int .i64 (y : Nat)] w fun e w' => e = .returned (.tuple #[.int .i64 (pe x y), .int .i64 (ph x y)]) ∧ w' = w)
    (GX : ∀ x y, x < 8 → y < 8 → (∃ m' h' : Nat, pe x y = m' ∧ ph x y = h' ∧ m' < 8 ∧ h' ≤ 1 ∧ A x y = ⟨⟨tA m' 1 0 0 0, tB m' 1 0 0 0, tC m' 1 0 0 0, tD m' 1 0 0 0⟩, h'⟩) ∨ (pe x y = -1 ∧ A x y = a0)) :
    Calls Try.prog 19 #[.string s] w fun e w' => ∃ v5 B, e = .returned (.tuple #[v5, .int .i64 0]) ∧ MO w w' v5 8 8 B A := by
  obtain ⟨i4, hi4, hz4, hs4, hb4⟩ := info_parts Try.info37
  have k1 := mkr_8
  have HE := hidG EN
  have HG := hidG GX
  clear EN GX
  go_enter Try.func19, Try.ntmps19
  go_upto_region 6 with (go_at_call 9; (with_reducible refine (AR _).mono ?_); rintro e w1 ⟨rfl, rfl⟩)
  have hC : Hid (∃ B, MO w1 w1 (.slice none 0 0) 0 8 B A) := ⟨fun _ => 0, Below.refl _ _, World.ownsRow_nil _ _ _ _, fun j hj => absurd hj (by omega), fun j hj => absurd hj (by omega)⟩
  go_loopw [5, 6] (fun v5 v wr => ∃ x : Nat, x ≤ 8 ∧ v = .int .i64 x ∧ Hid (∃ B, MO w1 wr v5 x 8 B A)) (fun _ v _ => 8 - (intOf v).toNat)
  case atStart => exact ⟨0, by omega, rfl, hC⟩
  case round =>
    clear hC
    obtain ⟨x, hx, rfl, hH⟩ := hrel
    by_cases hlt : x < 8
    · have hxd : decide ((x : Int) < 8) = true := decide_eq_true (by omega)
      obtain ⟨B, hM⟩ := hH.out
      have hI := hidG (RW'.new hM)
      clear hH hM
      go_upto_region 10 with (fail)
      obtain ⟨R, hR⟩ : ∃ R, R = wr.heap.size := ⟨_, rfl⟩
      rw [← hR]
      rw [← hR] at hI
      clear hR
      go_loopw [8] (fun v wr => ∃ y : Nat, y ≤ 8 ∧ v = .int .i64 y ∧ Hid (RW' w1 wr u5 x 8 B A R y)) (fun v _ => 8 - (intOf v).toNat)
      case atStart => exact ⟨0, by omega, rfl, hI⟩
      case round =>
        clear hI
        obtain ⟨y, hy, rfl, hJ⟩ := hrel
        by_cases hly : y < 8
        · have E := HE.out x y hlt hly
          rcases HG.out x y hlt hly with ⟨m', h', e1, e2, h8, h1, eA'⟩ | ⟨e1, eA'⟩
          · rw [e1, e2] at E
            have PW := fun w => rpower m' h8 h' h1 w
            have hEA := hidG eA'
            have hm0 : ¬ ((m' : Int) < 0) := by omega
            clear e1 e2 h8 h1 eA'
            go_wp2_with (first
              | (go_at_call 34; (with_reducible refine (E _).mono ?_); rintro e w2 ⟨rfl, rfl⟩)
              | (go_at_call 35; (with_reducible refine (PW _).mono ?_); rintro e w4 ⟨rfl, hN4⟩; have hV := hidG (hJ.out.on hN4); have c0 := hV.out.rc.c0 y hly; have c1 := hV.out.rc.c1 y hly; have c2 := hV.out.rc.c2 y hly; have f0 := hV.out.fz (y * 3); have f1 := hV.out.fz (y * 3 + 1); have f2 := hV.out.fz (y * 3 + 2)))
            go_roundw
            case rel =>
              have hs := hV.out.set hly
              rw [hEA.out] at hs
              exact ⟨y + 1, by omega, by go_num, hs⟩
            case measure => simp [intOf]; omega
          · rw [e1] at E
            have hEA := hidG eA'
            clear e1 eA'
            go_wp2_with (go_at_call 34; (with_reducible refine (E _).mono ?_); rintro e w2 ⟨rfl, rfl⟩)
            go_roundw
            case rel =>
              exact ⟨y + 1, by omega, by go_num, hJ.out.skip hEA.out⟩
            case measure => simp [intOf]; omega
        · obtain rfl : y = 8 := by omega
          have hA := hidG (hJ.out.on (bal (Below.refl _ _) (.cells #[.slice (some ⟨R, 0, none⟩) 8 8] 37)))
          have N1 : ∀ (w4 : World) j u, [Value.slice (some ⟨R, 0, none⟩) 8 8][j]? = some u → (w4.alloc (.cells #[.slice (some ⟨R, 0, none⟩) 8 8] 37)).cell? ((⟨w4.heap.size, 0, none⟩ : Addr).add j) = some u := by
            simp [go_sem]
          go_wp2_with (at_builtin; refine wpList_append_own_at _ rfl _ _ 30 rfl w1.heap.size 37 i4 (.slice none 0 0) 1 24 Try.underlying30 hi4 hz4 hs4 hb4 rfl (by decide) _ x (sl B 8 x) rfl hA.out.mo.own ⟨_, 0, none⟩ 1 1 [.slice (some ⟨R, 0, none⟩) 8 8] rfl rfl (N1 _) (fun u hu => by simp at hu; rw [hu]; rfl) (by unfold maxLen; omega) (by omega) hA.out.mo.below.size ?_; intro v3 w3 hown3 hgrow3 hnil3 hloc3; have hZ := hidG (hA.out.fin hgrow3 hown3 hloc3); clear hown3 hgrow3 hnil3 hloc3)
          go_roundw
          case rel => exact ⟨x + 1, by omega, by go_num, _, hZ.out⟩
          case measure => simp [intOf]; omega
    · obtain rfl : x = 8 := by omega
      obtain ⟨B, hM⟩ := hH.out
      go_wp2
      go_ret2
      exact ⟨_, B, rfl, hM⟩
end Go.Proofs.Ytjmgcgjmaemgdaa
namespace Go.Proofs.Ytjmgcgjmaemgdaa
open Go.RowKit Go.Sort

theorem gm_of (i x y : Nat) (hi : i < 25) (hx : x < 2 ^ qOf i) (hy : y < 2 ^ qOf i) : (∃ m' h' : Nat, reP i x y = m' ∧ reH i x y = h' ∧ m' < 8 ∧ h' ≤ 1 ∧ eA i x y = ⟨⟨tA m' 1 0 0 0, tB m' 1 0 0 0, tC m' 1 0 0 0, tD m' 1 0 0 0⟩, h'⟩) ∨ (reP i x y = -1 ∧ eA i x y = a0) := by
  rcases ((gate_ok i hi).cell y x hy hx).2 with ⟨m, h, e, s⟩ | ⟨e, s⟩
  · have h0 := s.h0
    have h1 := s.h1
    refine .inl ⟨m, h.toNat, ?_, ?_, s.m8, by omega, ?_⟩
    · show (rO (ec i x y)).1 = _
      rw [e]; rfl
    · show (rO (ec i x y)).2 = _
      rw [e]
      show h = _
      omega
    · show eO (ec i x y) = _
      rw [e]; rfl
  · refine .inr ⟨?_, ?_⟩
    · show (rO (ec i x y)).1 = _
      rw [e]; rfl
    · show eO (ec i x y) = _
      rw [e]; rfl
/-- A matrix whose rows lie anywhere. -/
def MG (W : World) (N : Nat) (A : Nat → Nat → A5) (v : Value) : Prop := ∃ (g c : Nat) (B : Nat → Nat), v = .slice (some ⟨g, 0, none⟩) N c ∧ (∀ x, x < N → W.cell? ⟨g, x, none⟩ = some (.slice (some ⟨B x, 0, none⟩) N N)) ∧ (∀ x, x < N → RowC W (B x) N (A x)) ∧ g < W.heap.size
theorem MG.on {W W2 : World} {N : Nat} {A : Nat → Nat → A5} {v : Value} (h : MG W N A v) (hb : Below W.heap.size W W2) : MG W2 N A v := by
  obtain ⟨g, c, B, rfl, h1, h2, h3⟩ := h
  exact ⟨g, c, B, rfl, fun x hx => (hb.cell (p := ⟨g, x, none⟩) h3).trans (h1 x hx), fun x hx => (h2 x hx).on hb, Nat.lt_of_lt_of_le h3 hb.size⟩
theorem MO.mg {w W : World} {v : Value} {N : Nat} {B : Nat → Nat} {A : Nat → Nat → A5} (h : MO w W v N N B A) (hN : 0 < N) : MG W N A v := by
  obtain ⟨g, c, rfl, _, _, l1, c1⟩ := own_at h.own hN
  exact ⟨g, c, B, rfl, fun x hx => c1 x _ (by simp [sl, List.getElem?_range hx]), h.row, l1⟩
theorem rmatrix_all (i : Nat) (hi : i < 25) (w : World) : Calls Try.prog 19 #[.string (nm i)] w fun e w' => ∃ v, e = .returned (.tuple #[v, .int .i64 0]) ∧ Below w.heap.size w w' ∧ MG w' (2 ^ qOf i) (eA i) v := by
  have A := fun w => rarity_all i hi w
  have EN : ∀ x y, x < 2 ^ qOf i → y < 2 ^ qOf i → ∀ w, Calls Try.prog 34 #[.string (nm i), .int .i64 (x : Nat), .int .i64 (y : Nat)] w fun e w' => e = .returned (.tuple #[.int .i64 (reP i x y), .int .i64 (reH i x y)]) ∧ w' = w := fun x y hx hy w => rentry_all i x y hi hx hy w
  have GX := fun x y hx hy => gm_of i x y hi hx hy
  rcases (gate_ok i hi).q with e | e | e
  · rw [e] at A EN GX ⊢
    exact (rmatrix_1 (eA i) (reP i) (reH i) w A EN GX).mono fun _ _ ⟨v, B, he, h⟩ => ⟨v, he, h.below, h.mg (by decide)⟩
  · rw [e] at A EN GX ⊢
    exact (rmatrix_2 (eA i) (reP i) (reH i) w A EN GX).mono fun _ _ ⟨v, B, he, h⟩ => ⟨v, he, h.below, h.mg (by decide)⟩
  · rw [e] at A EN GX ⊢
    exact (rmatrix_3 (eA i) (reP i) (reH i) w A EN GX).mono fun _ _ ⟨v, B, he, h⟩ => ⟨v, he, h.below, h.mg (by decide)⟩
set_option maxHeartbeats 1000000 in
theorem same2_any {w : World} {M N : Nat} {A : Nat → Nat → A5} {v : Value} (h : MR w M N A) (h' : MG w N A v) (h8 : N ≤ 8) (hc : ∀ x y, x < N → y < N → (A x y).chk = true) : Calls Try.prog 20 #[mv M N, v] w fun e w' => e = .returned (.bool true) ∧ Below w.heap.size w w' := by
  obtain ⟨g, c, B, rfl, m1, m2, m3⟩ := h'
  have HG : Hid (∀ W, Below w.heap.size w W → ∀ x, x < N → W.cell? ⟨g, x, none⟩ = some (.slice (some ⟨B x, 0, none⟩) N N) ∧ RowC W (B x) N (A x)) := fun W hb x hx => ⟨(hb.cell (p := ⟨g, x, none⟩) m3).trans (m1 x hx), (m2 x hx).on hb⟩
  clear m1 m2 m3
  go_enter Try.func20, Try.ntmps20
  go_upto_region 4 with (fail)
  go_loopw [5] (fun v wr => ∃ k : Nat, k ≤ N ∧ v = .int .i64 k ∧ Hid (Below w.heap.size w wr)) (fun v _ => N - (intOf v).toNat)
  case atStart => exact ⟨0, by omega, rfl, Below.refl _ _⟩
  case round =>
    obtain ⟨x, hx, rfl, hH⟩ := hrel
    have hB := hH.out
    by_cases hlt : x < N
    · have c0 := (h.on hB).m x hlt
      have c1 := (HG.out _ hB x hlt).1
      go_upto_region 6 with (fail)
      go_quiet (fail)
      go_upto_region 9 with (fail)
      go_loopw [6] (fun v wr => ∃ k : Nat, k ≤ N ∧ v = .int .i64 k ∧ Hid (Below w.heap.size w wr)) (fun v _ => N - (intOf v).toNat)
      case atStart => exact ⟨0, by omega, rfl, bdn hB _⟩
      case round =>
        clear hH hB c0 c1
        obtain ⟨y, hy, rfl, hH⟩ := hrel
        have hB := hH.out
        have c0 := (h.on hB).m x hlt
        by_cases hly : y < N
        · obtain ⟨c1, rc⟩ := HG.out _ hB x hlt
          have d0 := (h.on hB).c0 x y hlt hly
          have d1 := (h.on hB).c1 x y hlt hly
          have d2 := (h.on hB).c2 x y hlt hly
          have e0 := rc.c0 y hly
          have e1 := rc.c1 y hly
          have e2 := rc.c2 y hly
          clear rc
          have RS := run_self (A x y) (hc x y hlt hly)
          generalize A x y = a at *
          generalize B x = b at *
          go_upto_region 11 with (fail)
          go_quiet (fail)
          go_wp2
          go_roundw
          case rel => exact ⟨y + 1, by omega, by go_num, bdn hB _⟩
          case measure => simp [intOf]; omega
        · go_wp2
          go_roundw
          case rel => exact ⟨x + 1, by omega, by go_num, hB⟩
          case measure => simp [intOf]; omega
    · go_wp2
      go_ret
      exact ⟨by simp, hB⟩
theorem same_nil (w : World) : Calls Try.prog 20 #[.slice none 0 0, .slice none 0 0] w fun e w' => e = .returned (.bool true) ∧ Below w.heap.size w w' := by
  go_enter Try.func20, Try.ntmps20
  go_upto_region 4 with (fail)
  refine wp_loop_rounds 1 ?_
  rw [rounds_succ]
  go_wp2
  go_ret
  exact ⟨by simp, Below.refl _ _⟩
end Go.Proofs.Ytjmgcgjmaemgdaa
namespace Go.Proofs.Ytjmgcgjmaemgdaa
open Go.RowKit Go.Sort

set_option maxRecDepth 100000 in
set_option maxHeartbeats 8000000 in
theorem asks_nil {s : ByteArray} (y : Int) (w : World) (q hv e1 e2 e3 : Int) (cl di : Bool) (t : ByteArray) (PA PB : World → Value → Prop)
    (Ar1 : ∀ w, Calls Try.prog 8 #[.string s] w fun e w' => e = .returned (.int .i64 q) ∧ Below w.heap.size w w')
    (Ar2 : ∀ w, Calls Try.prog 9 #[.string s] w fun e w' => e = .returned (.int .i64 q) ∧ w' = w)
    (Ha1 : ∀ w, Calls Try.prog 10 #[.string s] w fun e w' => e = .returned (.int .i64 hv) ∧ Below w.heap.size w w')
    (Ha2 : ∀ w, Calls Try.prog 11 #[.string s] w fun e w' => e = .returned (.int .i64 hv) ∧ w' = w)
    (Cl1 : ∀ w, Calls Try.prog 12 #[.string s] w fun e w' => e = .returned (.bool cl) ∧ Below w.heap.size w w')
    (Cl2 : ∀ w, Calls Try.prog 13 #[.string s] w fun e w' => e = .returned (.bool cl) ∧ w' = w)
    (Di1 : ∀ w, Calls Try.prog 14 #[.string s] w fun e w' => e = .returned (.bool di) ∧ Below w.heap.size w w')
    (Di2 : ∀ w, Calls Try.prog 15 #[.string s] w fun e w' => e = .returned (.bool di) ∧ w' = w)
    (In1 : ∀ w, Calls Try.prog 16 #[.string s] w fun e w' => e = .returned (.tuple #[.string t, .int .i64 e1]) ∧ Below w.heap.size w w')
    (In2 : ∀ w, Calls Try.prog 17 #[.string s] w fun e w' => e = .returned (.tuple #[.string t, .int .i64 e1]) ∧ w' = w)
    (Ma1 : ∀ w, Calls Try.prog 18 #[.string s] w fun e w' => ∃ v, e = .returned (.tuple #[v, .int .i64 e2]) ∧ Below w.heap.size w w' ∧ PA w' v)
    (Ma2 : ∀ w, Calls Try.prog 19 #[.string s] w fun e w' => ∃ v, e = .returned (.tuple #[v, .int .i64 e2]) ∧ Below w.heap.size w w' ∧ PB w' v)
    (hPA : ∀ W W2 v, PA W v → Below W.heap.size W W2 → PA W2 v)
    (SA : ∀ V a b, PA V a → PB V b → Calls Try.prog 20 #[a, b] V fun e w' => e = .returned (.bool true) ∧ Below V.heap.size V w')
    (Co1 : ∀ w, Calls Try.prog 21 #[.string s, .int .i64 y] w fun e w' => e = .returned (.tuple #[.slice none 0 0, .slice none 0 0, .int .i64 e3]) ∧ Below w.heap.size w w')
    (Co2 : ∀ w, Calls Try.prog 22 #[.string s, .int .i64 y] w fun e w' => e = .returned (.tuple #[.slice none 0 0, .slice none 0 0, .int .i64 e3]) ∧ w' = w) :
    Calls Try.prog 3 #[.string s, .int .i64 y] w fun e w' => e = .returned (.bool true) ∧ Below w.heap.size w w' := by
  have AL := alive_any w
  go_enter Try.func3, Try.ntmps3
  go_upto_region 5 with (first
    | (go_at_call 7; (with_reducible refine AL.mono ?_); rintro e w1 ⟨rfl, hW⟩)
    | (go_at_call 8; (with_reducible refine (Ar1 _).mono ?_); rintro e w2 ⟨rfl, hN⟩; replace hW := btr hW hN)
    | (go_at_call 9; (with_reducible refine (Ar2 _).mono ?_); rintro e w2 ⟨rfl, hE⟩; subst hE)
    | (go_at_call 10; (with_reducible refine (Ha1 _).mono ?_); rintro e w2 ⟨rfl, hN⟩; replace hW := btr hW hN)
    | (go_at_call 11; (with_reducible refine (Ha2 _).mono ?_); rintro e w2 ⟨rfl, hE⟩; subst hE)
    | (go_at_call 12; (with_reducible refine (Cl1 _).mono ?_); rintro e w2 ⟨rfl, hN⟩; replace hW := btr hW hN)
    | (go_at_call 13; (with_reducible refine (Cl2 _).mono ?_); rintro e w2 ⟨rfl, hE⟩; subst hE)
    | (go_at_call 14; (with_reducible refine (Di1 _).mono ?_); rintro e w2 ⟨rfl, hN⟩; replace hW := btr hW hN)
    | (go_at_call 15; (with_reducible refine (Di2 _).mono ?_); rintro e w2 ⟨rfl, hE⟩; subst hE))
  clear Ar1 Ar2 Ha1 Ha2 Cl1 Cl2 Di1 Di2 AL
  go_upto_region 9 with (first
    | (go_at_call 16; (with_reducible refine (In1 _).mono ?_); rintro e w2 ⟨rfl, hN⟩; replace hW := btr hW hN)
    | (go_at_call 17; (with_reducible refine (In2 _).mono ?_); rintro e w2 ⟨rfl, hE⟩; subst hE))
  clear In1 In2
  go_upto_region 13 with (first
    | (go_at_call 18; (with_reducible refine (Ma1 _).mono ?_); rintro e w2 ⟨va, rfl, hN, pa⟩; replace hW := btr hW hN)
    | (go_at_call 19; (with_reducible refine (Ma2 _).mono ?_); rintro e w2 ⟨vb, rfl, hN, pb⟩; replace hW := btr hW hN; replace pa := hPA _ _ _ pa hN)
    | (go_at_call 20; (with_reducible refine (SA _ _ _ pa pb).mono ?_); rintro e w2 ⟨rfl, hN⟩; replace hW := btr hW hN))
  clear Ma1 Ma2 SA hPA pa pb
  go_upto_region 18 with (first
    | (go_at_call 21; (with_reducible refine (Co1 _).mono ?_); rintro e w2 ⟨rfl, hN⟩; replace hW := btr hW hN)
    | (go_at_call 22; (with_reducible refine (Co2 _).mono ?_); rintro e w2 ⟨rfl, hE⟩; subst hE))
  refine wp_loop_rounds 1 ?_
  rw [rounds_succ]
  go_wp2
  go_ret
  exact ⟨by simp, hW⟩
/-- Two lists that can be read: rows and amplitudes. -/
structure QL (W : World) (n : Nat) (r h : Nat → Int) (m : Nat → Nat) (g g' : Nat) : Prop where
  rc : ∀ j, j < n → W.cell? ⟨g, j, none⟩ = some (.int .i64 (r j))
  a0 : ∀ j, j < n → W.cell? ⟨g', j * 3, none⟩ = some (cx (tA (m j) 1 0 0 0) (tB (m j) 1 0 0 0))
  a1 : ∀ j, j < n → W.cell? ⟨g', j * 3 + 1, none⟩ = some (cx (tC (m j) 1 0 0 0) (tD (m j) 1 0 0 0))
  a2 : ∀ j, j < n → W.cell? ⟨g', j * 3 + 2, none⟩ = some (.int .i64 (h j))
  l1 : g < W.heap.size
  l2 : g' < W.heap.size
theorem QL.on {W W2 : World} {n : Nat} {r h : Nat → Int} {m : Nat → Nat} {g g' : Nat} (H : QL W n r h m g g') (hb : Below W.heap.size W W2) : QL W2 n r h m g g' :=
  ⟨fun j hj => (hb.cell (p := ⟨g, j, none⟩) H.l1).trans (H.rc j hj), fun j hj => (hb.cell (p := ⟨g', _, none⟩) H.l2).trans (H.a0 j hj), fun j hj => (hb.cell (p := ⟨g', _, none⟩) H.l2).trans (H.a1 j hj), fun j hj => (hb.cell (p := ⟨g', _, none⟩) H.l2).trans (H.a2 j hj), Nat.lt_of_lt_of_le H.l1 hb.size, Nat.lt_of_lt_of_le H.l2 hb.size⟩
theorem ql_of {w W : World} {n : Nat} {r h : Nat → Int} {m : Nat → Nat} {e : Ending} (H : CR w W n r h m e) (hn : 0 < n) : ∃ g c g' c', e = .returned (.tuple #[.slice (some ⟨g, 0, none⟩) n c, .slice (some ⟨g', 0, none⟩) n c', .int .i64 0]) ∧ Below w.heap.size w W ∧ QL W n r h m g g' := by
  obtain ⟨v9, v10, rfl, h9, h10⟩ := H.it
  obtain ⟨g, c, rfl, _, _, l1, c1⟩ := own_at h9 hn
  obtain ⟨g', c', rfl, _, _, l2, c2⟩ := own_at h10 hn
  exact ⟨g, c, g', c', rfl, H.below, fun j hj => c1 j _ (rowsL_at r hj), fun j hj => c2 (j * 3 + 0) _ (ampsL_at m h hj rfl), fun j hj => c2 (j * 3 + 1) _ (ampsL_at m h hj rfl), fun j hj => c2 (j * 3 + 2) _ (ampsL_at m h hj rfl), l1, l2⟩
set_option maxRecDepth 100000 in
set_option maxHeartbeats 8000000 in
theorem asks_in {s : ByteArray} (y : Int) (w : World) (q hv e1 e2 : Int) (cl di : Bool) (t : ByteArray) (PA PB : World → Value → Prop) (n : Nat) (r h : Nat → Int) (m : Nat → Nat) (hn8 : n ≤ 8) (hm : ∀ j, j < n → m j < 8)
    (Ar1 : ∀ w, Calls Try.prog 8 #[.string s] w fun e w' => e = .returned (.int .i64 q) ∧ Below w.heap.size w w')
    (Ar2 : ∀ w, Calls Try.prog 9 #[.string s] w fun e w' => e = .returned (.int .i64 q) ∧ w' = w)
    (Ha1 : ∀ w, Calls Try.prog 10 #[.string s] w fun e w' => e = .returned (.int .i64 hv) ∧ Below w.heap.size w w')
    (Ha2 : ∀ w, Calls Try.prog 11 #[.string s] w fun e w' => e = .returned (.int .i64 hv) ∧ w' = w)
    (Cl1 : ∀ w, Calls Try.prog 12 #[.string s] w fun e w' => e = .returned (.bool cl) ∧ Below w.heap.size w w')
    (Cl2 : ∀ w, Calls Try.prog 13 #[.string s] w fun e w' => e = .returned (.bool cl) ∧ w' = w)
    (Di1 : ∀ w, Calls Try.prog 14 #[.string s] w fun e w' => e = .returned (.bool di) ∧ Below w.heap.size w w')
    (Di2 : ∀ w, Calls Try.prog 15 #[.string s] w fun e w' => e = .returned (.bool di) ∧ w' = w)
    (In1 : ∀ w, Calls Try.prog 16 #[.string s] w fun e w' => e = .returned (.tuple #[.string t, .int .i64 e1]) ∧ Below w.heap.size w w')
    (In2 : ∀ w, Calls Try.prog 17 #[.string s] w fun e w' => e = .returned (.tuple #[.string t, .int .i64 e1]) ∧ w' = w)
    (Ma1 : ∀ w, Calls Try.prog 18 #[.string s] w fun e w' => ∃ v, e = .returned (.tuple #[v, .int .i64 e2]) ∧ Below w.heap.size w w' ∧ PA w' v)
    (Ma2 : ∀ w, Calls Try.prog 19 #[.string s] w fun e w' => ∃ v, e = .returned (.tuple #[v, .int .i64 e2]) ∧ Below w.heap.size w w' ∧ PB w' v)
    (hPA : ∀ W W2 v, PA W v → Below W.heap.size W W2 → PA W2 v)
    (SA : ∀ V a b, PA V a → PB V b → Calls Try.prog 20 #[a, b] V fun e w' => e = .returned (.bool true) ∧ Below V.heap.size V w')
    (Co1 : ∀ w, Calls Try.prog 21 #[.string s, .int .i64 y] w fun e w' => ∃ g c g' c', e = .returned (.tuple #[.slice (some ⟨g, 0, none⟩) n c, .slice (some ⟨g', 0, none⟩) n c', .int .i64 0]) ∧ Below w.heap.size w w' ∧ QL w' n r h m g g')
    (Co2 : ∀ w, Calls Try.prog 22 #[.string s, .int .i64 y] w fun e w' => ∃ g c g' c', e = .returned (.tuple #[.slice (some ⟨g, 0, none⟩) n c, .slice (some ⟨g', 0, none⟩) n c', .int .i64 0]) ∧ Below w.heap.size w w' ∧ QL w' n r h m g g') :
    Calls Try.prog 3 #[.string s, .int .i64 y] w fun e w' => e = .returned (.bool true) ∧ Below w.heap.size w w' := by
  have AL := alive_any w
  go_enter Try.func3, Try.ntmps3
  go_upto_region 5 with (first
    | (go_at_call 7; (with_reducible refine AL.mono ?_); rintro e w1 ⟨rfl, hW⟩)
    | (go_at_call 8; (with_reducible refine (Ar1 _).mono ?_); rintro e w2 ⟨rfl, hN⟩; replace hW := btr hW hN)
    | (go_at_call 9; (with_reducible refine (Ar2 _).mono ?_); rintro e w2 ⟨rfl, hE⟩; subst hE)
    | (go_at_call 10; (with_reducible refine (Ha1 _).mono ?_); rintro e w2 ⟨rfl, hN⟩; replace hW := btr hW hN)
    | (go_at_call 11; (with_reducible refine (Ha2 _).mono ?_); rintro e w2 ⟨rfl, hE⟩; subst hE)
    | (go_at_call 12; (with_reducible refine (Cl1 _).mono ?_); rintro e w2 ⟨rfl, hN⟩; replace hW := btr hW hN)
    | (go_at_call 13; (with_reducible refine (Cl2 _).mono ?_); rintro e w2 ⟨rfl, hE⟩; subst hE)
    | (go_at_call 14; (with_reducible refine (Di1 _).mono ?_); rintro e w2 ⟨rfl, hN⟩; replace hW := btr hW hN)
    | (go_at_call 15; (with_reducible refine (Di2 _).mono ?_); rintro e w2 ⟨rfl, hE⟩; subst hE))
  clear Ar1 Ar2 Ha1 Ha2 Cl1 Cl2 Di1 Di2 AL
  go_upto_region 9 with (first
    | (go_at_call 16; (with_reducible refine (In1 _).mono ?_); rintro e w2 ⟨rfl, hN⟩; replace hW := btr hW hN)
    | (go_at_call 17; (with_reducible refine (In2 _).mono ?_); rintro e w2 ⟨rfl, hE⟩; subst hE))
  clear In1 In2
  go_upto_region 13 with (first
    | (go_at_call 18; (with_reducible refine (Ma1 _).mono ?_); rintro e w2 ⟨va, rfl, hN, pa⟩; replace hW := btr hW hN)
    | (go_at_call 19; (with_reducible refine (Ma2 _).mono ?_); rintro e w2 ⟨vb, rfl, hN, pb⟩; replace hW := btr hW hN; replace pa := hPA _ _ _ pa hN)
    | (go_at_call 20; (with_reducible refine (SA _ _ _ pa pb).mono ?_); rintro e w2 ⟨rfl, hN⟩; replace hW := btr hW hN))
  clear Ma1 Ma2 SA hPA pa pb
  go_upto_region 18 with (first
    | (go_at_call 21; (with_reducible refine (Co1 _).mono ?_); rintro e w2 ⟨g1, c1, g2, c2, rfl, hN, q1⟩; replace hW := btr hW hN)
    | (go_at_call 22; (with_reducible refine (Co2 _).mono ?_); rintro e w3 ⟨g3, c3, g4, c4, rfl, hN, q2⟩; replace hW := btr hW hN; replace q1 := q1.on hN))
  clear Co1 Co2
  have hI : Hid (Below w.heap.size w w3 ∧ QL w3 n r h m g1 g2 ∧ QL w3 n r h m g3 g4) := ⟨hW, q1, q2⟩
  clear hW q1 q2 hN
  go_loopw [15] (fun v wr => ∃ j : Nat, j ≤ n ∧ v = .int .i64 j ∧ Hid (Below w.heap.size w wr ∧ QL wr n r h m g1 g2 ∧ QL wr n r h m g3 g4)) (fun v _ => n - (intOf v).toNat)
  case atStart => exact ⟨0, by omega, rfl, hI⟩
  case round =>
    clear hI
    obtain ⟨j, hj, rfl, hH⟩ := hrel
    by_cases hlt : j < n
    · have h1 := hH.out.2.1
      have h2 := hH.out.2.2
      have d0 := h1.rc j hlt
      have d1 := h1.a0 j hlt
      have d2 := h1.a1 j hlt
      have d3 := h1.a2 j hlt
      have f0 := h2.rc j hlt
      have f1 := h2.a0 j hlt
      have f2 := h2.a1 j hlt
      have f3 := h2.a2 j hlt
      have QN := run_un_nne (m j) (hm j hlt) (h j)
      clear h1 h2
      go_upto_region 20 with (fail)
      go_quiet (fail)
      go_wp2
      go_roundw
      case rel => exact ⟨j + 1, by omega, by go_num, bdn hH.out.1 _, hH.out.2.1.on (bdn (Below.refl _ _) _), hH.out.2.2.on (bdn (Below.refl _ _) _)⟩
      case measure => simp [intOf]; omega
    · go_wp2
      go_ret
      exact ⟨by simp, hH.out.1⟩
end Go.Proofs.Ytjmgcgjmaemgdaa
