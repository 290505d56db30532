/-
  A name of no gate: what the code answers; the reference's entries, all.
-/
import Derived.Test.YtjmgcgjmaemgdaaF1
import Derived.Test.YtjmgcgjmaemgdaaF3
import Derived.Test.YtjmgcgjmaemgdaaF4
import Derived.Test.YtjmgcgjmaemgdaaF5
import Derived.Test.YtjmgcgjmaemgdaaF6
import Derived.Test.YtjmgcgjmaemgdaaF7
import Derived.Test.YtjmgcgjmaemgdaaF8
namespace Go.Proofs.Ytjmgcgjmaemgdaa
open Go.RowKit Go.Sort

theorem ba_eq {s : ByteArray} {l : List UInt8} (h : s.toList = l) : s = ⟨l.toArray⟩ := by
  rw [ByteArray.toList_eq] at h
  obtain ⟨d⟩ := s
  subst h
  rfl
theorem hit_or_miss (s : ByteArray) : (∃ i, i < 25 ∧ s = nm i) ∨ Miss s := by
  cases m0 : (s.toList == [105])
  case true => exact .inl ⟨0, by decide, ba_eq (eq_of_beq m0)⟩
  cases m1 : (s.toList == [120])
  case true => exact .inl ⟨1, by decide, ba_eq (eq_of_beq m1)⟩
  cases m2 : (s.toList == [121])
  case true => exact .inl ⟨2, by decide, ba_eq (eq_of_beq m2)⟩
  cases m3 : (s.toList == [122])
  case true => exact .inl ⟨3, by decide, ba_eq (eq_of_beq m3)⟩
  cases m4 : (s.toList == [104])
  case true => exact .inl ⟨4, by decide, ba_eq (eq_of_beq m4)⟩
  cases m5 : (s.toList == [115])
  case true => exact .inl ⟨5, by decide, ba_eq (eq_of_beq m5)⟩
  cases m6 : (s.toList == [115, 100, 103])
  case true => exact .inl ⟨6, by decide, ba_eq (eq_of_beq m6)⟩
  cases m7 : (s.toList == [116])
  case true => exact .inl ⟨7, by decide, ba_eq (eq_of_beq m7)⟩
  cases m8 : (s.toList == [116, 100, 103])
  case true => exact .inl ⟨8, by decide, ba_eq (eq_of_beq m8)⟩
  cases m9 : (s.toList == [118])
  case true => exact .inl ⟨9, by decide, ba_eq (eq_of_beq m9)⟩
  cases m10 : (s.toList == [118, 100, 103])
  case true => exact .inl ⟨10, by decide, ba_eq (eq_of_beq m10)⟩
  cases m11 : (s.toList == [119])
  case true => exact .inl ⟨11, by decide, ba_eq (eq_of_beq m11)⟩
  cases m12 : (s.toList == [119, 100, 103])
  case true => exact .inl ⟨12, by decide, ba_eq (eq_of_beq m12)⟩
  cases m13 : (s.toList == [99, 120])
  case true => exact .inl ⟨13, by decide, ba_eq (eq_of_beq m13)⟩
  cases m14 : (s.toList == [99, 121])
  case true => exact .inl ⟨14, by decide, ba_eq (eq_of_beq m14)⟩
  cases m15 : (s.toList == [99, 122])
  case true => exact .inl ⟨15, by decide, ba_eq (eq_of_beq m15)⟩
  cases m16 : (s.toList == [99, 104])
  case true => exact .inl ⟨16, by decide, ba_eq (eq_of_beq m16)⟩
  cases m17 : (s.toList == [99, 115])
  case true => exact .inl ⟨17, by decide, ba_eq (eq_of_beq m17)⟩
  cases m18 : (s.toList == [99, 115, 100, 103])
  case true => exact .inl ⟨18, by decide, ba_eq (eq_of_beq m18)⟩
  cases m19 : (s.toList == [115, 119, 97, 112])
  case true => exact .inl ⟨19, by decide, ba_eq (eq_of_beq m19)⟩
  cases m20 : (s.toList == [105, 115, 119, 97, 112])
  case true => exact .inl ⟨20, by decide, ba_eq (eq_of_beq m20)⟩
  cases m21 : (s.toList == [105, 115, 119, 97, 112, 100, 103])
  case true => exact .inl ⟨21, by decide, ba_eq (eq_of_beq m21)⟩
  cases m22 : (s.toList == [99, 99, 120])
  case true => exact .inl ⟨22, by decide, ba_eq (eq_of_beq m22)⟩
  cases m23 : (s.toList == [99, 99, 122])
  case true => exact .inl ⟨23, by decide, ba_eq (eq_of_beq m23)⟩
  cases m24 : (s.toList == [99, 115, 119, 97, 112])
  case true => exact .inl ⟨24, by decide, ba_eq (eq_of_beq m24)⟩
  exact .inr ⟨m0, m1, m2, m3, m4, m5, m6, m7, m8, m9, m10, m11, m12, m13, m14, m15, m16, m17, m18, m19, m20, m21, m22, m23, m24⟩
theorem find_none {k : Value} {es : List MapEntry} (h : ∀ e ∈ es, Instr.sameNow .string k e.key = some false) (i : Nat) : Instr.findNow .string k es i = some none := by
  induction es generalizing i with
  | nil => rfl
  | cons e es ih =>
    unfold Instr.findNow
    rw [h e (by simp)]
    exact ih (fun e' he' => h e' (by simp [he'])) (i + 1)
theorem ba_ne {s : ByteArray} {l : List UInt8} (h : (s.toList == l) = false) : (s == ⟨l.toArray⟩) = false := by
  rw [beq_eq_false_iff_ne, ByteArray.toList_eq] at h
  show (s.data == l.toArray) = false
  rw [beq_eq_false_iff_ne]
  intro e
  apply h
  rw [e]
theorem miss_find {s : ByteArray} (H : Miss s) : Instr.findNow .string (.string s) (KA 25).toList 0 = some none := by
  refine find_none (fun e he => ?_) 0
  have hk : ∃ x ∈ nms, e.key = .string x := by
    simp only [KA, List.mem_map] at he
    obtain ⟨x, hx, rfl⟩ := he
    refine ⟨x.1.1, ?_, rfl⟩
    unfold nms
    have := List.fst_mem_of_mem_zipIdx hx
    exact List.mem_map_of_mem (List.mem_of_mem_take this)
  obtain ⟨x, hx, e1⟩ := hk
  rw [e1]
  show some (s == x) = some false
  have : nms = [⟨#[105]⟩, ⟨#[120]⟩, ⟨#[121]⟩, ⟨#[122]⟩, ⟨#[104]⟩, ⟨#[115]⟩, ⟨#[115, 100, 103]⟩, ⟨#[116]⟩, ⟨#[116, 100, 103]⟩, ⟨#[118]⟩, ⟨#[118, 100, 103]⟩, ⟨#[119]⟩, ⟨#[119, 100, 103]⟩, ⟨#[99, 120]⟩, ⟨#[99, 121]⟩, ⟨#[99, 122]⟩, ⟨#[99, 104]⟩, ⟨#[99, 115]⟩, ⟨#[99, 115, 100, 103]⟩, ⟨#[115, 119, 97, 112]⟩, ⟨#[105, 115, 119, 97, 112]⟩, ⟨#[105, 115, 119, 97, 112, 100, 103]⟩, ⟨#[99, 99, 120]⟩, ⟨#[99, 99, 122]⟩, ⟨#[99, 115, 119, 97, 112]⟩]:= by kernel_rfl
  rw [this] at hx
  simp only [List.mem_cons, List.not_mem_nil, or_false] at hx
  rcases hx with rfl | rfl | rfl | rfl | rfl | rfl | rfl | rfl | rfl | rfl | rfl | rfl | rfl | rfl | rfl | rfl | rfl | rfl | rfl | rfl | rfl | rfl | rfl | rfl | rfl
  · exact congrArg some (ba_ne H.m0)
  · exact congrArg some (ba_ne H.m1)
  · exact congrArg some (ba_ne H.m2)
  · exact congrArg some (ba_ne H.m3)
  · exact congrArg some (ba_ne H.m4)
  · exact congrArg some (ba_ne H.m5)
  · exact congrArg some (ba_ne H.m6)
  · exact congrArg some (ba_ne H.m7)
  · exact congrArg some (ba_ne H.m8)
  · exact congrArg some (ba_ne H.m9)
  · exact congrArg some (ba_ne H.m10)
  · exact congrArg some (ba_ne H.m11)
  · exact congrArg some (ba_ne H.m12)
  · exact congrArg some (ba_ne H.m13)
  · exact congrArg some (ba_ne H.m14)
  · exact congrArg some (ba_ne H.m15)
  · exact congrArg some (ba_ne H.m16)
  · exact congrArg some (ba_ne H.m17)
  · exact congrArg some (ba_ne H.m18)
  · exact congrArg some (ba_ne H.m19)
  · exact congrArg some (ba_ne H.m20)
  · exact congrArg some (ba_ne H.m21)
  · exact congrArg some (ba_ne H.m22)
  · exact congrArg some (ba_ne H.m23)
  · exact congrArg some (ba_ne H.m24)
theorem rentry_all (i x y : Nat) (hi : i < 25) (hx : x < 2 ^ qOf i) (hy : y < 2 ^ qOf i) (w : World) : Calls Try.prog 34 #[.string (nm i), .int .i64 (x : Nat), .int .i64 (y : Nat)] w fun e w' => e = .returned (.tuple #[.int .i64 (reP i x y), .int .i64 (reH i x y)]) ∧ w' = w := by
  have : i = 0 ∨ i = 1 ∨ i = 2 ∨ i = 3 ∨ i = 4 ∨ i = 5 ∨ i = 6 ∨ i = 7 ∨ i = 8 ∨ i = 9 ∨ i = 10 ∨ i = 11 ∨ i = 12 ∨ i = 13 ∨ i = 14 ∨ i = 15 ∨ i = 16 ∨ i = 17 ∨ i = 18 ∨ i = 19 ∨ i = 20 ∨ i = 21 ∨ i = 22 ∨ i = 23 ∨ i = 24 := by omega
  rcases this with rfl | rfl | rfl | rfl | rfl | rfl | rfl | rfl | rfl | rfl | rfl | rfl | rfl | rfl | rfl | rfl | rfl | rfl | rfl | rfl | rfl | rfl | rfl | rfl | rfl
  · exact rent_0 x y hx hy w
  · exact rent_1 x y hx hy w
  · exact rent_2 x y hx hy w
  · exact rent_3 x y hx hy w
  · exact rent_4 x y hx hy w
  · exact rent_5 x y hx hy w
  · exact rent_6 x y hx hy w
  · exact rent_7 x y hx hy w
  · exact rent_8 x y hx hy w
  · exact rent_9 x y hx hy w
  · exact rent_10 x y hx hy w
  · exact rent_11 x y hx hy w
  · exact rent_12 x y hx hy w
  · exact rent_13 x y hx hy w
  · exact rent_14 x y hx hy w
  · exact rent_15 x y hx hy w
  · exact rent_16 x y hx hy w
  · exact rent_17 x y hx hy w
  · exact rent_18 x y hx hy w
  · exact rent_19 x y hx hy w
  · exact rent_20 x y hx hy w
  · exact rent_21 x y hx hy w
  · exact rent_22 x y hx hy w
  · exact rent_23 x y hx hy w
  · exact rent_24 x y hx hy w
set_option maxRecDepth 100000 in
set_option maxHeartbeats 400000 in
theorem arity_miss {s : ByteArray} (H : Miss s) (w : World) : Calls Try.prog 8 #[.string s] w fun e w' => e = .returned (.int .i64 0) ∧ Below w.heap.size w w' := by
  have K := kinds_any w
  have L := run_miss s (miss_find H) false
  have F : ∀ w, (Instr.field 59 (.agg #[.int .i64 0, .int .i64 0, .nilFunc, .int .i64 0, .int .i64 0, .bool false, .bool false, .string ⟨#[]⟩]) 0).run Try.prog w = .ok (.int .i64 0) w := fun w => by kernel_rfl
  have hW := below_map w
  clear H
  generalize KA 25 = ka at *
  go_enter Try.func8, Try.ntmps8
  go_wp2_with (go_at_call 30; (with_reducible refine K.mono ?_); rintro e w1 ⟨rfl, rfl⟩)
  go_ret
  exact ⟨rfl, hW⟩
set_option maxRecDepth 100000 in
set_option maxHeartbeats 400000 in
theorem halves_miss {s : ByteArray} (H : Miss s) (w : World) : Calls Try.prog 10 #[.string s] w fun e w' => e = .returned (.int .i64 0) ∧ Below w.heap.size w w' := by
  have K := kinds_any w
  have L := run_miss s (miss_find H) false
  have F : ∀ w, (Instr.field 59 (.agg #[.int .i64 0, .int .i64 0, .nilFunc, .int .i64 0, .int .i64 0, .bool false, .bool false, .string ⟨#[]⟩]) 4).run Try.prog w = .ok (.int .i64 0) w := fun w => by kernel_rfl
  have hW := below_map w
  clear H
  generalize KA 25 = ka at *
  go_enter Try.func10, Try.ntmps10
  go_wp2_with (go_at_call 30; (with_reducible refine K.mono ?_); rintro e w1 ⟨rfl, rfl⟩)
  go_ret
  exact ⟨rfl, hW⟩
set_option maxRecDepth 100000 in
set_option maxHeartbeats 400000 in
theorem clifford_miss {s : ByteArray} (H : Miss s) (w : World) : Calls Try.prog 12 #[.string s] w fun e w' => e = .returned (.bool false) ∧ Below w.heap.size w w' := by
  have K := kinds_any w
  have L := run_miss s (miss_find H) false
  have F : ∀ w, (Instr.field 59 (.agg #[.int .i64 0, .int .i64 0, .nilFunc, .int .i64 0, .int .i64 0, .bool false, .bool false, .string ⟨#[]⟩]) 5).run Try.prog w = .ok (.bool false) w := fun w => by kernel_rfl
  have hW := below_map w
  clear H
  generalize KA 25 = ka at *
  go_enter Try.func12, Try.ntmps12
  go_wp2_with (go_at_call 30; (with_reducible refine K.mono ?_); rintro e w1 ⟨rfl, rfl⟩)
  go_ret
  exact ⟨rfl, hW⟩
set_option maxRecDepth 100000 in
set_option maxHeartbeats 400000 in
theorem diagonal_miss {s : ByteArray} (H : Miss s) (w : World) : Calls Try.prog 14 #[.string s] w fun e w' => e = .returned (.bool false) ∧ Below w.heap.size w w' := by
  have K := kinds_any w
  have L := run_miss s (miss_find H) false
  have F : ∀ w, (Instr.field 59 (.agg #[.int .i64 0, .int .i64 0, .nilFunc, .int .i64 0, .int .i64 0, .bool false, .bool false, .string ⟨#[]⟩]) 6).run Try.prog w = .ok (.bool false) w := fun w => by kernel_rfl
  have hW := below_map w
  clear H
  generalize KA 25 = ka at *
  go_enter Try.func14, Try.ntmps14
  go_wp2_with (go_at_call 30; (with_reducible refine K.mono ?_); rintro e w1 ⟨rfl, rfl⟩)
  go_ret
  exact ⟨rfl, hW⟩
end Go.Proofs.Ytjmgcgjmaemgdaa
