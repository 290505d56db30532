/-
  The entries of each column of each gate, and what is known of each gate.
-/
import Derived.Test.YtjmgcgjmaemgdaaL1
import Derived.Test.YtjmgcgjmaemgdaaL2
import Derived.Test.YtjmgcgjmaemgdaaL3
import Derived.Test.YtjmgcgjmaemgdaaL4
import Derived.Test.YtjmgcgjmaemgdaaK4
namespace Go.Proofs.Ytjmgcgjmaemgdaa
open Go.RowKit Go.Sort

/-- Entries as cells. -/
abbrev flat (L : List (Int × Int × Int)) : List Value := L.flatMap fun x => [.int .i64 x.1, .int .i64 x.2.1, .int .i64 x.2.2]
abbrev enR (L : List (Int × Int × Int)) (j : Nat) : Int := (L.getD j (0, 0, 0)).1
abbrev enP (L : List (Int × Int × Int)) (j : Nat) : Int := (L.getD j (0, 0, 0)).2.1
abbrev enH (L : List (Int × Int × Int)) (j : Nat) : Int := (L.getD j (0, 0, 0)).2.2
theorem eb_1 {W : World} {b : Nat} {x : Int × Int × Int} (h : Bx W b (flat [x])) : EB W b 1 (enR [x]) (enP [x]) (enH [x]) where
  c0 := fun j hj => by obtain rfl : j = 0 := by omega
                       exact h.c 0 _ rfl
  c1 := fun j hj => by obtain rfl : j = 0 := by omega
                       exact h.c 1 _ rfl
  c2 := fun j hj => by obtain rfl : j = 0 := by omega
                       exact h.c 2 _ rfl
  lt := h.lt
theorem eb_2 {W : World} {b : Nat} {x y : Int × Int × Int} (h : Bx W b (flat [x, y])) : EB W b 2 (enR [x, y]) (enP [x, y]) (enH [x, y]) where
  c0 := fun j hj => by
    have : j = 0 ∨ j = 1 := by omega
    rcases this with rfl | rfl
    · exact h.c 0 _ rfl
    · exact h.c 3 _ rfl
  c1 := fun j hj => by
    have : j = 0 ∨ j = 1 := by omega
    rcases this with rfl | rfl
    · exact h.c 1 _ rfl
    · exact h.c 4 _ rfl
  c2 := fun j hj => by
    have : j = 0 ∨ j = 1 := by omega
    rcases this with rfl | rfl
    · exact h.c 2 _ rfl
    · exact h.c 5 _ rfl
  lt := h.lt
/-- The call of entries tells these. -/
abbrev EnC (v : Value) (y : Int) (L : List (Int × Int × Int)) : Prop := ∀ w, Calls Try.prog 32 #[v, .int .i64 y] w fun e w' => ∃ b, e = .returned (.slice (some ⟨b, 0, none⟩) L.length L.length) ∧ EB w' b L.length (enR L) (enP L) (enH L) ∧ w.heap.size ≤ b ∧ Below w.heap.size w w'
theorem enc_1 {v : Value} {y : Int} {x : Int × Int × Int} (h : ∀ w, Calls Try.prog 32 #[v, .int .i64 y] w fun e w' => ∃ b, e = .returned (.slice (some ⟨b, 0, none⟩) 1 1) ∧ Bx w' b [.int .i64 x.1, .int .i64 x.2.1, .int .i64 x.2.2] ∧ w.heap.size ≤ b ∧ Below w.heap.size w w') : EnC v y [x] :=
  fun w => (h w).mono fun _ _ ⟨b, h1, h2, h3⟩ => ⟨b, h1, eb_1 h2, h3⟩
theorem enc_2 {v : Value} {y : Int} {x z : Int × Int × Int} (h : ∀ w, Calls Try.prog 32 #[v, .int .i64 y] w fun e w' => ∃ b, e = .returned (.slice (some ⟨b, 0, none⟩) 2 2) ∧ Bx w' b (two x.1 x.2.1 x.2.2 z.1 z.2.1 z.2.2).toList ∧ w.heap.size ≤ b ∧ Below w.heap.size w w') : EnC v y [x, z] :=
  fun w => (h w).mono fun _ _ ⟨b, h1, h2, h3⟩ => ⟨b, h1, eb_2 h2, h3⟩

abbrev kv0 : Value := kd 1 0 42 0 0 true true ⟨#[105]⟩
theorem en_0_0 : EnC kv0 0 [(0, 0, 0)] := enc_1 fun w => ent_42_0 1 0 0 true true ⟨#[105]⟩ 0 0 0 0 0 w (by decide) (by decide) (phase_any 0 0 0 (by decide)) (by decide) (by decide)
theorem en_0_1 : EnC kv0 1 [(1, 0, 0)] := enc_1 fun w => ent_42_0 1 0 0 true true ⟨#[105]⟩ 1 1 0 0 1 w (by decide) (by decide) (phase_any 0 1 0 (by decide)) (by decide) (by decide)
abbrev kv1 : Value := kd 1 0 43 0 0 true false ⟨#[120]⟩
theorem en_1_0 : EnC kv1 0 [(1, 0, 0)] := enc_1 fun w => ent_43_0 1 0 0 true false ⟨#[120]⟩ 0 1 0 0 1 w (by decide) (by decide) (flip_any 0 0 0 (by decide) (by decide) (by decide)) (by decide) (by decide)
theorem en_1_1 : EnC kv1 1 [(0, 0, 0)] := enc_1 fun w => ent_43_0 1 0 0 true false ⟨#[120]⟩ 1 0 0 0 0 w (by decide) (by decide) (flip_any 0 1 0 (by decide) (by decide) (by decide)) (by decide) (by decide)
abbrev kv2 : Value := kd 1 0 43 2 0 true false ⟨#[121]⟩
theorem en_2_0 : EnC kv2 0 [(1, 2, 0)] := enc_1 fun w => ent_43_0 1 2 0 true false ⟨#[121]⟩ 0 1 2 0 1 w (by decide) (by decide) (flip_any 2 0 2 (by decide) (by decide) (by decide)) (by decide) (by decide)
theorem en_2_1 : EnC kv2 1 [(0, (-2), 0)] := enc_1 fun w => ent_43_0 1 2 0 true false ⟨#[121]⟩ 1 0 (-2) 0 0 w (by decide) (by decide) (flip_any 2 1 (-2) (by decide) (by decide) (by decide)) (by decide) (by decide)
abbrev kv3 : Value := kd 1 0 42 4 0 true true ⟨#[122]⟩
theorem en_3_0 : EnC kv3 0 [(0, 0, 0)] := enc_1 fun w => ent_42_0 1 4 0 true true ⟨#[122]⟩ 0 0 0 0 0 w (by decide) (by decide) (phase_any 4 0 0 (by decide)) (by decide) (by decide)
theorem en_3_1 : EnC kv3 1 [(1, 4, 0)] := enc_1 fun w => ent_42_0 1 4 0 true true ⟨#[122]⟩ 1 1 4 0 1 w (by decide) (by decide) (phase_any 4 1 4 (by decide)) (by decide) (by decide)
abbrev kv4 : Value := kd 1 0 44 0 1 true false ⟨#[104]⟩
theorem en_4_0 : EnC kv4 0 [(0, 0, 1), (1, 0, 1)] := enc_2 fun w => ent_44_0 1 0 1 true false ⟨#[104]⟩ 0 0 0 1 1 0 1 0 1 w (by decide) (by decide) (by decide) (by decide) (hadamard_any 0 0 0 (by decide)) (by decide) (by decide) (by decide)
theorem en_4_1 : EnC kv4 1 [(0, 0, 1), (1, 4, 1)] := enc_2 fun w => ent_44_0 1 0 1 true false ⟨#[104]⟩ 1 0 0 1 1 4 1 0 1 w (by decide) (by decide) (by decide) (by decide) (hadamard_any 0 1 4 (by decide)) (by decide) (by decide) (by decide)
abbrev kv5 : Value := kd 1 0 42 2 0 true true ⟨#[115, 100, 103]⟩
theorem en_5_0 : EnC kv5 0 [(0, 0, 0)] := enc_1 fun w => ent_42_0 1 2 0 true true ⟨#[115, 100, 103]⟩ 0 0 0 0 0 w (by decide) (by decide) (phase_any 2 0 0 (by decide)) (by decide) (by decide)
theorem en_5_1 : EnC kv5 1 [(1, 2, 0)] := enc_1 fun w => ent_42_0 1 2 0 true true ⟨#[115, 100, 103]⟩ 1 1 2 0 1 w (by decide) (by decide) (phase_any 2 1 2 (by decide)) (by decide) (by decide)
abbrev kv6 : Value := kd 1 0 42 (-2) 0 true true ⟨#[115]⟩
theorem en_6_0 : EnC kv6 0 [(0, 0, 0)] := enc_1 fun w => ent_42_0 1 (-2) 0 true true ⟨#[115]⟩ 0 0 0 0 0 w (by decide) (by decide) (phase_any (-2) 0 0 (by decide)) (by decide) (by decide)
theorem en_6_1 : EnC kv6 1 [(1, (-2), 0)] := enc_1 fun w => ent_42_0 1 (-2) 0 true true ⟨#[115]⟩ 1 1 (-2) 0 1 w (by decide) (by decide) (phase_any (-2) 1 (-2) (by decide)) (by decide) (by decide)
abbrev kv7 : Value := kd 1 0 42 1 0 false true ⟨#[116, 100, 103]⟩
theorem en_7_0 : EnC kv7 0 [(0, 0, 0)] := enc_1 fun w => ent_42_0 1 1 0 false true ⟨#[116, 100, 103]⟩ 0 0 0 0 0 w (by decide) (by decide) (phase_any 1 0 0 (by decide)) (by decide) (by decide)
theorem en_7_1 : EnC kv7 1 [(1, 1, 0)] := enc_1 fun w => ent_42_0 1 1 0 false true ⟨#[116, 100, 103]⟩ 1 1 1 0 1 w (by decide) (by decide) (phase_any 1 1 1 (by decide)) (by decide) (by decide)
abbrev kv8 : Value := kd 1 0 42 (-1) 0 false true ⟨#[116]⟩
theorem en_8_0 : EnC kv8 0 [(0, 0, 0)] := enc_1 fun w => ent_42_0 1 (-1) 0 false true ⟨#[116]⟩ 0 0 0 0 0 w (by decide) (by decide) (phase_any (-1) 0 0 (by decide)) (by decide) (by decide)
theorem en_8_1 : EnC kv8 1 [(1, (-1), 0)] := enc_1 fun w => ent_42_0 1 (-1) 0 false true ⟨#[116]⟩ 1 1 (-1) 0 1 w (by decide) (by decide) (phase_any (-1) 1 (-1) (by decide)) (by decide) (by decide)
abbrev kv9 : Value := kd 1 0 45 1 1 true false ⟨#[118, 100, 103]⟩
theorem en_9_0 : EnC kv9 0 [(0, 1, 1), (1, (-1), 1)] := enc_2 fun w => ent_45_0 1 1 1 true false ⟨#[118, 100, 103]⟩ 0 0 1 1 1 (-1) 1 0 1 w (by decide) (by decide) (by decide) (by decide) (half_any 1 0 1 (by decide) (by decide) (by decide) (by decide) (by decide)) (by decide) (by decide) (by decide)
theorem en_9_1 : EnC kv9 1 [(0, (-1), 1), (1, 1, 1)] := enc_2 fun w => ent_45_0 1 1 1 true false ⟨#[118, 100, 103]⟩ 1 0 (-1) 1 1 1 1 0 1 w (by decide) (by decide) (by decide) (by decide) (half_any 1 1 (-1) (by decide) (by decide) (by decide) (by decide) (by decide)) (by decide) (by decide) (by decide)
abbrev kv10 : Value := kd 1 0 45 (-1) 1 true false ⟨#[118]⟩
theorem en_10_0 : EnC kv10 0 [(0, (-1), 1), (1, 1, 1)] := enc_2 fun w => ent_45_0 1 (-1) 1 true false ⟨#[118]⟩ 0 0 (-1) 1 1 1 1 0 1 w (by decide) (by decide) (by decide) (by decide) (half_any (-1) 0 (-1) (by decide) (by decide) (by decide) (by decide) (by decide)) (by decide) (by decide) (by decide)
theorem en_10_1 : EnC kv10 1 [(0, 1, 1), (1, (-1), 1)] := enc_2 fun w => ent_45_0 1 (-1) 1 true false ⟨#[118]⟩ 1 0 1 1 1 (-1) 1 0 1 w (by decide) (by decide) (by decide) (by decide) (half_any (-1) 1 1 (by decide) (by decide) (by decide) (by decide) (by decide)) (by decide) (by decide) (by decide)
abbrev kv11 : Value := kd 1 0 46 1 0 true true ⟨#[119, 100, 103]⟩
theorem en_11_0 : EnC kv11 0 [(0, 1, 0)] := enc_1 fun w => ent_46_0 1 1 0 true true ⟨#[119, 100, 103]⟩ 0 0 1 0 0 w (by decide) (by decide) (turn_any 1 0) (by decide) (by decide)
theorem en_11_1 : EnC kv11 1 [(1, 1, 0)] := enc_1 fun w => ent_46_0 1 1 0 true true ⟨#[119, 100, 103]⟩ 1 1 1 0 1 w (by decide) (by decide) (turn_any 1 1) (by decide) (by decide)
abbrev kv12 : Value := kd 1 0 46 (-1) 0 true true ⟨#[119]⟩
theorem en_12_0 : EnC kv12 0 [(0, (-1), 0)] := enc_1 fun w => ent_46_0 1 (-1) 0 true true ⟨#[119]⟩ 0 0 (-1) 0 0 w (by decide) (by decide) (turn_any (-1) 0) (by decide) (by decide)
theorem en_12_1 : EnC kv12 1 [(1, (-1), 0)] := enc_1 fun w => ent_46_0 1 (-1) 0 true true ⟨#[119]⟩ 1 1 (-1) 0 1 w (by decide) (by decide) (turn_any (-1) 1) (by decide) (by decide)
abbrev kv13 : Value := kd 2 1 43 0 0 true false ⟨#[99, 120]⟩
theorem en_13_0 : EnC kv13 0 [(0, 0, 0)] := enc_1 fun w => ent_out_1 2 43 0 0 true false ⟨#[99, 120]⟩ 0 w (by decide)
theorem en_13_1 : EnC kv13 1 [(3, 0, 0)] := enc_1 fun w => ent_43_1 2 0 0 true false ⟨#[99, 120]⟩ 1 1 0 0 3 w (by decide) (by decide) (flip_any 0 0 0 (by decide) (by decide) (by decide)) (by decide) (by decide)
theorem en_13_2 : EnC kv13 2 [(2, 0, 0)] := enc_1 fun w => ent_out_1 2 43 0 0 true false ⟨#[99, 120]⟩ 2 w (by decide)
theorem en_13_3 : EnC kv13 3 [(1, 0, 0)] := enc_1 fun w => ent_43_1 2 0 0 true false ⟨#[99, 120]⟩ 3 0 0 0 1 w (by decide) (by decide) (flip_any 0 1 0 (by decide) (by decide) (by decide)) (by decide) (by decide)
abbrev kv14 : Value := kd 2 1 43 2 0 true false ⟨#[99, 121]⟩
theorem en_14_0 : EnC kv14 0 [(0, 0, 0)] := enc_1 fun w => ent_out_1 2 43 2 0 true false ⟨#[99, 121]⟩ 0 w (by decide)
theorem en_14_1 : EnC kv14 1 [(3, 2, 0)] := enc_1 fun w => ent_43_1 2 2 0 true false ⟨#[99, 121]⟩ 1 1 2 0 3 w (by decide) (by decide) (flip_any 2 0 2 (by decide) (by decide) (by decide)) (by decide) (by decide)
theorem en_14_2 : EnC kv14 2 [(2, 0, 0)] := enc_1 fun w => ent_out_1 2 43 2 0 true false ⟨#[99, 121]⟩ 2 w (by decide)
theorem en_14_3 : EnC kv14 3 [(1, (-2), 0)] := enc_1 fun w => ent_43_1 2 2 0 true false ⟨#[99, 121]⟩ 3 0 (-2) 0 1 w (by decide) (by decide) (flip_any 2 1 (-2) (by decide) (by decide) (by decide)) (by decide) (by decide)
abbrev kv15 : Value := kd 2 1 42 4 0 true true ⟨#[99, 122]⟩
theorem en_15_0 : EnC kv15 0 [(0, 0, 0)] := enc_1 fun w => ent_out_1 2 42 4 0 true true ⟨#[99, 122]⟩ 0 w (by decide)
theorem en_15_1 : EnC kv15 1 [(1, 0, 0)] := enc_1 fun w => ent_42_1 2 4 0 true true ⟨#[99, 122]⟩ 1 0 0 0 1 w (by decide) (by decide) (phase_any 4 0 0 (by decide)) (by decide) (by decide)
theorem en_15_2 : EnC kv15 2 [(2, 0, 0)] := enc_1 fun w => ent_out_1 2 42 4 0 true true ⟨#[99, 122]⟩ 2 w (by decide)
theorem en_15_3 : EnC kv15 3 [(3, 4, 0)] := enc_1 fun w => ent_42_1 2 4 0 true true ⟨#[99, 122]⟩ 3 1 4 0 3 w (by decide) (by decide) (phase_any 4 1 4 (by decide)) (by decide) (by decide)
abbrev kv16 : Value := kd 2 1 44 0 1 false false ⟨#[99, 104]⟩
theorem en_16_0 : EnC kv16 0 [(0, 0, 0)] := enc_1 fun w => ent_out_1 2 44 0 1 false false ⟨#[99, 104]⟩ 0 w (by decide)
theorem en_16_1 : EnC kv16 1 [(1, 0, 1), (3, 0, 1)] := enc_2 fun w => ent_44_1 2 0 1 false false ⟨#[99, 104]⟩ 1 0 0 1 1 0 1 1 3 w (by decide) (by decide) (by decide) (by decide) (hadamard_any 0 0 0 (by decide)) (by decide) (by decide) (by decide)
theorem en_16_2 : EnC kv16 2 [(2, 0, 0)] := enc_1 fun w => ent_out_1 2 44 0 1 false false ⟨#[99, 104]⟩ 2 w (by decide)
theorem en_16_3 : EnC kv16 3 [(1, 0, 1), (3, 4, 1)] := enc_2 fun w => ent_44_1 2 0 1 false false ⟨#[99, 104]⟩ 3 0 0 1 1 4 1 1 3 w (by decide) (by decide) (by decide) (by decide) (hadamard_any 0 1 4 (by decide)) (by decide) (by decide) (by decide)
abbrev kv17 : Value := kd 2 1 42 2 0 false true ⟨#[99, 115, 100, 103]⟩
theorem en_17_0 : EnC kv17 0 [(0, 0, 0)] := enc_1 fun w => ent_out_1 2 42 2 0 false true ⟨#[99, 115, 100, 103]⟩ 0 w (by decide)
theorem en_17_1 : EnC kv17 1 [(1, 0, 0)] := enc_1 fun w => ent_42_1 2 2 0 false true ⟨#[99, 115, 100, 103]⟩ 1 0 0 0 1 w (by decide) (by decide) (phase_any 2 0 0 (by decide)) (by decide) (by decide)
theorem en_17_2 : EnC kv17 2 [(2, 0, 0)] := enc_1 fun w => ent_out_1 2 42 2 0 false true ⟨#[99, 115, 100, 103]⟩ 2 w (by decide)
theorem en_17_3 : EnC kv17 3 [(3, 2, 0)] := enc_1 fun w => ent_42_1 2 2 0 false true ⟨#[99, 115, 100, 103]⟩ 3 1 2 0 3 w (by decide) (by decide) (phase_any 2 1 2 (by decide)) (by decide) (by decide)
abbrev kv18 : Value := kd 2 1 42 (-2) 0 false true ⟨#[99, 115]⟩
theorem en_18_0 : EnC kv18 0 [(0, 0, 0)] := enc_1 fun w => ent_out_1 2 42 (-2) 0 false true ⟨#[99, 115]⟩ 0 w (by decide)
theorem en_18_1 : EnC kv18 1 [(1, 0, 0)] := enc_1 fun w => ent_42_1 2 (-2) 0 false true ⟨#[99, 115]⟩ 1 0 0 0 1 w (by decide) (by decide) (phase_any (-2) 0 0 (by decide)) (by decide) (by decide)
theorem en_18_2 : EnC kv18 2 [(2, 0, 0)] := enc_1 fun w => ent_out_1 2 42 (-2) 0 false true ⟨#[99, 115]⟩ 2 w (by decide)
theorem en_18_3 : EnC kv18 3 [(3, (-2), 0)] := enc_1 fun w => ent_42_1 2 (-2) 0 false true ⟨#[99, 115]⟩ 3 1 (-2) 0 3 w (by decide) (by decide) (phase_any (-2) 1 (-2) (by decide)) (by decide) (by decide)
abbrev kv19 : Value := kd 2 0 47 0 0 true false ⟨#[115, 119, 97, 112]⟩
theorem en_19_0 : EnC kv19 0 [(0, 0, 0)] := enc_1 fun w => ent_47_0 2 0 0 true false ⟨#[115, 119, 97, 112]⟩ 0 0 0 0 0 w (by decide) (by decide) (exchange_same 0 0 (by decide)) (by decide) (by decide)
theorem en_19_1 : EnC kv19 1 [(2, 0, 0)] := enc_1 fun w => ent_47_0 2 0 0 true false ⟨#[115, 119, 97, 112]⟩ 1 2 0 0 2 w (by decide) (by decide) (exchange_other 0 1 (by decide)) (by decide) (by decide)
theorem en_19_2 : EnC kv19 2 [(1, 0, 0)] := enc_1 fun w => ent_47_0 2 0 0 true false ⟨#[115, 119, 97, 112]⟩ 2 1 0 0 1 w (by decide) (by decide) (exchange_other 0 2 (by decide)) (by decide) (by decide)
theorem en_19_3 : EnC kv19 3 [(3, 0, 0)] := enc_1 fun w => ent_47_0 2 0 0 true false ⟨#[115, 119, 97, 112]⟩ 3 3 0 0 3 w (by decide) (by decide) (exchange_same 0 3 (by decide)) (by decide) (by decide)
abbrev kv20 : Value := kd 2 0 47 2 0 true false ⟨#[105, 115, 119, 97, 112, 100, 103]⟩
theorem en_20_0 : EnC kv20 0 [(0, 0, 0)] := enc_1 fun w => ent_47_0 2 2 0 true false ⟨#[105, 115, 119, 97, 112, 100, 103]⟩ 0 0 0 0 0 w (by decide) (by decide) (exchange_same 2 0 (by decide)) (by decide) (by decide)
theorem en_20_1 : EnC kv20 1 [(2, 2, 0)] := enc_1 fun w => ent_47_0 2 2 0 true false ⟨#[105, 115, 119, 97, 112, 100, 103]⟩ 1 2 2 0 2 w (by decide) (by decide) (exchange_other 2 1 (by decide)) (by decide) (by decide)
theorem en_20_2 : EnC kv20 2 [(1, 2, 0)] := enc_1 fun w => ent_47_0 2 2 0 true false ⟨#[105, 115, 119, 97, 112, 100, 103]⟩ 2 1 2 0 1 w (by decide) (by decide) (exchange_other 2 2 (by decide)) (by decide) (by decide)
theorem en_20_3 : EnC kv20 3 [(3, 0, 0)] := enc_1 fun w => ent_47_0 2 2 0 true false ⟨#[105, 115, 119, 97, 112, 100, 103]⟩ 3 3 0 0 3 w (by decide) (by decide) (exchange_same 2 3 (by decide)) (by decide) (by decide)
abbrev kv21 : Value := kd 2 0 47 (-2) 0 true false ⟨#[105, 115, 119, 97, 112]⟩
theorem en_21_0 : EnC kv21 0 [(0, 0, 0)] := enc_1 fun w => ent_47_0 2 (-2) 0 true false ⟨#[105, 115, 119, 97, 112]⟩ 0 0 0 0 0 w (by decide) (by decide) (exchange_same (-2) 0 (by decide)) (by decide) (by decide)
theorem en_21_1 : EnC kv21 1 [(2, (-2), 0)] := enc_1 fun w => ent_47_0 2 (-2) 0 true false ⟨#[105, 115, 119, 97, 112]⟩ 1 2 (-2) 0 2 w (by decide) (by decide) (exchange_other (-2) 1 (by decide)) (by decide) (by decide)
theorem en_21_2 : EnC kv21 2 [(1, (-2), 0)] := enc_1 fun w => ent_47_0 2 (-2) 0 true false ⟨#[105, 115, 119, 97, 112]⟩ 2 1 (-2) 0 1 w (by decide) (by decide) (exchange_other (-2) 2 (by decide)) (by decide) (by decide)
theorem en_21_3 : EnC kv21 3 [(3, 0, 0)] := enc_1 fun w => ent_47_0 2 (-2) 0 true false ⟨#[105, 115, 119, 97, 112]⟩ 3 3 0 0 3 w (by decide) (by decide) (exchange_same (-2) 3 (by decide)) (by decide) (by decide)
abbrev kv22 : Value := kd 3 2 43 0 0 false false ⟨#[99, 99, 120]⟩
theorem en_22_0 : EnC kv22 0 [(0, 0, 0)] := enc_1 fun w => ent_out_2 3 43 0 0 false false ⟨#[99, 99, 120]⟩ 0 w (by decide)
theorem en_22_1 : EnC kv22 1 [(1, 0, 0)] := enc_1 fun w => ent_out_2 3 43 0 0 false false ⟨#[99, 99, 120]⟩ 1 w (by decide)
theorem en_22_2 : EnC kv22 2 [(2, 0, 0)] := enc_1 fun w => ent_out_2 3 43 0 0 false false ⟨#[99, 99, 120]⟩ 2 w (by decide)
theorem en_22_3 : EnC kv22 3 [(7, 0, 0)] := enc_1 fun w => ent_43_2 3 0 0 false false ⟨#[99, 99, 120]⟩ 3 1 0 0 7 w (by decide) (by decide) (flip_any 0 0 0 (by decide) (by decide) (by decide)) (by decide) (by decide)
theorem en_22_4 : EnC kv22 4 [(4, 0, 0)] := enc_1 fun w => ent_out_2 3 43 0 0 false false ⟨#[99, 99, 120]⟩ 4 w (by decide)
theorem en_22_5 : EnC kv22 5 [(5, 0, 0)] := enc_1 fun w => ent_out_2 3 43 0 0 false false ⟨#[99, 99, 120]⟩ 5 w (by decide)
theorem en_22_6 : EnC kv22 6 [(6, 0, 0)] := enc_1 fun w => ent_out_2 3 43 0 0 false false ⟨#[99, 99, 120]⟩ 6 w (by decide)
theorem en_22_7 : EnC kv22 7 [(3, 0, 0)] := enc_1 fun w => ent_43_2 3 0 0 false false ⟨#[99, 99, 120]⟩ 7 0 0 0 3 w (by decide) (by decide) (flip_any 0 1 0 (by decide) (by decide) (by decide)) (by decide) (by decide)
abbrev kv23 : Value := kd 3 2 42 4 0 false true ⟨#[99, 99, 122]⟩
theorem en_23_0 : EnC kv23 0 [(0, 0, 0)] := enc_1 fun w => ent_out_2 3 42 4 0 false true ⟨#[99, 99, 122]⟩ 0 w (by decide)
theorem en_23_1 : EnC kv23 1 [(1, 0, 0)] := enc_1 fun w => ent_out_2 3 42 4 0 false true ⟨#[99, 99, 122]⟩ 1 w (by decide)
theorem en_23_2 : EnC kv23 2 [(2, 0, 0)] := enc_1 fun w => ent_out_2 3 42 4 0 false true ⟨#[99, 99, 122]⟩ 2 w (by decide)
theorem en_23_3 : EnC kv23 3 [(3, 0, 0)] := enc_1 fun w => ent_42_2 3 4 0 false true ⟨#[99, 99, 122]⟩ 3 0 0 0 3 w (by decide) (by decide) (phase_any 4 0 0 (by decide)) (by decide) (by decide)
theorem en_23_4 : EnC kv23 4 [(4, 0, 0)] := enc_1 fun w => ent_out_2 3 42 4 0 false true ⟨#[99, 99, 122]⟩ 4 w (by decide)
theorem en_23_5 : EnC kv23 5 [(5, 0, 0)] := enc_1 fun w => ent_out_2 3 42 4 0 false true ⟨#[99, 99, 122]⟩ 5 w (by decide)
theorem en_23_6 : EnC kv23 6 [(6, 0, 0)] := enc_1 fun w => ent_out_2 3 42 4 0 false true ⟨#[99, 99, 122]⟩ 6 w (by decide)
theorem en_23_7 : EnC kv23 7 [(7, 4, 0)] := enc_1 fun w => ent_42_2 3 4 0 false true ⟨#[99, 99, 122]⟩ 7 1 4 0 7 w (by decide) (by decide) (phase_any 4 1 4 (by decide)) (by decide) (by decide)
abbrev kv24 : Value := kd 3 1 47 0 0 false false ⟨#[99, 115, 119, 97, 112]⟩
theorem en_24_0 : EnC kv24 0 [(0, 0, 0)] := enc_1 fun w => ent_out_1 3 47 0 0 false false ⟨#[99, 115, 119, 97, 112]⟩ 0 w (by decide)
theorem en_24_1 : EnC kv24 1 [(1, 0, 0)] := enc_1 fun w => ent_47_1 3 0 0 false false ⟨#[99, 115, 119, 97, 112]⟩ 1 0 0 0 1 w (by decide) (by decide) (exchange_same 0 0 (by decide)) (by decide) (by decide)
theorem en_24_2 : EnC kv24 2 [(2, 0, 0)] := enc_1 fun w => ent_out_1 3 47 0 0 false false ⟨#[99, 115, 119, 97, 112]⟩ 2 w (by decide)
theorem en_24_3 : EnC kv24 3 [(5, 0, 0)] := enc_1 fun w => ent_47_1 3 0 0 false false ⟨#[99, 115, 119, 97, 112]⟩ 3 2 0 0 5 w (by decide) (by decide) (exchange_other 0 1 (by decide)) (by decide) (by decide)
theorem en_24_4 : EnC kv24 4 [(4, 0, 0)] := enc_1 fun w => ent_out_1 3 47 0 0 false false ⟨#[99, 115, 119, 97, 112]⟩ 4 w (by decide)
theorem en_24_5 : EnC kv24 5 [(3, 0, 0)] := enc_1 fun w => ent_47_1 3 0 0 false false ⟨#[99, 115, 119, 97, 112]⟩ 5 1 0 0 3 w (by decide) (by decide) (exchange_other 0 2 (by decide)) (by decide) (by decide)
theorem en_24_6 : EnC kv24 6 [(6, 0, 0)] := enc_1 fun w => ent_out_1 3 47 0 0 false false ⟨#[99, 115, 119, 97, 112]⟩ 6 w (by decide)
theorem en_24_7 : EnC kv24 7 [(7, 0, 0)] := enc_1 fun w => ent_47_1 3 0 0 false false ⟨#[99, 115, 119, 97, 112]⟩ 7 3 0 0 7 w (by decide) (by decide) (exchange_same 0 3 (by decide)) (by decide) (by decide)
/-- The qubits of gate i. -/
def qOf (i : Nat) : Nat := [1, 1, 1, 1, 1, 1, 1, 1, 1, 1, 1, 1, 1, 2, 2, 2, 2, 2, 2, 2, 2, 2, 3, 3, 3].getD i 0
/-- The halvings of gate i. -/
def hOf (i : Nat) : Int := [0, 0, 0, 0, 1, 0, 0, 0, 0, 1, 1, 0, 0, 0, 0, 0, 1, 0, 0, 0, 0, 0, 0, 0, 0].getD i 0
def dOf (i : Nat) : Bool := [true, false, false, true, false, true, true, true, true, false, false, true, true, false, false, true, false, true, true, false, false, false, false, true, false].getD i false
/-- What is known of gate i. -/
def kvOf (i : Nat) : Value := [kv0, kv1, kv2, kv3, kv4, kv5, kv6, kv7, kv8, kv9, kv10, kv11, kv12, kv13, kv14, kv15, kv16, kv17, kv18, kv19, kv20, kv21, kv22, kv23, kv24].getD i (.bool false)
/-- The entries of column y of gate i. -/
def ens (i y : Nat) : List (Int × Int × Int) := (([
  [[(0, 0, 0)], [(1, 0, 0)]],
  [[(1, 0, 0)], [(0, 0, 0)]],
  [[(1, 2, 0)], [(0, (-2), 0)]],
  [[(0, 0, 0)], [(1, 4, 0)]],
  [[(0, 0, 1), (1, 0, 1)], [(0, 0, 1), (1, 4, 1)]],
  [[(0, 0, 0)], [(1, 2, 0)]],
  [[(0, 0, 0)], [(1, (-2), 0)]],
  [[(0, 0, 0)], [(1, 1, 0)]],
  [[(0, 0, 0)], [(1, (-1), 0)]],
  [[(0, 1, 1), (1, (-1), 1)], [(0, (-1), 1), (1, 1, 1)]],
  [[(0, (-1), 1), (1, 1, 1)], [(0, 1, 1), (1, (-1), 1)]],
  [[(0, 1, 0)], [(1, 1, 0)]],
  [[(0, (-1), 0)], [(1, (-1), 0)]],
  [[(0, 0, 0)], [(3, 0, 0)], [(2, 0, 0)], [(1, 0, 0)]],
  [[(0, 0, 0)], [(3, 2, 0)], [(2, 0, 0)], [(1, (-2), 0)]],
  [[(0, 0, 0)], [(1, 0, 0)], [(2, 0, 0)], [(3, 4, 0)]],
  [[(0, 0, 0)], [(1, 0, 1), (3, 0, 1)], [(2, 0, 0)], [(1, 0, 1), (3, 4, 1)]],
  [[(0, 0, 0)], [(1, 0, 0)], [(2, 0, 0)], [(3, 2, 0)]],
  [[(0, 0, 0)], [(1, 0, 0)], [(2, 0, 0)], [(3, (-2), 0)]],
  [[(0, 0, 0)], [(2, 0, 0)], [(1, 0, 0)], [(3, 0, 0)]],
  [[(0, 0, 0)], [(2, 2, 0)], [(1, 2, 0)], [(3, 0, 0)]],
  [[(0, 0, 0)], [(2, (-2), 0)], [(1, (-2), 0)], [(3, 0, 0)]],
  [[(0, 0, 0)], [(1, 0, 0)], [(2, 0, 0)], [(7, 0, 0)], [(4, 0, 0)], [(5, 0, 0)], [(6, 0, 0)], [(3, 0, 0)]],
  [[(0, 0, 0)], [(1, 0, 0)], [(2, 0, 0)], [(3, 0, 0)], [(4, 0, 0)], [(5, 0, 0)], [(6, 0, 0)], [(7, 4, 0)]],
  [[(0, 0, 0)], [(1, 0, 0)], [(2, 0, 0)], [(5, 0, 0)], [(4, 0, 0)], [(3, 0, 0)], [(6, 0, 0)], [(7, 0, 0)]]] : List (List (List (Int × Int × Int)))).getD i []).getD y []
theorem en_all (i y : Nat) (hi : i < 25) (hy : y < 2 ^ qOf i) : EnC (kvOf i) y (ens i y) := by
  match i, hi with
  | 0, _ =>
    match y, (show y < 2 from hy) with
    | 0, _ => exact en_0_0
    | 1, _ => exact en_0_1
    | n + 2, h => exact absurd h (by omega)
  | 1, _ =>
    match y, (show y < 2 from hy) with
    | 0, _ => exact en_1_0
    | 1, _ => exact en_1_1
    | n + 2, h => exact absurd h (by omega)
  | 2, _ =>
    match y, (show y < 2 from hy) with
    | 0, _ => exact en_2_0
    | 1, _ => exact en_2_1
    | n + 2, h => exact absurd h (by omega)
  | 3, _ =>
    match y, (show y < 2 from hy) with
    | 0, _ => exact en_3_0
    | 1, _ => exact en_3_1
    | n + 2, h => exact absurd h (by omega)
  | 4, _ =>
    match y, (show y < 2 from hy) with
    | 0, _ => exact en_4_0
    | 1, _ => exact en_4_1
    | n + 2, h => exact absurd h (by omega)
  | 5, _ =>
    match y, (show y < 2 from hy) with
    | 0, _ => exact en_5_0
    | 1, _ => exact en_5_1
    | n + 2, h => exact absurd h (by omega)
  | 6, _ =>
    match y, (show y < 2 from hy) with
    | 0, _ => exact en_6_0
    | 1, _ => exact en_6_1
    | n + 2, h => exact absurd h (by omega)
  | 7, _ =>
    match y, (show y < 2 from hy) with
    | 0, _ => exact en_7_0
    | 1, _ => exact en_7_1
    | n + 2, h => exact absurd h (by omega)
  | 8, _ =>
    match y, (show y < 2 from hy) with
    | 0, _ => exact en_8_0
    | 1, _ => exact en_8_1
    | n + 2, h => exact absurd h (by omega)
  | 9, _ =>
    match y, (show y < 2 from hy) with
    | 0, _ => exact en_9_0
    | 1, _ => exact en_9_1
    | n + 2, h => exact absurd h (by omega)
  | 10, _ =>
    match y, (show y < 2 from hy) with
    | 0, _ => exact en_10_0
    | 1, _ => exact en_10_1
    | n + 2, h => exact absurd h (by omega)
  | 11, _ =>
    match y, (show y < 2 from hy) with
    | 0, _ => exact en_11_0
    | 1, _ => exact en_11_1
    | n + 2, h => exact absurd h (by omega)
  | 12, _ =>
    match y, (show y < 2 from hy) with
    | 0, _ => exact en_12_0
    | 1, _ => exact en_12_1
    | n + 2, h => exact absurd h (by omega)
  | 13, _ =>
    match y, (show y < 4 from hy) with
    | 0, _ => exact en_13_0
    | 1, _ => exact en_13_1
    | 2, _ => exact en_13_2
    | 3, _ => exact en_13_3
    | n + 4, h => exact absurd h (by omega)
  | 14, _ =>
    match y, (show y < 4 from hy) with
    | 0, _ => exact en_14_0
    | 1, _ => exact en_14_1
    | 2, _ => exact en_14_2
    | 3, _ => exact en_14_3
    | n + 4, h => exact absurd h (by omega)
  | 15, _ =>
    match y, (show y < 4 from hy) with
    | 0, _ => exact en_15_0
    | 1, _ => exact en_15_1
    | 2, _ => exact en_15_2
    | 3, _ => exact en_15_3
    | n + 4, h => exact absurd h (by omega)
  | 16, _ =>
    match y, (show y < 4 from hy) with
    | 0, _ => exact en_16_0
    | 1, _ => exact en_16_1
    | 2, _ => exact en_16_2
    | 3, _ => exact en_16_3
    | n + 4, h => exact absurd h (by omega)
  | 17, _ =>
    match y, (show y < 4 from hy) with
    | 0, _ => exact en_17_0
    | 1, _ => exact en_17_1
    | 2, _ => exact en_17_2
    | 3, _ => exact en_17_3
    | n + 4, h => exact absurd h (by omega)
  | 18, _ =>
    match y, (show y < 4 from hy) with
    | 0, _ => exact en_18_0
    | 1, _ => exact en_18_1
    | 2, _ => exact en_18_2
    | 3, _ => exact en_18_3
    | n + 4, h => exact absurd h (by omega)
  | 19, _ =>
    match y, (show y < 4 from hy) with
    | 0, _ => exact en_19_0
    | 1, _ => exact en_19_1
    | 2, _ => exact en_19_2
    | 3, _ => exact en_19_3
    | n + 4, h => exact absurd h (by omega)
  | 20, _ =>
    match y, (show y < 4 from hy) with
    | 0, _ => exact en_20_0
    | 1, _ => exact en_20_1
    | 2, _ => exact en_20_2
    | 3, _ => exact en_20_3
    | n + 4, h => exact absurd h (by omega)
  | 21, _ =>
    match y, (show y < 4 from hy) with
    | 0, _ => exact en_21_0
    | 1, _ => exact en_21_1
    | 2, _ => exact en_21_2
    | 3, _ => exact en_21_3
    | n + 4, h => exact absurd h (by omega)
  | 22, _ =>
    match y, (show y < 8 from hy) with
    | 0, _ => exact en_22_0
    | 1, _ => exact en_22_1
    | 2, _ => exact en_22_2
    | 3, _ => exact en_22_3
    | 4, _ => exact en_22_4
    | 5, _ => exact en_22_5
    | 6, _ => exact en_22_6
    | 7, _ => exact en_22_7
    | n + 8, h => exact absurd h (by omega)
  | 23, _ =>
    match y, (show y < 8 from hy) with
    | 0, _ => exact en_23_0
    | 1, _ => exact en_23_1
    | 2, _ => exact en_23_2
    | 3, _ => exact en_23_3
    | 4, _ => exact en_23_4
    | 5, _ => exact en_23_5
    | 6, _ => exact en_23_6
    | 7, _ => exact en_23_7
    | n + 8, h => exact absurd h (by omega)
  | 24, _ =>
    match y, (show y < 8 from hy) with
    | 0, _ => exact en_24_0
    | 1, _ => exact en_24_1
    | 2, _ => exact en_24_2
    | 3, _ => exact en_24_3
    | 4, _ => exact en_24_4
    | 5, _ => exact en_24_5
    | 6, _ => exact en_24_6
    | 7, _ => exact en_24_7
    | n + 8, h => exact absurd h (by omega)
  | n + 25, h => exact absurd h (by omega)
end Go.Proofs.Ytjmgcgjmaemgdaa
