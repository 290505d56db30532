/-
  Put together of: G1.
-/
import Derived.Test.YtoddbaljnlhhaabXA
namespace Go.Proofs.Ytoddbaljnlhhaab
open Go.RowKit Go.Sort

theorem push_set (h : Array Obj) (o o' : Obj) : (h.push o).setIfInBounds h.size o' = h.push o' := by
  apply Array.ext
  · simp
  · intro i h1 h2
    simp at h1 h2
    by_cases hi : i = h.size
    · subst hi; simp
    · rw [Array.getElem_setIfInBounds]
      · rw [if_neg (fun e => hi e.symm)]
        rw [Array.getElem_push_lt (by omega), Array.getElem_push_lt (by omega)]
      · simp; omega
theorem setLast (w : World) (o o' : Obj) : { w.alloc o with heap := (w.alloc o).heap.setIfInBounds w.heap.size o' } = w.alloc o' := by
  unfold World.alloc
  simp only [push_set]
theorem run_insert (es es' : Array MapEntry) (n : Nat) (s : ByteArray) (v : Value) (w : World) (hf : Instr.findNow .string (.string s) es.toList 0 = some none) (he : es.push ⟨.string s, v, n⟩ = es') :
    (Instr.mapUpdate 110 (.map (some w.heap.size)) (.string s) v).run Try.prog (w.alloc (.map es n)) = .ok () (w.alloc (.map es' (n + 1))) := by
  subst he
  have hb := (MapKept.heap_alloc w (.map es n)).1
  have h1 : (Instr.checkKey false 10000 9 (.string s)).run Try.prog (w.alloc (.map es n)) = .ok () (w.alloc (.map es n)) := MapKept.run_checkKey Try.underlying9 (by simp [MapKept.IsKey]) false 9999
  have h2 := MapKept.run_findKey (w := w.alloc (.map es n)) Try.underlying9 hf
  unfold Instr.mapUpdate
  simp only [Sem.run_bind, run_underlying Try.underlying110, Result.andThen, MapKept.run_getObj_map hb, h1, h2, MapKept.run_setObj_map _ hb, setLast]
/-- What is known of a gate, as a value. -/
abbrev kd (q c : Int) (f : Nat) (p h : Int) (cl di : Bool) (inv : ByteArray) : Value := .agg #[.int .i64 q, .int .i64 c, .func (.func f) #[] #[], .int .i64 p, .int .i64 h, .bool cl, .bool di, .string inv]
/-- The gates in the table's order. -/
def kindsL : List (ByteArray × Value) := [
  (⟨#[105]⟩, kd 1 0 81 0 0 true true ⟨#[105]⟩),
  (⟨#[120]⟩, kd 1 0 82 0 0 true false ⟨#[120]⟩),
  (⟨#[121]⟩, kd 1 0 82 2 0 true false ⟨#[121]⟩),
  (⟨#[122]⟩, kd 1 0 81 4 0 true true ⟨#[122]⟩),
  (⟨#[104]⟩, kd 1 0 83 0 1 true false ⟨#[104]⟩),
  (⟨#[115]⟩, kd 1 0 81 2 0 true true ⟨#[115, 100, 103]⟩),
  (⟨#[115, 100, 103]⟩, kd 1 0 81 (-2) 0 true true ⟨#[115]⟩),
  (⟨#[116]⟩, kd 1 0 81 1 0 false true ⟨#[116, 100, 103]⟩),
  (⟨#[116, 100, 103]⟩, kd 1 0 81 (-1) 0 false true ⟨#[116]⟩),
  (⟨#[118]⟩, kd 1 0 84 1 1 true false ⟨#[118, 100, 103]⟩),
  (⟨#[118, 100, 103]⟩, kd 1 0 84 (-1) 1 true false ⟨#[118]⟩),
  (⟨#[119]⟩, kd 1 0 85 1 0 true true ⟨#[119, 100, 103]⟩),
  (⟨#[119, 100, 103]⟩, kd 1 0 85 (-1) 0 true true ⟨#[119]⟩),
  (⟨#[99, 120]⟩, kd 2 1 82 0 0 true false ⟨#[99, 120]⟩),
  (⟨#[99, 121]⟩, kd 2 1 82 2 0 true false ⟨#[99, 121]⟩),
  (⟨#[99, 122]⟩, kd 2 1 81 4 0 true true ⟨#[99, 122]⟩),
  (⟨#[99, 104]⟩, kd 2 1 83 0 1 false false ⟨#[99, 104]⟩),
  (⟨#[99, 115]⟩, kd 2 1 81 2 0 false true ⟨#[99, 115, 100, 103]⟩),
  (⟨#[99, 115, 100, 103]⟩, kd 2 1 81 (-2) 0 false true ⟨#[99, 115]⟩),
  (⟨#[115, 119, 97, 112]⟩, kd 2 0 86 0 0 true false ⟨#[115, 119, 97, 112]⟩),
  (⟨#[105, 115, 119, 97, 112]⟩, kd 2 0 86 2 0 true false ⟨#[105, 115, 119, 97, 112, 100, 103]⟩),
  (⟨#[105, 115, 119, 97, 112, 100, 103]⟩, kd 2 0 86 (-2) 0 true false ⟨#[105, 115, 119, 97, 112]⟩),
  (⟨#[99, 99, 120]⟩, kd 3 2 82 0 0 false false ⟨#[99, 99, 120]⟩),
  (⟨#[99, 99, 122]⟩, kd 3 2 81 4 0 false true ⟨#[99, 99, 122]⟩),
  (⟨#[99, 115, 119, 97, 112]⟩, kd 3 1 86 0 0 false false ⟨#[99, 115, 119, 97, 112]⟩)]
/-- The map's first i entries. -/
def KA (i : Nat) : Array MapEntry := ((kindsL.take i).zipIdx.map fun x => ⟨.string x.1.1, x.1.2, x.2⟩).toArray
set_option maxRecDepth 100000 in
set_option maxHeartbeats 4000000 in
theorem kinds_any (w : World) : Calls Try.prog 74 #[] w fun e w' => e = .returned (.map (some w.heap.size)) ∧ w' = w.alloc (.map (KA 25) 25) := by
  have hmm := @run_makeMap Try.prog
  have h0 : (Instr.mapUpdate 110 (.map (some w.heap.size)) (.string ⟨#[105]⟩) (kd 1 0 81 0 0 true true ⟨#[105]⟩)).run Try.prog (w.alloc (.map #[] 0)) = .ok () (w.alloc (.map (KA 1) 1)) := run_insert #[] (KA 1) 0 _ _ w rfl rfl
  have h1 : (Instr.mapUpdate 110 (.map (some w.heap.size)) (.string ⟨#[120]⟩) (kd 1 0 82 0 0 true false ⟨#[120]⟩)).run Try.prog (w.alloc (.map (KA 1) 1)) = .ok () (w.alloc (.map (KA 2) 2)) := run_insert (KA 1) (KA 2) 1 _ _ w rfl rfl
  have h2 : (Instr.mapUpdate 110 (.map (some w.heap.size)) (.string ⟨#[121]⟩) (kd 1 0 82 2 0 true false ⟨#[121]⟩)).run Try.prog (w.alloc (.map (KA 2) 2)) = .ok () (w.alloc (.map (KA 3) 3)) := run_insert (KA 2) (KA 3) 2 _ _ w rfl rfl
  have h3 : (Instr.mapUpdate 110 (.map (some w.heap.size)) (.string ⟨#[122]⟩) (kd 1 0 81 4 0 true true ⟨#[122]⟩)).run Try.prog (w.alloc (.map (KA 3) 3)) = .ok () (w.alloc (.map (KA 4) 4)) := run_insert (KA 3) (KA 4) 3 _ _ w rfl rfl
  have h4 : (Instr.mapUpdate 110 (.map (some w.heap.size)) (.string ⟨#[104]⟩) (kd 1 0 83 0 1 true false ⟨#[104]⟩)).run Try.prog (w.alloc (.map (KA 4) 4)) = .ok () (w.alloc (.map (KA 5) 5)) := run_insert (KA 4) (KA 5) 4 _ _ w rfl rfl
  have h5 : (Instr.mapUpdate 110 (.map (some w.heap.size)) (.string ⟨#[115]⟩) (kd 1 0 81 2 0 true true ⟨#[115, 100, 103]⟩)).run Try.prog (w.alloc (.map (KA 5) 5)) = .ok () (w.alloc (.map (KA 6) 6)) := run_insert (KA 5) (KA 6) 5 _ _ w rfl rfl
  have h6 : (Instr.mapUpdate 110 (.map (some w.heap.size)) (.string ⟨#[115, 100, 103]⟩) (kd 1 0 81 (-2) 0 true true ⟨#[115]⟩)).run Try.prog (w.alloc (.map (KA 6) 6)) = .ok () (w.alloc (.map (KA 7) 7)) := run_insert (KA 6) (KA 7) 6 _ _ w rfl rfl
  have h7 : (Instr.mapUpdate 110 (.map (some w.heap.size)) (.string ⟨#[116]⟩) (kd 1 0 81 1 0 false true ⟨#[116, 100, 103]⟩)).run Try.prog (w.alloc (.map (KA 7) 7)) = .ok () (w.alloc (.map (KA 8) 8)) := run_insert (KA 7) (KA 8) 7 _ _ w rfl rfl
  have h8 : (Instr.mapUpdate 110 (.map (some w.heap.size)) (.string ⟨#[116, 100, 103]⟩) (kd 1 0 81 (-1) 0 false true ⟨#[116]⟩)).run Try.prog (w.alloc (.map (KA 8) 8)) = .ok () (w.alloc (.map (KA 9) 9)) := run_insert (KA 8) (KA 9) 8 _ _ w rfl rfl
  have h9 : (Instr.mapUpdate 110 (.map (some w.heap.size)) (.string ⟨#[118]⟩) (kd 1 0 84 1 1 true false ⟨#[118, 100, 103]⟩)).run Try.prog (w.alloc (.map (KA 9) 9)) = .ok () (w.alloc (.map (KA 10) 10)) := run_insert (KA 9) (KA 10) 9 _ _ w rfl rfl
  have h10 : (Instr.mapUpdate 110 (.map (some w.heap.size)) (.string ⟨#[118, 100, 103]⟩) (kd 1 0 84 (-1) 1 true false ⟨#[118]⟩)).run Try.prog (w.alloc (.map (KA 10) 10)) = .ok () (w.alloc (.map (KA 11) 11)) := run_insert (KA 10) (KA 11) 10 _ _ w rfl rfl
  have h11 : (Instr.mapUpdate 110 (.map (some w.heap.size)) (.string ⟨#[119]⟩) (kd 1 0 85 1 0 true true ⟨#[119, 100, 103]⟩)).run Try.prog (w.alloc (.map (KA 11) 11)) = .ok () (w.alloc (.map (KA 12) 12)) := run_insert (KA 11) (KA 12) 11 _ _ w rfl rfl
  have h12 : (Instr.mapUpdate 110 (.map (some w.heap.size)) (.string ⟨#[119, 100, 103]⟩) (kd 1 0 85 (-1) 0 true true ⟨#[119]⟩)).run Try.prog (w.alloc (.map (KA 12) 12)) = .ok () (w.alloc (.map (KA 13) 13)) := run_insert (KA 12) (KA 13) 12 _ _ w rfl rfl
  have h13 : (Instr.mapUpdate 110 (.map (some w.heap.size)) (.string ⟨#[99, 120]⟩) (kd 2 1 82 0 0 true false ⟨#[99, 120]⟩)).run Try.prog (w.alloc (.map (KA 13) 13)) = .ok () (w.alloc (.map (KA 14) 14)) := run_insert (KA 13) (KA 14) 13 _ _ w rfl rfl
  have h14 : (Instr.mapUpdate 110 (.map (some w.heap.size)) (.string ⟨#[99, 121]⟩) (kd 2 1 82 2 0 true false ⟨#[99, 121]⟩)).run Try.prog (w.alloc (.map (KA 14) 14)) = .ok () (w.alloc (.map (KA 15) 15)) := run_insert (KA 14) (KA 15) 14 _ _ w rfl rfl
  have h15 : (Instr.mapUpdate 110 (.map (some w.heap.size)) (.string ⟨#[99, 122]⟩) (kd 2 1 81 4 0 true true ⟨#[99, 122]⟩)).run Try.prog (w.alloc (.map (KA 15) 15)) = .ok () (w.alloc (.map (KA 16) 16)) := run_insert (KA 15) (KA 16) 15 _ _ w rfl rfl
  have h16 : (Instr.mapUpdate 110 (.map (some w.heap.size)) (.string ⟨#[99, 104]⟩) (kd 2 1 83 0 1 false false ⟨#[99, 104]⟩)).run Try.prog (w.alloc (.map (KA 16) 16)) = .ok () (w.alloc (.map (KA 17) 17)) := run_insert (KA 16) (KA 17) 16 _ _ w rfl rfl
  have h17 : (Instr.mapUpdate 110 (.map (some w.heap.size)) (.string ⟨#[99, 115]⟩) (kd 2 1 81 2 0 false true ⟨#[99, 115, 100, 103]⟩)).run Try.prog (w.alloc (.map (KA 17) 17)) = .ok () (w.alloc (.map (KA 18) 18)) := run_insert (KA 17) (KA 18) 17 _ _ w rfl rfl
  have h18 : (Instr.mapUpdate 110 (.map (some w.heap.size)) (.string ⟨#[99, 115, 100, 103]⟩) (kd 2 1 81 (-2) 0 false true ⟨#[99, 115]⟩)).run Try.prog (w.alloc (.map (KA 18) 18)) = .ok () (w.alloc (.map (KA 19) 19)) := run_insert (KA 18) (KA 19) 18 _ _ w rfl rfl
  have h19 : (Instr.mapUpdate 110 (.map (some w.heap.size)) (.string ⟨#[115, 119, 97, 112]⟩) (kd 2 0 86 0 0 true false ⟨#[115, 119, 97, 112]⟩)).run Try.prog (w.alloc (.map (KA 19) 19)) = .ok () (w.alloc (.map (KA 20) 20)) := run_insert (KA 19) (KA 20) 19 _ _ w rfl rfl
  have h20 : (Instr.mapUpdate 110 (.map (some w.heap.size)) (.string ⟨#[105, 115, 119, 97, 112]⟩) (kd 2 0 86 2 0 true false ⟨#[105, 115, 119, 97, 112, 100, 103]⟩)).run Try.prog (w.alloc (.map (KA 20) 20)) = .ok () (w.alloc (.map (KA 21) 21)) := run_insert (KA 20) (KA 21) 20 _ _ w rfl rfl
  have h21 : (Instr.mapUpdate 110 (.map (some w.heap.size)) (.string ⟨#[105, 115, 119, 97, 112, 100, 103]⟩) (kd 2 0 86 (-2) 0 true false ⟨#[105, 115, 119, 97, 112]⟩)).run Try.prog (w.alloc (.map (KA 21) 21)) = .ok () (w.alloc (.map (KA 22) 22)) := run_insert (KA 21) (KA 22) 21 _ _ w rfl rfl
  have h22 : (Instr.mapUpdate 110 (.map (some w.heap.size)) (.string ⟨#[99, 99, 120]⟩) (kd 3 2 82 0 0 false false ⟨#[99, 99, 120]⟩)).run Try.prog (w.alloc (.map (KA 22) 22)) = .ok () (w.alloc (.map (KA 23) 23)) := run_insert (KA 22) (KA 23) 22 _ _ w rfl rfl
  have h23 : (Instr.mapUpdate 110 (.map (some w.heap.size)) (.string ⟨#[99, 99, 122]⟩) (kd 3 2 81 4 0 false true ⟨#[99, 99, 122]⟩)).run Try.prog (w.alloc (.map (KA 23) 23)) = .ok () (w.alloc (.map (KA 24) 24)) := run_insert (KA 23) (KA 24) 23 _ _ w rfl rfl
  have h24 : (Instr.mapUpdate 110 (.map (some w.heap.size)) (.string ⟨#[99, 115, 119, 97, 112]⟩) (kd 3 1 86 0 0 false false ⟨#[99, 115, 119, 97, 112]⟩)).run Try.prog (w.alloc (.map (KA 24) 24)) = .ok () (w.alloc (.map (KA 25) 25)) := run_insert (KA 24) (KA 25) 24 _ _ w rfl rfl
  go_enter Try.func74, Try.ntmps74
  go_wp2
  go_ret
  exact ⟨rfl, rfl⟩
theorem zeroKind (w : World) : (zeroValue 109).run Try.prog w = .ok (.agg #[.int .i64 0, .int .i64 0, .nilFunc, .int .i64 0, .int .i64 0, .bool false, .bool false, .string ⟨#[]⟩]) w := by kernel_rfl
theorem run_look (s : ByteArray) (i : Nat) (v : Value) (h : Instr.findNow .string (.string s) (KA 25).toList 0 = some (some (i, v))) (ok : Bool) (w : World) :
    (Instr.lookup 110 (.map (some w.heap.size)) (.string s) ok).run Try.prog (w.alloc (.map (KA 25) 25)) = .ok (if ok then .tuple #[v, .bool true] else v) (w.alloc (.map (KA 25) 25)) := by
  have hb := (MapKept.heap_alloc w (.map (KA 25) 25)).1
  have h1 : (Instr.checkKey (KA 25).isEmpty 10000 9 (.string s)).run Try.prog (w.alloc (.map (KA 25) 25)) = .ok () (w.alloc (.map (KA 25) 25)) := MapKept.run_checkKey Try.underlying9 (by simp [MapKept.IsKey]) _ 9999
  have h2 := MapKept.run_findKey (w := w.alloc (.map (KA 25) 25)) Try.underlying9 h
  unfold Instr.lookup
  simp only [Sem.run_bind, Sem.run_pure, run_underlying Try.underlying110, Result.andThen, MapKept.run_getObj_map hb, h1, h2]
theorem run_miss (s : ByteArray) (h : Instr.findNow .string (.string s) (KA 25).toList 0 = some none) (ok : Bool) (w : World) :
    (Instr.lookup 110 (.map (some w.heap.size)) (.string s) ok).run Try.prog (w.alloc (.map (KA 25) 25)) = .ok (if ok then .tuple #[.agg #[.int .i64 0, .int .i64 0, .nilFunc, .int .i64 0, .int .i64 0, .bool false, .bool false, .string ⟨#[]⟩], .bool false] else .agg #[.int .i64 0, .int .i64 0, .nilFunc, .int .i64 0, .int .i64 0, .bool false, .bool false, .string ⟨#[]⟩]) (w.alloc (.map (KA 25) 25)) := by
  have hb := (MapKept.heap_alloc w (.map (KA 25) 25)).1
  have h1 : (Instr.checkKey (KA 25).isEmpty 10000 9 (.string s)).run Try.prog (w.alloc (.map (KA 25) 25)) = .ok () (w.alloc (.map (KA 25) 25)) := MapKept.run_checkKey Try.underlying9 (by simp [MapKept.IsKey]) _ 9999
  have h2 := MapKept.run_findKey (w := w.alloc (.map (KA 25) 25)) Try.underlying9 h
  unfold Instr.lookup
  simp only [Sem.run_bind, Sem.run_pure, run_underlying Try.underlying110, Result.andThen, MapKept.run_getObj_map hb, h1, h2, zeroKind]
/-- The table holds this at the name. -/
abbrev Hit (s : ByteArray) (i : Nat) (q c : Int) (f : Nat) (p h : Int) (cl di : Bool) (inv : ByteArray) : Prop := Instr.findNow .string (.string s) (KA 25).toList 0 = some (some (i, kd q c f p h cl di inv))
theorem below_map (w : World) : Below w.heap.size w (w.alloc (.map (KA 25) 25)) := bal (Below.refl _ _) _
section
variable {s : ByteArray} {i : Nat} {q c : Int} {f : Nat} {p h : Int} {cl di : Bool} {inv : ByteArray}
set_option maxRecDepth 100000 in
set_option maxHeartbeats 400000 in
theorem arity_hit (H : Hit s i q c f p h cl di inv) (w : World) : Calls Try.prog 52 #[.string s] w fun e w' => e = .returned (.int .i64 q) ∧ Below w.heap.size w w' := by
  have K := kinds_any w
  have L := run_look s i _ H false
  have F : ∀ w, (Instr.field 109 (kd q c f p h cl di inv) 0).run Try.prog w = .ok (.int .i64 q) w := fun w => by kernel_rfl
  have hW := below_map w
  clear H
  generalize KA 25 = ka at *
  go_enter Try.func52, Try.ntmps52
  go_wp2_with (go_at_call 74; (with_reducible refine K.mono ?_); rintro e w1 ⟨rfl, rfl⟩)
  go_ret
  exact ⟨rfl, hW⟩
set_option maxRecDepth 100000 in
set_option maxHeartbeats 400000 in
theorem arity_none (H : Instr.findNow .string (.string s) (KA 25).toList 0 = some none) (w : World) : Calls Try.prog 52 #[.string s] w fun e w' => e = .returned (.int .i64 0) ∧ Below w.heap.size w w' := by
  have K := kinds_any w
  have L := run_miss s H false
  have F : ∀ w, (Instr.field 109 (.agg #[.int .i64 0, .int .i64 0, .nilFunc, .int .i64 0, .int .i64 0, .bool false, .bool false, .string ⟨#[]⟩]) 0).run Try.prog w = .ok (.int .i64 0) w := fun w => by kernel_rfl
  have hW := below_map w
  clear H
  generalize KA 25 = ka at *
  go_enter Try.func52, Try.ntmps52
  go_wp2_with (go_at_call 74; (with_reducible refine K.mono ?_); rintro e w1 ⟨rfl, rfl⟩)
  go_ret
  exact ⟨rfl, hW⟩
set_option maxRecDepth 100000 in
set_option maxHeartbeats 400000 in
theorem clifford_hit (H : Hit s i q c f p h cl di inv) (w : World) : Calls Try.prog 54 #[.string s] w fun e w' => e = .returned (.bool cl) ∧ Below w.heap.size w w' := by
  have K := kinds_any w
  have L := run_look s i _ H false
  have F : ∀ w, (Instr.field 109 (kd q c f p h cl di inv) 5).run Try.prog w = .ok (.bool cl) w := fun w => by kernel_rfl
  have hW := below_map w
  clear H
  generalize KA 25 = ka at *
  go_enter Try.func54, Try.ntmps54
  go_wp2_with (go_at_call 74; (with_reducible refine K.mono ?_); rintro e w1 ⟨rfl, rfl⟩)
  go_ret
  exact ⟨rfl, hW⟩
set_option maxRecDepth 100000 in
set_option maxHeartbeats 400000 in
theorem clifford_none (H : Instr.findNow .string (.string s) (KA 25).toList 0 = some none) (w : World) : Calls Try.prog 54 #[.string s] w fun e w' => e = .returned (.bool false) ∧ Below w.heap.size w w' := by
  have K := kinds_any w
  have L := run_miss s H false
  have F : ∀ w, (Instr.field 109 (.agg #[.int .i64 0, .int .i64 0, .nilFunc, .int .i64 0, .int .i64 0, .bool false, .bool false, .string ⟨#[]⟩]) 5).run Try.prog w = .ok (.bool false) w := fun w => by kernel_rfl
  have hW := below_map w
  clear H
  generalize KA 25 = ka at *
  go_enter Try.func54, Try.ntmps54
  go_wp2_with (go_at_call 74; (with_reducible refine K.mono ?_); rintro e w1 ⟨rfl, rfl⟩)
  go_ret
  exact ⟨rfl, hW⟩
end
theorem hit_0 : Hit ⟨#[105]⟩ 0 1 0 81 0 0 true true ⟨#[105]⟩ := by unfold Hit; kernel_rfl
theorem hit_1 : Hit ⟨#[120]⟩ 1 1 0 82 0 0 true false ⟨#[120]⟩ := by unfold Hit; kernel_rfl
theorem hit_2 : Hit ⟨#[121]⟩ 2 1 0 82 2 0 true false ⟨#[121]⟩ := by unfold Hit; kernel_rfl
theorem hit_3 : Hit ⟨#[122]⟩ 3 1 0 81 4 0 true true ⟨#[122]⟩ := by unfold Hit; kernel_rfl
theorem hit_4 : Hit ⟨#[104]⟩ 4 1 0 83 0 1 true false ⟨#[104]⟩ := by unfold Hit; kernel_rfl
theorem hit_5 : Hit ⟨#[115]⟩ 5 1 0 81 2 0 true true ⟨#[115, 100, 103]⟩ := by unfold Hit; kernel_rfl
theorem hit_6 : Hit ⟨#[115, 100, 103]⟩ 6 1 0 81 (-2) 0 true true ⟨#[115]⟩ := by unfold Hit; kernel_rfl
theorem hit_7 : Hit ⟨#[116]⟩ 7 1 0 81 1 0 false true ⟨#[116, 100, 103]⟩ := by unfold Hit; kernel_rfl
theorem hit_8 : Hit ⟨#[116, 100, 103]⟩ 8 1 0 81 (-1) 0 false true ⟨#[116]⟩ := by unfold Hit; kernel_rfl
theorem hit_9 : Hit ⟨#[118]⟩ 9 1 0 84 1 1 true false ⟨#[118, 100, 103]⟩ := by unfold Hit; kernel_rfl
theorem hit_10 : Hit ⟨#[118, 100, 103]⟩ 10 1 0 84 (-1) 1 true false ⟨#[118]⟩ := by unfold Hit; kernel_rfl
theorem hit_11 : Hit ⟨#[119]⟩ 11 1 0 85 1 0 true true ⟨#[119, 100, 103]⟩ := by unfold Hit; kernel_rfl
theorem hit_12 : Hit ⟨#[119, 100, 103]⟩ 12 1 0 85 (-1) 0 true true ⟨#[119]⟩ := by unfold Hit; kernel_rfl
theorem hit_13 : Hit ⟨#[99, 120]⟩ 13 2 1 82 0 0 true false ⟨#[99, 120]⟩ := by unfold Hit; kernel_rfl
theorem hit_14 : Hit ⟨#[99, 121]⟩ 14 2 1 82 2 0 true false ⟨#[99, 121]⟩ := by unfold Hit; kernel_rfl
theorem hit_15 : Hit ⟨#[99, 122]⟩ 15 2 1 81 4 0 true true ⟨#[99, 122]⟩ := by unfold Hit; kernel_rfl
theorem hit_16 : Hit ⟨#[99, 104]⟩ 16 2 1 83 0 1 false false ⟨#[99, 104]⟩ := by unfold Hit; kernel_rfl
theorem hit_17 : Hit ⟨#[99, 115]⟩ 17 2 1 81 2 0 false true ⟨#[99, 115, 100, 103]⟩ := by unfold Hit; kernel_rfl
theorem hit_18 : Hit ⟨#[99, 115, 100, 103]⟩ 18 2 1 81 (-2) 0 false true ⟨#[99, 115]⟩ := by unfold Hit; kernel_rfl
theorem hit_19 : Hit ⟨#[115, 119, 97, 112]⟩ 19 2 0 86 0 0 true false ⟨#[115, 119, 97, 112]⟩ := by unfold Hit; kernel_rfl
theorem hit_20 : Hit ⟨#[105, 115, 119, 97, 112]⟩ 20 2 0 86 2 0 true false ⟨#[105, 115, 119, 97, 112, 100, 103]⟩ := by unfold Hit; kernel_rfl
theorem hit_21 : Hit ⟨#[105, 115, 119, 97, 112, 100, 103]⟩ 21 2 0 86 (-2) 0 true false ⟨#[105, 115, 119, 97, 112]⟩ := by unfold Hit; kernel_rfl
theorem hit_22 : Hit ⟨#[99, 99, 120]⟩ 22 3 2 82 0 0 false false ⟨#[99, 99, 120]⟩ := by unfold Hit; kernel_rfl
theorem hit_23 : Hit ⟨#[99, 99, 122]⟩ 23 3 2 81 4 0 false true ⟨#[99, 99, 122]⟩ := by unfold Hit; kernel_rfl
theorem hit_24 : Hit ⟨#[99, 115, 119, 97, 112]⟩ 24 3 1 86 0 0 false false ⟨#[99, 115, 119, 97, 112]⟩ := by unfold Hit; kernel_rfl
/-- What is told of a gate: its qubits, its halvings, whether Clifford's, its inverse. -/
structure GI where
  a : Nat
  h : Nat
  c : Bool
  i : ByteArray
def gtab : List (List UInt8 × GI) := [
  ([105], ⟨1, 0, true, ⟨#[105]⟩⟩),
  ([120], ⟨1, 0, true, ⟨#[120]⟩⟩),
  ([121], ⟨1, 0, true, ⟨#[121]⟩⟩),
  ([122], ⟨1, 0, true, ⟨#[122]⟩⟩),
  ([104], ⟨1, 1, true, ⟨#[104]⟩⟩),
  ([115], ⟨1, 0, true, ⟨#[115, 100, 103]⟩⟩),
  ([115, 100, 103], ⟨1, 0, true, ⟨#[115]⟩⟩),
  ([116], ⟨1, 0, false, ⟨#[116, 100, 103]⟩⟩),
  ([116, 100, 103], ⟨1, 0, false, ⟨#[116]⟩⟩),
  ([118], ⟨1, 1, true, ⟨#[118, 100, 103]⟩⟩),
  ([118, 100, 103], ⟨1, 1, true, ⟨#[118]⟩⟩),
  ([119], ⟨1, 0, true, ⟨#[119, 100, 103]⟩⟩),
  ([119, 100, 103], ⟨1, 0, true, ⟨#[119]⟩⟩),
  ([99, 120], ⟨2, 0, true, ⟨#[99, 120]⟩⟩),
  ([99, 121], ⟨2, 0, true, ⟨#[99, 121]⟩⟩),
  ([99, 122], ⟨2, 0, true, ⟨#[99, 122]⟩⟩),
  ([99, 104], ⟨2, 1, false, ⟨#[99, 104]⟩⟩),
  ([99, 115], ⟨2, 0, false, ⟨#[99, 115, 100, 103]⟩⟩),
  ([99, 115, 100, 103], ⟨2, 0, false, ⟨#[99, 115]⟩⟩),
  ([115, 119, 97, 112], ⟨2, 0, true, ⟨#[115, 119, 97, 112]⟩⟩),
  ([105, 115, 119, 97, 112], ⟨2, 0, true, ⟨#[105, 115, 119, 97, 112, 100, 103]⟩⟩),
  ([105, 115, 119, 97, 112, 100, 103], ⟨2, 0, true, ⟨#[105, 115, 119, 97, 112]⟩⟩),
  ([99, 99, 120], ⟨3, 0, false, ⟨#[99, 99, 120]⟩⟩),
  ([99, 99, 122], ⟨3, 0, false, ⟨#[99, 99, 122]⟩⟩),
  ([99, 115, 119, 97, 112], ⟨3, 0, false, ⟨#[99, 115, 119, 97, 112]⟩⟩)]
def gI (s : ByteArray) : Option GI := (gtab.find? fun x => s.toList == x.1).map (·.2)
def gar (s : ByteArray) : Nat := ((gI s).map GI.a).getD 0
def ghv (s : ByteArray) : Nat := ((gI s).map GI.h).getD 0
def gcl (s : ByteArray) : Bool := ((gI s).map GI.c).getD false
def giv (s : ByteArray) : ByteArray := ((gI s).map GI.i).getD ⟨#[]⟩
def gerr (s : ByteArray) : Int := ((gI s).map fun _ => (0 : Int)).getD 80
theorem ba_eq {s : ByteArray} {l : List UInt8} (h : s.toList = l) : s = ⟨l.toArray⟩ := by
  rw [ByteArray.toList_eq] at h
  obtain ⟨d⟩ := s
  subst h
  rfl
/-- The name of no gate. -/
structure Miss (s : ByteArray) : Prop where
  m0 : (s.toList == [105]) = false
  m1 : (s.toList == [120]) = false
  m2 : (s.toList == [121]) = false
  m3 : (s.toList == [122]) = false
  m4 : (s.toList == [104]) = false
  m5 : (s.toList == [115]) = false
  m6 : (s.toList == [115, 100, 103]) = false
  m7 : (s.toList == [116]) = false
  m8 : (s.toList == [116, 100, 103]) = false
  m9 : (s.toList == [118]) = false
  m10 : (s.toList == [118, 100, 103]) = false
  m11 : (s.toList == [119]) = false
  m12 : (s.toList == [119, 100, 103]) = false
  m13 : (s.toList == [99, 120]) = false
  m14 : (s.toList == [99, 121]) = false
  m15 : (s.toList == [99, 122]) = false
  m16 : (s.toList == [99, 104]) = false
  m17 : (s.toList == [99, 115]) = false
  m18 : (s.toList == [99, 115, 100, 103]) = false
  m19 : (s.toList == [115, 119, 97, 112]) = false
  m20 : (s.toList == [105, 115, 119, 97, 112]) = false
  m21 : (s.toList == [105, 115, 119, 97, 112, 100, 103]) = false
  m22 : (s.toList == [99, 99, 120]) = false
  m23 : (s.toList == [99, 99, 122]) = false
  m24 : (s.toList == [99, 115, 119, 97, 112]) = false
/-- The names. -/
def nms : List ByteArray := [⟨#[105]⟩, ⟨#[120]⟩, ⟨#[121]⟩, ⟨#[122]⟩, ⟨#[104]⟩, ⟨#[115]⟩, ⟨#[115, 100, 103]⟩, ⟨#[116]⟩, ⟨#[116, 100, 103]⟩, ⟨#[118]⟩, ⟨#[118, 100, 103]⟩, ⟨#[119]⟩, ⟨#[119, 100, 103]⟩, ⟨#[99, 120]⟩, ⟨#[99, 121]⟩, ⟨#[99, 122]⟩, ⟨#[99, 104]⟩, ⟨#[99, 115]⟩, ⟨#[99, 115, 100, 103]⟩, ⟨#[115, 119, 97, 112]⟩, ⟨#[105, 115, 119, 97, 112]⟩, ⟨#[105, 115, 119, 97, 112, 100, 103]⟩, ⟨#[99, 99, 120]⟩, ⟨#[99, 99, 122]⟩, ⟨#[99, 115, 119, 97, 112]⟩]
theorem hit_or_miss (s : ByteArray) : s ∈ nms ∨ Miss s := by
  cases m0 : (s.toList == [105])
  case true => rw [ba_eq (eq_of_beq m0)]; exact .inl (by simp [nms])
  cases m1 : (s.toList == [120])
  case true => rw [ba_eq (eq_of_beq m1)]; exact .inl (by simp [nms])
  cases m2 : (s.toList == [121])
  case true => rw [ba_eq (eq_of_beq m2)]; exact .inl (by simp [nms])
  cases m3 : (s.toList == [122])
  case true => rw [ba_eq (eq_of_beq m3)]; exact .inl (by simp [nms])
  cases m4 : (s.toList == [104])
  case true => rw [ba_eq (eq_of_beq m4)]; exact .inl (by simp [nms])
  cases m5 : (s.toList == [115])
  case true => rw [ba_eq (eq_of_beq m5)]; exact .inl (by simp [nms])
  cases m6 : (s.toList == [115, 100, 103])
  case true => rw [ba_eq (eq_of_beq m6)]; exact .inl (by simp [nms])
  cases m7 : (s.toList == [116])
  case true => rw [ba_eq (eq_of_beq m7)]; exact .inl (by simp [nms])
  cases m8 : (s.toList == [116, 100, 103])
  case true => rw [ba_eq (eq_of_beq m8)]; exact .inl (by simp [nms])
  cases m9 : (s.toList == [118])
  case true => rw [ba_eq (eq_of_beq m9)]; exact .inl (by simp [nms])
  cases m10 : (s.toList == [118, 100, 103])
  case true => rw [ba_eq (eq_of_beq m10)]; exact .inl (by simp [nms])
  cases m11 : (s.toList == [119])
  case true => rw [ba_eq (eq_of_beq m11)]; exact .inl (by simp [nms])
  cases m12 : (s.toList == [119, 100, 103])
  case true => rw [ba_eq (eq_of_beq m12)]; exact .inl (by simp [nms])
  cases m13 : (s.toList == [99, 120])
  case true => rw [ba_eq (eq_of_beq m13)]; exact .inl (by simp [nms])
  cases m14 : (s.toList == [99, 121])
  case true => rw [ba_eq (eq_of_beq m14)]; exact .inl (by simp [nms])
  cases m15 : (s.toList == [99, 122])
  case true => rw [ba_eq (eq_of_beq m15)]; exact .inl (by simp [nms])
  cases m16 : (s.toList == [99, 104])
  case true => rw [ba_eq (eq_of_beq m16)]; exact .inl (by simp [nms])
  cases m17 : (s.toList == [99, 115])
  case true => rw [ba_eq (eq_of_beq m17)]; exact .inl (by simp [nms])
  cases m18 : (s.toList == [99, 115, 100, 103])
  case true => rw [ba_eq (eq_of_beq m18)]; exact .inl (by simp [nms])
  cases m19 : (s.toList == [115, 119, 97, 112])
  case true => rw [ba_eq (eq_of_beq m19)]; exact .inl (by simp [nms])
  cases m20 : (s.toList == [105, 115, 119, 97, 112])
  case true => rw [ba_eq (eq_of_beq m20)]; exact .inl (by simp [nms])
  cases m21 : (s.toList == [105, 115, 119, 97, 112, 100, 103])
  case true => rw [ba_eq (eq_of_beq m21)]; exact .inl (by simp [nms])
  cases m22 : (s.toList == [99, 99, 120])
  case true => rw [ba_eq (eq_of_beq m22)]; exact .inl (by simp [nms])
  cases m23 : (s.toList == [99, 99, 122])
  case true => rw [ba_eq (eq_of_beq m23)]; exact .inl (by simp [nms])
  cases m24 : (s.toList == [99, 115, 119, 97, 112])
  case true => rw [ba_eq (eq_of_beq m24)]; exact .inl (by simp [nms])
  exact .inr ⟨m0, m1, m2, m3, m4, m5, m6, m7, m8, m9, m10, m11, m12, m13, m14, m15, m16, m17, m18, m19, m20, m21, m22, m23, m24⟩
theorem find_none {k : Value} {es : List MapEntry} (h : ∀ e ∈ es, Instr.sameNow .string k e.key = some false) (i : Nat) : Instr.findNow .string k es i = some none := by
  induction es generalizing i with
  | nil => rfl
  | cons e es ih =>
    unfold Instr.findNow
    rw [h e (by simp)]
    exact ih (fun e' he' => h e' (by simp [he'])) (i + 1)
theorem ba_ne {s : ByteArray} {l : List UInt8} (h : (s.toList == l) = false) : (s == ⟨l.toArray⟩) = false := by
  rw [beq_eq_false_iff_ne, ByteArray.toList_eq] at h
  show (s.data == l.toArray) = false
  rw [beq_eq_false_iff_ne]
  intro e
  apply h
  rw [e]
theorem miss_find {s : ByteArray} (H : Miss s) : Instr.findNow .string (.string s) (KA 25).toList 0 = some none := by
  refine find_none (fun e he => ?_) 0
  have hk : ∃ x ∈ kindsL.map (·.1), e.key = .string x := by
    simp only [KA, List.mem_map] at he
    obtain ⟨x, hx, rfl⟩ := he
    refine ⟨x.1.1, ?_, rfl⟩
    have := List.fst_mem_of_mem_zipIdx hx
    exact List.mem_map_of_mem (List.mem_of_mem_take this)
  obtain ⟨x, hx, e1⟩ := hk
  rw [e1]
  show some (s == x) = some false
  have : kindsL.map (·.1) = nms := by kernel_rfl
  rw [this] at hx
  simp only [nms, List.mem_cons, List.not_mem_nil, or_false] at hx
  rcases hx with rfl | rfl | rfl | rfl | rfl | rfl | rfl | rfl | rfl | rfl | rfl | rfl | rfl | rfl | rfl | rfl | rfl | rfl | rfl | rfl | rfl | rfl | rfl | rfl | rfl
  · exact congrArg some (ba_ne H.m0)
  · exact congrArg some (ba_ne H.m1)
  · exact congrArg some (ba_ne H.m2)
  · exact congrArg some (ba_ne H.m3)
  · exact congrArg some (ba_ne H.m4)
  · exact congrArg some (ba_ne H.m5)
  · exact congrArg some (ba_ne H.m6)
  · exact congrArg some (ba_ne H.m7)
  · exact congrArg some (ba_ne H.m8)
  · exact congrArg some (ba_ne H.m9)
  · exact congrArg some (ba_ne H.m10)
  · exact congrArg some (ba_ne H.m11)
  · exact congrArg some (ba_ne H.m12)
  · exact congrArg some (ba_ne H.m13)
  · exact congrArg some (ba_ne H.m14)
  · exact congrArg some (ba_ne H.m15)
  · exact congrArg some (ba_ne H.m16)
  · exact congrArg some (ba_ne H.m17)
  · exact congrArg some (ba_ne H.m18)
  · exact congrArg some (ba_ne H.m19)
  · exact congrArg some (ba_ne H.m20)
  · exact congrArg some (ba_ne H.m21)
  · exact congrArg some (ba_ne H.m22)
  · exact congrArg some (ba_ne H.m23)
  · exact congrArg some (ba_ne H.m24)
theorem Miss.gI {s : ByteArray} (H : Miss s) : gI s = none := by
  unfold Go.Proofs.Ytoddbaljnlhhaab.gI gtab
  simp [H.m0, H.m1, H.m2, H.m3, H.m4, H.m5, H.m6, H.m7, H.m8, H.m9, H.m10, H.m11, H.m12, H.m13, H.m14, H.m15, H.m16, H.m17, H.m18, H.m19, H.m20, H.m21, H.m22, H.m23, H.m24]
theorem arity_any (s : ByteArray) (w : World) : Calls Try.prog 52 #[.string s] w fun e w' => e = .returned (.int .i64 (gar s : Nat)) ∧ Below w.heap.size w w' := by
  rcases hit_or_miss s with h | H
  · simp only [nms, List.mem_cons, List.not_mem_nil, or_false] at h
    rcases h with rfl | rfl | rfl | rfl | rfl | rfl | rfl | rfl | rfl | rfl | rfl | rfl | rfl | rfl | rfl | rfl | rfl | rfl | rfl | rfl | rfl | rfl | rfl | rfl | rfl
    · rw [show gar ⟨#[105]⟩ = 1 by kernel_rfl]; exact arity_hit hit_0 w
    · rw [show gar ⟨#[120]⟩ = 1 by kernel_rfl]; exact arity_hit hit_1 w
    · rw [show gar ⟨#[121]⟩ = 1 by kernel_rfl]; exact arity_hit hit_2 w
    · rw [show gar ⟨#[122]⟩ = 1 by kernel_rfl]; exact arity_hit hit_3 w
    · rw [show gar ⟨#[104]⟩ = 1 by kernel_rfl]; exact arity_hit hit_4 w
    · rw [show gar ⟨#[115]⟩ = 1 by kernel_rfl]; exact arity_hit hit_5 w
    · rw [show gar ⟨#[115, 100, 103]⟩ = 1 by kernel_rfl]; exact arity_hit hit_6 w
    · rw [show gar ⟨#[116]⟩ = 1 by kernel_rfl]; exact arity_hit hit_7 w
    · rw [show gar ⟨#[116, 100, 103]⟩ = 1 by kernel_rfl]; exact arity_hit hit_8 w
    · rw [show gar ⟨#[118]⟩ = 1 by kernel_rfl]; exact arity_hit hit_9 w
    · rw [show gar ⟨#[118, 100, 103]⟩ = 1 by kernel_rfl]; exact arity_hit hit_10 w
    · rw [show gar ⟨#[119]⟩ = 1 by kernel_rfl]; exact arity_hit hit_11 w
    · rw [show gar ⟨#[119, 100, 103]⟩ = 1 by kernel_rfl]; exact arity_hit hit_12 w
    · rw [show gar ⟨#[99, 120]⟩ = 2 by kernel_rfl]; exact arity_hit hit_13 w
    · rw [show gar ⟨#[99, 121]⟩ = 2 by kernel_rfl]; exact arity_hit hit_14 w
    · rw [show gar ⟨#[99, 122]⟩ = 2 by kernel_rfl]; exact arity_hit hit_15 w
    · rw [show gar ⟨#[99, 104]⟩ = 2 by kernel_rfl]; exact arity_hit hit_16 w
    · rw [show gar ⟨#[99, 115]⟩ = 2 by kernel_rfl]; exact arity_hit hit_17 w
    · rw [show gar ⟨#[99, 115, 100, 103]⟩ = 2 by kernel_rfl]; exact arity_hit hit_18 w
    · rw [show gar ⟨#[115, 119, 97, 112]⟩ = 2 by kernel_rfl]; exact arity_hit hit_19 w
    · rw [show gar ⟨#[105, 115, 119, 97, 112]⟩ = 2 by kernel_rfl]; exact arity_hit hit_20 w
    · rw [show gar ⟨#[105, 115, 119, 97, 112, 100, 103]⟩ = 2 by kernel_rfl]; exact arity_hit hit_21 w
    · rw [show gar ⟨#[99, 99, 120]⟩ = 3 by kernel_rfl]; exact arity_hit hit_22 w
    · rw [show gar ⟨#[99, 99, 122]⟩ = 3 by kernel_rfl]; exact arity_hit hit_23 w
    · rw [show gar ⟨#[99, 115, 119, 97, 112]⟩ = 3 by kernel_rfl]; exact arity_hit hit_24 w
  · have e : gar s = 0 := by unfold gar; rw [H.gI]; rfl
    rw [e]
    exact arity_none (miss_find H) w
theorem clifford_any (s : ByteArray) (w : World) : Calls Try.prog 54 #[.string s] w fun e w' => e = .returned (.bool (gcl s)) ∧ Below w.heap.size w w' := by
  rcases hit_or_miss s with h | H
  · simp only [nms, List.mem_cons, List.not_mem_nil, or_false] at h
    rcases h with rfl | rfl | rfl | rfl | rfl | rfl | rfl | rfl | rfl | rfl | rfl | rfl | rfl | rfl | rfl | rfl | rfl | rfl | rfl | rfl | rfl | rfl | rfl | rfl | rfl
    · rw [show gcl ⟨#[105]⟩ = true by kernel_rfl]; exact clifford_hit hit_0 w
    · rw [show gcl ⟨#[120]⟩ = true by kernel_rfl]; exact clifford_hit hit_1 w
    · rw [show gcl ⟨#[121]⟩ = true by kernel_rfl]; exact clifford_hit hit_2 w
    · rw [show gcl ⟨#[122]⟩ = true by kernel_rfl]; exact clifford_hit hit_3 w
    · rw [show gcl ⟨#[104]⟩ = true by kernel_rfl]; exact clifford_hit hit_4 w
    · rw [show gcl ⟨#[115]⟩ = true by kernel_rfl]; exact clifford_hit hit_5 w
    · rw [show gcl ⟨#[115, 100, 103]⟩ = true by kernel_rfl]; exact clifford_hit hit_6 w
    · rw [show gcl ⟨#[116]⟩ = false by kernel_rfl]; exact clifford_hit hit_7 w
    · rw [show gcl ⟨#[116, 100, 103]⟩ = false by kernel_rfl]; exact clifford_hit hit_8 w
    · rw [show gcl ⟨#[118]⟩ = true by kernel_rfl]; exact clifford_hit hit_9 w
    · rw [show gcl ⟨#[118, 100, 103]⟩ = true by kernel_rfl]; exact clifford_hit hit_10 w
    · rw [show gcl ⟨#[119]⟩ = true by kernel_rfl]; exact clifford_hit hit_11 w
    · rw [show gcl ⟨#[119, 100, 103]⟩ = true by kernel_rfl]; exact clifford_hit hit_12 w
    · rw [show gcl ⟨#[99, 120]⟩ = true by kernel_rfl]; exact clifford_hit hit_13 w
    · rw [show gcl ⟨#[99, 121]⟩ = true by kernel_rfl]; exact clifford_hit hit_14 w
    · rw [show gcl ⟨#[99, 122]⟩ = true by kernel_rfl]; exact clifford_hit hit_15 w
    · rw [show gcl ⟨#[99, 104]⟩ = false by kernel_rfl]; exact clifford_hit hit_16 w
    · rw [show gcl ⟨#[99, 115]⟩ = false by kernel_rfl]; exact clifford_hit hit_17 w
    · rw [show gcl ⟨#[99, 115, 100, 103]⟩ = false by kernel_rfl]; exact clifford_hit hit_18 w
    · rw [show gcl ⟨#[115, 119, 97, 112]⟩ = true by kernel_rfl]; exact clifford_hit hit_19 w
    · rw [show gcl ⟨#[105, 115, 119, 97, 112]⟩ = true by kernel_rfl]; exact clifford_hit hit_20 w
    · rw [show gcl ⟨#[105, 115, 119, 97, 112, 100, 103]⟩ = true by kernel_rfl]; exact clifford_hit hit_21 w
    · rw [show gcl ⟨#[99, 99, 120]⟩ = false by kernel_rfl]; exact clifford_hit hit_22 w
    · rw [show gcl ⟨#[99, 99, 122]⟩ = false by kernel_rfl]; exact clifford_hit hit_23 w
    · rw [show gcl ⟨#[99, 115, 119, 97, 112]⟩ = false by kernel_rfl]; exact clifford_hit hit_24 w
  · have e : gcl s = false := by unfold gcl; rw [H.gI]; rfl
    rw [e]
    exact clifford_none (miss_find H) w
/-- What is told of the gates. -/
theorem gates_ok : ∀ s ∈ nms, (gar s = 1 ∨ gar s = 2 ∨ gar s = 3) ∧ ghv s ≤ 1 ∧ gerr s = 0 ∧ gar (giv s) = gar s ∧ ghv (giv s) = ghv s ∧ gcl (giv s) = gcl s ∧ giv (giv s) = s := by
  intro s h
  simp only [nms, List.mem_cons, List.not_mem_nil, or_false] at h
  rcases h with rfl | rfl | rfl | rfl | rfl | rfl | rfl | rfl | rfl | rfl | rfl | rfl | rfl | rfl | rfl | rfl | rfl | rfl | rfl | rfl | rfl | rfl | rfl | rfl | rfl
  all_goals exact ⟨by decide +kernel, by decide +kernel, by decide +kernel, by decide +kernel, by decide +kernel, by decide +kernel, by kernel_rfl⟩
theorem gar_nms (s : ByteArray) (h : gar s ≠ 0) : s ∈ nms := by
  rcases hit_or_miss s with h1 | H
  · exact h1
  · exact absurd (by unfold gar; rw [H.gI]; rfl) h
theorem gar_le (s : ByteArray) : gar s ≤ 3 := by
  by_cases h : gar s = 0
  · omega
  · have := (gates_ok s (gar_nms s h)).1
    omega
theorem ghv_le (s : ByteArray) : ghv s ≤ 1 := by
  rcases hit_or_miss s with h1 | H
  · exact (gates_ok s h1).2.1
  · have e : ghv s = 0 := by unfold ghv; rw [H.gI]; rfl
    omega
end Go.Proofs.Ytoddbaljnlhhaab
