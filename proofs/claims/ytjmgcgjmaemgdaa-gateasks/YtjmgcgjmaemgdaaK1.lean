/-
  The table of the gates: the map that gate.kinds makes.
-/
import Derived.Test.YtjmgcgjmaemgdaaE3
import Derived.MapKept
namespace Go.Proofs.Ytjmgcgjmaemgdaa
open Go.RowKit Go.Sort

theorem push_set (h : Array Obj) (o o' : Obj) : (h.push o).setIfInBounds h.size o' = h.push o' := by
  apply Array.ext
  · simp
  · intro i h1 h2
    simp at h1 h2
    by_cases hi : i = h.size
    · subst hi; simp
    · rw [Array.getElem_setIfInBounds]
      · rw [if_neg (fun e => hi e.symm)]
        rw [Array.getElem_push_lt (by omega), Array.getElem_push_lt (by omega)]
      · simp; omega
theorem setLast (w : World) (o o' : Obj) : { w.alloc o with heap := (w.alloc o).heap.setIfInBounds w.heap.size o' } = w.alloc o' := by
  unfold World.alloc
  simp only [push_set]
theorem run_insert (es es' : Array MapEntry) (n : Nat) (s : ByteArray) (v : Value) (w : World) (hf : Instr.findNow .string (.string s) es.toList 0 = some none) (he : es.push ⟨.string s, v, n⟩ = es') :
    (Instr.mapUpdate 60 (.map (some w.heap.size)) (.string s) v).run Try.prog (w.alloc (.map es n)) = .ok () (w.alloc (.map es' (n + 1))) := by
  subst he
  have hb := (MapKept.heap_alloc w (.map es n)).1
  have h1 : (Instr.checkKey false 10000 9 (.string s)).run Try.prog (w.alloc (.map es n)) = .ok () (w.alloc (.map es n)) := MapKept.run_checkKey Try.underlying9 (by simp [MapKept.IsKey]) false 9999
  have h2 := MapKept.run_findKey (w := w.alloc (.map es n)) Try.underlying9 hf
  unfold Instr.mapUpdate
  simp only [Sem.run_bind, run_underlying Try.underlying60, Result.andThen, MapKept.run_getObj_map hb, h1, h2, MapKept.run_setObj_map _ hb, setLast]
/-- What is known of a gate, as a value. -/
abbrev kd (q c : Int) (f : Nat) (p h : Int) (cl di : Bool) (inv : ByteArray) : Value := .agg #[.int .i64 q, .int .i64 c, .func (.func f) #[] #[], .int .i64 p, .int .i64 h, .bool cl, .bool di, .string inv]
/-- The gates in the table's order. -/
def kindsL : List (ByteArray × Value) := [
  (⟨#[105]⟩, kd 1 0 42 0 0 true true ⟨#[105]⟩),
  (⟨#[120]⟩, kd 1 0 43 0 0 true false ⟨#[120]⟩),
  (⟨#[121]⟩, kd 1 0 43 2 0 true false ⟨#[121]⟩),
  (⟨#[122]⟩, kd 1 0 42 4 0 true true ⟨#[122]⟩),
  (⟨#[104]⟩, kd 1 0 44 0 1 true false ⟨#[104]⟩),
  (⟨#[115]⟩, kd 1 0 42 2 0 true true ⟨#[115, 100, 103]⟩),
  (⟨#[115, 100, 103]⟩, kd 1 0 42 (-2) 0 true true ⟨#[115]⟩),
  (⟨#[116]⟩, kd 1 0 42 1 0 false true ⟨#[116, 100, 103]⟩),
  (⟨#[116, 100, 103]⟩, kd 1 0 42 (-1) 0 false true ⟨#[116]⟩),
  (⟨#[118]⟩, kd 1 0 45 1 1 true false ⟨#[118, 100, 103]⟩),
  (⟨#[118, 100, 103]⟩, kd 1 0 45 (-1) 1 true false ⟨#[118]⟩),
  (⟨#[119]⟩, kd 1 0 46 1 0 true true ⟨#[119, 100, 103]⟩),
  (⟨#[119, 100, 103]⟩, kd 1 0 46 (-1) 0 true true ⟨#[119]⟩),
  (⟨#[99, 120]⟩, kd 2 1 43 0 0 true false ⟨#[99, 120]⟩),
  (⟨#[99, 121]⟩, kd 2 1 43 2 0 true false ⟨#[99, 121]⟩),
  (⟨#[99, 122]⟩, kd 2 1 42 4 0 true true ⟨#[99, 122]⟩),
  (⟨#[99, 104]⟩, kd 2 1 44 0 1 false false ⟨#[99, 104]⟩),
  (⟨#[99, 115]⟩, kd 2 1 42 2 0 false true ⟨#[99, 115, 100, 103]⟩),
  (⟨#[99, 115, 100, 103]⟩, kd 2 1 42 (-2) 0 false true ⟨#[99, 115]⟩),
  (⟨#[115, 119, 97, 112]⟩, kd 2 0 47 0 0 true false ⟨#[115, 119, 97, 112]⟩),
  (⟨#[105, 115, 119, 97, 112]⟩, kd 2 0 47 2 0 true false ⟨#[105, 115, 119, 97, 112, 100, 103]⟩),
  (⟨#[105, 115, 119, 97, 112, 100, 103]⟩, kd 2 0 47 (-2) 0 true false ⟨#[105, 115, 119, 97, 112]⟩),
  (⟨#[99, 99, 120]⟩, kd 3 2 43 0 0 false false ⟨#[99, 99, 120]⟩),
  (⟨#[99, 99, 122]⟩, kd 3 2 42 4 0 false true ⟨#[99, 99, 122]⟩),
  (⟨#[99, 115, 119, 97, 112]⟩, kd 3 1 47 0 0 false false ⟨#[99, 115, 119, 97, 112]⟩)]
/-- The map's first i entries. -/
def KA (i : Nat) : Array MapEntry := ((kindsL.take i).zipIdx.map fun x => ⟨.string x.1.1, x.1.2, x.2⟩).toArray
set_option maxRecDepth 100000 in
set_option maxHeartbeats 4000000 in
theorem kinds_any (w : World) : Calls Try.prog 30 #[] w fun e w' => e = .returned (.map (some w.heap.size)) ∧ w' = w.alloc (.map (KA 25) 25) := by
  have hmm := @run_makeMap Try.prog
  have h0 : (Instr.mapUpdate 60 (.map (some w.heap.size)) (.string ⟨#[105]⟩) (kd 1 0 42 0 0 true true ⟨#[105]⟩)).run Try.prog (w.alloc (.map #[] 0)) = .ok () (w.alloc (.map (KA 1) 1)) := run_insert #[] (KA 1) 0 _ _ w rfl rfl
  have h1 : (Instr.mapUpdate 60 (.map (some w.heap.size)) (.string ⟨#[120]⟩) (kd 1 0 43 0 0 true false ⟨#[120]⟩)).run Try.prog (w.alloc (.map (KA 1) 1)) = .ok () (w.alloc (.map (KA 2) 2)) := run_insert (KA 1) (KA 2) 1 _ _ w rfl rfl
  have h2 : (Instr.mapUpdate 60 (.map (some w.heap.size)) (.string ⟨#[121]⟩) (kd 1 0 43 2 0 true false ⟨#[121]⟩)).run Try.prog (w.alloc (.map (KA 2) 2)) = .ok () (w.alloc (.map (KA 3) 3)) := run_insert (KA 2) (KA 3) 2 _ _ w rfl rfl
  have h3 : (Instr.mapUpdate 60 (.map (some w.heap.size)) (.string ⟨#[122]⟩) (kd 1 0 42 4 0 true true ⟨#[122]⟩)).run Try.prog (w.alloc (.map (KA 3) 3)) = .ok () (w.alloc (.map (KA 4) 4)) := run_insert (KA 3) (KA 4) 3 _ _ w rfl rfl
  have h4 : (Instr.mapUpdate 60 (.map (some w.heap.size)) (.string ⟨#[104]⟩) (kd 1 0 44 0 1 true false ⟨#[104]⟩)).run Try.prog (w.alloc (.map (KA 4) 4)) = .ok () (w.alloc (.map (KA 5) 5)) := run_insert (KA 4) (KA 5) 4 _ _ w rfl rfl
  have h5 : (Instr.mapUpdate 60 (.map (some w.heap.size)) (.string ⟨#[115]⟩) (kd 1 0 42 2 0 true true ⟨#[115, 100, 103]⟩)).run Try.prog (w.alloc (.map (KA 5) 5)) = .ok () (w.alloc (.map (KA 6) 6)) := run_insert (KA 5) (KA 6) 5 _ _ w rfl rfl
  have h6 : (Instr.mapUpdate 60 (.map (some w.heap.size)) (.string ⟨#[115, 100, 103]⟩) (kd 1 0 42 (-2) 0 true true ⟨#[115]⟩)).run Try.prog (w.alloc (.map (KA 6) 6)) = .ok () (w.alloc (.map (KA 7) 7)) := run_insert (KA 6) (KA 7) 6 _ _ w rfl rfl
  have h7 : (Instr.mapUpdate 60 (.map (some w.heap.size)) (.string ⟨#[116]⟩) (kd 1 0 42 1 0 false true ⟨#[116, 100, 103]⟩)).run Try.prog (w.alloc (.map (KA 7) 7)) = .ok () (w.alloc (.map (KA 8) 8)) := run_insert (KA 7) (KA 8) 7 _ _ w rfl rfl
  have h8 : (Instr.mapUpdate 60 (.map (some w.heap.size)) (.string ⟨#[116, 100, 103]⟩) (kd 1 0 42 (-1) 0 false true ⟨#[116]⟩)).run Try.prog (w.alloc (.map (KA 8) 8)) = .ok () (w.alloc (.map (KA 9) 9)) := run_insert (KA 8) (KA 9) 8 _ _ w rfl rfl
  have h9 : (Instr.mapUpdate 60 (.map (some w.heap.size)) (.string ⟨#[118]⟩) (kd 1 0 45 1 1 true false ⟨#[118, 100, 103]⟩)).run Try.prog (w.alloc (.map (KA 9) 9)) = .ok () (w.alloc (.map (KA 10) 10)) := run_insert (KA 9) (KA 10) 9 _ _ w rfl rfl
  have h10 : (Instr.mapUpdate 60 (.map (some w.heap.size)) (.string ⟨#[118, 100, 103]⟩) (kd 1 0 45 (-1) 1 true false ⟨#[118]⟩)).run Try.prog (w.alloc (.map (KA 10) 10)) = .ok () (w.alloc (.map (KA 11) 11)) := run_insert (KA 10) (KA 11) 10 _ _ w rfl rfl
  have h11 : (Instr.mapUpdate 60 (.map (some w.heap.size)) (.string ⟨#[119]⟩) (kd 1 0 46 1 0 true true ⟨#[119, 100, 103]⟩)).run Try.prog (w.alloc (.map (KA 11) 11)) = .ok () (w.alloc (.map (KA 12) 12)) := run_insert (KA 11) (KA 12) 11 _ _ w rfl rfl
  have h12 : (Instr.mapUpdate 60 (.map (some w.heap.size)) (.string ⟨#[119, 100, 103]⟩) (kd 1 0 46 (-1) 0 true true ⟨#[119]⟩)).run Try.prog (w.alloc (.map (KA 12) 12)) = .ok () (w.alloc (.map (KA 13) 13)) := run_insert (KA 12) (KA 13) 12 _ _ w rfl rfl
  have h13 : (Instr.mapUpdate 60 (.map (some w.heap.size)) (.string ⟨#[99, 120]⟩) (kd 2 1 43 0 0 true false ⟨#[99, 120]⟩)).run Try.prog (w.alloc (.map (KA 13) 13)) = .ok () (w.alloc (.map (KA 14) 14)) := run_insert (KA 13) (KA 14) 13 _ _ w rfl rfl
  have h14 : (Instr.mapUpdate 60 (.map (some w.heap.size)) (.string ⟨#[99, 121]⟩) (kd 2 1 43 2 0 true false ⟨#[99, 121]⟩)).run Try.prog (w.alloc (.map (KA 14) 14)) = .ok () (w.alloc (.map (KA 15) 15)) := run_insert (KA 14) (KA 15) 14 _ _ w rfl rfl
  have h15 : (Instr.mapUpdate 60 (.map (some w.heap.size)) (.string ⟨#[99, 122]⟩) (kd 2 1 42 4 0 true true ⟨#[99, 122]⟩)).run Try.prog (w.alloc (.map (KA 15) 15)) = .ok () (w.alloc (.map (KA 16) 16)) := run_insert (KA 15) (KA 16) 15 _ _ w rfl rfl
  have h16 : (Instr.mapUpdate 60 (.map (some w.heap.size)) (.string ⟨#[99, 104]⟩) (kd 2 1 44 0 1 false false ⟨#[99, 104]⟩)).run Try.prog (w.alloc (.map (KA 16) 16)) = .ok () (w.alloc (.map (KA 17) 17)) := run_insert (KA 16) (KA 17) 16 _ _ w rfl rfl
  have h17 : (Instr.mapUpdate 60 (.map (some w.heap.size)) (.string ⟨#[99, 115]⟩) (kd 2 1 42 2 0 false true ⟨#[99, 115, 100, 103]⟩)).run Try.prog (w.alloc (.map (KA 17) 17)) = .ok () (w.alloc (.map (KA 18) 18)) := run_insert (KA 17) (KA 18) 17 _ _ w rfl rfl
  have h18 : (Instr.mapUpdate 60 (.map (some w.heap.size)) (.string ⟨#[99, 115, 100, 103]⟩) (kd 2 1 42 (-2) 0 false true ⟨#[99, 115]⟩)).run Try.prog (w.alloc (.map (KA 18) 18)) = .ok () (w.alloc (.map (KA 19) 19)) := run_insert (KA 18) (KA 19) 18 _ _ w rfl rfl
  have h19 : (Instr.mapUpdate 60 (.map (some w.heap.size)) (.string ⟨#[115, 119, 97, 112]⟩) (kd 2 0 47 0 0 true false ⟨#[115, 119, 97, 112]⟩)).run Try.prog (w.alloc (.map (KA 19) 19)) = .ok () (w.alloc (.map (KA 20) 20)) := run_insert (KA 19) (KA 20) 19 _ _ w rfl rfl
  have h20 : (Instr.mapUpdate 60 (.map (some w.heap.size)) (.string ⟨#[105, 115, 119, 97, 112]⟩) (kd 2 0 47 2 0 true false ⟨#[105, 115, 119, 97, 112, 100, 103]⟩)).run Try.prog (w.alloc (.map (KA 20) 20)) = .ok () (w.alloc (.map (KA 21) 21)) := run_insert (KA 20) (KA 21) 20 _ _ w rfl rfl
  have h21 : (Instr.mapUpdate 60 (.map (some w.heap.size)) (.string ⟨#[105, 115, 119, 97, 112, 100, 103]⟩) (kd 2 0 47 (-2) 0 true false ⟨#[105, 115, 119, 97, 112]⟩)).run Try.prog (w.alloc (.map (KA 21) 21)) = .ok () (w.alloc (.map (KA 22) 22)) := run_insert (KA 21) (KA 22) 21 _ _ w rfl rfl
  have h22 : (Instr.mapUpdate 60 (.map (some w.heap.size)) (.string ⟨#[99, 99, 120]⟩) (kd 3 2 43 0 0 false false ⟨#[99, 99, 120]⟩)).run Try.prog (w.alloc (.map (KA 22) 22)) = .ok () (w.alloc (.map (KA 23) 23)) := run_insert (KA 22) (KA 23) 22 _ _ w rfl rfl
  have h23 : (Instr.mapUpdate 60 (.map (some w.heap.size)) (.string ⟨#[99, 99, 122]⟩) (kd 3 2 42 4 0 false true ⟨#[99, 99, 122]⟩)).run Try.prog (w.alloc (.map (KA 23) 23)) = .ok () (w.alloc (.map (KA 24) 24)) := run_insert (KA 23) (KA 24) 23 _ _ w rfl rfl
  have h24 : (Instr.mapUpdate 60 (.map (some w.heap.size)) (.string ⟨#[99, 115, 119, 97, 112]⟩) (kd 3 1 47 0 0 false false ⟨#[99, 115, 119, 97, 112]⟩)).run Try.prog (w.alloc (.map (KA 24) 24)) = .ok () (w.alloc (.map (KA 25) 25)) := run_insert (KA 24) (KA 25) 24 _ _ w rfl rfl
  go_enter Try.func30, Try.ntmps30
  go_wp2
  go_ret
  exact ⟨rfl, rfl⟩
end Go.Proofs.Ytjmgcgjmaemgdaa
