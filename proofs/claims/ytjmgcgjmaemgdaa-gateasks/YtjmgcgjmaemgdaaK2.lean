/-
  The table asked: Arity, Inverse; the names.
-/
import Derived.Test.YtjmgcgjmaemgdaaK1
namespace Go.Proofs.Ytjmgcgjmaemgdaa
open Go.RowKit Go.Sort

theorem zero59 (w : World) : (zeroValue 59).run Try.prog w = .ok (.agg #[.int .i64 0, .int .i64 0, .nilFunc, .int .i64 0, .int .i64 0, .bool false, .bool false, .string ⟨#[]⟩]) w := by kernel_rfl
theorem run_look (s : ByteArray) (i : Nat) (v : Value) (h : Instr.findNow .string (.string s) (KA 25).toList 0 = some (some (i, v))) (ok : Bool) (w : World) :
    (Instr.lookup 60 (.map (some w.heap.size)) (.string s) ok).run Try.prog (w.alloc (.map (KA 25) 25)) = .ok (if ok then .tuple #[v, .bool true] else v) (w.alloc (.map (KA 25) 25)) := by
  have hb := (MapKept.heap_alloc w (.map (KA 25) 25)).1
  have h1 : (Instr.checkKey (KA 25).isEmpty 10000 9 (.string s)).run Try.prog (w.alloc (.map (KA 25) 25)) = .ok () (w.alloc (.map (KA 25) 25)) := MapKept.run_checkKey Try.underlying9 (by simp [MapKept.IsKey]) _ 9999
  have h2 := MapKept.run_findKey (w := w.alloc (.map (KA 25) 25)) Try.underlying9 h
  unfold Instr.lookup
  simp only [Sem.run_bind, Sem.run_pure, run_underlying Try.underlying60, Result.andThen, MapKept.run_getObj_map hb, h1, h2]
theorem run_miss (s : ByteArray) (h : Instr.findNow .string (.string s) (KA 25).toList 0 = some none) (ok : Bool) (w : World) :
    (Instr.lookup 60 (.map (some w.heap.size)) (.string s) ok).run Try.prog (w.alloc (.map (KA 25) 25)) = .ok (if ok then .tuple #[.agg #[.int .i64 0, .int .i64 0, .nilFunc, .int .i64 0, .int .i64 0, .bool false, .bool false, .string ⟨#[]⟩], .bool false] else .agg #[.int .i64 0, .int .i64 0, .nilFunc, .int .i64 0, .int .i64 0, .bool false, .bool false, .string ⟨#[]⟩]) (w.alloc (.map (KA 25) 25)) := by
  have hb := (MapKept.heap_alloc w (.map (KA 25) 25)).1
  have h1 : (Instr.checkKey (KA 25).isEmpty 10000 9 (.string s)).run Try.prog (w.alloc (.map (KA 25) 25)) = .ok () (w.alloc (.map (KA 25) 25)) := MapKept.run_checkKey Try.underlying9 (by simp [MapKept.IsKey]) _ 9999
  have h2 := MapKept.run_findKey (w := w.alloc (.map (KA 25) 25)) Try.underlying9 h
  unfold Instr.lookup
  simp only [Sem.run_bind, Sem.run_pure, run_underlying Try.underlying60, Result.andThen, MapKept.run_getObj_map hb, h1, h2, zero59]

/-- The table holds this at the name. -/
abbrev Hit (s : ByteArray) (i : Nat) (q c : Int) (f : Nat) (p h : Int) (cl di : Bool) (inv : ByteArray) : Prop := Instr.findNow .string (.string s) (KA 25).toList 0 = some (some (i, kd q c f p h cl di inv))
theorem below_map (w : World) : Below w.heap.size w (w.alloc (.map (KA 25) 25)) := bal (Below.refl _ _) _
theorem field0 (q c : Int) (f : Nat) (p h : Int) (cl di : Bool) (inv : ByteArray) (w : World) : (Instr.field 59 (kd q c f p h cl di inv) 0).run Try.prog w = .ok (.int .i64 q) w := by kernel_rfl
set_option maxRecDepth 100000 in
set_option maxHeartbeats 400000 in
theorem arity_hit {s : ByteArray} {i : Nat} {q c : Int} {f : Nat} {p h : Int} {cl di : Bool} {inv : ByteArray} (H : Hit s i q c f p h cl di inv) (w : World) : Calls Try.prog 8 #[.string s] w fun e w' => e = .returned (.int .i64 q) ∧ Below w.heap.size w w' := by
  have K := kinds_any w
  have L := run_look s i _ H false
  have F := field0 q c f p h cl di inv
  have hW := below_map w
  clear H
  generalize KA 25 = ka at *
  go_enter Try.func8, Try.ntmps8
  go_wp2_with (go_at_call 30; (with_reducible refine K.mono ?_); rintro e w1 ⟨rfl, rfl⟩)
  go_ret
  exact ⟨rfl, hW⟩
set_option maxRecDepth 100000 in
set_option maxHeartbeats 400000 in
theorem inverse_hit {s : ByteArray} {i : Nat} {q c : Int} {f : Nat} {p h : Int} {cl di : Bool} {inv : ByteArray} (H : Hit s i q c f p h cl di inv) (w : World) : Calls Try.prog 16 #[.string s] w fun e w' => e = .returned (.tuple #[.string inv, .int .i64 0]) ∧ Below w.heap.size w w' := by
  have K := kinds_any w
  have L := run_look s i _ H true
  have hW := below_map w
  clear H
  generalize KA 25 = ka at *
  go_enter Try.func16, Try.ntmps16
  go_wp2_with (go_at_call 30; (with_reducible refine K.mono ?_); rintro e w1 ⟨rfl, rfl⟩)
  go_ret2
  exact ⟨rfl, bal hW _⟩
set_option maxRecDepth 100000 in
set_option maxHeartbeats 400000 in
theorem inverse_miss {s : ByteArray} (H : Instr.findNow .string (.string s) (KA 25).toList 0 = some none) (w : World) : Calls Try.prog 16 #[.string s] w fun e w' => e = .returned (.tuple #[.string ⟨#[]⟩, .int .i64 80]) ∧ Below w.heap.size w w' := by
  have K := kinds_any w
  have L := run_miss s H true
  have hW := below_map w
  clear H
  generalize KA 25 = ka at *
  go_enter Try.func16, Try.ntmps16
  go_wp2_with (go_at_call 30; (with_reducible refine K.mono ?_); rintro e w1 ⟨rfl, rfl⟩)
  go_ret2
  exact ⟨rfl, bal hW _⟩
/-- The names in their order. -/
def nms : List ByteArray := kindsL.map (·.1)
abbrev NA : Array Value := (nms.map Value.string).toArray
set_option maxRecDepth 100000 in
set_option maxHeartbeats 400000 in
theorem names_any (w : World) : Calls Try.prog 24 #[] w fun e w' => e = .returned (.slice (some ⟨w.heap.size, 0, none⟩) 25 25) ∧ w' = w.alloc (.cells NA 9) := by
  go_enter Try.func24, Try.ntmps24
  go_wp2
  go_ret
  exact ⟨rfl, rfl⟩
set_option maxRecDepth 100000 in
set_option maxHeartbeats 400000 in
theorem rnames_any (w : World) : Calls Try.prog 23 #[] w fun e w' => e = .returned (.slice (some ⟨w.heap.size, 0, none⟩) 25 25) ∧ w' = w.alloc (.cells NA 9) := by
  go_enter Try.func23, Try.ntmps23
  go_wp2
  go_ret
  exact ⟨rfl, rfl⟩
end Go.Proofs.Ytjmgcgjmaemgdaa
