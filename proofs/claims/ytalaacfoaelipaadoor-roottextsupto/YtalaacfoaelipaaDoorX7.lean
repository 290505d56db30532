/-
  The law RootTexts.
-/
import Derived.Test.YtalaacfoaelipaaDoorX6
import Derived.Test.YtalaacfoaelipaaDoorV12
import Derived.Test.YtalaacfoaelipaaDoorV6
import Derived.Test.YtalaacfoaelipaaDoorAwake
namespace Go.Proofs.YtalaacfoaelipaaDoor
open Go.RowKit Go.Sort

/-- A call that tells e. -/
def Tl (f : FuncId) (args : Array Value) (v : Value) : Prop := ∀ w, VR w → Calls Tryd.prog f args w fun r w' => r = .returned v ∧ Below w.heap.size w w'
theorem Tl.at {f : FuncId} {args : Array Value} {v : Value} (h : Tl f args v) {a w : World} (hV : Hid (VR a)) (hb : Below a.heap.size a w) : Calls Tryd.prog f args w fun r w' => r = .returned v ∧ Below w.heap.size w w' := h w (hV.out.below hb)
theorem run_bits30 (b : Nat) (w : World) : (callFunc 30 #[.float .f64 b]).run Tryd.prog w = .ok (.value (.int .u64 b)) w := by
  rw [run_callFunc_extern Tryd.func30 (by kernel_rfl) (by kernel_rfl) (by kernel_rfl) (e := Extern.MathFloatBits.float64bits) (by kernel_rfl) #[.float .f64 b] w]
  rfl
/-- A block that holds a root. -/
structure RX (W : World) (B : Nat) (p q k : Int) : Prop where
  c0 : W.cell? ⟨B, 0, none⟩ = some (.int .i64 p)
  c1 : W.cell? ⟨B, 1, none⟩ = some (.int .i64 q)
  c2 : W.cell? ⟨B, 2, none⟩ = some (.int .i64 k)
theorem RX.below {W W' : World} {B : Nat} {p q k : Int} (h : RX W B p q k) (hb : Below W.heap.size W W') : RX W' B p q k := by
  obtain ⟨hc, hf⟩ := bcell hb
  have hl : B < W.heap.size := block_lt_of_cell h.c0
  exact ⟨(hc _ _ hl).trans h.c0, (hc _ _ hl).trans h.c1, (hc _ _ hl).trans h.c2⟩
theorem RX.alloc {W : World} {B : Nat} {p q k : Int} (h : RX W B p q k) (o : Obj) : RX (W.alloc o) B p q k := h.below (bal (Below.refl _ _) _)
theorem RX.new (W : World) (p q k : Int) : RX (W.alloc (.cells #[.int .i64 p, .int .i64 q, .int .i64 k] 23)) W.heap.size p q k where
  c0 := by rw [World.cell?_alloc_at _ _ _ _ rfl]; rfl
  c1 := by rw [World.cell?_alloc_at _ _ _ _ rfl]; rfl
  c2 := by rw [World.cell?_alloc_at _ _ _ _ rfl]; rfl
set_option maxHeartbeats 4000000 in
theorem texts_00 (x1 x2 x3 y1 y2 y3 : Int) (s u : ByteArray) (z : Nat) (w : World) (hV : VR w)
    (A : Tl 9 #[] (.bool true))
    (F24 : Tl 24 #[.agg #[.int .i64 x1, .int .i64 x2, .int .i64 x3]] (.tuple #[.float .f64 z, .int .i64 0]))
    (F25 : Tl 25 #[.agg #[.int .i64 x1, .int .i64 x2, .int .i64 x3]] (.tuple #[.float .f64 z, .int .i64 0]))
    (T26 : Tl 26 #[.agg #[.int .i64 x1, .int .i64 x2, .int .i64 x3]] (.tuple #[.string u, .int .i64 0]))
    (T27 : Tl 27 #[.agg #[.int .i64 x1, .int .i64 x2, .int .i64 x3]] (.tuple #[.string u, .int .i64 0]))
    (P28 : Tl 28 #[.string s] (.tuple #[.agg #[.int .i64 y1, .int .i64 y2, .int .i64 y3], .int .i64 0]))
    (P29 : Tl 29 #[.string s] (.tuple #[.agg #[.int .i64 y1, .int .i64 y2, .int .i64 y3], .int .i64 0]))
    (U29 : Tl 29 #[.string u] (.tuple #[.agg #[.int .i64 x1, .int .i64 x2, .int .i64 x3], .int .i64 0]))
    (Y27 : Tl 27 #[.agg #[.int .i64 y1, .int .i64 y2, .int .i64 y3]] (.tuple #[.string s, .int .i64 0])) :
    Calls Tryd.prog 6 #[.agg #[.int .i64 x1, .int .i64 x2, .int .i64 x3], .string s] w fun x w' => x = .returned (.bool true) ∧ Below w.heap.size w w' := by
  have HV : Hid (VR w) := hV
  clear hV
  have hB0 := Below.refl w.heap.size w
  have qs := same_text s
  have qu := same_text u
  have B30 := run_bits30 z
  have rA0 := RX.new w x1 x2 x3
  go_enter Tryd.func6, Tryd.ntmps6
  go_wp2_with (first
    | (go_at_call 9; (with_reducible refine (A.at HV (bal hB0 _)).mono ?_); rintro e w1 ⟨rfl, hN1⟩; have hB1 := btr (bal hB0 _) hN1; have rA1 := rA0.below hN1; have ⟨a1, a2, a3⟩ := rA1)
    | (go_at_call 24; (with_reducible refine (F24.at HV hB1).mono ?_); rintro e w2 ⟨rfl, hN2⟩; have hB2 := btr hB1 hN2; have rA2 := rA1.below hN2; clear a1 a2 a3; have ⟨a1, a2, a3⟩ := rA2)
    | (go_at_call 25; (with_reducible refine (F25.at HV hB2).mono ?_); rintro e w3 ⟨rfl, hN3⟩; have hB3 := btr hB2 hN3; have rA3 := rA2.below hN3; clear a1 a2 a3; have ⟨a1, a2, a3⟩ := rA3)
    | (go_at_call 26; (with_reducible refine (T26.at HV hB3).mono ?_); rintro e w4 ⟨rfl, hN4⟩; have hB4 := btr hB3 hN4; have rA4 := rA3.below hN4; clear a1 a2 a3; have ⟨a1, a2, a3⟩ := rA4)
    | (go_at_call 27; (with_reducible refine (T27.at HV hB4).mono ?_); rintro e w5 ⟨rfl, hN5⟩; have hB5 := btr hB4 hN5; have rA5 := rA4.below hN5; clear a1 a2 a3 T27)
    | (go_at_call 28; (with_reducible refine (P28.at HV hB5).mono ?_); rintro e w6 ⟨rfl, hN6⟩; have hB6 := btr hB5 hN6; have rA6 := rA5.below hN6; have rB6 := RX.new w6 y1 y2 y3)
    | (go_at_call 29; (with_reducible refine (P29.at HV (bal hB6 _)).mono ?_); rintro e w7 ⟨rfl, hN7⟩; have hB7 := btr (bal hB6 _) hN7; have rA7 := (rA6.alloc _).below hN7; have rB7 := rB6.below hN7; have rC7 := RX.new w7 y1 y2 y3; have ⟨b1, b2, b3⟩ := rB7.alloc (.cells #[.int .i64 y1, .int .i64 y2, .int .i64 y3] 23); have ⟨c1, c2, c3⟩ := rC7; clear P29)
    | (go_at_call 29; (with_reducible refine (U29.at HV (bal hB7 _)).mono ?_); rintro e w8 ⟨rfl, hN8⟩; have hB8 := btr (bal hB7 _) hN8; have rA8 := (rA7.alloc _).below hN8; have rC8 := rC7.below hN8; have rD8 := RX.new w8 x1 x2 x3; have ⟨a1, a2, a3⟩ := rA8.alloc (.cells #[.int .i64 x1, .int .i64 x2, .int .i64 x3] 23); have ⟨d1, d2, d3⟩ := rD8; have ⟨c1', c2', c3'⟩ := rC8.alloc (.cells #[.int .i64 x1, .int .i64 x2, .int .i64 x3] 23))
    | (go_at_call 27; (with_reducible refine (Y27.at HV (bal hB8 _)).mono ?_); rintro e w9 ⟨rfl, hN9⟩; have hB9 := btr (bal hB8 _) hN9))
  go_ret
  exact ⟨rfl, hB9⟩
set_option maxHeartbeats 4000000 in
theorem texts_02 (x1 x2 x3 y1 y2 y3 : Int) (s u : ByteArray) (z : Nat) (w : World) (hV : VR w)
    (A : Tl 9 #[] (.bool true))
    (F24 : Tl 24 #[.agg #[.int .i64 x1, .int .i64 x2, .int .i64 x3]] (.tuple #[.float .f64 z, .int .i64 0]))
    (F25 : Tl 25 #[.agg #[.int .i64 x1, .int .i64 x2, .int .i64 x3]] (.tuple #[.float .f64 z, .int .i64 0]))
    (T26 : Tl 26 #[.agg #[.int .i64 x1, .int .i64 x2, .int .i64 x3]] (.tuple #[.string u, .int .i64 0]))
    (T27 : Tl 27 #[.agg #[.int .i64 x1, .int .i64 x2, .int .i64 x3]] (.tuple #[.string u, .int .i64 0]))
    (P28 : Tl 28 #[.string s] (.tuple #[.agg #[.int .i64 y1, .int .i64 y2, .int .i64 y3], .int .i64 22]))
    (P29 : Tl 29 #[.string s] (.tuple #[.agg #[.int .i64 y1, .int .i64 y2, .int .i64 y3], .int .i64 22]))
    (U29 : Tl 29 #[.string u] (.tuple #[.agg #[.int .i64 x1, .int .i64 x2, .int .i64 x3], .int .i64 0])) :
    Calls Tryd.prog 6 #[.agg #[.int .i64 x1, .int .i64 x2, .int .i64 x3], .string s] w fun x w' => x = .returned (.bool true) ∧ Below w.heap.size w w' := by
  have HV : Hid (VR w) := hV
  clear hV
  have hB0 := Below.refl w.heap.size w
  have qs := same_text s
  have qu := same_text u
  have B30 := run_bits30 z
  have rA0 := RX.new w x1 x2 x3
  go_enter Tryd.func6, Tryd.ntmps6
  go_wp2_with (first
    | (go_at_call 9; (with_reducible refine (A.at HV (bal hB0 _)).mono ?_); rintro e w1 ⟨rfl, hN1⟩; have hB1 := btr (bal hB0 _) hN1; have rA1 := rA0.below hN1; have ⟨a1, a2, a3⟩ := rA1)
    | (go_at_call 24; (with_reducible refine (F24.at HV hB1).mono ?_); rintro e w2 ⟨rfl, hN2⟩; have hB2 := btr hB1 hN2; have rA2 := rA1.below hN2; clear a1 a2 a3; have ⟨a1, a2, a3⟩ := rA2)
    | (go_at_call 25; (with_reducible refine (F25.at HV hB2).mono ?_); rintro e w3 ⟨rfl, hN3⟩; have hB3 := btr hB2 hN3; have rA3 := rA2.below hN3; clear a1 a2 a3; have ⟨a1, a2, a3⟩ := rA3)
    | (go_at_call 26; (with_reducible refine (T26.at HV hB3).mono ?_); rintro e w4 ⟨rfl, hN4⟩; have hB4 := btr hB3 hN4; have rA4 := rA3.below hN4; clear a1 a2 a3; have ⟨a1, a2, a3⟩ := rA4)
    | (go_at_call 27; (with_reducible refine (T27.at HV hB4).mono ?_); rintro e w5 ⟨rfl, hN5⟩; have hB5 := btr hB4 hN5; have rA5 := rA4.below hN5; clear a1 a2 a3 T27)
    | (go_at_call 28; (with_reducible refine (P28.at HV hB5).mono ?_); rintro e w6 ⟨rfl, hN6⟩; have hB6 := btr hB5 hN6; have rA6 := rA5.below hN6; have rB6 := RX.new w6 y1 y2 y3)
    | (go_at_call 29; (with_reducible refine (P29.at HV (bal hB6 _)).mono ?_); rintro e w7 ⟨rfl, hN7⟩; have hB7 := btr (bal hB6 _) hN7; have rA7 := (rA6.alloc _).below hN7; have rB7 := rB6.below hN7; have rC7 := RX.new w7 y1 y2 y3; have ⟨b1, b2, b3⟩ := rB7.alloc (.cells #[.int .i64 y1, .int .i64 y2, .int .i64 y3] 23); have ⟨c1, c2, c3⟩ := rC7; clear P29)
    | (go_at_call 29; (with_reducible refine (U29.at HV (bal hB7 _)).mono ?_); rintro e w8 ⟨rfl, hN8⟩; have hB8 := btr (bal hB7 _) hN8; have rA8 := (rA7.alloc _).below hN8; have rC8 := rC7.below hN8; have rD8 := RX.new w8 x1 x2 x3; have ⟨a1, a2, a3⟩ := rA8.alloc (.cells #[.int .i64 x1, .int .i64 x2, .int .i64 x3] 23); have ⟨d1, d2, d3⟩ := rD8; have ⟨c1', c2', c3'⟩ := rC8.alloc (.cells #[.int .i64 x1, .int .i64 x2, .int .i64 x3] 23)))
  go_ret
  exact ⟨rfl, bal hB8 _⟩
set_option maxHeartbeats 4000000 in
theorem texts_20 (x1 x2 x3 y1 y2 y3 : Int) (s u : ByteArray) (z : Nat) (w : World) (hV : VR w)
    (A : Tl 9 #[] (.bool true))
    (F24 : Tl 24 #[.agg #[.int .i64 x1, .int .i64 x2, .int .i64 x3]] (.tuple #[.float .f64 z, .int .i64 2]))
    (F25 : Tl 25 #[.agg #[.int .i64 x1, .int .i64 x2, .int .i64 x3]] (.tuple #[.float .f64 z, .int .i64 2]))
    (T26 : Tl 26 #[.agg #[.int .i64 x1, .int .i64 x2, .int .i64 x3]] (.tuple #[.string u, .int .i64 2]))
    (T27 : Tl 27 #[.agg #[.int .i64 x1, .int .i64 x2, .int .i64 x3]] (.tuple #[.string u, .int .i64 2]))
    (P28 : Tl 28 #[.string s] (.tuple #[.agg #[.int .i64 y1, .int .i64 y2, .int .i64 y3], .int .i64 0]))
    (P29 : Tl 29 #[.string s] (.tuple #[.agg #[.int .i64 y1, .int .i64 y2, .int .i64 y3], .int .i64 0]))
    (Y27 : Tl 27 #[.agg #[.int .i64 y1, .int .i64 y2, .int .i64 y3]] (.tuple #[.string s, .int .i64 0])) :
    Calls Tryd.prog 6 #[.agg #[.int .i64 x1, .int .i64 x2, .int .i64 x3], .string s] w fun x w' => x = .returned (.bool true) ∧ Below w.heap.size w w' := by
  have HV : Hid (VR w) := hV
  clear hV
  have hB0 := Below.refl w.heap.size w
  have qs := same_text s
  have qu := same_text u
  have B30 := run_bits30 z
  have rA0 := RX.new w x1 x2 x3
  go_enter Tryd.func6, Tryd.ntmps6
  go_wp2_with (first
    | (go_at_call 9; (with_reducible refine (A.at HV (bal hB0 _)).mono ?_); rintro e w1 ⟨rfl, hN1⟩; have hB1 := btr (bal hB0 _) hN1; have rA1 := rA0.below hN1; have ⟨a1, a2, a3⟩ := rA1)
    | (go_at_call 24; (with_reducible refine (F24.at HV hB1).mono ?_); rintro e w2 ⟨rfl, hN2⟩; have hB2 := btr hB1 hN2; have rA2 := rA1.below hN2; clear a1 a2 a3; have ⟨a1, a2, a3⟩ := rA2)
    | (go_at_call 25; (with_reducible refine (F25.at HV hB2).mono ?_); rintro e w3 ⟨rfl, hN3⟩; have hB3 := btr hB2 hN3; have rA3 := rA2.below hN3; clear a1 a2 a3; have ⟨a1, a2, a3⟩ := rA3)
    | (go_at_call 26; (with_reducible refine (T26.at HV hB3).mono ?_); rintro e w4 ⟨rfl, hN4⟩; have hB4 := btr hB3 hN4; have rA4 := rA3.below hN4; clear a1 a2 a3; have ⟨a1, a2, a3⟩ := rA4)
    | (go_at_call 27; (with_reducible refine (T27.at HV hB4).mono ?_); rintro e w5 ⟨rfl, hN5⟩; have hB5 := btr hB4 hN5; have rA5 := rA4.below hN5; clear a1 a2 a3 T27)
    | (go_at_call 28; (with_reducible refine (P28.at HV hB5).mono ?_); rintro e w6 ⟨rfl, hN6⟩; have hB6 := btr hB5 hN6; have rA6 := rA5.below hN6; have rB6 := RX.new w6 y1 y2 y3)
    | (go_at_call 29; (with_reducible refine (P29.at HV (bal hB6 _)).mono ?_); rintro e w7 ⟨rfl, hN7⟩; have hB7 := btr (bal hB6 _) hN7; have rA7 := (rA6.alloc _).below hN7; have rB7 := rB6.below hN7; have rC7 := RX.new w7 y1 y2 y3; have ⟨b1, b2, b3⟩ := rB7.alloc (.cells #[.int .i64 y1, .int .i64 y2, .int .i64 y3] 23); have ⟨c1, c2, c3⟩ := rC7; clear P29)
    | (go_at_call 27; (with_reducible refine (Y27.at HV (bal hB7 _)).mono ?_); rintro e w9 ⟨rfl, hN9⟩; have hB9 := btr (bal hB7 _) hN9))
  go_ret
  exact ⟨rfl, hB9⟩
set_option maxHeartbeats 4000000 in
theorem texts_22 (x1 x2 x3 y1 y2 y3 : Int) (s u : ByteArray) (z : Nat) (w : World) (hV : VR w)
    (A : Tl 9 #[] (.bool true))
    (F24 : Tl 24 #[.agg #[.int .i64 x1, .int .i64 x2, .int .i64 x3]] (.tuple #[.float .f64 z, .int .i64 2]))
    (F25 : Tl 25 #[.agg #[.int .i64 x1, .int .i64 x2, .int .i64 x3]] (.tuple #[.float .f64 z, .int .i64 2]))
    (T26 : Tl 26 #[.agg #[.int .i64 x1, .int .i64 x2, .int .i64 x3]] (.tuple #[.string u, .int .i64 2]))
    (T27 : Tl 27 #[.agg #[.int .i64 x1, .int .i64 x2, .int .i64 x3]] (.tuple #[.string u, .int .i64 2]))
    (P28 : Tl 28 #[.string s] (.tuple #[.agg #[.int .i64 y1, .int .i64 y2, .int .i64 y3], .int .i64 22]))
    (P29 : Tl 29 #[.string s] (.tuple #[.agg #[.int .i64 y1, .int .i64 y2, .int .i64 y3], .int .i64 22])) :
    Calls Tryd.prog 6 #[.agg #[.int .i64 x1, .int .i64 x2, .int .i64 x3], .string s] w fun x w' => x = .returned (.bool true) ∧ Below w.heap.size w w' := by
  have HV : Hid (VR w) := hV
  clear hV
  have hB0 := Below.refl w.heap.size w
  have qs := same_text s
  have qu := same_text u
  have B30 := run_bits30 z
  have rA0 := RX.new w x1 x2 x3
  go_enter Tryd.func6, Tryd.ntmps6
  go_wp2_with (first
    | (go_at_call 9; (with_reducible refine (A.at HV (bal hB0 _)).mono ?_); rintro e w1 ⟨rfl, hN1⟩; have hB1 := btr (bal hB0 _) hN1; have rA1 := rA0.below hN1; have ⟨a1, a2, a3⟩ := rA1)
    | (go_at_call 24; (with_reducible refine (F24.at HV hB1).mono ?_); rintro e w2 ⟨rfl, hN2⟩; have hB2 := btr hB1 hN2; have rA2 := rA1.below hN2; clear a1 a2 a3; have ⟨a1, a2, a3⟩ := rA2)
    | (go_at_call 25; (with_reducible refine (F25.at HV hB2).mono ?_); rintro e w3 ⟨rfl, hN3⟩; have hB3 := btr hB2 hN3; have rA3 := rA2.below hN3; clear a1 a2 a3; have ⟨a1, a2, a3⟩ := rA3)
    | (go_at_call 26; (with_reducible refine (T26.at HV hB3).mono ?_); rintro e w4 ⟨rfl, hN4⟩; have hB4 := btr hB3 hN4; have rA4 := rA3.below hN4; clear a1 a2 a3; have ⟨a1, a2, a3⟩ := rA4)
    | (go_at_call 27; (with_reducible refine (T27.at HV hB4).mono ?_); rintro e w5 ⟨rfl, hN5⟩; have hB5 := btr hB4 hN5; have rA5 := rA4.below hN5; clear a1 a2 a3 T27)
    | (go_at_call 28; (with_reducible refine (P28.at HV hB5).mono ?_); rintro e w6 ⟨rfl, hN6⟩; have hB6 := btr hB5 hN6; have rA6 := rA5.below hN6; have rB6 := RX.new w6 y1 y2 y3)
    | (go_at_call 29; (with_reducible refine (P29.at HV (bal hB6 _)).mono ?_); rintro e w7 ⟨rfl, hN7⟩; have hB7 := btr (bal hB6 _) hN7; have rA7 := (rA6.alloc _).below hN7; have rB7 := rB6.below hN7; have rC7 := RX.new w7 y1 y2 y3; have ⟨b1, b2, b3⟩ := rB7.alloc (.cells #[.int .i64 y1, .int .i64 y2, .int .i64 y3] 23); have ⟨c1, c2, c3⟩ := rC7; clear P29))
  go_ret
  exact ⟨rfl, bal hB7 _⟩
theorem Tl.of {f : FuncId} {args : Array Value} {v : Value} (h : ∀ w, Calls Tryd.prog f args w fun r w' => r = .returned v ∧ Below w.heap.size w w') : Tl f args v := fun w _ => h w
theorem text_len (p q k : Int) (h : isRoot p q k) : (textL p q k).length ≤ 1048576 := by
  obtain ⟨hp, hq, hk, _⟩ := h
  have := itoa_len p hp
  have := itoa_len q hq
  have := tail_len k hk
  rw [text_tail, List.length_append]
  unfold bodyL
  split
  · omega
  · split
    · rw [List.length_append]; show _ + 1 + _ ≤ _; omega
    · split
      · rw [List.length_append, List.length_append, List.length_append]; show _ + 1 + (_ + 1) + _ ≤ _; omega
      · rw [List.length_append, List.length_append]; show _ + (_ + 1) + _ ≤ _; omega
theorem texts_any (x1 x2 x3 : Int) (s : ByteArray) (w : World) (hs : s.size ≤ 1048576) (hV : VR w) :
    Calls Tryd.prog 6 #[rv x1 x2 x3, .string s] w fun x w' => x = .returned (.bool true) ∧ Below w.heap.size w w' := by
  have A : Tl 9 #[] (.bool true) := fun w hV => awake_any w hV.tab
  by_cases hy : ∃ p q k, isRoot p q k ∧ s = ⟨(textL p q k).toArray⟩
  · obtain ⟨p, q, k, hr, rfl⟩ := hy
    have P28 := Tl.of fun w => rparse_yes p q k w hr
    have P29 : Tl 29 _ _ := fun w hV => cparse_yes p q k ⟨(textL p q k).toArray⟩ w hr rfl hs hV
    have Y27 : Tl 27 _ _ := fun w hV => ctext_yes p q k w hV.tab hr
    by_cases hx : isRoot x1 x2 x3
    · obtain ⟨z, _, F1, F2⟩ := floats_yes x1 x2 x3 hx
      exact texts_00 x1 x2 x3 p q k _ _ z w hV A (Tl.of F1) (Tl.of F2) (Tl.of fun w => rtext_yes x1 x2 x3 w hx) (fun w hV => ctext_yes x1 x2 x3 w hV.tab hx) P28 P29
        (fun w hV => cparse_yes x1 x2 x3 ⟨(textL x1 x2 x3).toArray⟩ w hx rfl (text_len x1 x2 x3 hx) hV) Y27
    · obtain ⟨F1, F2⟩ := floats_no x1 x2 x3 hx
      exact texts_20 x1 x2 x3 p q k _ _ 0 w hV A (Tl.of F1) (Tl.of F2) (Tl.of fun w => rtext_no x1 x2 x3 w hx) (Tl.of fun w => ctext_no x1 x2 x3 w hx) P28 P29 Y27
  · have hn : ∀ p q k, isRoot p q k → s ≠ ⟨(textL p q k).toArray⟩ := fun p q k hr e => hy ⟨p, q, k, hr, e⟩
    have P28 := Tl.of fun w => rparse_none s w (by omega) hn
    have P29 : Tl 29 _ _ := fun w hV => cparse_no s w hn hs hV
    by_cases hx : isRoot x1 x2 x3
    · obtain ⟨z, _, F1, F2⟩ := floats_yes x1 x2 x3 hx
      exact texts_02 x1 x2 x3 0 0 0 _ _ z w hV A (Tl.of F1) (Tl.of F2) (Tl.of fun w => rtext_yes x1 x2 x3 w hx) (fun w hV => ctext_yes x1 x2 x3 w hV.tab hx) P28 P29
        (fun w hV => cparse_yes x1 x2 x3 ⟨(textL x1 x2 x3).toArray⟩ w hx rfl (text_len x1 x2 x3 hx) hV)
    · obtain ⟨F1, F2⟩ := floats_no x1 x2 x3 hx
      exact texts_22 x1 x2 x3 0 0 0 _ _ 0 w hV A (Tl.of F1) (Tl.of F2) (Tl.of fun w => rtext_no x1 x2 x3 w hx) (Tl.of fun w => ctext_no x1 x2 x3 w hx) P28 P29
end Go.Proofs.YtalaacfoaelipaaDoor
