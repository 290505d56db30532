/-
  The tokens of a line as they are written.
-/
import Derived.Test.YtiepbfeliehjnaaDoorB5
import Derived.Test.YtiepbfeliehjnaaDoorB6
import Derived.Lib.ItoaLen
namespace Go.Proofs.YtiepbfeliehjnaaDoor
open Go.RowKit Go.Sort

def lastOf (e : ByteArray) : List Tk → ByteArray
  | [] => e
  | t :: ts => lastOf t.t ts
theorem lineB_app : ∀ (e : ByteArray) (xs ys : List Tk), lineB e (xs ++ ys) = lineB e xs ++ lineB (lastOf e xs) ys
  | _, [], _ => rfl
  | e, x :: xs, ys => by
    show tokB e x.t ++ lineB x.t (xs ++ ys) = (tokB e x.t ++ lineB x.t xs) ++ lineB (lastOf x.t xs) ys
    rw [lineB_app x.t xs ys, List.append_assoc]
theorem lastOf_app (e : ByteArray) (xs : List Tk) (t : Tk) : lastOf e (xs ++ [t]) = t.t := by
  induction xs generalizing e with
  | nil => rfl
  | cons x xs ih => exact ih x.t
/-- These tokens of a line are written. -/
def TS (w W : World) (b : Nat) (bs : List UInt8) (ts : List Tk) : Prop := WS w W b (bs ++ lineB ⟨#[]⟩ ts) (lastOf ⟨#[]⟩ ts) ∧ (bs ++ lineB ⟨#[]⟩ ts).length ≤ 65536
theorem TS.on {w W W' : World} {b : Nat} {bs : List UInt8} {ts : List Tk} (h : TS w W b bs ts) (hb : Below W.heap.size W W') : TS w W' b bs ts := ⟨h.1.on hb, h.2⟩
/-- What is left alone since X. -/
structure SX (w X : World) (b : Nat) (W : World) : Prop where
  below : Below w.heap.size w W
  ok : Lib.OthersKept 5 (some b) X W
  size : X.heap.size ≤ W.heap.size
theorem SX.on {w X W W' : World} {b : Nat} (h : SX w X b W) (hb : Below W.heap.size W W') : SX w X b W' := ⟨btr h.below hb, Lib.OthersKept.trans h.ok (ok_below _ hb), Nat.le_trans h.size hb.size⟩
theorem tok_ts {X : World} (w W : World) (b : Nat) (bs : List UInt8) (ts : List Tk) (s : ByteArray) (t : Tk) (e : t.t = s) (h : TS w W b bs ts) (hs : SX w X b W) (hz : s.size ≤ 9223372036854775807) :
    Calls Tryd.prog 55 #[.pointer (some ⟨b, 0, none⟩), .string s] W fun x W' => SX w X b W' ∧ Lib.OthersKept 5 (some b) W W' ∧ ((x = .returned (.tuple #[]) ∧ TS w W' b bs (ts ++ [t])) ∨ (65536 < bs.length + (lineB ⟨#[]⟩ (ts ++ [t])).length ∧ x = .panicked [flt (0, 1)])) := by
  refine (token_any w W b _ _ s h.1 h.2 hz).mono ?_
  rintro x W' ⟨h1, h2, h3, h4⟩
  have E : bs ++ lineB ⟨#[]⟩ (ts ++ [t]) = bs ++ lineB ⟨#[]⟩ ts ++ tokB (lastOf ⟨#[]⟩ ts) s := by
    rw [lineB_app, ← List.append_assoc]
    show _ ++ (tokB (lastOf ⟨#[]⟩ ts) t.t ++ []) = _
    rw [List.append_nil, e]
  have EL := congrArg List.length E
  rw [List.length_append, List.length_append] at EL
  refine ⟨⟨h1, Lib.OthersKept.trans hs.ok h3, Nat.le_trans hs.size h2⟩, h3, ?_⟩
  rcases h4 with ⟨h5, h6, h7⟩ | ⟨h5, h6⟩
  · refine .inl ⟨h6, ?_, ?_⟩
    · rw [E, lastOf_app, e]; exact h7
    · rw [List.length_append, EL]; exact h5
  · exact .inr ⟨by omega, h6⟩
theorem below_grow (w : World) (k : Nat) (os : Array Obj) : Below w.heap.size w (grow (w.drewN k) os) :=
  ⟨rfl, rfl, rfl, by simp [grow], fun i hi => by simp [grow, Array.getElem?_append, hi]⟩
theorem itoa_any (n : Int) (w : World) (h0 : -9223372036854775808 ≤ n) (h1 : n ≤ 9223372036854775807) (hT : VR w) :
    Calls Tryd.prog 74 #[.int .i64 n] w fun e w' => e = .returned (.string (numT n)) ∧ Below w.heap.size w w' :=
  (Tryd.strconv_Itoa n h0 h1 w hT.pow).mono fun e w' ⟨he, k, os, hw⟩ => ⟨he, by rw [hw]; exact below_grow w k os⟩
theorem num_size (n : Int) (h0 : -9223372036854775808 ≤ n) (h1 : n ≤ 9223372036854775807) : (numT n).size ≤ 9223372036854775807 := by
  have := Lib.itoa_length_le n h0 h1
  show (Lib.itoa n).toArray.size ≤ _
  rw [List.size_toArray]
  omega
theorem numOk_p2 {x : Int} (h : numOk x = true) : 0 ≤ x ∧ x ≤ 9007199254740991 := by simpa [numOk] using h
end Go.Proofs.YtiepbfeliehjnaaDoor
