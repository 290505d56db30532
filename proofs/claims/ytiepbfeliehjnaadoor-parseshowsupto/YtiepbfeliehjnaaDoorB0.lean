/-
  Plain mathematics of shown rows: which rows are those of a program, their tokens, their text. Of no program.
-/
import Derived.Test.YtiepbfeliehjnaaDoorN1
import Derived.Lib.ItoaMem
namespace Go.Proofs.YtiepbfeliehjnaaDoor

/-- A number that can be written; a plain name; an argument; a row of a shape. -/
def numOk (n : Int) : Bool := decide (0 ≤ n) && decide (n ≤ 9007199254740991)
def plnN (s : ByteArray) : Bool := nmB s && !ownB s
def argOk (ix : Bool) (a : Ar) : Bool := plnN a.n && (decide (a.x = -1) || (ix && numOk a.x))
def fitB (r : Rw) (sh : Sh) : Bool :=
  (if sh.name = true then plnN r.name else decide (r.name = ⟨#[]⟩)) && (if sh.num = true then numOk r.num else decide (r.num = 0)) &&
    (decide (sh.args = -1) || decide ((r.args.length : Int) = sh.args)) && r.args.all (argOk sh.idx)
/-- The shape of a row. -/
def shR (r : Rw) : Sh := (shp r.kind).getD shNone
/-- These are the rows of statements of that depth. -/
def chk : Nat → Nat → List Rw → Bool
  | 0, _, _ => true
  | _ + 1, _, [] => true
  | f + 1, d, r :: rs =>
    (shp r.kind).isSome && fitB r (shR r) && decide (0 ≤ r.rows) && decide (r.rows ≤ (rs.length : Int)) &&
      (if (shR r).body = true then decide (d < 32) && chk f (d + 1) (rs.take r.rows.toNat) else decide (r.rows = 0)) && chk f d (rs.drop r.rows.toNat)
/-- The tokens of a row, of rows. -/
abbrev numT (x : Int) : ByteArray := ⟨(Lib.itoa x).toArray⟩
def tkN (s : ByteArray) : Tk := ⟨1, s, 0⟩
def tkD (x : Int) : Tk := ⟨2, numT x, 0⟩
def tkS (s : ByteArray) : Tk := ⟨3, s, 0⟩
def argK (a : Ar) : List Tk := tkN a.n :: (if 0 ≤ a.x then [tkS wLeft, tkD a.x, tkS wRight] else [])
def kindT (r : Rw) : List Tk := if r.kind = wUse then [] else [tkN r.kind]
def nameT (r : Rw) (sh : Sh) : List Tk := if sh.name = true then [tkN r.name] else []
def argsT (l : List Ar) : List Tk := l.flatMap argK
def numTk (r : Rw) (sh : Sh) : List Tk := if sh.num = true then [tkD r.num] else []
def headK (r : Rw) (sh : Sh) : List Tk := kindT r ++ (nameT r sh ++ (argsT r.args ++ (numTk r sh ++ [tkS (lastS sh)])))
def bodyK : Nat → List Rw → List Tk
  | 0, _ => []
  | _ + 1, [] => []
  | f + 1, r :: rs => headK r (shR r) ++ ((if (shR r).body = true then bodyK f (rs.take r.rows.toNat) ++ [tkS wShut] else []) ++ bodyK f (rs.drop r.rows.toNat))
/-- The text. -/
def sepB (last t : ByteArray) : Bool := !(decide (last = ⟨#[]⟩)) && !(decide (last = wLeft)) && !(decide (t = wSemi)) && !(decide (t = wLeft)) && !(decide (t = wRight))
def tokB (last t : ByteArray) : List UInt8 := (if sepB last t = true then [32] else []) ++ t.data.toList
def lineB : ByteArray → List Tk → List UInt8
  | _, [] => []
  | last, t :: ts => tokB last t.t ++ lineB t.t ts
def indB (d : Nat) : List UInt8 := List.replicate (2 * d) 32
def bodyB : Nat → Nat → List Rw → List UInt8
  | 0, _, _ => []
  | _ + 1, _, [] => []
  | f + 1, d, r :: rs => (indB d ++ (lineB ⟨#[]⟩ (headK r (shR r)) ++ [10])) ++ ((if (shR r).body = true then bodyB f (d + 1) (rs.take r.rows.toNat) ++ (indB d ++ ([125] ++ [10])) else []) ++ bodyB f d (rs.drop r.rows.toNat))

end Go.Proofs.YtiepbfeliehjnaaDoor
