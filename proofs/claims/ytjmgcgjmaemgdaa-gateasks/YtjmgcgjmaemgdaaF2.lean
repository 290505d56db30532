/-
  What the reference tells of an entry.
-/
import Derived.Test.YtjmgcgjmaemgdaaV0
namespace Go.Proofs.Ytjmgcgjmaemgdaa
open Go.RowKit Go.Sort

def rO : Option (Nat × Int) → Int × Int
  | none => (-1, 0)
  | some (m, h) => (m, h)
def reP (i x y : Nat) : Int := (rO (ec i x y)).1
def reH (i x y : Nat) : Int := (rO (ec i x y)).2
end Go.Proofs.Ytjmgcgjmaemgdaa
