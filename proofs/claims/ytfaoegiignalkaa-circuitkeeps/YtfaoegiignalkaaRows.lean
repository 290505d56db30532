/-
  No cell of these rows narrows 'for every input' (looked for: loops, veiled, ifaces, maps, wideKeys, modest, calm, conditions, laid).
  DERIVED. THE GIVEN ROWS OF THIS SEAT. 6 by the template 'for every input the law returns true; each argument reads behind the call as it read before'; 0 by the template 'total and deterministic' (their statements: YtfaoegiignalkaaTotals.lean).
  GIVEN WITH THE SEED: the statements are not yours to turn. If you find one false, say at which input.
  Laid BY PROGRAM, IN A SANDBOX (cutbox-rows.mjs): the forced cells as the released guide's own fill.sh prints them over the translation bc9588239284a346… (all of the seat's roots in one cut). By AI agents, Wed Nov 11 2026. No macro, syntax, notation, axiom, sorry.
-/
import Derived.Test.YtfaoegiignalkaaChecked
import GoSem.Claim
import GoSem.ClaimJoined
import GoSem.ClaimMapViews
import Derived.JoinedTies
import Derived.KernelRfl
namespace Go.Proofs.Ytfaoegiignalkaa
/- THE CELL 'sum', in the pinned program and in every row, IS THE sha256 OF THE DUMP (.gsa) THAT YtfaoegiignalkaaProg.lean LOADS. Nothing in Lean hashes anything: it is a label: what it is worth is what the hold of that sum in a sandbox is worth. -/
noncomputable def Try.pinned : Pinned := { name := "ytfaoegiignalkaa", sum := "bc9588239284a3466d21a20dc05541c2fab1749947f35d4a49c1fdd6e6eebf40", checked := Try.checked }
namespace Rows
def none {H : Type} : Left H := { results := [], args := [] }

/-- 'cubitlaw11.CircuitChecks': WHATEVER THE INPUT: true; the input reads as it did. -/
def circuitChecksSpec : ChangeSpec := { name := "circuitChecks", fn := fun _ => fun
  | [d] => { results := [.lit (.bool true)], args := [d] }
  | _ => none }
def circuitChecksRow : OpenClaim := { program := "ytfaoegiignalkaa", sum := "bc9588239284a3466d21a20dc05541c2fab1749947f35d4a49c1fdd6e6eebf40", func := "cubit/cubitlaw11.CircuitChecks", spec := "circuitChecks", unfollowed := true, recurses := true, apart := false }
def CircuitChecksSaid : Prop := circuitChecksRow.holds Try.pinned (OpenSpec.ofChange circuitChecksSpec)

/-- ITS FALSE NEIGHBOUR: 'it returns false'. Refute it at one input. -/
def circuitChecksWrong : ChangeSpec := { name := "circuitChecks", fn := fun _ => fun
  | [d] => { results := [.lit (.bool false)], args := [d] }
  | _ => none }
def CircuitChecksWrongFalsely : Prop := circuitChecksRow.holds Try.pinned (OpenSpec.ofChange circuitChecksWrong)

/-- 'cubitlaw11.CircuitJoins': WHATEVER THE INPUT: true; the input reads as it did. -/
def circuitJoinsSpec : ChangeSpec := { name := "circuitJoins", fn := fun _ => fun
  | [d1, d2] => { results := [.lit (.bool true)], args := [d1, d2] }
  | _ => none }
def circuitJoinsRow : OpenClaim := { program := "ytfaoegiignalkaa", sum := "bc9588239284a3466d21a20dc05541c2fab1749947f35d4a49c1fdd6e6eebf40", func := "cubit/cubitlaw11.CircuitJoins", spec := "circuitJoins", unfollowed := true, recurses := true, apart := false }
def CircuitJoinsSaid : Prop := circuitJoinsRow.holds Try.pinned (OpenSpec.ofChange circuitJoinsSpec)

/-- ITS FALSE NEIGHBOUR: 'it returns false'. Refute it at one input. -/
def circuitJoinsWrong : ChangeSpec := { name := "circuitJoins", fn := fun _ => fun
  | [d1, d2] => { results := [.lit (.bool false)], args := [d1, d2] }
  | _ => none }
def CircuitJoinsWrongFalsely : Prop := circuitJoinsRow.holds Try.pinned (OpenSpec.ofChange circuitJoinsWrong)

/-- 'cubitlaw11.CircuitOrders': WHATEVER THE INPUT: true; the input reads as it did. -/
def circuitOrdersSpec : ChangeSpec := { name := "circuitOrders", fn := fun _ => fun
  | [d1, d2] => { results := [.lit (.bool true)], args := [d1, d2] }
  | _ => none }
def circuitOrdersRow : OpenClaim := { program := "ytfaoegiignalkaa", sum := "bc9588239284a3466d21a20dc05541c2fab1749947f35d4a49c1fdd6e6eebf40", func := "cubit/cubitlaw11.CircuitOrders", spec := "circuitOrders", unfollowed := true, recurses := true, apart := false }
def CircuitOrdersSaid : Prop := circuitOrdersRow.holds Try.pinned (OpenSpec.ofChange circuitOrdersSpec)

/-- ITS FALSE NEIGHBOUR: 'it returns false'. Refute it at one input. -/
def circuitOrdersWrong : ChangeSpec := { name := "circuitOrders", fn := fun _ => fun
  | [d1, d2] => { results := [.lit (.bool false)], args := [d1, d2] }
  | _ => none }
def CircuitOrdersWrongFalsely : Prop := circuitOrdersRow.holds Try.pinned (OpenSpec.ofChange circuitOrdersWrong)

/-- 'cubitlaw11.CircuitBack': WHATEVER THE INPUT: true; the input reads as it did. -/
def circuitBackSpec : ChangeSpec := { name := "circuitBack", fn := fun _ => fun
  | [d1, d2] => { results := [.lit (.bool true)], args := [d1, d2] }
  | _ => none }
def circuitBackRow : OpenClaim := { program := "ytfaoegiignalkaa", sum := "bc9588239284a3466d21a20dc05541c2fab1749947f35d4a49c1fdd6e6eebf40", func := "cubit/cubitlaw11.CircuitBack", spec := "circuitBack", unfollowed := true, recurses := true, apart := false }
def CircuitBackSaid : Prop := circuitBackRow.holds Try.pinned (OpenSpec.ofChange circuitBackSpec)

/-- ITS FALSE NEIGHBOUR: 'it returns false'. Refute it at one input. -/
def circuitBackWrong : ChangeSpec := { name := "circuitBack", fn := fun _ => fun
  | [d1, d2] => { results := [.lit (.bool false)], args := [d1, d2] }
  | _ => none }
def CircuitBackWrongFalsely : Prop := circuitBackRow.holds Try.pinned (OpenSpec.ofChange circuitBackWrong)

/-- 'cubitlaw11.CircuitLayers': WHATEVER THE INPUT: true; the input reads as it did. -/
def circuitLayersSpec : ChangeSpec := { name := "circuitLayers", fn := fun _ => fun
  | [d1, d2] => { results := [.lit (.bool true)], args := [d1, d2] }
  | _ => none }
def circuitLayersRow : OpenClaim := { program := "ytfaoegiignalkaa", sum := "bc9588239284a3466d21a20dc05541c2fab1749947f35d4a49c1fdd6e6eebf40", func := "cubit/cubitlaw11.CircuitLayers", spec := "circuitLayers", unfollowed := true, recurses := true, apart := false }
def CircuitLayersSaid : Prop := circuitLayersRow.holds Try.pinned (OpenSpec.ofChange circuitLayersSpec)

/-- ITS FALSE NEIGHBOUR: 'it returns false'. Refute it at one input. -/
def circuitLayersWrong : ChangeSpec := { name := "circuitLayers", fn := fun _ => fun
  | [d1, d2] => { results := [.lit (.bool false)], args := [d1, d2] }
  | _ => none }
def CircuitLayersWrongFalsely : Prop := circuitLayersRow.holds Try.pinned (OpenSpec.ofChange circuitLayersWrong)

/-- 'cubitlaw11.CircuitKeeps': WHATEVER THE INPUT: true; the input reads as it did. -/
def circuitKeepsSpec : ChangeSpec := { name := "circuitKeeps", fn := fun _ => fun
  | [d1, d2] => { results := [.lit (.bool true)], args := [d1, d2] }
  | _ => none }
def circuitKeepsRow : OpenClaim := { program := "ytfaoegiignalkaa", sum := "bc9588239284a3466d21a20dc05541c2fab1749947f35d4a49c1fdd6e6eebf40", func := "cubit/cubitlaw11.CircuitKeeps", spec := "circuitKeeps", unfollowed := true, recurses := true, apart := false }
def CircuitKeepsSaid : Prop := circuitKeepsRow.holds Try.pinned (OpenSpec.ofChange circuitKeepsSpec)

/-- ITS FALSE NEIGHBOUR: 'it returns false'. Refute it at one input. -/
def circuitKeepsWrong : ChangeSpec := { name := "circuitKeeps", fn := fun _ => fun
  | [d1, d2] => { results := [.lit (.bool false)], args := [d1, d2] }
  | _ => none }
def CircuitKeepsWrongFalsely : Prop := circuitKeepsRow.holds Try.pinned (OpenSpec.ofChange circuitKeepsWrong)

/- THE SECOND FORM. 'bulk': how many values and letters a reading holds, each counted each time it is reached (what is shared counts as often as it is met; a slice's spare places count too). A statement '..UptoSaid' is the law's where the arguments, and the package variables that the reading takes, are together of bulk at most 1048576: NARROWER than '..Said'. Prove '..Said' where nothing that the law and all that it calls make is longer than what came in: it says more and counts as full. Else prove '..UptoSaid'. A law counts once. -/
mutual
def uptoBulk {H : Type} : DataW H → Nat
  | .lit (.string bytes) => bytes.length + 1
  | .lit _ => 1
  | .nil => 1
  | .ptr d => uptoBulk d + 1
  | .slice elems spare => uptoBulkAll elems + uptoBulkAll spare + 1
  | .agg parts => uptoBulkAll parts + 1
  | .iface _ d => uptoBulk d + 1
  | .map entries => uptoBulkEntries entries + 1
  | .held _ => 1
def uptoBulkAll {H : Type} : List (DataW H) → Nat
  | [] => 0
  | d :: r => uptoBulk d + uptoBulkAll r
def uptoBulkEntries {H : Type} : List (Lit × DataW H) → Nat
  | [] => 0
  | x :: r => uptoBulkEntry x + uptoBulkEntries r
def uptoBulkEntry {H : Type} : Lit × DataW H → Nat
  | (.string bytes, d) => bytes.length + uptoBulk d + 1
  | (_, d) => uptoBulk d + 1
 end
def uptoSmall : (H : Type) → List (DataW H) → Bool := fun _ ds => decide (uptoBulkAll ds ≤ 1048576)
def OpenSpec.upto (s : _root_.Go.ChangeSpec) : _root_.Go.OpenSpec := { _root_.Go.OpenSpec.ofChange s with cond := some uptoSmall }

/-- 'cubitlaw11.CircuitChecks', WHERE WHAT IT READS IS OF BULK AT MOST 1048576: true; the input reads as it did. -/
def circuitChecksUptoRow : OpenClaim := { program := "ytfaoegiignalkaa", sum := "bc9588239284a3466d21a20dc05541c2fab1749947f35d4a49c1fdd6e6eebf40", func := "cubit/cubitlaw11.CircuitChecks", spec := "circuitChecks", unfollowed := true, recurses := true, apart := false, narrowed := true }
def CircuitChecksUptoSaid : Prop := circuitChecksUptoRow.holds Try.pinned (OpenSpec.upto circuitChecksSpec)

/-- 'cubitlaw11.CircuitJoins', WHERE WHAT IT READS IS OF BULK AT MOST 1048576: true; the input reads as it did. -/
def circuitJoinsUptoRow : OpenClaim := { program := "ytfaoegiignalkaa", sum := "bc9588239284a3466d21a20dc05541c2fab1749947f35d4a49c1fdd6e6eebf40", func := "cubit/cubitlaw11.CircuitJoins", spec := "circuitJoins", unfollowed := true, recurses := true, apart := false, narrowed := true }
def CircuitJoinsUptoSaid : Prop := circuitJoinsUptoRow.holds Try.pinned (OpenSpec.upto circuitJoinsSpec)

/-- 'cubitlaw11.CircuitOrders', WHERE WHAT IT READS IS OF BULK AT MOST 1048576: true; the input reads as it did. -/
def circuitOrdersUptoRow : OpenClaim := { program := "ytfaoegiignalkaa", sum := "bc9588239284a3466d21a20dc05541c2fab1749947f35d4a49c1fdd6e6eebf40", func := "cubit/cubitlaw11.CircuitOrders", spec := "circuitOrders", unfollowed := true, recurses := true, apart := false, narrowed := true }
def CircuitOrdersUptoSaid : Prop := circuitOrdersUptoRow.holds Try.pinned (OpenSpec.upto circuitOrdersSpec)

/-- 'cubitlaw11.CircuitBack', WHERE WHAT IT READS IS OF BULK AT MOST 1048576: true; the input reads as it did. -/
def circuitBackUptoRow : OpenClaim := { program := "ytfaoegiignalkaa", sum := "bc9588239284a3466d21a20dc05541c2fab1749947f35d4a49c1fdd6e6eebf40", func := "cubit/cubitlaw11.CircuitBack", spec := "circuitBack", unfollowed := true, recurses := true, apart := false, narrowed := true }
def CircuitBackUptoSaid : Prop := circuitBackUptoRow.holds Try.pinned (OpenSpec.upto circuitBackSpec)

/-- 'cubitlaw11.CircuitLayers', WHERE WHAT IT READS IS OF BULK AT MOST 1048576: true; the input reads as it did. -/
def circuitLayersUptoRow : OpenClaim := { program := "ytfaoegiignalkaa", sum := "bc9588239284a3466d21a20dc05541c2fab1749947f35d4a49c1fdd6e6eebf40", func := "cubit/cubitlaw11.CircuitLayers", spec := "circuitLayers", unfollowed := true, recurses := true, apart := false, narrowed := true }
def CircuitLayersUptoSaid : Prop := circuitLayersUptoRow.holds Try.pinned (OpenSpec.upto circuitLayersSpec)

/-- 'cubitlaw11.CircuitKeeps', WHERE WHAT IT READS IS OF BULK AT MOST 1048576: true; the input reads as it did. -/
def circuitKeepsUptoRow : OpenClaim := { program := "ytfaoegiignalkaa", sum := "bc9588239284a3466d21a20dc05541c2fab1749947f35d4a49c1fdd6e6eebf40", func := "cubit/cubitlaw11.CircuitKeeps", spec := "circuitKeeps", unfollowed := true, recurses := true, apart := false, narrowed := true }
def CircuitKeepsUptoSaid : Prop := circuitKeepsUptoRow.holds Try.pinned (OpenSpec.upto circuitKeepsSpec)

end Rows
end Go.Proofs.Ytfaoegiignalkaa
