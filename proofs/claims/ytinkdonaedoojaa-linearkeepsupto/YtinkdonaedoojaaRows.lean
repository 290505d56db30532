/-
  No cell of these rows narrows 'for every input' (looked for: loops, veiled, ifaces, maps, wideKeys, modest, calm, conditions, laid).
  DERIVED. THE GIVEN ROWS OF THIS SEAT. 5 by the template 'for every input the law returns true; each argument reads behind the call as it read before'; 0 by the template 'total and deterministic' (their statements: YtinkdonaedoojaaTotals.lean).
  GIVEN WITH THE SEED: the statements are not yours to turn. If you find one false, say at which input.
  Laid BY PROGRAM, IN A SANDBOX (cutbox-rows.mjs): the forced cells as the released guide's own fill.sh prints them over the translation 042c931fa83e96a0… (all of the seat's roots in one cut). By AI agents, Wed Nov 11 2026. No macro, syntax, notation, axiom, sorry.
-/
import Derived.Test.YtinkdonaedoojaaChecked
import GoSem.Claim
import GoSem.ClaimJoined
import GoSem.ClaimMapViews
import Derived.JoinedTies
import Derived.KernelRfl
namespace Go.Proofs.Ytinkdonaedoojaa
/- THE CELL 'sum', in the pinned program and in every row, IS THE sha256 OF THE DUMP (.gsa) THAT YtinkdonaedoojaaProg.lean LOADS. Nothing in Lean hashes anything: it is a label: what it is worth is what the hold of that sum in a sandbox is worth. -/
noncomputable def Try.pinned : Pinned := { name := "ytinkdonaedoojaa", sum := "042c931fa83e96a0edb6b8a2505d34cd3a9f23d245575063a8b54303221db768", checked := Try.checked }
namespace Rows
def none {H : Type} : Left H := { results := [], args := [] }

/-- 'cubitlaw20.LinearReckons': WHATEVER THE INPUT: true; the input reads as it did. -/
def linearReckonsSpec : ChangeSpec := { name := "linearReckons", fn := fun _ => fun
  | [d1, d2, d3] => { results := [.lit (.bool true)], args := [d1, d2, d3] }
  | _ => none }
def linearReckonsRow : OpenClaim := { program := "ytinkdonaedoojaa", sum := "042c931fa83e96a0edb6b8a2505d34cd3a9f23d245575063a8b54303221db768", func := "cubit/cubitlaw20.LinearReckons", spec := "linearReckons", apart := false }
def LinearReckonsSaid : Prop := linearReckonsRow.holds Try.pinned (OpenSpec.ofChange linearReckonsSpec)

/-- ITS FALSE NEIGHBOUR: 'it returns false'. Refute it at one input. -/
def linearReckonsWrong : ChangeSpec := { name := "linearReckons", fn := fun _ => fun
  | [d1, d2, d3] => { results := [.lit (.bool false)], args := [d1, d2, d3] }
  | _ => none }
def LinearReckonsWrongFalsely : Prop := linearReckonsRow.holds Try.pinned (OpenSpec.ofChange linearReckonsWrong)

/-- 'cubitlaw20.LinearFrom': WHATEVER THE INPUT: true; the input reads as it did. -/
def linearFromSpec : ChangeSpec := { name := "linearFrom", fn := fun _ => fun
  | [d] => { results := [.lit (.bool true)], args := [d] }
  | _ => none }
def linearFromRow : OpenClaim := { program := "ytinkdonaedoojaa", sum := "042c931fa83e96a0edb6b8a2505d34cd3a9f23d245575063a8b54303221db768", func := "cubit/cubitlaw20.LinearFrom", spec := "linearFrom", apart := false }
def LinearFromSaid : Prop := linearFromRow.holds Try.pinned (OpenSpec.ofChange linearFromSpec)

/-- ITS FALSE NEIGHBOUR: 'it returns false'. Refute it at one input. -/
def linearFromWrong : ChangeSpec := { name := "linearFrom", fn := fun _ => fun
  | [d] => { results := [.lit (.bool false)], args := [d] }
  | _ => none }
def LinearFromWrongFalsely : Prop := linearFromRow.holds Try.pinned (OpenSpec.ofChange linearFromWrong)

/-- 'cubitlaw20.LinearSynth': WHATEVER THE INPUT: true; the input reads as it did. -/
def linearSynthSpec : ChangeSpec := { name := "linearSynth", fn := fun _ => fun
  | [d] => { results := [.lit (.bool true)], args := [d] }
  | _ => none }
def linearSynthRow : OpenClaim := { program := "ytinkdonaedoojaa", sum := "042c931fa83e96a0edb6b8a2505d34cd3a9f23d245575063a8b54303221db768", func := "cubit/cubitlaw20.LinearSynth", spec := "linearSynth", apart := false }
def LinearSynthSaid : Prop := linearSynthRow.holds Try.pinned (OpenSpec.ofChange linearSynthSpec)

/-- ITS FALSE NEIGHBOUR: 'it returns false'. Refute it at one input. -/
def linearSynthWrong : ChangeSpec := { name := "linearSynth", fn := fun _ => fun
  | [d] => { results := [.lit (.bool false)], args := [d] }
  | _ => none }
def LinearSynthWrongFalsely : Prop := linearSynthRow.holds Try.pinned (OpenSpec.ofChange linearSynthWrong)

/-- 'cubitlaw20.LinearGroup': WHATEVER THE INPUT: true; the input reads as it did. -/
def linearGroupSpec : ChangeSpec := { name := "linearGroup", fn := fun _ => fun
  | [d] => { results := [.lit (.bool true)], args := [d] }
  | _ => none }
def linearGroupRow : OpenClaim := { program := "ytinkdonaedoojaa", sum := "042c931fa83e96a0edb6b8a2505d34cd3a9f23d245575063a8b54303221db768", func := "cubit/cubitlaw20.LinearGroup", spec := "linearGroup", apart := false }
def LinearGroupSaid : Prop := linearGroupRow.holds Try.pinned (OpenSpec.ofChange linearGroupSpec)

/-- ITS FALSE NEIGHBOUR: 'it returns false'. Refute it at one input. -/
def linearGroupWrong : ChangeSpec := { name := "linearGroup", fn := fun _ => fun
  | [d] => { results := [.lit (.bool false)], args := [d] }
  | _ => none }
def LinearGroupWrongFalsely : Prop := linearGroupRow.holds Try.pinned (OpenSpec.ofChange linearGroupWrong)

/-- 'cubitlaw20.LinearKeeps': WHATEVER THE INPUT: true; the input reads as it did. -/
def linearKeepsSpec : ChangeSpec := { name := "linearKeeps", fn := fun _ => fun
  | [d1, d2] => { results := [.lit (.bool true)], args := [d1, d2] }
  | _ => none }
def linearKeepsRow : OpenClaim := { program := "ytinkdonaedoojaa", sum := "042c931fa83e96a0edb6b8a2505d34cd3a9f23d245575063a8b54303221db768", func := "cubit/cubitlaw20.LinearKeeps", spec := "linearKeeps", apart := false }
def LinearKeepsSaid : Prop := linearKeepsRow.holds Try.pinned (OpenSpec.ofChange linearKeepsSpec)

/-- ITS FALSE NEIGHBOUR: 'it returns false'. Refute it at one input. -/
def linearKeepsWrong : ChangeSpec := { name := "linearKeeps", fn := fun _ => fun
  | [d1, d2] => { results := [.lit (.bool false)], args := [d1, d2] }
  | _ => none }
def LinearKeepsWrongFalsely : Prop := linearKeepsRow.holds Try.pinned (OpenSpec.ofChange linearKeepsWrong)

/- THE SECOND FORM. 'bulk': how many values and letters a reading holds, each counted each time it is reached (what is shared counts as often as it is met; a slice's spare places count too). A statement '..UptoSaid' is the law's where the arguments, and the package variables that the reading takes, are together of bulk at most 1048576: NARROWER than '..Said'. Prove '..Said' where nothing that the law and all that it calls make is longer than what came in: it says more and counts as full. Else prove '..UptoSaid'. A law counts once. -/
mutual
def uptoBulk {H : Type} : DataW H → Nat
  | .lit (.string bytes) => bytes.length + 1
  | .lit _ => 1
  | .nil => 1
  | .ptr d => uptoBulk d + 1
  | .slice elems spare => uptoBulkAll elems + uptoBulkAll spare + 1
  | .agg parts => uptoBulkAll parts + 1
  | .iface _ d => uptoBulk d + 1
  | .map entries => uptoBulkEntries entries + 1
  | .held _ => 1
def uptoBulkAll {H : Type} : List (DataW H) → Nat
  | [] => 0
  | d :: r => uptoBulk d + uptoBulkAll r
def uptoBulkEntries {H : Type} : List (Lit × DataW H) → Nat
  | [] => 0
  | x :: r => uptoBulkEntry x + uptoBulkEntries r
def uptoBulkEntry {H : Type} : Lit × DataW H → Nat
  | (.string bytes, d) => bytes.length + uptoBulk d + 1
  | (_, d) => uptoBulk d + 1
 end
def uptoSmall : (H : Type) → List (DataW H) → Bool := fun _ ds => decide (uptoBulkAll ds ≤ 1048576)
def OpenSpec.upto (s : _root_.Go.ChangeSpec) : _root_.Go.OpenSpec := { _root_.Go.OpenSpec.ofChange s with cond := some uptoSmall }

/-- 'cubitlaw20.LinearReckons', WHERE WHAT IT READS IS OF BULK AT MOST 1048576: true; the input reads as it did. -/
def linearReckonsUptoRow : OpenClaim := { program := "ytinkdonaedoojaa", sum := "042c931fa83e96a0edb6b8a2505d34cd3a9f23d245575063a8b54303221db768", func := "cubit/cubitlaw20.LinearReckons", spec := "linearReckons", apart := false, narrowed := true }
def LinearReckonsUptoSaid : Prop := linearReckonsUptoRow.holds Try.pinned (OpenSpec.upto linearReckonsSpec)

/-- 'cubitlaw20.LinearFrom', WHERE WHAT IT READS IS OF BULK AT MOST 1048576: true; the input reads as it did. -/
def linearFromUptoRow : OpenClaim := { program := "ytinkdonaedoojaa", sum := "042c931fa83e96a0edb6b8a2505d34cd3a9f23d245575063a8b54303221db768", func := "cubit/cubitlaw20.LinearFrom", spec := "linearFrom", apart := false, narrowed := true }
def LinearFromUptoSaid : Prop := linearFromUptoRow.holds Try.pinned (OpenSpec.upto linearFromSpec)

/-- 'cubitlaw20.LinearSynth', WHERE WHAT IT READS IS OF BULK AT MOST 1048576: true; the input reads as it did. -/
def linearSynthUptoRow : OpenClaim := { program := "ytinkdonaedoojaa", sum := "042c931fa83e96a0edb6b8a2505d34cd3a9f23d245575063a8b54303221db768", func := "cubit/cubitlaw20.LinearSynth", spec := "linearSynth", apart := false, narrowed := true }
def LinearSynthUptoSaid : Prop := linearSynthUptoRow.holds Try.pinned (OpenSpec.upto linearSynthSpec)

/-- 'cubitlaw20.LinearGroup', WHERE WHAT IT READS IS OF BULK AT MOST 1048576: true; the input reads as it did. -/
def linearGroupUptoRow : OpenClaim := { program := "ytinkdonaedoojaa", sum := "042c931fa83e96a0edb6b8a2505d34cd3a9f23d245575063a8b54303221db768", func := "cubit/cubitlaw20.LinearGroup", spec := "linearGroup", apart := false, narrowed := true }
def LinearGroupUptoSaid : Prop := linearGroupUptoRow.holds Try.pinned (OpenSpec.upto linearGroupSpec)

/-- 'cubitlaw20.LinearKeeps', WHERE WHAT IT READS IS OF BULK AT MOST 1048576: true; the input reads as it did. -/
def linearKeepsUptoRow : OpenClaim := { program := "ytinkdonaedoojaa", sum := "042c931fa83e96a0edb6b8a2505d34cd3a9f23d245575063a8b54303221db768", func := "cubit/cubitlaw20.LinearKeeps", spec := "linearKeeps", apart := false, narrowed := true }
def LinearKeepsUptoSaid : Prop := linearKeepsUptoRow.holds Try.pinned (OpenSpec.upto linearKeepsSpec)

end Rows
end Go.Proofs.Ytinkdonaedoojaa
