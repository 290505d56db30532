/-
  DERIVED. GIVEN WITH THE SEED: THE CARDS: each row of YtalaacfoaelipaaDoorRows.lean that lists a variable, with what it lists TIED to the program's text (the seventh form; the later family's looks); each row that meets fmt, with fmt's text TOLD by the authors' own Lean function (tested against real Go, not proved from fmt's source: count such statements apart). THE CARD IS WHAT COUNTS. Prove the row's statement (the work); the ties are given (YtalaacfoaelipaaDoorTie.lean); close each card by the builder's one call (the guide's Derived/Test/ToyasCard.lean, 'card_holds'). Laid BY PROGRAM, IN A SANDBOX (cutbox-door.mjs). By AI agents, Wed Nov 11 2026. No macro, syntax, notation, axiom, sorry.
-/
import Derived.Test.YtalaacfoaelipaaDoorRows
import GoSem.ClaimSeven
namespace Go.Proofs.YtalaacfoaelipaaDoor
namespace Rows

/-- THE TIED CARD OF 'cubitlaw05.RootMakes'. -/
def rootMakesCard : Claim7 := { stood := { row := rootMakesRow, standIns := [], harness := (true, "77608490ccbbc25fa592a584ef2fa1dd227ba8cae450dc5bc3acd644ac0f4700"), looks := true }, kinds := [], alts := [], laidByText := true, laidKinds := [.data, .data, .data], laidTests := true, laidLooks := .later }
def RootMakesCardSaid : Prop := Claim7.holds Tryd.pinned (.plain (OpenSpec.ofChange rootMakesSpec)) rootMakesCard

/-- THE TIED CARD OF 'cubitlaw05.RootReckons'. -/
def rootReckonsCard : Claim7 := { stood := { row := rootReckonsRow, standIns := [], harness := (true, "77608490ccbbc25fa592a584ef2fa1dd227ba8cae450dc5bc3acd644ac0f4700"), looks := true }, kinds := [], alts := [], laidByText := true, laidKinds := [.data, .data, .data], laidTests := true, laidLooks := .later }
def RootReckonsCardSaid : Prop := Claim7.holds Tryd.pinned (.plain (OpenSpec.ofChange rootReckonsSpec)) rootReckonsCard

/-- THE TIED CARD OF 'cubitlaw05.RootCompares'. -/
def rootComparesCard : Claim7 := { stood := { row := rootComparesRow, standIns := [], harness := (true, "77608490ccbbc25fa592a584ef2fa1dd227ba8cae450dc5bc3acd644ac0f4700"), looks := true }, kinds := [], alts := [], laidByText := true, laidKinds := [.data, .data, .data], laidTests := true, laidLooks := .later }
def RootComparesCardSaid : Prop := Claim7.holds Tryd.pinned (.plain (OpenSpec.ofChange rootComparesSpec)) rootComparesCard

/-- THE TIED CARD OF 'cubitlaw05.RootTexts'. -/
def rootTextsCard : Claim7 := { stood := { row := rootTextsRow, standIns := [], harness := (true, "77608490ccbbc25fa592a584ef2fa1dd227ba8cae450dc5bc3acd644ac0f4700"), looks := true }, kinds := [], alts := [], laidByText := true, laidKinds := [.data, .data, .data, .data, .sentinel, .sentinel, .pinned], laidTests := true, laidLooks := .later }
def RootTextsCardSaid : Prop := Claim7.holds Tryd.pinned (.plain (OpenSpec.ofChange rootTextsSpec)) rootTextsCard

/-- THE TIED CARD OF 'cubitlaw05.RootField'. -/
def rootFieldCard : Claim7 := { stood := { row := rootFieldRow, standIns := [], harness := (true, "77608490ccbbc25fa592a584ef2fa1dd227ba8cae450dc5bc3acd644ac0f4700"), looks := true }, kinds := [], alts := [], laidByText := true, laidKinds := [.data, .data, .data], laidTests := true, laidLooks := .later }
def RootFieldCardSaid : Prop := Claim7.holds Tryd.pinned (.plain (OpenSpec.ofChange rootFieldSpec)) rootFieldCard

/-- THE TIED CARD OF 'cubitlaw05.RootOrder'. -/
def rootOrderCard : Claim7 := { stood := { row := rootOrderRow, standIns := [], harness := (true, "77608490ccbbc25fa592a584ef2fa1dd227ba8cae450dc5bc3acd644ac0f4700"), looks := true }, kinds := [], alts := [], laidByText := true, laidKinds := [.data, .data, .data], laidTests := true, laidLooks := .later }
def RootOrderCardSaid : Prop := Claim7.holds Tryd.pinned (.plain (OpenSpec.ofChange rootOrderSpec)) rootOrderCard

/-- THE SECOND FORM's CARD OF 'cubitlaw05.RootMakes'. -/
def rootMakesUptoCard : Claim7 := { stood := { row := rootMakesUptoRow, standIns := [], harness := (true, "77608490ccbbc25fa592a584ef2fa1dd227ba8cae450dc5bc3acd644ac0f4700"), looks := true }, kinds := [], alts := [], laidByText := true, laidKinds := [.data, .data, .data], laidTests := true, laidLooks := .later }
def RootMakesUptoCardSaid : Prop := Claim7.holds Tryd.pinned (.plain (OpenSpec.upto rootMakesSpec)) rootMakesUptoCard

/-- THE SECOND FORM's CARD OF 'cubitlaw05.RootReckons'. -/
def rootReckonsUptoCard : Claim7 := { stood := { row := rootReckonsUptoRow, standIns := [], harness := (true, "77608490ccbbc25fa592a584ef2fa1dd227ba8cae450dc5bc3acd644ac0f4700"), looks := true }, kinds := [], alts := [], laidByText := true, laidKinds := [.data, .data, .data], laidTests := true, laidLooks := .later }
def RootReckonsUptoCardSaid : Prop := Claim7.holds Tryd.pinned (.plain (OpenSpec.upto rootReckonsSpec)) rootReckonsUptoCard

/-- THE SECOND FORM's CARD OF 'cubitlaw05.RootCompares'. -/
def rootComparesUptoCard : Claim7 := { stood := { row := rootComparesUptoRow, standIns := [], harness := (true, "77608490ccbbc25fa592a584ef2fa1dd227ba8cae450dc5bc3acd644ac0f4700"), looks := true }, kinds := [], alts := [], laidByText := true, laidKinds := [.data, .data, .data], laidTests := true, laidLooks := .later }
def RootComparesUptoCardSaid : Prop := Claim7.holds Tryd.pinned (.plain (OpenSpec.upto rootComparesSpec)) rootComparesUptoCard

/-- THE SECOND FORM's CARD OF 'cubitlaw05.RootTexts'. -/
def rootTextsUptoCard : Claim7 := { stood := { row := rootTextsUptoRow, standIns := [], harness := (true, "77608490ccbbc25fa592a584ef2fa1dd227ba8cae450dc5bc3acd644ac0f4700"), looks := true }, kinds := [], alts := [], laidByText := true, laidKinds := [.data, .data, .data, .data, .sentinel, .sentinel, .pinned], laidTests := true, laidLooks := .later }
def RootTextsUptoCardSaid : Prop := Claim7.holds Tryd.pinned (.plain (OpenSpec.upto rootTextsSpec)) rootTextsUptoCard

/-- THE SECOND FORM's CARD OF 'cubitlaw05.RootField'. -/
def rootFieldUptoCard : Claim7 := { stood := { row := rootFieldUptoRow, standIns := [], harness := (true, "77608490ccbbc25fa592a584ef2fa1dd227ba8cae450dc5bc3acd644ac0f4700"), looks := true }, kinds := [], alts := [], laidByText := true, laidKinds := [.data, .data, .data], laidTests := true, laidLooks := .later }
def RootFieldUptoCardSaid : Prop := Claim7.holds Tryd.pinned (.plain (OpenSpec.upto rootFieldSpec)) rootFieldUptoCard

/-- THE SECOND FORM's CARD OF 'cubitlaw05.RootOrder'. -/
def rootOrderUptoCard : Claim7 := { stood := { row := rootOrderUptoRow, standIns := [], harness := (true, "77608490ccbbc25fa592a584ef2fa1dd227ba8cae450dc5bc3acd644ac0f4700"), looks := true }, kinds := [], alts := [], laidByText := true, laidKinds := [.data, .data, .data], laidTests := true, laidLooks := .later }
def RootOrderUptoCardSaid : Prop := Claim7.holds Tryd.pinned (.plain (OpenSpec.upto rootOrderSpec)) rootOrderUptoCard
end Rows
end Go.Proofs.YtalaacfoaelipaaDoor
