/-
  DERIVED. GIVEN WITH THE SEED: THE CARDS: each row of YtdjfpghgklkejaaGreatDoorRows.lean that lists a variable, with what it lists TIED to the program's text (the seventh form; the later family's looks); each row that meets fmt, with fmt's text TOLD by the authors' own Lean function (tested against real Go, not proved from fmt's source: count such statements apart). THE CARD IS WHAT COUNTS. Prove the row's statement (the work); the ties are given (YtdjfpghgklkejaaGreatDoorTie.lean); close each card by the builder's one call (the guide's Derived/Test/ToyasCard.lean, 'card_holds'). Laid BY PROGRAM, IN A SANDBOX (cutbox-door.mjs). By AI agents, Wed Nov 11 2026. No macro, syntax, notation, axiom, sorry.
-/
import Derived.Test.YtdjfpghgklkejaaGreatDoorRows
import GoSem.ClaimSeven
namespace Go.Proofs.YtdjfpghgklkejaaGreatDoor
namespace Rows

/-- THE TIED CARD OF 'cubitlaw12.FlatRows'. -/
def flatRowsCard : Claim7 := { stood := { row := flatRowsRow, standIns := [], harness := (true, "8d91e53267eb5bfb544638c8e049a370566031fe19ed6a7909a2bca264538808"), looks := true }, kinds := [], alts := [], laidByText := true, laidKinds := [.data, .data, .data, .sentinel, .sentinel], laidTests := true, laidLooks := .later }
def FlatRowsCardSaid : Prop := Claim7.holds Tryz.pinned (.plain (OpenSpec.ofChange flatRowsSpec)) flatRowsCard

/-- THE TIED CARD OF 'cubitlaw12.FlatReads'. -/
def flatReadsCard : Claim7 := { stood := { row := flatReadsRow, standIns := [], harness := (true, "8d91e53267eb5bfb544638c8e049a370566031fe19ed6a7909a2bca264538808"), looks := true }, kinds := [], alts := [], laidByText := true, laidKinds := [.data, .data, .data, .sentinel, .sentinel], laidTests := true, laidLooks := .later }
def FlatReadsCardSaid : Prop := Claim7.holds Tryz.pinned (.plain (OpenSpec.ofChange flatReadsSpec)) flatReadsCard

/-- THE TIED CARD OF 'cubitlaw12.FlatShows'. -/
def flatShowsCard : Claim7 := { stood := { row := flatShowsRow, standIns := [], harness := (true, "8d91e53267eb5bfb544638c8e049a370566031fe19ed6a7909a2bca264538808"), looks := true }, kinds := [], alts := [], laidByText := true, laidKinds := [.data, .data, .data, .sentinel, .sentinel], laidTests := true, laidLooks := .later }
def FlatShowsCardSaid : Prop := Claim7.holds Tryz.pinned (.plain (OpenSpec.ofChange flatShowsSpec)) flatShowsCard

/-- THE TIED CARD OF 'cubitlaw12.FlatBack'. -/
def flatBackCard : Claim7 := { stood := { row := flatBackRow, standIns := [], harness := (true, "8d91e53267eb5bfb544638c8e049a370566031fe19ed6a7909a2bca264538808"), looks := true }, kinds := [], alts := [], laidByText := true, laidKinds := [.data, .data, .data, .sentinel, .sentinel], laidTests := true, laidLooks := .later }
def FlatBackCardSaid : Prop := Claim7.holds Tryz.pinned (.plain (OpenSpec.ofChange flatBackSpec)) flatBackCard

/-- THE TIED CARD OF 'cubitlaw12.FlatChecked'. -/
def flatCheckedCard : Claim7 := { stood := { row := flatCheckedRow, standIns := [], harness := (true, "8d91e53267eb5bfb544638c8e049a370566031fe19ed6a7909a2bca264538808"), looks := true }, kinds := [], alts := [], laidByText := true, laidKinds := [.data, .data, .data, .sentinel, .sentinel], laidTests := true, laidLooks := .later }
def FlatCheckedCardSaid : Prop := Claim7.holds Tryz.pinned (.plain (OpenSpec.ofChange flatCheckedSpec)) flatCheckedCard

/-- THE TIED CARD OF 'cubitlaw12.FlatUnrolls'. -/
def flatUnrollsCard : Claim7 := { stood := { row := flatUnrollsRow, standIns := [], harness := (true, "8d91e53267eb5bfb544638c8e049a370566031fe19ed6a7909a2bca264538808"), looks := true }, kinds := [], alts := [], laidByText := true, laidKinds := [.data, .data, .data, .sentinel, .sentinel], laidTests := true, laidLooks := .later }
def FlatUnrollsCardSaid : Prop := Claim7.holds Tryz.pinned (.plain (OpenSpec.ofChange flatUnrollsSpec)) flatUnrollsCard

/-- THE SECOND FORM's CARD OF 'cubitlaw12.FlatRows'. -/
def flatRowsUptoCard : Claim7 := { stood := { row := flatRowsUptoRow, standIns := [], harness := (true, "8d91e53267eb5bfb544638c8e049a370566031fe19ed6a7909a2bca264538808"), looks := true }, kinds := [], alts := [], laidByText := true, laidKinds := [.data, .data, .data, .sentinel, .sentinel], laidTests := true, laidLooks := .later }
def FlatRowsUptoCardSaid : Prop := Claim7.holds Tryz.pinned (.plain (OpenSpec.upto flatRowsSpec)) flatRowsUptoCard

/-- THE SECOND FORM's CARD OF 'cubitlaw12.FlatReads'. -/
def flatReadsUptoCard : Claim7 := { stood := { row := flatReadsUptoRow, standIns := [], harness := (true, "8d91e53267eb5bfb544638c8e049a370566031fe19ed6a7909a2bca264538808"), looks := true }, kinds := [], alts := [], laidByText := true, laidKinds := [.data, .data, .data, .sentinel, .sentinel], laidTests := true, laidLooks := .later }
def FlatReadsUptoCardSaid : Prop := Claim7.holds Tryz.pinned (.plain (OpenSpec.upto flatReadsSpec)) flatReadsUptoCard

/-- THE SECOND FORM's CARD OF 'cubitlaw12.FlatShows'. -/
def flatShowsUptoCard : Claim7 := { stood := { row := flatShowsUptoRow, standIns := [], harness := (true, "8d91e53267eb5bfb544638c8e049a370566031fe19ed6a7909a2bca264538808"), looks := true }, kinds := [], alts := [], laidByText := true, laidKinds := [.data, .data, .data, .sentinel, .sentinel], laidTests := true, laidLooks := .later }
def FlatShowsUptoCardSaid : Prop := Claim7.holds Tryz.pinned (.plain (OpenSpec.upto flatShowsSpec)) flatShowsUptoCard

/-- THE SECOND FORM's CARD OF 'cubitlaw12.FlatBack'. -/
def flatBackUptoCard : Claim7 := { stood := { row := flatBackUptoRow, standIns := [], harness := (true, "8d91e53267eb5bfb544638c8e049a370566031fe19ed6a7909a2bca264538808"), looks := true }, kinds := [], alts := [], laidByText := true, laidKinds := [.data, .data, .data, .sentinel, .sentinel], laidTests := true, laidLooks := .later }
def FlatBackUptoCardSaid : Prop := Claim7.holds Tryz.pinned (.plain (OpenSpec.upto flatBackSpec)) flatBackUptoCard

/-- THE SECOND FORM's CARD OF 'cubitlaw12.FlatChecked'. -/
def flatCheckedUptoCard : Claim7 := { stood := { row := flatCheckedUptoRow, standIns := [], harness := (true, "8d91e53267eb5bfb544638c8e049a370566031fe19ed6a7909a2bca264538808"), looks := true }, kinds := [], alts := [], laidByText := true, laidKinds := [.data, .data, .data, .sentinel, .sentinel], laidTests := true, laidLooks := .later }
def FlatCheckedUptoCardSaid : Prop := Claim7.holds Tryz.pinned (.plain (OpenSpec.upto flatCheckedSpec)) flatCheckedUptoCard

/-- THE SECOND FORM's CARD OF 'cubitlaw12.FlatUnrolls'. -/
def flatUnrollsUptoCard : Claim7 := { stood := { row := flatUnrollsUptoRow, standIns := [], harness := (true, "8d91e53267eb5bfb544638c8e049a370566031fe19ed6a7909a2bca264538808"), looks := true }, kinds := [], alts := [], laidByText := true, laidKinds := [.data, .data, .data, .sentinel, .sentinel], laidTests := true, laidLooks := .later }
def FlatUnrollsUptoCardSaid : Prop := Claim7.holds Tryz.pinned (.plain (OpenSpec.upto flatUnrollsSpec)) flatUnrollsUptoCard
end Rows
end Go.Proofs.YtdjfpghgklkejaaGreatDoor
