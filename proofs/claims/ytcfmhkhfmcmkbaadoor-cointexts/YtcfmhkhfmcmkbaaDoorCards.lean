/-
  DERIVED. GIVEN WITH THE SEED: THE CARDS: each row of YtcfmhkhfmcmkbaaDoorRows.lean that lists a variable, with what it lists TIED to the program's text (the seventh form; the later family's looks); each row that meets fmt, with fmt's text TOLD by the authors' own Lean function (tested against real Go, not proved from fmt's source: count such statements apart). THE CARD IS WHAT COUNTS. Prove the row's statement (the work); the ties are given (YtcfmhkhfmcmkbaaDoorTie.lean); close each card by the builder's one call (the guide's Derived/Test/ToyasCard.lean, 'card_holds'). Laid BY PROGRAM, IN A SANDBOX (cutbox-door.mjs). By AI agents, Wed Nov 11 2026. No macro, syntax, notation, axiom, sorry.
-/
import Derived.Test.YtcfmhkhfmcmkbaaDoorRows
import GoSem.ClaimSeven
namespace Go.Proofs.YtcfmhkhfmcmkbaaDoor
namespace Rows

/-- THE TIED CARD OF 'cubitlaw16.CoinTosses'. -/
def coinTossesCard : Claim7 := { stood := { row := coinTossesRow, standIns := [], harness := (true, "d5ba81b96f500894e34cd511d92b5173016d144a57f404fc4dd77830aa5a5f97"), looks := true }, kinds := [], alts := [], laidByText := true, laidKinds := [.data], laidTests := true, laidLooks := .later }
def CoinTossesCardSaid : Prop := Claim7.holds Tryd.pinned (.plain (OpenSpec.ofChange coinTossesSpec)) coinTossesCard

/-- THE TIED CARD OF 'cubitlaw16.CoinShows'. -/
def coinShowsCard : Claim7 := { stood := { row := coinShowsRow, standIns := [], harness := (true, "d5ba81b96f500894e34cd511d92b5173016d144a57f404fc4dd77830aa5a5f97"), looks := true }, kinds := [], alts := [], laidByText := true, laidKinds := [.data], laidTests := true, laidLooks := .later }
def CoinShowsCardSaid : Prop := Claim7.holds Tryd.pinned (.plain (OpenSpec.ofChange coinShowsSpec)) coinShowsCard

/-- THE TIED CARD OF 'cubitlaw16.CoinTexts'. -/
def coinTextsCard : Claim7 := { stood := { row := coinTextsRow, standIns := [], harness := (true, "d5ba81b96f500894e34cd511d92b5173016d144a57f404fc4dd77830aa5a5f97"), looks := true }, kinds := [], alts := [], laidByText := true, laidKinds := [.data, .data, .data, .sentinel, .sentinel], laidTests := true, laidLooks := .later }
def CoinTextsCardSaid : Prop := Claim7.holds Tryd.pinned (.plain (OpenSpec.ofChange coinTextsSpec)) coinTextsCard

/-- THE TIED CARD OF 'cubitlaw16.CoinLowest'. -/
def coinLowestCard : Claim7 := { stood := { row := coinLowestRow, standIns := [], harness := (true, "d5ba81b96f500894e34cd511d92b5173016d144a57f404fc4dd77830aa5a5f97"), looks := true }, kinds := [], alts := [], laidByText := true, laidKinds := [.data], laidTests := true, laidLooks := .later }
def CoinLowestCardSaid : Prop := Claim7.holds Tryd.pinned (.plain (OpenSpec.ofChange coinLowestSpec)) coinLowestCard

/-- THE SECOND FORM's CARD OF 'cubitlaw16.CoinTosses'. -/
def coinTossesUptoCard : Claim7 := { stood := { row := coinTossesUptoRow, standIns := [], harness := (true, "d5ba81b96f500894e34cd511d92b5173016d144a57f404fc4dd77830aa5a5f97"), looks := true }, kinds := [], alts := [], laidByText := true, laidKinds := [.data], laidTests := true, laidLooks := .later }
def CoinTossesUptoCardSaid : Prop := Claim7.holds Tryd.pinned (.plain (OpenSpec.upto coinTossesSpec)) coinTossesUptoCard

/-- THE SECOND FORM's CARD OF 'cubitlaw16.CoinShows'. -/
def coinShowsUptoCard : Claim7 := { stood := { row := coinShowsUptoRow, standIns := [], harness := (true, "d5ba81b96f500894e34cd511d92b5173016d144a57f404fc4dd77830aa5a5f97"), looks := true }, kinds := [], alts := [], laidByText := true, laidKinds := [.data], laidTests := true, laidLooks := .later }
def CoinShowsUptoCardSaid : Prop := Claim7.holds Tryd.pinned (.plain (OpenSpec.upto coinShowsSpec)) coinShowsUptoCard

/-- THE SECOND FORM's CARD OF 'cubitlaw16.CoinTexts'. -/
def coinTextsUptoCard : Claim7 := { stood := { row := coinTextsUptoRow, standIns := [], harness := (true, "d5ba81b96f500894e34cd511d92b5173016d144a57f404fc4dd77830aa5a5f97"), looks := true }, kinds := [], alts := [], laidByText := true, laidKinds := [.data, .data, .data, .sentinel, .sentinel], laidTests := true, laidLooks := .later }
def CoinTextsUptoCardSaid : Prop := Claim7.holds Tryd.pinned (.plain (OpenSpec.upto coinTextsSpec)) coinTextsUptoCard

/-- THE SECOND FORM's CARD OF 'cubitlaw16.CoinLowest'. -/
def coinLowestUptoCard : Claim7 := { stood := { row := coinLowestUptoRow, standIns := [], harness := (true, "d5ba81b96f500894e34cd511d92b5173016d144a57f404fc4dd77830aa5a5f97"), looks := true }, kinds := [], alts := [], laidByText := true, laidKinds := [.data], laidTests := true, laidLooks := .later }
def CoinLowestUptoCardSaid : Prop := Claim7.holds Tryd.pinned (.plain (OpenSpec.upto coinLowestSpec)) coinLowestUptoCard
end Rows
end Go.Proofs.YtcfmhkhfmcmkbaaDoor
