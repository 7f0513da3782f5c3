/-
  DERIVED. GIVEN WITH THE SEED: THE CARDS: each row of YtbkmgoffiigdbaaDoorRows.lean that lists a variable, with what it lists TIED to the program's text (the seventh form; the later family's looks); each row that meets fmt, with fmt's text TOLD by the authors' own Lean function (tested against real Go, not proved from fmt's source: count such statements apart). THE CARD IS WHAT COUNTS. Prove the row's statement (the work); the ties are given (YtbkmgoffiigdbaaDoorTie.lean); close each card by the builder's one call (the guide's Derived/Test/ToyasCard.lean, 'card_holds'). Laid BY PROGRAM, IN A SANDBOX (cutbox-door.mjs). By AI agents, Wed Nov 11 2026. No macro, syntax, notation, axiom, sorry.
-/
import Derived.Test.YtbkmgoffiigdbaaDoorRows
import GoSem.ClaimSeven
namespace Go.Proofs.YtbkmgoffiigdbaaDoor
namespace Rows

/-- THE TIED CARD OF 'slumberlaw.Checks'. -/
def checksCard : Claim7 := { stood := { row := checksRow, standIns := [], harness := (true, "bcea5cc7d2a5090a94ee53949ff9f4b914e26d67b7ab1d3af17b2bffbe207d22"), looks := false }, kinds := [], alts := [], laidByText := true, laidKinds := [.funcs], laidTests := true, laidLooks := .later }
def ChecksCardSaid : Prop := Claim7.holds Tryd.pinned (.plain (OpenSpec.ofChange checksSpec)) checksCard

/-- THE TIED CARD OF 'slumberkeep.Made'. -/
def madeCard : Claim7 := { stood := { row := madeRow, standIns := [], harness := (true, "bcea5cc7d2a5090a94ee53949ff9f4b914e26d67b7ab1d3af17b2bffbe207d22"), looks := false }, kinds := [], alts := [], laidByText := true, laidKinds := [.funcs], laidTests := true, laidLooks := .later }
def MadeCardSaid : Prop := Claim7.holds Tryd.pinned (.plain (OpenSpec.ofChange madeSpec)) madeCard

/-- THE TIED CARD OF 'slumberkeep.Paused'. -/
def pausedCard : Claim7 := { stood := { row := pausedRow, standIns := [], harness := (true, "bcea5cc7d2a5090a94ee53949ff9f4b914e26d67b7ab1d3af17b2bffbe207d22"), looks := false }, kinds := [], alts := [], laidByText := true, laidKinds := [.funcs], laidTests := true, laidLooks := .later }
def PausedCardSaid : Prop := Claim7.holds Tryd.pinned (.plain (OpenSpec.ofChange pausedSpec)) pausedCard

/-- THE TIED CARD OF 'slumberkeep.Reckons'. -/
def reckonsCard : Claim7 := { stood := { row := reckonsRow, standIns := [], harness := (true, "bcea5cc7d2a5090a94ee53949ff9f4b914e26d67b7ab1d3af17b2bffbe207d22"), looks := false }, kinds := [], alts := [], laidByText := true, laidKinds := [.funcs], laidTests := true, laidLooks := .later }
def ReckonsCardSaid : Prop := Claim7.holds Tryd.pinned (.plain (OpenSpec.ofChange reckonsSpec)) reckonsCard

/-- THE TIED CARD OF 'slumberkeep.Lists'. -/
def listsCard : Claim7 := { stood := { row := listsRow, standIns := [], harness := (true, "bcea5cc7d2a5090a94ee53949ff9f4b914e26d67b7ab1d3af17b2bffbe207d22"), looks := false }, kinds := [], alts := [], laidByText := true, laidKinds := [.funcs], laidTests := true, laidLooks := .later }
def ListsCardSaid : Prop := Claim7.holds Tryd.pinned (.plain (OpenSpec.ofChange listsSpec)) listsCard

/-- THE TIED CARD OF 'slumberkeep.Unseen'. -/
def unseenCard : Claim7 := { stood := { row := unseenRow, standIns := [], harness := (true, "bcea5cc7d2a5090a94ee53949ff9f4b914e26d67b7ab1d3af17b2bffbe207d22"), looks := false }, kinds := [], alts := [], laidByText := true, laidKinds := [.funcs], laidTests := true, laidLooks := .later }
def UnseenCardSaid : Prop := Claim7.holds Tryd.pinned (.plain (OpenSpec.ofChange unseenSpec)) unseenCard

/-- THE TIED CARD OF 'slumberkeep.Holds'. -/
def holdsCard : Claim7 := { stood := { row := holdsRow, standIns := [], harness := (true, "bcea5cc7d2a5090a94ee53949ff9f4b914e26d67b7ab1d3af17b2bffbe207d22"), looks := false }, kinds := [], alts := [], laidByText := true, laidKinds := [.funcs], laidTests := true, laidLooks := .later }
def HoldsCardSaid : Prop := Claim7.holds Tryd.pinned (.plain (OpenSpec.ofChange holdsSpec)) holdsCard

/-- THE SECOND FORM's CARD OF 'slumberlaw.Checks'. -/
def checksUptoCard : Claim7 := { stood := { row := checksUptoRow, standIns := [], harness := (true, "bcea5cc7d2a5090a94ee53949ff9f4b914e26d67b7ab1d3af17b2bffbe207d22"), looks := false }, kinds := [], alts := [], laidByText := true, laidKinds := [.funcs], laidTests := true, laidLooks := .later }
def ChecksUptoCardSaid : Prop := Claim7.holds Tryd.pinned (.plain (OpenSpec.upto checksSpec)) checksUptoCard

/-- THE SECOND FORM's CARD OF 'slumberkeep.Made'. -/
def madeUptoCard : Claim7 := { stood := { row := madeUptoRow, standIns := [], harness := (true, "bcea5cc7d2a5090a94ee53949ff9f4b914e26d67b7ab1d3af17b2bffbe207d22"), looks := false }, kinds := [], alts := [], laidByText := true, laidKinds := [.funcs], laidTests := true, laidLooks := .later }
def MadeUptoCardSaid : Prop := Claim7.holds Tryd.pinned (.plain (OpenSpec.upto madeSpec)) madeUptoCard

/-- THE SECOND FORM's CARD OF 'slumberkeep.Paused'. -/
def pausedUptoCard : Claim7 := { stood := { row := pausedUptoRow, standIns := [], harness := (true, "bcea5cc7d2a5090a94ee53949ff9f4b914e26d67b7ab1d3af17b2bffbe207d22"), looks := false }, kinds := [], alts := [], laidByText := true, laidKinds := [.funcs], laidTests := true, laidLooks := .later }
def PausedUptoCardSaid : Prop := Claim7.holds Tryd.pinned (.plain (OpenSpec.upto pausedSpec)) pausedUptoCard

/-- THE SECOND FORM's CARD OF 'slumberkeep.Reckons'. -/
def reckonsUptoCard : Claim7 := { stood := { row := reckonsUptoRow, standIns := [], harness := (true, "bcea5cc7d2a5090a94ee53949ff9f4b914e26d67b7ab1d3af17b2bffbe207d22"), looks := false }, kinds := [], alts := [], laidByText := true, laidKinds := [.funcs], laidTests := true, laidLooks := .later }
def ReckonsUptoCardSaid : Prop := Claim7.holds Tryd.pinned (.plain (OpenSpec.upto reckonsSpec)) reckonsUptoCard

/-- THE SECOND FORM's CARD OF 'slumberkeep.Lists'. -/
def listsUptoCard : Claim7 := { stood := { row := listsUptoRow, standIns := [], harness := (true, "bcea5cc7d2a5090a94ee53949ff9f4b914e26d67b7ab1d3af17b2bffbe207d22"), looks := false }, kinds := [], alts := [], laidByText := true, laidKinds := [.funcs], laidTests := true, laidLooks := .later }
def ListsUptoCardSaid : Prop := Claim7.holds Tryd.pinned (.plain (OpenSpec.upto listsSpec)) listsUptoCard

/-- THE SECOND FORM's CARD OF 'slumberkeep.Unseen'. -/
def unseenUptoCard : Claim7 := { stood := { row := unseenUptoRow, standIns := [], harness := (true, "bcea5cc7d2a5090a94ee53949ff9f4b914e26d67b7ab1d3af17b2bffbe207d22"), looks := false }, kinds := [], alts := [], laidByText := true, laidKinds := [.funcs], laidTests := true, laidLooks := .later }
def UnseenUptoCardSaid : Prop := Claim7.holds Tryd.pinned (.plain (OpenSpec.upto unseenSpec)) unseenUptoCard

/-- THE SECOND FORM's CARD OF 'slumberkeep.Holds'. -/
def holdsUptoCard : Claim7 := { stood := { row := holdsUptoRow, standIns := [], harness := (true, "bcea5cc7d2a5090a94ee53949ff9f4b914e26d67b7ab1d3af17b2bffbe207d22"), looks := false }, kinds := [], alts := [], laidByText := true, laidKinds := [.funcs], laidTests := true, laidLooks := .later }
def HoldsUptoCardSaid : Prop := Claim7.holds Tryd.pinned (.plain (OpenSpec.upto holdsSpec)) holdsUptoCard
end Rows
end Go.Proofs.YtbkmgoffiigdbaaDoor
