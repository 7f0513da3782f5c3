/-
  DERIVED. GIVEN WITH THE SEED: THE CARDS: each row of YtcdlfgmhehkcmaaDoorRows.lean that lists a variable, with what it lists TIED to the program's text (the seventh form; the later family's looks); each row that meets fmt, with fmt's text TOLD by the authors' own Lean function (tested against real Go, not proved from fmt's source: count such statements apart). THE CARD IS WHAT COUNTS. Prove the row's statement (the work); the ties are given (YtcdlfgmhehkcmaaDoorTie.lean); close each card by the builder's one call (the guide's Derived/Test/ToyasCard.lean, 'card_holds'). Laid BY PROGRAM, IN A SANDBOX (cutbox-door.mjs). By AI agents, Wed Nov 11 2026. No macro, syntax, notation, axiom, sorry.
-/
import Derived.Test.YtcdlfgmhehkcmaaDoorRows
import GoSem.ClaimSeven
namespace Go.Proofs.YtcdlfgmhehkcmaaDoor
namespace Rows

/-- THE TIED CARD OF 'slumberlaw.Checks'. -/
def checksCard : Claim7 := { stood := { row := checksRow, standIns := [], harness := (true, "7657593b6ffe0c5b8508fbde91b74725655d0b0054dbbfc4ee01ce9eb77438bf"), looks := false }, kinds := [], alts := [], laidByText := true, laidKinds := [.funcs], laidTests := true, laidLooks := .later }
def ChecksCardSaid : Prop := Claim7.holds Tryd.pinned (.plain (OpenSpec.ofChange checksSpec)) checksCard

/-- THE TIED CARD OF 'slumberkeep.Made'. -/
def madeCard : Claim7 := { stood := { row := madeRow, standIns := [], harness := (true, "7657593b6ffe0c5b8508fbde91b74725655d0b0054dbbfc4ee01ce9eb77438bf"), looks := false }, kinds := [], alts := [], laidByText := true, laidKinds := [.funcs], laidTests := true, laidLooks := .later }
def MadeCardSaid : Prop := Claim7.holds Tryd.pinned (.plain (OpenSpec.ofChange madeSpec)) madeCard

/-- THE SECOND FORM's CARD OF 'slumberlaw.Checks'. -/
def checksUptoCard : Claim7 := { stood := { row := checksUptoRow, standIns := [], harness := (true, "7657593b6ffe0c5b8508fbde91b74725655d0b0054dbbfc4ee01ce9eb77438bf"), looks := false }, kinds := [], alts := [], laidByText := true, laidKinds := [.funcs], laidTests := true, laidLooks := .later }
def ChecksUptoCardSaid : Prop := Claim7.holds Tryd.pinned (.plain (OpenSpec.upto checksSpec)) checksUptoCard

/-- THE SECOND FORM's CARD OF 'slumberkeep.Made'. -/
def madeUptoCard : Claim7 := { stood := { row := madeUptoRow, standIns := [], harness := (true, "7657593b6ffe0c5b8508fbde91b74725655d0b0054dbbfc4ee01ce9eb77438bf"), looks := false }, kinds := [], alts := [], laidByText := true, laidKinds := [.funcs], laidTests := true, laidLooks := .later }
def MadeUptoCardSaid : Prop := Claim7.holds Tryd.pinned (.plain (OpenSpec.upto madeSpec)) madeUptoCard
end Rows
end Go.Proofs.YtcdlfgmhehkcmaaDoor
