/-
  DERIVED. GIVEN WITH THE SEED: THE CARDS: each row of YtbkmgoffiigdbaaGreatDoorRows.lean that lists a variable, with what it lists TIED to the program's text (the seventh form; the later family's looks); each row that meets fmt, with fmt's text TOLD by the authors' own Lean function (tested against real Go, not proved from fmt's source: count such statements apart). THE CARD IS WHAT COUNTS. Prove the row's statement (the work); the ties are given (YtbkmgoffiigdbaaGreatDoorTie.lean); close each card by the builder's one call (the guide's Derived/Test/ToyasCard.lean, 'card_holds'). Laid BY PROGRAM, IN A SANDBOX (cutbox-door.mjs). By AI agents, Wed Nov 11 2026. No macro, syntax, notation, axiom, sorry.
-/
import Derived.Test.YtbkmgoffiigdbaaGreatDoorRows
import GoSem.ClaimSeven
namespace Go.Proofs.YtbkmgoffiigdbaaGreatDoor
namespace Rows

/-- THE TIED CARD OF 'slumberlaw.Runs'. -/
def runsCard : Claim7 := { stood := { row := runsRow, standIns := [], harness := (true, "743d0bbf106e50e207ea4a9d5b9433cd9a21a96e9fc67848403a31c146582620"), looks := false }, kinds := [], alts := [], laidByText := true, laidKinds := [.funcs], laidTests := true, laidLooks := .later }
def RunsCardSaid : Prop := Claim7.holds Tryz.pinned (.plain (OpenSpec.ofChange runsSpec)) runsCard

/-- THE TIED CARD OF 'slumberlaw.Heaps'. -/
def heapsCard : Claim7 := { stood := { row := heapsRow, standIns := [], harness := (true, "743d0bbf106e50e207ea4a9d5b9433cd9a21a96e9fc67848403a31c146582620"), looks := false }, kinds := [], alts := [], laidByText := true, laidKinds := [.funcs], laidTests := true, laidLooks := .later }
def HeapsCardSaid : Prop := Claim7.holds Tryz.pinned (.plain (OpenSpec.ofChange heapsSpec)) heapsCard

/-- THE TIED CARD OF 'slumberlaw.Saves'. -/
def savesCard : Claim7 := { stood := { row := savesRow, standIns := [], harness := (true, "743d0bbf106e50e207ea4a9d5b9433cd9a21a96e9fc67848403a31c146582620"), looks := false }, kinds := [], alts := [], laidByText := true, laidKinds := [.funcs], laidTests := true, laidLooks := .later }
def SavesCardSaid : Prop := Claim7.holds Tryz.pinned (.plain (OpenSpec.ofChange savesSpec)) savesCard

/-- THE TIED CARD OF 'slumberlaw.Wakes'. -/
def wakesCard : Claim7 := { stood := { row := wakesRow, standIns := [], harness := (true, "743d0bbf106e50e207ea4a9d5b9433cd9a21a96e9fc67848403a31c146582620"), looks := false }, kinds := [], alts := [], laidByText := true, laidKinds := [.funcs], laidTests := true, laidLooks := .later }
def WakesCardSaid : Prop := Claim7.holds Tryz.pinned (.plain (OpenSpec.ofChange wakesSpec)) wakesCard

/-- THE TIED CARD OF 'slumberlaw.All'. -/
def allCard : Claim7 := { stood := { row := allRow, standIns := [], harness := (true, "743d0bbf106e50e207ea4a9d5b9433cd9a21a96e9fc67848403a31c146582620"), looks := false }, kinds := [], alts := [], laidByText := true, laidKinds := [.funcs], laidTests := true, laidLooks := .later }
def AllCardSaid : Prop := Claim7.holds Tryz.pinned (.plain (OpenSpec.ofChange allSpec)) allCard

/-- THE SECOND FORM's CARD OF 'slumberlaw.Runs'. -/
def runsUptoCard : Claim7 := { stood := { row := runsUptoRow, standIns := [], harness := (true, "743d0bbf106e50e207ea4a9d5b9433cd9a21a96e9fc67848403a31c146582620"), looks := false }, kinds := [], alts := [], laidByText := true, laidKinds := [.funcs], laidTests := true, laidLooks := .later }
def RunsUptoCardSaid : Prop := Claim7.holds Tryz.pinned (.plain (OpenSpec.upto runsSpec)) runsUptoCard

/-- THE SECOND FORM's CARD OF 'slumberlaw.Heaps'. -/
def heapsUptoCard : Claim7 := { stood := { row := heapsUptoRow, standIns := [], harness := (true, "743d0bbf106e50e207ea4a9d5b9433cd9a21a96e9fc67848403a31c146582620"), looks := false }, kinds := [], alts := [], laidByText := true, laidKinds := [.funcs], laidTests := true, laidLooks := .later }
def HeapsUptoCardSaid : Prop := Claim7.holds Tryz.pinned (.plain (OpenSpec.upto heapsSpec)) heapsUptoCard

/-- THE SECOND FORM's CARD OF 'slumberlaw.Saves'. -/
def savesUptoCard : Claim7 := { stood := { row := savesUptoRow, standIns := [], harness := (true, "743d0bbf106e50e207ea4a9d5b9433cd9a21a96e9fc67848403a31c146582620"), looks := false }, kinds := [], alts := [], laidByText := true, laidKinds := [.funcs], laidTests := true, laidLooks := .later }
def SavesUptoCardSaid : Prop := Claim7.holds Tryz.pinned (.plain (OpenSpec.upto savesSpec)) savesUptoCard

/-- THE SECOND FORM's CARD OF 'slumberlaw.Wakes'. -/
def wakesUptoCard : Claim7 := { stood := { row := wakesUptoRow, standIns := [], harness := (true, "743d0bbf106e50e207ea4a9d5b9433cd9a21a96e9fc67848403a31c146582620"), looks := false }, kinds := [], alts := [], laidByText := true, laidKinds := [.funcs], laidTests := true, laidLooks := .later }
def WakesUptoCardSaid : Prop := Claim7.holds Tryz.pinned (.plain (OpenSpec.upto wakesSpec)) wakesUptoCard

/-- THE SECOND FORM's CARD OF 'slumberlaw.All'. -/
def allUptoCard : Claim7 := { stood := { row := allUptoRow, standIns := [], harness := (true, "743d0bbf106e50e207ea4a9d5b9433cd9a21a96e9fc67848403a31c146582620"), looks := false }, kinds := [], alts := [], laidByText := true, laidKinds := [.funcs], laidTests := true, laidLooks := .later }
def AllUptoCardSaid : Prop := Claim7.holds Tryz.pinned (.plain (OpenSpec.upto allSpec)) allUptoCard
end Rows
end Go.Proofs.YtbkmgoffiigdbaaGreatDoor
